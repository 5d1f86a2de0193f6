import PyProof.Rows.All
import Wide.All
import OpenK.AllK
import Wide.FinOn
import PySem.Challenge.RW_fieldrows_k03_expressions_refused
import Lean
set_option Elab.async false
set_option linter.all false
set_option maxRecDepth 100000
set_option maxHeartbeats 4100000
noncomputable abbrev Fg := PySem.W.Frag
namespace L2
open PySem PySem.Spec PyProof.Rows
noncomputable abbrev Key := Sum Int Str
noncomputable def keyIs : Key → Value → Bool
  | .inl k, v => Value.isInt k v
  | .inr x, v => Value.isStrOf x v
noncomputable def keyH (w : World) : Key → Int
  | .inl k => hashInt k
  | .inr x => hashStr w x
theorem keyIs_shape : ∀ {k : Key} {v : Value}, keyIs k v = true → (∃ i t, k = Sum.inl i ∧ v = Value.int i t) ∨ (∃ x t, k = Sum.inr x ∧ v = Value.str x t)
  | .inl i, v, h => by
    obtain ⟨t, e⟩ := Value.isInt_shape (k := i) (v := v) h
    exact .inl ⟨i, t, rfl, e⟩
  | .inr x, v, h => by
    obtain ⟨t, e⟩ := Value.isStrOf_shape (x := x) (v := v) h
    exact .inr ⟨x, t, rfl, e⟩
theorem key_ll (a b : Int) : decide ((Sum.inl a : Key) = Sum.inl b) = (a == b) := by
  by_cases e : a = b
  · subst e; simp
  · have h : ¬ (Sum.inl a : Key) = Sum.inl b := fun q => e (Sum.inl.inj q)
    rw [decide_eq_false h]
    exact (beq_eq_false_iff_ne.mpr e).symm
theorem key_rr (a b : Str) : decide ((Sum.inr a : Key) = Sum.inr b) = decide (a = b) := by
  by_cases e : a = b
  · subst e; simp
  · have h : ¬ (Sum.inr a : Key) = Sum.inr b := fun q => e (Sum.inr.inj q)
    rw [decide_eq_false h, decide_eq_false e]
theorem key_lr (a : Int) (b : Str) : decide ((Sum.inl a : Key) = Sum.inr b) = false := decide_eq_false (fun q => nomatch q)
theorem key_rl (a : Str) (b : Int) : decide ((Sum.inr a : Key) = Sum.inl b) = false := decide_eq_false (fun q => nomatch q)
noncomputable def mixKind (prog : Program) (w : World) : PySem.KeyKind prog w Key where
  is := keyIs
  hash := keyH w
  inj := fun v a b ha hb => by
    rcases keyIs_shape ha with ⟨i, t, rfl, rfl⟩ | ⟨x, t, rfl, rfl⟩
    · rcases keyIs_shape hb with ⟨j, u, rfl, e⟩ | ⟨y, u, rfl, e⟩
      · injection e with e1 _; rw [e1]
      · exact nomatch e
    · rcases keyIs_shape hb with ⟨j, u, rfl, e⟩ | ⟨y, u, rfl, e⟩
      · exact nomatch e
      · injection e with e1 _; rw [e1]
  byValue := fun k v h => by
    rcases keyIs_shape h with ⟨i, t, rfl, rfl⟩ | ⟨x, t, rfl, rfl⟩ <;> rfl
  pyHash := fun hv h => by
    rcases keyIs_shape hv with ⟨i, t, rfl, rfl⟩ | ⟨x, t, rfl, rfl⟩
    · exact wpAny_pyHash_int h
    · exact wpAny_pyHash_str h
  eqBool := fun hu hv h => by
    rcases keyIs_shape hu with ⟨i, t, rfl, rfl⟩ | ⟨x, t, rfl, rfl⟩
    · rcases keyIs_shape hv with ⟨j, u, rfl, rfl⟩ | ⟨y, u, rfl, rfl⟩
      · rw [key_ll] at h; exact wpAny_eqBool_int h
      · rw [key_lr] at h; exact SeqAt.EqAt.int_str i t y u _ _ _ _ h
    · rcases keyIs_shape hv with ⟨j, u, rfl, rfl⟩ | ⟨y, u, rfl, rfl⟩
      · rw [key_rl] at h; exact SeqAt.EqAt.str_int x t j u _ _ _ _ h
      · rw [key_rr] at h; exact wpAny_eqBool_str h
  «strs» := fun k x t v h => by
    rcases keyIs_shape h with ⟨i, u, rfl, e⟩ | ⟨y, u, rfl, e⟩
    · exact nomatch e
    · injection e with e1 _
      subst e1
      cases v <;> rfl
end L2
namespace L2
open PySem PySem.Spec PyProof.Rows
inductive V where
  | non | bl (b : Bool) | int (i : Int) | str (x : Str) | byt (b : Array UInt8) | flt (b : UInt64) | ref (a : Addr) | ty (n : String)
  deriving DecidableEq
noncomputable def RelV : V → Value → Prop
  | .non, u => u = Value.none
  | .bl b, u => u = Value.bool b
  | .int i, u => ∃ t, u = Value.int i t
  | .str x, u => ∃ t, u = Value.str x t
  | .byt b, u => ∃ t, u = Value.bytes b t
  | .flt b, u => ∃ t, u = Value.float b t
  | .ref a, u => u = Value.ref a
  | .ty n, u => u = Value.type n
noncomputable abbrev Vals : List V → List Value → Prop := Paired RelV
theorem Vals.length {xs : List V} {us : List Value} (r : Vals xs us) : xs.length = us.length := Paired.length r
theorem Vals.get : ∀ {xs : List V} {us : List Value} {i : Nat} {x : V}, Vals xs us → xs[i]? = some x → ∃ u, us[i]? = some u ∧ RelV x u
  | _, _, _, _, .nil, e => by simp at e
  | _, _, 0, _, .cons r _, e => by simp at e; subst e; exact ⟨_, rfl, r⟩
  | _, _, i + 1, x, .cons _ t, e => by
    obtain ⟨u, h1, h2⟩ := Vals.get (i := i) (x := x) t (by simpa using e)
    exact ⟨u, by simpa using h1, h2⟩
theorem Vals.append : ∀ {xs ys : List V} {us ws : List Value}, Vals xs us → Vals ys ws → Vals (xs ++ ys) (us ++ ws)
  | _, _, _, _, .nil, s => s
  | _, _, _, _, .cons r t, s => .cons r (Vals.append t s)
theorem Vals.take : ∀ {xs : List V} {us : List Value} (n : Nat), Vals xs us → Vals (xs.take n) (us.take n)
  | _, _, 0, _ => .nil
  | _, _, _ + 1, .nil => .nil
  | _, _, n + 1, .cons r t => .cons r (Vals.take n t)
theorem Vals.drop : ∀ {xs : List V} {us : List Value} (n : Nat), Vals xs us → Vals (xs.drop n) (us.drop n)
  | _, _, 0, r => r
  | _, _, _ + 1, .nil => .nil
  | _, _, n + 1, .cons _ t => Vals.drop n t
noncomputable def RelO : Option V → Option Value → Prop
  | some v, some u => RelV v u
  | none, none => True
  | _, _ => False
noncomputable def KV {κ : Type} : List (κ × V) → List (κ × Value) → Prop := Paired fun (p : κ × V) (q : κ × Value) => p.1 = q.1 ∧ RelV p.2 q.2
noncomputable def kV : Key → V
  | .inl i => .int i
  | .inr x => .str x
inductive HO where
  | lst (xs : List V)
  | tup (xs : List V)
  | dK (kvs : List (Key × V)) | dT (kvs : List (List Key × V))
  | set (S : Int → Bool) (n : Nat)
  | ins (C dx : Addr) (fs : List (Str × V))
  | own (x : Addr)
  | xd (fs : List (Str × V))
  | met (f x : Addr)
  | rng (lo hi : Int)
  | frz (o : Obj) (u : HO)
  | tbl (ps : Array Value)
  | ext (φ : Heap → Prop)
noncomputable abbrev Hp := Addr → Option HO
noncomputable def upd (H : Hp) (a : Addr) (o : HO) : Hp := fun b => if b = a then some o else H b
theorem upd_same {H : Hp} {a : Addr} {o : HO} : upd H a o a = some o := by unfold upd; rw [if_pos rfl]
theorem upd_ne {H : Hp} {a b : Addr} {o : HO} (h : b ≠ a) : upd H a o b = H b := by unfold upd; rw [if_neg h]
theorem ne_of_none {H : Hp} {a b : Addr} {o : HO} (h : H a = some o) (h' : H b = none) : a ≠ b := by
  intro e; subst e; rw [h] at h'; cases h'
section
variable (P : Program) (w : World)
noncomputable def ObjOk (H : Hp) (h : Heap) (a : Addr) : HO → Prop
  | .lst xs => xs.length ≤ sizeLine ∧ ∃ (its : List Value) (n : Nat), Vals xs its ∧ h.get? a = some { cls := .type "list", data := .seq its.toArray n }
  | .tup xs => xs.length ≤ sizeLine ∧ ∃ its : List Value, Vals xs its ∧ IsTup h a its.toArray
  | .dK kvs => kvs.length ≤ sizeLine ∧ (a == sysModules) = false ∧ ∃ vs, KV kvs vs ∧ h.DictOf (mixKind P w) a vs
  | .dT kvs => kvs.length ≤ sizeLine ∧ (a == sysModules) = false ∧ ∃ xs : List (List Key × Addr × Value),
      Paired (fun (p : List Key × V) (q : List Key × Addr × Value) => p.1 = q.1 ∧ H q.2.1 = some (.tup (p.1.map kV)) ∧ RelV p.2 q.2.2) kvs xs ∧
      ∃ o es ep, h.get? a = some o ∧ o.ExactDict ∧ o.data = .dict es ep ∧ es.toList = xs.map (entryOfKey (tupleKind (mixKind P w))) ∧ (xs.map (·.1)).Nodup
  | .set S n => h.SetOf (intKind P w) a S n
  | .ins C dx fs => H dx = some (.own a) ∧ fs.length ≤ 1000 ∧ dx ≠ a ∧ h.get? a = some (PySem.W.instObj C dx) ∧
      ∃ mA, h.Ns1 dx mA ∧ (∀ f, RelO (fs.lookup f) (mA f)) ∧ PySem.Within mA (fs.map (·.1))
  | .own _ => ∃ o, h.get? a = some o
  | .xd fs => ∃ mA, h.Ns1 a mA ∧ ∀ f, RelO (fs.lookup f) (mA f)
  | .rng lo hi => ∃ t u v, h.get? a = some { cls := .type "range", data := .fields #[.int lo t, .int hi u, .int 1 v] }
  | .frz o u => h.get? a = some o ∧ ObjOk H h a u
  | .tbl ps => h.get? a = some { cls := .none, data := .fields ps }
  | .met f x => h.get? a = some (PySem.W.methodObj (.ref f) (.ref x))
  | .ext φ => φ h ∧ (∃ o, h.get? a = some o) ∧ ∀ h1 h2 : Heap, φ h1 → (∀ o, h1.get? a = some o → h2.get? a = some o) → φ h2
noncomputable def HOk (H : Hp) (h : Heap) : Prop := ∀ a o, H a = some o → ObjOk P w H h a o
end
section
variable {P : Program} {w : World} {H H' : Hp} {h h' : Heap} {a : Addr} {o : HO}
theorem ObjOk.lt (x : ObjOk P w H h a o) : a < h.objs.size := by
  cases o with
  | lst xs => obtain ⟨_, _, _, _, e⟩ := x; exact Heap.lt_size e
  | tup xs => obtain ⟨_, _, _, p⟩ := x; exact p.lt
  | dK kvs => obtain ⟨_, _, _, _, o, _, _, e, _⟩ := x; exact Heap.lt_size e
  | dT kvs => obtain ⟨_, _, _, _, o, _, _, e, _⟩ := x; exact Heap.lt_size e
  | set S n => obtain ⟨o, _, _, _, e, _⟩ := x; exact Heap.lt_size e
  | ins C dx fs => obtain ⟨_, _, _, e, _⟩ := x; exact Heap.lt_size e
  | own y => obtain ⟨_, e⟩ := x; exact Heap.lt_size e
  | xd fs => obtain ⟨_, ⟨_, _, _, e, _⟩, _⟩ := x; exact Heap.lt_size e
  | rng lo hi => obtain ⟨_, _, _, e⟩ := x; exact Heap.lt_size e
  | frz ob u => obtain ⟨e, _⟩ := x; exact Heap.lt_size e
  | tbl ps => exact Heap.lt_size (show h.get? a = some _ from x)
  | met f y => exact Heap.lt_size (show h.get? a = some _ from x)
  | ext φ => obtain ⟨_, ⟨_, e⟩, _⟩ := x; exact Heap.lt_size e
theorem Paired.mapP {α β : Type} {F G : α → β → Prop} : ∀ {l₁ : List α} {l₂ : List β}, Paired F l₁ l₂ → (∀ a b, F a b → G a b) → Paired G l₁ l₂
  | _, _, .nil, _ => .nil
  | _, _, .cons r t, f => .cons (f _ _ r) (Paired.mapP t f)
theorem ObjOk.stay (x : ObjOk P w H h a o) (k : ∀ b u, (b = a ∨ H b = some (.own a)) → h.get? b = some u → h'.get? b = some u)
    (ho : ∀ b, H b = some (.own a) → H' b = some (.own a)) (ht : ∀ b xs, H b = some (.tup xs) → H' b = some (.tup xs)) : ObjOk P w H' h' a o := by
  induction o with
  | lst xs => obtain ⟨z, its, n, r, e⟩ := x; exact ⟨z, its, n, r, k _ _ (.inl rfl) e⟩
  | tup xs => obtain ⟨z, its, r, ob, e, c⟩ := x; exact ⟨z, its, r, ob, k _ _ (.inl rfl) e, c⟩
  | dK kvs => obtain ⟨z, y, vs, r, ob, es, ep, e, c⟩ := x; exact ⟨z, y, vs, r, ob, es, ep, k _ _ (.inl rfl) e, c⟩
  | dT kvs =>
    obtain ⟨z, y, xs, r, ob, es, ep, e, c⟩ := x
    exact ⟨z, y, xs, Paired.mapP r fun p q z => ⟨z.1, ht _ _ z.2.1, z.2.2⟩, ob, es, ep, k _ _ (.inl rfl) e, c⟩
  | set S n => obtain ⟨ob, es, ep, t, e, c⟩ := x; exact ⟨ob, es, ep, t, k _ _ (.inl rfl) e, c⟩
  | ins C dx fs =>
    obtain ⟨d, z, ne, e, mA, ⟨od, es, ep, e2, c⟩, r⟩ := x
    exact ⟨ho _ d, z, ne, k _ _ (.inl rfl) e, mA, ⟨od, es, ep, k _ _ (.inr d) e2, c⟩, r⟩
  | own y => obtain ⟨ob, e⟩ := x; exact ⟨ob, k _ _ (.inl rfl) e⟩
  | xd fs => obtain ⟨mA, ⟨od, es, ep, e, c⟩, r⟩ := x; exact ⟨mA, ⟨od, es, ep, k _ _ (.inl rfl) e, c⟩, r⟩
  | rng lo hi => obtain ⟨t, u, v, e⟩ := x; exact ⟨t, u, v, k _ _ (.inl rfl) e⟩
  | frz ob u ih => obtain ⟨e, q⟩ := x; exact ⟨k _ _ (.inl rfl) e, ih q⟩
  | tbl ps =>
    have e : h.get? a = some { cls := .none, data := .fields ps } := x
    show h'.get? a = some { cls := .none, data := .fields ps }
    exact k a _ (.inl rfl) e
  | met f y =>
    have e : h.get? a = some (PySem.W.methodObj (.ref f) (.ref y)) := x
    show h'.get? a = some (PySem.W.methodObj (.ref f) (.ref y))
    exact k a _ (.inl rfl) e
  | ext φ => obtain ⟨p, ⟨o, e⟩, st⟩ := x; exact ⟨st _ _ p fun o q => k _ _ (.inl rfl) q, ⟨o, k _ _ (.inl rfl) e⟩, st⟩
theorem HOk.lt (x : HOk P w H h) (e : H a = some o) : a < h.objs.size := (x a o e).lt
theorem HOk.fresh (x : HOk P w H h) (e : h.objs.size ≤ a) : H a = none := by
  cases q : H a with
  | none => rfl
  | some u => exact absurd (Nat.lt_of_lt_of_le (x.lt q) e) (Nat.lt_irrefl _)
theorem HOk.kept (x : HOk P w H h) (k : ∀ b u, h.get? b = some u → h'.get? b = some u) : HOk P w H h' := fun a o e =>
  (x a o e).stay (fun b u _ q => k b u q) (fun _ q => q) fun _ _ q => q
theorem HOk.laid (x : HOk P w H h) (k : ∀ b u, h.get? b = some u → h'.get? b = some u) (hp : h.objs.size ≤ a) (new : ObjOk P w (upd H a o) h' a o) : HOk P w (upd H a o) h' := fun b u e => by
  have hn := x.fresh hp
  by_cases hb : b = a
  · subst hb; rw [upd_same] at e; cases e; exact new
  · rw [upd_ne hb] at e
    exact (x b u e).stay (fun c v _ q => k c v q) (fun c q => by rw [upd_ne (ne_of_none q hn)]; exact q) fun c xs q => by rw [upd_ne (ne_of_none q hn)]; exact q
end
noncomputable def Rd (H : Hp) (a : Addr) (u : HO) : Prop := H a = some u ∨ ∃ o, H a = some (.frz o u)
theorem Rd.ok {P : Program} {w : World} {H : Hp} {h : Heap} {a : Addr} {u : HO} (r : Rd H a u) (x : HOk P w H h) : ObjOk P w H h a u := by
  rcases r with r | ⟨o, r⟩
  · exact x a u r
  · obtain ⟨_, q⟩ := x a _ r
    exact q
noncomputable def Mut : Option HO → Prop
  | some (.lst _) => True
  | some (.dK _) => True
  | some (.dT _) => True
  | some (.set _ _) => True
  | some (.ins _ _ _) => True
  | some (.ext _) => True
  | _ => False
section
variable {P : Program} {w : World} {H : Hp} {h h' : Heap} {x e : Addr} {o' : HO}
theorem HOk.write (ok : HOk P w H h) (mu : Mut (H x)) (he : e = x ∨ H e = some (.own x)) (k : ∀ b u, b ≠ e → h.get? b = some u → h'.get? b = some u) (heo : ∃ u, h'.get? e = some u)
    (new : ObjOk P w (upd H x o') h' x o') : HOk P w (upd H x o') h' := fun b u q => by
  have nown : ∀ c y, H c = some (.own y) → c ≠ x := fun c y r z => by subst z; rw [r] at mu; exact mu
  have ntup : ∀ c xs, H c = some (.tup xs) → c ≠ x := fun c xs r z => by subst z; rw [r] at mu; exact mu
  by_cases hb : b = x
  · subst hb; rw [upd_same] at q; cases q; exact new
  · rw [upd_ne hb] at q
    by_cases hbe : b = e
    · have q' : H b = some (.own x) := by
        rcases he with z | z
        · exact absurd (hbe.trans z) hb
        · rw [hbe]; exact z
      rw [q] at q'; cases q'
      obtain ⟨v, hv⟩ := heo
      exact ⟨v, by rw [hbe]; exact hv⟩
    · refine (ok b u q).stay (fun c v hc r => k c v ?_ r) (fun c r => by rw [upd_ne (nown c b r)]; exact r) fun c xs r => by rw [upd_ne (ntup c xs r)]; exact r
      rcases hc with rfl | hc
      · exact hbe
      · rintro rfl
        rcases he with z | z
        · exact nown c b hc z
        · rw [hc] at z; cases z; exact hb rfl
end
structure Un (fs ex : List Addr) (H H' : Hp) (h h' : Heap) : Prop where
  keep : ∀ b o, h.get? b = some o → H b = none → b ∉ fs → b ∉ ex → h'.get? b = some o
  slot : ∀ b o, h.get? b = some o → H b = none → b ∈ fs → b ∉ ex → ∃ sl, h'.get? b = some { o with slots := sl }
  free : ∀ b o, h.get? b = some o → H b = none → b ∉ ex → H' b = none
  there : ∀ b o, h.get? b = some o → b ∉ ex → ∃ o', h'.get? b = some o'
  tups : ∀ b xs, H b = some (.tup xs) → H' b = some (.tup xs)
  frzs : ∀ b o u, H b = some (.frz o u) → H' b = some (.frz o u)
  tbls : ∀ b ps, H b = some (.tbl ps) → ∃ more, H' b = some (.tbl (ps ++ more))
section
variable {fs fs' ex ex' : List Addr} {H H1 H2 : Hp} {h h1 h2 h' : Heap} {a x e : Addr} {o : HO}
theorem Un.any (u : Un fs ex H H1 h h1) {b : Addr} {ob : Obj} (q : h.get? b = some ob) (n : H b = none) (hx : b ∉ ex) : ∃ sl, h1.get? b = some { ob with slots := sl } := by
  by_cases hb : b ∈ fs
  · exact u.slot b ob q n hb hx
  · exact ⟨ob.slots, u.keep b ob q n hb hx⟩
theorem Un.kept (k : ∀ b u, h.get? b = some u → h'.get? b = some u) : Un fs ex H H h h' :=
  ⟨fun b ob q _ _ _ => k b ob q, fun b ob q _ _ _ => ⟨ob.slots, k b ob q⟩, fun _ _ _ n _ => n, fun b ob q _ => ⟨ob, k b ob q⟩, fun _ _ q => q, fun _ _ _ q => q, fun _ ps q => ⟨#[], by rw [q]; simp⟩⟩
theorem Un.refl : Un fs ex H H h h := Un.kept fun _ _ q => q
theorem Un.laid (k : ∀ b u, h.get? b = some u → h'.get? b = some u) (hp : h.objs.size ≤ a) (hn : H a = none) : Un fs ex H (upd H a o) h h' where
  keep := fun b u q _ _ _ => k b u q
  slot := fun b u q _ _ _ => ⟨u.slots, k b u q⟩
  free := fun b u q n _ => by rw [upd_ne (Nat.ne_of_lt (Nat.lt_of_lt_of_le (Heap.lt_size q) hp))]; exact n
  there := fun b u q _ => ⟨u, k b u q⟩
  tups := fun b xs q => by rw [upd_ne (ne_of_none q hn)]; exact q
  frzs := fun b u xs q => by rw [upd_ne (ne_of_none q hn)]; exact q
  tbls := fun b ps q => ⟨#[], by rw [upd_ne (ne_of_none q hn), q]; simp⟩
theorem Un.write (mu : Mut (H x)) (he : e = x ∨ H e = some (.own x)) (k : ∀ b u, b ≠ e → h.get? b = some u → h'.get? b = some u) (heo : ∃ u, h'.get? e = some u) : Un fs ex H (upd H x o) h h' := by
  have hx : ∀ b, H b = none → b ≠ x := fun b n z => by subst z; rw [n] at mu; exact mu
  have hb : ∀ b, H b = none → b ≠ e := fun b n z => by
    subst z
    rcases he with r | r
    · exact hx b n r
    · rw [n] at r; cases r
  have hm : ∀ b u, H b = some u → ¬ Mut (some u) → b ≠ x := fun b u q nm z => by subst z; rw [q] at mu; exact nm mu
  refine ⟨fun b u q n _ _ => k b u (hb b n) q, fun b u q n _ _ => ⟨u.slots, k b u (hb b n) q⟩, fun b u q n _ => by rw [upd_ne (hx b n)]; exact n, fun b u q _ => ?_,
    fun b xs q => by rw [upd_ne (hm b _ q fun z => z)]; exact q, fun b u xs q => by rw [upd_ne (hm b _ q fun z => z)]; exact q, fun b ps q => ⟨#[], by rw [upd_ne (hm b _ q fun z => z), q]; simp⟩⟩
  by_cases hbe : b = e
  · subst hbe; exact heo
  · exact ⟨u, k b u hbe q⟩
end
noncomputable def trk (h : Heap) (H : Hp) : List Addr := (List.range h.objs.size).filter fun a => (H a).isSome
noncomputable def hidT (h : Heap) (H : Hp) : Heap := PySem.W.hideAll h (trk h H)
theorem hidT_size (h : Heap) (H : Hp) : (hidT h H).objs.size = h.objs.size := PySem.W.hideAll_size _ _
theorem hidT_get {h : Heap} {H : Hp} {b : Addr} {o : Obj} (e : h.get? b = some o) (n : H b = none) : (hidT h H).get? b = some o :=
  PySem.W.hideAll_get _ e fun hm => by
    have q : (H b).isSome = true := (List.mem_filter.mp hm).2
    rw [n] at q; simp at q
theorem of_hidT {h : Heap} {H : Hp} {b : Addr} {o : Obj} (e : (hidT h H).get? b = some o) : h.get? b = some o ∧ H b = none := by
  have e' : h.get? b = some o := PySem.W.of_hideAll (trk h H) e
  refine ⟨e', ?_⟩
  cases q : H b with
  | none => rfl
  | some x =>
    have hm : b ∈ trk h H := List.mem_filter.mpr ⟨List.mem_range.mpr (Heap.lt_size e'), by simp [q]⟩
    have z : (hidT h H).get? b = none := PySem.W.hideAll_none (trk h H) hm
    rw [z] at e; cases e
end L2
namespace L2
open PySem PySem.Spec PyProof.Rows
structure Mod (K : Fg) (mg : Str → Option Value) (base : Heap) : Prop where
  kin : K.In base
  glob : base.Ns mainGlobals mg
  blt : ∃ mb, base.Ns builtinsNs mb ∧ ∀ x : Str, x ≠ "__name__" → mb x = bootBuiltins x
  nolimit : base.NoLimit
structure Cx where
  prog : Program
  w : World
  K : Fg
  mg : Str → Option Value
  base : Heap
  A : Around
  N : List Str
  s₀ : Shared
  H₀ : Hp
  env : Env
  outer : List Env
  stack : List Env
  ex : List Addr
  fn : Str → Bool
  calm : Bool
  pn : List (Addr × Obj)
  xe : Value → Shared → Prop
noncomputable def frs (l : List Env) : List Addr := l.filterMap (·.frame)
noncomputable abbrev Cx.fs (X : Cx) : List Addr := frs X.outer
noncomputable def Vis (sc : Scope) (x : Str) : Prop := sc.names.lookup x = some .local ∨ sc.names.lookup x = some .cell ∨ sc.names.lookup x = some .free
noncomputable def Loc (sc : Scope) (x : Str) : Prop := sc.names.lookup x = some .local ∨ sc.names.lookup x = some .cell
noncomputable def Look (env : Env) (h : Heap) (m : Str → Option Value) (x : Str) (u : Value) : Prop :=
  (env.kindOf x = some .local ∧ m x = some u) ∨ ((env.kindOf x = some .cell ∨ env.kindOf x = some .free) ∧ ∃ c, env.cells.lookup x = some c ∧ h.IsCell c (some u))
structure Cx.Ok (X : Cx) : Prop where
  mod : Mod X.K X.mg X.base
  kind : X.env.scope.kind = .function
  glob : X.env.globals = mainGlobals
  blt : X.env.builtins = builtinsNs
  above : X.s₀.heap.objs.size ≤ X.env.locals
  inj : ∀ x y c, X.env.cells.lookup x = some c → X.env.cells.lookup y = some c → x = y
  has : ∀ x, (X.env.kindOf x = some .cell ∨ X.env.kindOf x = some .free) → ∃ c, X.env.cells.lookup x = some c
  cab : ∀ x c, X.fn x = true → X.env.cells.lookup x = some c → X.s₀.heap.objs.size ≤ c
  hd : X.calm = true → X.A.handled = none
  frames : X.A.frames = some X.stack
  stk : X.stack = X.outer ∨ (X.stack = X.env :: X.outer ∧ X.env.frame = some X.env.locals)
  exf : ∀ b ∈ X.ex, b ≠ X.env.locals ∧ ∀ x c, X.env.cells.lookup x = some c → c ≠ b
  bs : ∀ b o, X.base.get? b = some o → X.s₀.heap.get? b = some o ∧ X.H₀ b = none
  bsz : X.base.objs.size ≤ X.s₀.heap.objs.size
  noex : ∀ b o, X.base.get? b = some o → b ∉ X.ex
  exfs : ∀ b ∈ X.ex, b ∉ X.fs
  funs : X.s₀.heap.FunFrames X.base X.outer
  frf : ∀ b ∈ X.fs, X.H₀ b = none
structure Inv (X : Cx) (pins : List (Addr × Obj)) (σ : List (Option V)) (H : Hp) (s : Shared) : Prop where
  ok : X.Ok
  os : s.os = X.s₀.os
  bare : AllBare s.gens
  base : Un X.fs X.ex X.H₀ H X.s₀.heap s.heap
  loc : ∃ m, s.heap.Ns X.env.locals m ∧ ∀ (i : Nat) (x : Str) (v : V), X.N[i]? = some x → σ[i]? = some (some v) → Vis X.env.scope x → ∃ u, RelV v u ∧ Look X.env s.heap m x u
  cell : ∀ x c, X.env.cells.lookup x = some c → ∃ v, s.heap.IsCell c v
  free : H X.env.locals = none
  freeC : ∀ x c, X.env.cells.lookup x = some c → H c = none
  pin : ∀ p ∈ X.pn ++ pins, s.heap.get? p.1 = some p.2 ∧ H p.1 = none ∧ p.1 ≠ X.env.locals ∧ p.1 ∉ X.fs ∧ ∀ v, p.2.data ≠ .cell v
  hok : HOk X.prog X.w H s.heap
  len : σ.length = X.N.length
section
variable {X : Cx} {pins : List (Addr × Obj)} {σ : List (Option V)} {H H' : Hp} {s : Shared} {h' : Heap}
theorem Cx.Ok.nofr (ok : X.Ok) {b : Addr} {o : Obj} (e : X.base.get? b = some o) : b ∉ X.fs := fun hb => by
  have := (ok.funs.mem hb).1
  rw [e] at this; cases this
theorem Inv.bs (I : Inv X pins σ H s) : ∀ b o, X.base.get? b = some o → s.heap.get? b = some o ∧ H b = none := fun b o e =>
  ⟨I.base.keep b o (I.ok.bs b o e).1 (I.ok.bs b o e).2 (I.ok.nofr e) (I.ok.noex b o e), I.base.free b o (I.ok.bs b o e).1 (I.ok.bs b o e).2 (I.ok.noex b o e)⟩
theorem Inv.bk (I : Inv X pins σ H s) : ∀ b o, X.base.get? b = some o → s.heap.get? b = some o := fun b o e => (I.bs b o e).1
theorem Inv.mod (I : Inv X pins σ H s) : Mod X.K X.mg X.base := I.ok.mod
theorem Inv.kIn (I : Inv X pins σ H s) : X.K.In s.heap := I.ok.mod.kin.keeps I.bk
theorem Inv.lt (I : Inv X pins σ H s) : X.env.locals < s.heap.objs.size := let ⟨_, hn, _⟩ := I.loc; hn.lt
theorem Inv.sz (I : Inv X pins σ H s) : X.s₀.heap.objs.size ≤ s.heap.objs.size := Nat.le_trans I.ok.above (Nat.le_of_lt I.lt)
theorem Inv.nofs (I : Inv X pins σ H s) {a : Addr} (h : s.heap.objs.size ≤ a) : a ∉ X.fs := fun hb => by
  obtain ⟨_, o, ho, _⟩ := I.ok.funs.mem hb
  exact absurd (Nat.lt_of_lt_of_le (Heap.lt_size ho) (Nat.le_trans I.sz h)) (Nat.lt_irrefl _)
theorem Inv.cne (I : Inv X pins σ H s) : ∀ x c, X.env.cells.lookup x = some c → c ≠ X.env.locals := fun x c e z => by
  obtain ⟨v, o, ho, hd⟩ := I.cell x c e
  obtain ⟨m, ⟨o', es, ep, ho', hd', _⟩, _⟩ := I.loc
  rw [z, ho'] at ho; cases ho; rw [hd'] at hd; cases hd
theorem Inv.funs (I : Inv X pins σ H s) : s.heap.FunFrames X.base X.outer := by
  have all : ∀ (l : List Env), (∀ b ∈ frs l, b ∈ X.fs) → X.s₀.heap.FunFrames X.base l → s.heap.FunFrames X.base l := by
    intro l
    induction l with
    | nil => intro _ _; trivial
    | cons env r ih =>
      intro hs hl
      obtain ⟨hk, ⟨L, o, hf, hn, ho, hd⟩, hr⟩ := hl
      have hL : L ∈ X.fs := hs L (by unfold frs; rw [List.filterMap_cons, hf]; exact List.mem_cons_self)
      obtain ⟨sl, e⟩ := I.base.slot L o ho (I.ok.frf L hL) hL fun z => I.ok.exfs L z hL
      exact ⟨hk, ⟨L, _, hf, hn, e, hd⟩, ih (fun b hb => hs b (by unfold frs; rw [List.filterMap_cons, hf]; exact List.mem_cons_of_mem _ hb)) hr⟩
  exact all X.outer (fun _ hb => hb) I.ok.funs
theorem Inv.stack (I : Inv X pins σ H s) : s.heap.FunFrames X.base X.stack := by
  rcases I.ok.stk with e | ⟨e, hf⟩
  · rw [e]; exact I.funs
  · rw [e]
    obtain ⟨m, hn, _⟩ := I.loc
    refine .cons (by rw [I.ok.kind]; decide) hf hn ?_ I.funs
    exact Heap.get?_none_of_le (Nat.le_trans I.ok.bsz I.ok.above)
theorem Inv.stkSub (I : Inv X pins σ H s) : ∀ b ∈ frs X.stack, b ∈ X.env.locals :: X.fs := fun b hb => by
  rcases I.ok.stk with e | ⟨e, hf⟩
  · rw [e] at hb; exact List.mem_cons_of_mem _ hb
  · rw [e] at hb
    unfold frs at hb
    rw [List.filterMap_cons, hf] at hb
    exact hb
theorem Inv.stkFree (I : Inv X pins σ H s) : ∀ b ∈ frs X.stack, H b = none := fun b hb => by
  rcases List.mem_cons.mp (I.stkSub b hb) with e | hb
  · rw [e]; exact I.free
  · obtain ⟨_, o, ho, _⟩ := I.ok.funs.mem hb
    exact I.base.free b o ho (I.ok.frf b hb) fun z => I.ok.exfs b z hb
theorem Inv.step {g' : Array GenState} {t' : Nat} {d' : Drawn} {ch : List Addr} (I : Inv X pins σ H s)
    (hch : ∀ b ∈ ch, (b ∈ X.ex ∨ X.s₀.heap.objs.size ≤ b) ∧ b ≠ X.env.locals ∧ (∀ x c, X.env.cells.lookup x = some c → c ≠ b) ∧ ∀ p ∈ X.pn ++ pins, p.1 ≠ b)
    (keep : ∀ b o, b ≠ X.env.locals → b ∉ X.fs → b ∉ ch → s.heap.get? b = some o → H b = none → h'.get? b = some o)
    (slot : ∀ b o, b ≠ X.env.locals → b ∈ X.fs → b ∉ ch → s.heap.get? b = some o → H b = none → ∃ sl, h'.get? b = some { o with slots := sl }) (free : ∀ b o, b ∉ ch → s.heap.get? b = some o → H b = none → H' b = none)
    (there : ∀ b o, b ∉ ch → s.heap.get? b = some o → ∃ o', h'.get? b = some o')
    (tups : ∀ b xs, H b = some (.tup xs) → H' b = some (.tup xs)) (frzs : ∀ b o u, H b = some (.frz o u) → H' b = some (.frz o u)) (tbls : ∀ b ps, H b = some (.tbl ps) → ∃ more, H' b = some (.tbl (ps ++ more)))
    (ns : ∀ m, s.heap.Ns X.env.locals m → h'.Ns X.env.locals m) (hok : HOk X.prog X.w H' h') (hg : AllBare g') :
    Inv X pins σ H' { s with heap := h', gens := g', drawn := d', toks := t' } := by
  have neL : ∀ b o, X.s₀.heap.get? b = some o → b ≠ X.env.locals := fun b o e => Nat.ne_of_lt (Nat.lt_of_lt_of_le (Heap.lt_size e) I.ok.above)
  have neC : ∀ b o, X.s₀.heap.get? b = some o → b ∉ X.ex → b ∉ ch := fun b o e hx hb => by
    rcases (hch b hb).1 with z | z
    · exact hx z
    · exact absurd (Nat.lt_of_lt_of_le (Heap.lt_size e) z) (Nat.lt_irrefl _)
  have cellK : ∀ x c, X.env.cells.lookup x = some c → ∀ v, s.heap.IsCell c v → h'.IsCell c v := fun x c e v ⟨o, ho, hd⟩ => by
    have nch : c ∉ ch := fun z => (hch c z).2.2.1 x c e rfl
    by_cases hc : c ∈ X.fs
    · obtain ⟨sl, q⟩ := slot c o (I.cne x c e) hc nch ho (I.freeC x c e)
      exact ⟨_, q, hd⟩
    · exact ⟨o, keep c o (I.cne x c e) hc nch ho (I.freeC x c e), hd⟩
  refine ⟨I.ok, I.os, hg, ⟨fun b o e n hb hx => ?_, fun b o e n hb hx => ?_, fun b o e n hx => ?_, fun b o e hx => ?_, fun b xs e => tups b xs (I.base.tups b xs e), fun b o xs e => frzs b o xs (I.base.frzs b o xs e), fun b ps e => ?_⟩, ?_, fun x c e => ?_, ?_, fun x c e => ?_, fun p hp => ?_, hok, I.len⟩
  · exact keep b o (neL b o e) hb (neC b o e hx) (I.base.keep b o e n hb hx) (I.base.free b o e n hx)
  · obtain ⟨sl, e1⟩ := I.base.slot b o e n hb hx
    obtain ⟨sl', e2⟩ := slot b _ (neL b o e) hb (neC b o e hx) e1 (I.base.free b o e n hx)
    exact ⟨sl', e2⟩
  · obtain ⟨o', e1⟩ := I.base.there b o e hx
    exact free b o' (neC b o e hx) e1 (I.base.free b o e n hx)
  · obtain ⟨o', e1⟩ := I.base.there b o e hx
    exact there b o' (neC b o e hx) e1
  · obtain ⟨m1, e1⟩ := I.base.tbls b ps e
    obtain ⟨m2, e2⟩ := tbls b _ e1
    exact ⟨m1 ++ m2, by rw [e2, Array.append_assoc]⟩
  · obtain ⟨m, hn, hl⟩ := I.loc
    refine ⟨m, ns m hn, fun i x v e1 e2 e3 => ?_⟩
    obtain ⟨u, r, l⟩ := hl i x v e1 e2 e3
    refine ⟨u, r, ?_⟩
    rcases l with l | ⟨k, c, e, z⟩
    · exact .inl l
    · exact .inr ⟨k, c, e, cellK x c e _ z⟩
  · obtain ⟨v, z⟩ := I.cell x c e
    exact ⟨v, cellK x c e v z⟩
  · obtain ⟨m, ⟨o, _, _, ho, _⟩, _⟩ := I.loc
    exact free _ o (fun z => (hch _ z).2.1 rfl) ho I.free
  · obtain ⟨v, o, ho, hd⟩ := I.cell x c e
    exact free c o (fun z => (hch c z).2.2.1 x c e rfl) ho (I.freeC x c e)
  · obtain ⟨e, n, ne, nf, d⟩ := I.pin p hp
    have nch : p.1 ∉ ch := fun z => (hch p.1 z).2.2.2 p hp rfl
    exact ⟨keep p.1 p.2 ne nf nch e n, free p.1 p.2 nch e n, ne, nf, d⟩
theorem Inv.un {t' : Nat} (I : Inv X pins σ H s) (u : Un X.fs [] H H' s.heap h') (hok : HOk X.prog X.w H' h') : Inv X pins σ H' { s with heap := h', toks := t' } := by
  obtain ⟨m, ⟨o, es, ep, ho, r⟩, _⟩ := id I.loc
  obtain ⟨sl, hL⟩ := u.any ho I.free (by simp)
  exact I.step (g' := s.gens) (d' := s.drawn) (ch := []) (fun _ z => nomatch z) (fun b o _ hb _ e n => u.keep b o e n hb (by simp)) (fun b o _ hb _ e n => u.slot b o e n hb (by simp)) (fun b o _ e n => u.free b o e n (by simp)) (fun b o _ e => u.there b o e (by simp)) u.tups u.frzs u.tbls (fun m' hm => by
    obtain ⟨o', es', ep', ho', r'⟩ := hm
    rw [ho] at ho'; cases ho'
    exact ⟨_, es', ep', hL, r'⟩) hok I.bare
theorem Inv.call {g' : Array GenState} {t' : Nat} {d' : Drawn} {ch : List Addr} (I : Inv X pins σ H s) (u : Un (frs X.stack) ch H H' s.heap h') (hok : HOk X.prog X.w H' h') (hg : AllBare g')
    (hch : ∀ b ∈ ch, (b ∈ X.ex ∨ X.s₀.heap.objs.size ≤ b) ∧ b ≠ X.env.locals ∧ (∀ x c, X.env.cells.lookup x = some c → c ≠ b) ∧ ∀ p ∈ X.pn ++ pins, p.1 ≠ b) :
    Inv X pins σ H' { s with heap := h', gens := g', drawn := d', toks := t' } := by
  obtain ⟨m, ⟨o, es, ep, ho, r⟩, _⟩ := id I.loc
  obtain ⟨sl, hL⟩ := u.any ho I.free fun z => (hch _ z).2.1 rfl
  exact I.step (ch := ch) hch (fun b o hL hb hc e n => u.keep b o e n (fun z => (List.mem_cons.mp (I.stkSub b z)).elim hL hb) hc) (fun b o _ _ hc e n => u.any e n hc) (fun b o hc e n => u.free b o e n hc) (fun b o hc e => u.there b o e hc) u.tups u.frzs u.tbls (fun m' hm => by
    obtain ⟨o', es', ep', ho', r'⟩ := hm
    rw [ho] at ho'; cases ho'
    exact ⟨_, es', ep', hL, r'⟩) hok hg
theorem Inv.turned {t' : Nat} {it : Addr} (I : Inv X pins σ H s) (k : ∀ b o, b ≠ it → s.heap.get? b = some o → h'.get? b = some o) (hn : H it = none) (hL : it ≠ X.env.locals)
    (h1 : it ∈ X.ex ∨ X.s₀.heap.objs.size ≤ it) (h2 : ∀ x c, X.env.cells.lookup x = some c → c ≠ it) (h3 : ∀ p ∈ X.pn ++ pins, p.1 ≠ it) : Inv X pins σ H { s with heap := h', toks := t' } := by
  have nit : ∀ b u, H b = some u → b ≠ it := fun b u e z => by rw [z, hn] at e; cases e
  refine I.step (g' := s.gens) (d' := s.drawn) (ch := [it]) (fun b hb => ?_) (fun b o _ _ hc e _ => k b o (fun z => hc (by simp [z])) e) (fun b o _ _ hc e _ => ⟨o.slots, k b o (fun z => hc (by simp [z])) e⟩) (fun _ _ _ _ n => n)
    (fun b o hc e => ⟨o, k b o (fun z => hc (by simp [z])) e⟩) (fun _ _ e => e) (fun _ _ _ e => e) (fun b ps e => ⟨#[], by rw [e]; simp⟩) (fun m hm => ?_) (fun b u e => ?_) I.bare
  · have e : b = it := by simpa using hb
    subst e
    exact ⟨h1, hL, h2, h3⟩
  · obtain ⟨o, es, ep, ho, r⟩ := hm
    exact ⟨o, es, ep, k _ o (Ne.symm hL) ho, r⟩
  · refine (I.hok b u e).stay (fun c v hc q => k c v ?_ q) (fun _ q => q) fun _ _ q => q
    rcases hc with z | z
    · rw [z]; exact nit b u e
    · exact nit c _ z
theorem Inv.tok (I : Inv X pins σ H s) (t : Nat) : Inv X pins σ H { s with toks := t } := I.un (h' := s.heap) (t' := t) Un.refl I.hok
theorem Inv.kept {t' : Nat} (I : Inv X pins σ H s) (k : ∀ b u, s.heap.get? b = some u → h'.get? b = some u) : Inv X pins σ H { s with heap := h', toks := t' } := I.un (Un.kept k) (I.hok.kept k)
theorem Inv.laid {a : Addr} {o : HO} {t' : Nat} (I : Inv X pins σ H s) (k : ∀ b u, s.heap.get? b = some u → h'.get? b = some u) (hp : s.heap.objs.size ≤ a) (new : ObjOk X.prog X.w (upd H a o) h' a o) :
    Inv X pins σ (upd H a o) { s with heap := h', toks := t' } := I.un (Un.laid k hp (I.hok.fresh hp)) (I.hok.laid k hp new)
theorem Inv.write {x e : Addr} {o : HO} {t' : Nat} (I : Inv X pins σ H s) (mu : Mut (H x)) (he : e = x ∨ H e = some (.own x)) (k : ∀ b u, b ≠ e → s.heap.get? b = some u → h'.get? b = some u) (heo : ∃ u, h'.get? e = some u)
    (new : ObjOk X.prog X.w (upd H x o) h' x o) : Inv X pins σ (upd H x o) { s with heap := h', toks := t' } := I.un (Un.write mu he k heo) (I.hok.write mu he k heo new)
theorem Inv.pins_of {pins' : List (Addr × Obj)} (I : Inv X pins σ H s) (h : ∀ p ∈ pins', s.heap.get? p.1 = some p.2 ∧ H p.1 = none ∧ p.1 ≠ X.env.locals ∧ p.1 ∉ X.fs ∧ ∀ v, p.2.data ≠ .cell v) : Inv X pins' σ H s :=
  ⟨I.ok, I.os, I.bare, I.base, I.loc, I.cell, I.free, I.freeC, fun p hp => (List.mem_append.mp hp).elim (fun z => I.pin p (List.mem_append_left _ z)) (h p), I.hok, I.len⟩
theorem nodup_ix {N : List Str} (hN : N.Nodup) {i j : Nat} {x : Str} (a : N[i]? = some x) (b : N[j]? = some x) : i = j := by
  obtain ⟨h1, e1⟩ := List.getElem?_eq_some_iff.mp a
  obtain ⟨h2, e2⟩ := List.getElem?_eq_some_iff.mp b
  exact (List.getElem_inj hN).mp (e1.trans e2.symm)
theorem store_ok2 {M : Model} {A : Around} {E : Value → Shared → Prop} {i : Nat} {x : Str} {v : V} {u : Value} {Q : Unit → Shared → Prop} (I : Inv X pins σ H s) (hN : X.N.Nodup) (hi : X.N[i]? = some x) (hx : Loc X.env.scope x) (r : RelV v u)
    (h : ∀ s', Inv X pins (σ.set i (some v)) H s' → (∃ a, Heap.SameBut a s.heap s'.heap ∧ (a = X.env.locals ∨ X.env.cells.lookup x = some a)) → Q () s') (hf : X.fn x = true ∨ X.env.scope.names.lookup x = some .local := by first | exact .inl rfl | exact .inr rfl | assumption) : wpAny M A (storeName X.env x u) Q E s := by
  obtain ⟨m, hn, hl⟩ := id I.loc
  have hcls : (X.env.scope.kind == .class || (X.env.scope.kind == .module && X.env.locals != X.env.globals)) = false := by rw [I.ok.kind]; rfl
  have hiσ : i < σ.length := by rw [I.len]; exact (List.getElem?_eq_some_iff.mp hi).1
  have cne := I.cne
  have tracked : ∀ {a : Addr} {h' : Heap}, (∃ o, s.heap.get? a = some o ∧ H a = none) → Heap.SameBut a s.heap h' → HOk X.prog X.w H h' := fun {a h'} ha hs b ob e => by
    obtain ⟨_, _, hfree⟩ := ha
    refine (I.hok b ob e).stay (fun c w' hc q => (hs.2 c ?_).trans q) (fun _ q => q) fun _ _ q => q
    rintro rfl
    rcases hc with rfl | hc
    · rw [hfree] at e; cases e
    · rw [hfree] at hc; cases hc
  rcases hx with hk | hk
  · refine wpAny_storeName_local hk hn (fun h' hn' hs => ?_) hcls
    obtain ⟨oL, _, _, hoL, _⟩ := id hn
    refine h _ ⟨I.ok, I.os, I.bare, ⟨fun b o e n hb hx => ?_, fun b o e n hb hx => ?_, I.base.free, fun b o e hx => ?_, I.base.tups, I.base.frzs, I.base.tbls⟩, ⟨_, hn', fun j y v' e1 e2 e3 => ?_⟩, fun y c e => ?_, I.free, I.freeC, fun p hp => ?_, tracked ⟨oL, hoL, I.free⟩ hs, by simpa using I.len⟩ ⟨_, hs, .inl rfl⟩
    · exact (hs.2 b (Nat.ne_of_lt (Nat.lt_of_lt_of_le (Heap.lt_size e) I.ok.above))).trans (I.base.keep b o e n hb hx)
    · obtain ⟨sl, e1⟩ := I.base.slot b o e n hb hx
      exact ⟨sl, (hs.2 b (Nat.ne_of_lt (Nat.lt_of_lt_of_le (Heap.lt_size e) I.ok.above))).trans e1⟩
    · obtain ⟨o', e1⟩ := I.base.there b o e hx
      exact ⟨o', (hs.2 b (Nat.ne_of_lt (Nat.lt_of_lt_of_le (Heap.lt_size e) I.ok.above))).trans e1⟩
    · by_cases hj : j = i
      · subst hj
        rw [hi] at e1; cases e1
        rw [List.getElem?_set_self hiσ] at e2
        cases e2
        exact ⟨u, r, .inl ⟨hk, by simp⟩⟩
      · rw [List.getElem?_set_ne (Ne.symm hj)] at e2
        obtain ⟨u', r', q⟩ := hl j y v' e1 e2 e3
        refine ⟨u', r', ?_⟩
        rcases q with ⟨k, e⟩ | ⟨k, c, e, z⟩
        · refine .inl ⟨k, ?_⟩
          have : y ≠ x := fun e => hj (nodup_ix hN e1 (e ▸ hi))
          simp [this, e]
        · exact .inr ⟨k, c, e, z.sameBut hs (cne y c e)⟩
    · obtain ⟨w', z⟩ := I.cell y c e
      exact ⟨w', z.sameBut hs (cne y c e)⟩
    · obtain ⟨e, n, ne, nf, d⟩ := I.pin p hp
      exact ⟨(hs.2 p.1 ne).trans e, n, ne, nf, d⟩
  · have hfn : X.fn x = true := by
      rcases hf with z | z
      · exact z
      · rw [z] at hk; cases hk
    obtain ⟨c, hc⟩ := I.ok.has x (.inl hk)
    obtain ⟨w', z⟩ := I.cell x c hc
    refine wpAny_storeName_cell I.ok.kind hk hc z (fun h' hc' hs => ?_)
    obtain ⟨oc, hoc, hocd⟩ := id z
    refine h { s with heap := h' } ⟨I.ok, I.os, I.bare, ⟨fun b o e n hb hx => ?_, fun b o e n hb hx => ?_, I.base.free, fun b o e hx => ?_, I.base.tups, I.base.frzs, I.base.tbls⟩, ⟨m, hn.sameBut hs (Ne.symm (cne x c hc)), fun j y v' e1 e2 e3 => ?_⟩, fun y c' e => ?_, I.free, I.freeC, fun p hp => ?_, tracked ⟨oc, hoc, I.freeC x c hc⟩ hs, by simpa using I.len⟩ ⟨c, hs, .inr hc⟩
    · exact (hs.2 b (Nat.ne_of_lt (Nat.lt_of_lt_of_le (Heap.lt_size e) (I.ok.cab x c hfn hc)))).trans (I.base.keep b o e n hb hx)
    · obtain ⟨sl, e1⟩ := I.base.slot b o e n hb hx
      exact ⟨sl, (hs.2 b (Nat.ne_of_lt (Nat.lt_of_lt_of_le (Heap.lt_size e) (I.ok.cab x c hfn hc)))).trans e1⟩
    · obtain ⟨o', e1⟩ := I.base.there b o e hx
      exact ⟨o', (hs.2 b (Nat.ne_of_lt (Nat.lt_of_lt_of_le (Heap.lt_size e) (I.ok.cab x c hfn hc)))).trans e1⟩
    · by_cases hj : j = i
      · subst hj
        rw [hi] at e1; cases e1
        rw [List.getElem?_set_self hiσ] at e2
        cases e2
        exact ⟨u, r, .inr ⟨.inl hk, c, hc, hc'⟩⟩
      · rw [List.getElem?_set_ne (Ne.symm hj)] at e2
        obtain ⟨u', r', q⟩ := hl j y v' e1 e2 e3
        refine ⟨u', r', ?_⟩
        rcases q with q | ⟨k, c', e, z'⟩
        · exact .inl q
        · refine .inr ⟨k, c', e, z'.sameBut hs ?_⟩
          rintro rfl
          exact hj (nodup_ix hN e1 (I.ok.inj _ _ _ e hc ▸ hi))
    · by_cases hcc : c' = c
      · subst hcc; exact ⟨_, hc'⟩
      · obtain ⟨w2, z2⟩ := I.cell y c' e
        exact ⟨w2, z2.sameBut hs hcc⟩
    · obtain ⟨e, n, ne, nf, d⟩ := I.pin p hp
      refine ⟨(hs.2 p.1 ?_).trans e, n, ne, nf, d⟩
      intro q
      rw [q, hoc] at e
      have q' : oc = p.2 := Option.some.inj e
      exact d w' (by rw [← q']; exact hocd)
theorem store_ok {M : Model} {A : Around} {E : Value → Shared → Prop} {i : Nat} {x : Str} {v : V} {u : Value} {Q : Unit → Shared → Prop} (I : Inv X pins σ H s) (hN : X.N.Nodup) (hi : X.N[i]? = some x) (hx : Loc X.env.scope x) (r : RelV v u)
    (h : ∀ s', Inv X pins (σ.set i (some v)) H s' → Q () s') (hf : X.fn x = true ∨ X.env.scope.names.lookup x = some .local := by first | exact .inl rfl | exact .inr rfl | assumption) : wpAny M A (storeName X.env x u) Q E s :=
  store_ok2 I hN hi hx r (fun s' I' _ => h s' I') hf
theorem Inv.call' {s' : Shared} {ch : List Addr} (I : Inv X pins σ H s) (ho : s'.os = s.os) (u : Un (frs X.stack) ch H H' s.heap s'.heap) (hok : HOk X.prog X.w H' s'.heap) (hg : AllBare s'.gens)
    (hch : ∀ b ∈ ch, (b ∈ X.ex ∨ X.s₀.heap.objs.size ≤ b) ∧ b ≠ X.env.locals ∧ (∀ x c, X.env.cells.lookup x = some c → c ≠ b) ∧ ∀ p ∈ X.pn ++ pins, p.1 ≠ b) : Inv X pins σ H' s' := by
  obtain ⟨h', g', d', t', o'⟩ := s'
  have e : o' = s.os := ho
  subst e
  exact I.call (g' := g') (t' := t') (d' := d') u hok hg hch
end
noncomputable abbrev XK := Value → Option Addr → Hp → Prop
noncomputable abbrev St := List (Option V)
noncomputable abbrev VK := V → Hp → Prop
noncomputable abbrev TE := St → Hp → VK → Prop
noncomputable abbrev TT := St → Hp → (Bool → Hp → Prop) → Prop
noncomputable abbrev TA := St → Hp → (List V → Hp → Prop) → Prop
structure Ends where
  nx : St → Hp → Prop
  rt : VK
  bk : St → Hp → Prop := fun _ _ => False
  ct : St → Hp → Prop := fun _ _ => False
noncomputable abbrev TS := Ends → St → Hp → Prop
noncomputable def EP (X : Cx) (pins : List (Addr × Obj)) (σ : St) (Q : VK) (u : Value) (s' : Shared) : Prop := ∃ v H', Inv X pins σ H' s' ∧ RelV v u ∧ Q v H'
noncomputable def TP (X : Cx) (pins : List (Addr × Obj)) (σ : St) (Q : Bool → Hp → Prop) (b : Bool) (s' : Shared) : Prop := ∃ H', Inv X pins σ H' s' ∧ Q b H'
noncomputable def AP (X : Cx) (pins : List (Addr × Obj)) (σ : St) (Q : List V → Hp → Prop) (us : List Value) (s' : Shared) : Prop := ∃ vs H', Inv X pins σ H' s' ∧ Vals vs us ∧ Q vs H'
noncomputable def SP (X : Cx) (pins : List (Addr × Obj)) (D : Ends) (f : Flow) (s' : Shared) : Prop :=
  match f with
  | .next => ∃ σ' H', Inv X pins σ' H' s' ∧ D.nx σ' H'
  | .brk => ∃ σ' H', Inv X pins σ' H' s' ∧ D.bk σ' H'
  | .cont => ∃ σ' H', Inv X pins σ' H' s' ∧ D.ct σ' H'
  | .ret u => ∃ v σ' H', Inv X pins σ' H' s' ∧ RelV v u ∧ D.rt v H'
noncomputable def PE (X : Cx) (e : Expr) (t : TE) : Prop :=
  ∀ (pins : List (Addr × Obj)) (s : Shared) (σ : St) (H : Hp) (Q : VK), Inv X pins σ H s → t σ H Q → wpAny (model X.prog X.w) X.A (eval e X.env) (EP X pins σ Q) X.xe s
noncomputable def PT (X : Cx) (e : Expr) (t : TT) : Prop :=
  ∀ (pins : List (Addr × Obj)) (s : Shared) (σ : St) (H : Hp) (Q : Bool → Hp → Prop), Inv X pins σ H s → t σ H Q → wpAny (model X.prog X.w) X.A (isTrue e X.env (eval e X.env)) (TP X pins σ Q) X.xe s
noncomputable def PW (X : Cx) (e : Expr) (t : TT) : Prop :=
  ∀ (whole : Sem Value) (pins : List (Addr × Obj)) (s : Shared) (σ : St) (H : Hp) (Q : Bool → Hp → Prop), Inv X pins σ H s → t σ H Q → wpAny (model X.prog X.w) X.A (isTrue e X.env whole) (TP X pins σ Q) X.xe s
theorem PW.pt {X : Cx} {e : Expr} {t : TT} (h : PW X e t) : PT X e t := h _
noncomputable def PA (X : Cx) (es : List Expr) (t : TA) : Prop :=
  ∀ (pos : Pos) (pins : List (Addr × Obj)) (s : Shared) (σ : St) (H : Hp) (Q : List V → Hp → Prop), Inv X pins σ H s → t σ H Q → wpAny (model X.prog X.w) X.A (spliced (backTo pos (starEach es X.env))) (AP X pins σ Q) X.xe s
noncomputable def PS (X : Cx) (st : Stmt) (t : TS) : Prop :=
  ∀ (pins : List (Addr × Obj)) (s : Shared) (σ : St) (H : Hp) (D : Ends), Inv X pins σ H s → t D σ H → wpAny (model X.prog X.w) X.A (exec st X.env) (SP X pins D) X.xe s
noncomputable def PSs (X : Cx) (st : List Stmt) (t : TS) : Prop :=
  ∀ (pins : List (Addr × Obj)) (s : Shared) (σ : St) (H : Hp) (D : Ends), Inv X pins σ H s → t D σ H → wpAny (model X.prog X.w) X.A (execs st X.env) (SP X pins D) X.xe s
theorem thn {α : Type} {t : Sem α} {Q Q' : α → Shared → Prop} {M : Model} {A : Around} {E : Value → Shared → Prop} {s : Shared} (h : wpAny M A t Q E s) (hQ : ∀ a s, Q a s → Q' a s) : wpAny M A t Q' E s := wpAny_mono h hQ fun _ _ x => x
end L2
namespace L2
open PySem PySem.Spec PyProof.Rows
section
variable {X : Cx}
noncomputable def tVar (i : Nat) : TE := fun σ H Q => ∃ v, σ[i]? = some (some v) ∧ Q v H
noncomputable def tC (v : V) : TE := fun _ H Q => Q v H
theorem pe_var {i : Nat} {x : Str} {pos : Pos} (hN : X.N[i]? = some x) (hv : Vis X.env.scope x) (hd : (x == ("__debug__" : Str)) = false := by decide) (hcd : (x == ("__classdict__" : Str)) = false := by decide) : PE X (.Name x pos) (tVar i) := by
  intro pins s σ H Q I h
  obtain ⟨v, e, h⟩ := h
  obtain ⟨m, hn, hl⟩ := I.loc
  obtain ⟨u, r, l⟩ := hl i x v hN e hv
  have fin : EP X pins σ Q u s := ⟨v, H, I, r, h⟩
  rcases l with ⟨hk, hm⟩ | ⟨hk, c, hc, hcell⟩
  · exact wpAny_Name (wpAny_loadName_local I.ok.kind hk hn hm fin) hd
  · rcases hk with hk | hk
    · exact wpAny_Name (wpAny_loadName_cell I.ok.kind hk hc hcell fin) hd
    · exact wpAny_Name (wpAny_loadName_free I.ok.kind hk hc hcell fin hcd) hd
theorem pe_int {i j pos} : PE X (.Constant (.int i) j pos) (tC (.int i)) := fun _ _ _ H _ I h => wpAny_Constant_int ⟨.int i, H, I.tok _, ⟨_, rfl⟩, h⟩
theorem pe_bl {b j pos} : PE X (.Constant (.bool b) j pos) (tC (.bl b)) := fun _ _ _ H _ I h => Constant_bool ⟨.bl b, H, I, rfl, h⟩
theorem pe_non {j pos} : PE X (.Constant .none j pos) (tC .non) := fun _ _ _ H _ I h => Constant_none ⟨.non, H, I, rfl, h⟩
theorem pe_str {x j pos} : PE X (.Constant (.str x) j pos) (tC (.str x)) := fun _ _ _ H _ I h => Calls.Constant_str ⟨.str x, H, I.tok _, ⟨_, rfl⟩, h⟩
noncomputable def Gl (X : Cx) (x : Str) : Prop := X.env.kindOf x = some .globalImplicit
theorem ld_glob {E : Value → Shared → Prop} {pins : List (Addr × Obj)} {s : Shared} {σ : St} {H : Hp} {x : Str} {u : Value} {pos : Pos} {Q : Value → Shared → Prop} (I : Inv X pins σ H s) (hg : Gl X x) (hm : X.mg x = some u) (h : Q u s)
    (hd : (x == ("__debug__" : Str)) = false := by decide) : wpAny (model X.prog X.w) X.A (eval (.Name x pos) X.env) Q E s :=
  Calls.Name_function_global I.ok.kind hg (Calls.loadGlobal_global (by rw [I.ok.glob]; exact I.mod.glob.keeps I.bk) hm h) hd
theorem ld_blt {E : Value → Shared → Prop} {pins : List (Addr × Obj)} {s : Shared} {σ : St} {H : Hp} {x : Str} {u : Value} {pos : Pos} {Q : Value → Shared → Prop} (I : Inv X pins σ H s) (hg : Gl X x) (hm : X.mg x = none) (hv : bootBuiltins x = some u) (h : Q u s)
    (hn : x ≠ "__name__" := by decide) (hd : (x == ("__debug__" : Str)) = false := by decide) : wpAny (model X.prog X.w) X.A (eval (.Name x pos) X.env) Q E s := by
  obtain ⟨mb, h1, h2⟩ := I.mod.blt
  exact Calls.Name_function_global I.ok.kind hg (Calls.loadGlobal_builtin (by rw [I.ok.glob]; exact I.mod.glob.keeps I.bk) hm (by rw [I.ok.blt]; exact h1.keeps I.bk) ((h2 x hn).trans hv) h) hd
theorem pe_glob {x : Str} {v : V} {u : Value} {pos : Pos} (hg : Gl X x) (hm : X.mg x = some u) (r : RelV v u) (hd : (x == ("__debug__" : Str)) = false := by decide) : PE X (.Name x pos) (tC v) :=
  fun _ _ _ H _ I h => ld_glob I hg hm ⟨v, H, I, r, h⟩ hd
theorem pe_bltn {x : Str} {v : V} {u : Value} {pos : Pos} (hg : Gl X x) (hm : X.mg x = none) (hv : bootBuiltins x = some u) (r : RelV v u) (hn : x ≠ "__name__" := by decide) (hd : (x == ("__debug__" : Str)) = false := by decide) : PE X (.Name x pos) (tC v) :=
  fun _ _ _ H _ I h => ld_blt I hg hm hv ⟨v, H, I, r, h⟩ hn hd
variable {a b : Expr} {ta tb : TE} {pos : Pos}
variable {tA tB' : TT} {rest : List Expr}
noncomputable def tAnd (t u : TT) : TT := fun σ H Q => t σ H fun c H1 => if c = true then u σ H1 Q else Q false H1
noncomputable def tOr (t u : TT) : TT := fun σ H Q => t σ H fun c H1 => if c = true then Q true H1 else u σ H1 Q
noncomputable def tNot (t : TT) : TT := fun σ H Q => t σ H fun c H1 => Q (!c) H1
theorem pw_and1 (ha : PT X a tA) : PW X (.BoolOp .And [a] pos) tA := by
  intro wh pins s σ H Q I h
  refine isTrue_and (thn (ha pins s σ H Q I h) fun c s1 e => ?_)
  cases c with
  | true => exact isTrue_and_nil e
  | false => exact e
theorem pw_or1 (ha : PT X a tA) : PW X (.BoolOp .Or [a] pos) tA := by
  intro wh pins s σ H Q I h
  refine isTrue_or (thn (ha pins s σ H Q I h) fun c s1 e => ?_)
  cases c with
  | false => exact isTrue_or_nil e
  | true => exact e
theorem pw_and (ha : PT X a tA) (hb : PW X (.BoolOp .And (b :: rest) pos) tB') : PW X (.BoolOp .And (a :: b :: rest) pos) (tAnd tA tB') := by
  intro wh pins s σ H Q I h
  refine isTrue_and (thn (ha pins s σ H _ I h) fun c s1 ⟨H1, I1, q1⟩ => ?_)
  cases c with
  | true => exact hb wh pins s1 σ H1 Q I1 q1
  | false => exact ⟨H1, I1, q1⟩
theorem pw_or (ha : PT X a tA) (hb : PW X (.BoolOp .Or (b :: rest) pos) tB') : PW X (.BoolOp .Or (a :: b :: rest) pos) (tOr tA tB') := by
  intro wh pins s σ H Q I h
  refine isTrue_or (thn (ha pins s σ H _ I h) fun c s1 ⟨H1, I1, q1⟩ => ?_)
  cases c with
  | true => exact ⟨H1, I1, q1⟩
  | false => exact hb wh pins s1 σ H1 Q I1 q1
theorem pt_not (ha : PT X a tA) : PT X (.UnaryOp .Not a pos) (tNot tA) := by
  intro pins s σ H Q I h
  exact isTrue_not (ha pins s σ H (fun c H1 => Q (!c) H1) I h)
noncomputable def tAndV (ta tb : TE) : TE := fun σ H Q => ta σ H fun x H1 => ∃ c, x = .bl c ∧ if c = true then tb σ H1 Q else Q (.bl false) H1
noncomputable def tOrV (ta tb : TE) : TE := fun σ H Q => ta σ H fun x H1 => ∃ c, x = .bl c ∧ if c = true then Q (.bl true) H1 else tb σ H1 Q
theorem pe_one {op} {t : TE} (h : PE X a t) : PE X (.BoolOp op [a] pos) t := fun pins s σ H Q I hw => BoolOp_one (h pins s σ H Q I hw)
theorem pe_and (ha : PE X a ta) (hb : PE X (.BoolOp .And (b :: rest) pos) tb) : PE X (.BoolOp .And (a :: b :: rest) pos) (tAndV ta tb) := by
  intro pins s σ H Q I h
  refine BoolOp_and (thn (ha pins s σ H _ I h) fun v s1 ⟨x, H1, I1, r1, q1⟩ => ?_)
  obtain ⟨c, rfl, q1⟩ := q1
  cases r1
  refine wpAny_truthy_bool ?_
  cases c with
  | true => exact hb pins s1 σ H1 Q I1 q1
  | false => exact ⟨.bl false, H1, I1, rfl, q1⟩
theorem pe_or (ha : PE X a ta) (hb : PE X (.BoolOp .Or (b :: rest) pos) tb) : PE X (.BoolOp .Or (a :: b :: rest) pos) (tOrV ta tb) := by
  intro pins s σ H Q I h
  refine BoolOp_or (thn (ha pins s σ H _ I h) fun v s1 ⟨x, H1, I1, r1, q1⟩ => ?_)
  obtain ⟨c, rfl, q1⟩ := q1
  cases r1
  refine wpAny_truthy_bool ?_
  cases c with
  | false => exact hb pins s1 σ H1 Q I1 q1
  | true => exact ⟨.bl true, H1, I1, rfl, q1⟩
end
end L2
namespace L2
open PySem PySem.Spec PyProof.Rows
noncomputable def SqL (K : Fg) (H : Hp) (a : Addr) (xs : List V) : Prop :=
  Rd H a (.lst xs) ∨
    ∃ (o : Obj) (its : Array Value) (n : Nat), K.lookup a = some o ∧ o.cls = .type "list" ∧ o.dict = none ∧ o.data = .seq its n ∧ its.size ≤ sizeLine ∧ Vals xs its.toList
noncomputable def SqT (K : Fg) (H : Hp) (a : Addr) (xs : List V) : Prop :=
  Rd H a (.tup xs) ∨
    ∃ (o : Obj) (its : Array Value) (n : Nat), K.lookup a = some o ∧ o.cls = .type "tuple" ∧ o.data = .seq its n ∧ its.size ≤ sizeLine ∧ Vals xs its.toList
noncomputable def absV : Value → Option V
  | .none => some .non
  | .bool b => some (.bl b)
  | .int i _ => some (.int i)
  | .str x _ => some (.str x)
  | .bytes b _ => some (.byt b)
  | .float b _ => some (.flt b)
  | .ref a => some (.ref a)
  | .type n => some (.ty n)
  | _ => none
theorem RelV.abs {x : V} {u : Value} (r : RelV x u) : absV u = some x := by
  cases x with
  | non => cases r; rfl
  | bl _ => cases r; rfl
  | int _ => obtain ⟨t, rfl⟩ := r; rfl
  | str _ => obtain ⟨t, rfl⟩ := r; rfl
  | byt _ => obtain ⟨t, rfl⟩ := r; rfl
  | flt _ => obtain ⟨t, rfl⟩ := r; rfl
  | ref _ => cases r; rfl
  | ty _ => cases r; rfl
theorem RelV.inj {x y : V} {u : Value} (r : RelV x u) (q : RelV y u) : x = y := Option.some.inj (r.abs.symm.trans q.abs)
theorem Vals.inj : ∀ {xs ys : List V} {us : List Value}, Vals xs us → Vals ys us → xs = ys
  | _, _, _, .nil, .nil => rfl
  | _, _, _, .cons r t, .cons r' t' => by rw [r.inj r', Vals.inj t t']
section
variable {X : Cx} {pins : List (Addr × Obj)} {σ : St} {H : Hp} {s : Shared} {a : Addr} {xs ys : List V}
theorem SqL.of {K : Fg} (h : H a = some (.lst xs)) : SqL K H a xs := .inl (.inl h)
theorem SqT.of {K : Fg} (h : H a = some (.tup xs)) : SqT K H a xs := .inl (.inl h)
theorem Inv.list (I : Inv X pins σ H s) (h : SqL X.K H a xs) : ∃ its : List Value, Vals xs its ∧ PlainL s.heap a its.toArray ∧ xs.length ≤ sizeLine := by
  rcases h with h | ⟨o, its, n, hk, hc, hd, hs, hz, r⟩
  · obtain ⟨z, its, n, r, e⟩ := h.ok I.hok
    exact ⟨its, r, ⟨_, n, e, rfl, rfl, rfl⟩, z⟩
  · refine ⟨its.toList, r, ⟨o, n, I.kIn a o hk, hc, hd, by simpa using hs⟩, ?_⟩
    have e := r.length
    simp only [Array.length_toList] at e
    omega
theorem Inv.tuple (I : Inv X pins σ H s) (h : SqT X.K H a xs) : ∃ its : List Value, Vals xs its ∧ IsTup s.heap a its.toArray ∧ xs.length ≤ sizeLine := by
  rcases h with h | ⟨o, its, n, hk, hc, hs, hz, r⟩
  · obtain ⟨z, its, r, p⟩ := h.ok I.hok
    exact ⟨its, r, p, z⟩
  · refine ⟨its.toList, r, ⟨o, I.kIn a o hk, hc, n, by simpa using hs⟩, ?_⟩
    have e := r.length
    simp only [Array.length_toList] at e
    omega
theorem Inv.list_inj (I : Inv X pins σ H s) (h : SqL X.K H a xs) (h' : SqL X.K H a ys) : xs = ys := by
  obtain ⟨its, r, ⟨o, n, e, _, _, d⟩, _⟩ := I.list h
  obtain ⟨its', r', ⟨o', n', e', _, _, d'⟩, _⟩ := I.list h'
  rw [e] at e'; cases e'
  rw [d] at d'
  injection d' with d1 _
  have : its = its' := by simpa using congrArg Array.toList d1
  subst this
  exact r.inj r'
theorem Inv.tuple_inj (I : Inv X pins σ H s) (h : SqT X.K H a xs) (h' : SqT X.K H a ys) : xs = ys := by
  obtain ⟨its, r, ⟨o, e, _, n, d⟩, _⟩ := I.tuple h
  obtain ⟨its', r', ⟨o', e', _, n', d'⟩, _⟩ := I.tuple h'
  rw [e] at e'; cases e'
  rw [d] at d'
  injection d' with d1 _
  have : its = its' := by simpa using congrArg Array.toList d1
  subst this
  exact r.inj r'
end
noncomputable abbrev Cx.wish (X : Cx) (E : Value → Shared → Prop) : Cx := { X with xe := E }
noncomputable abbrev Cx.nox (X : Cx) : Cx := X.wish fun _ _ => False
theorem Cx.Ok.wish {X : Cx} (ok : X.Ok) (E : Value → Shared → Prop) : (X.wish E).Ok :=
  ⟨ok.mod, ok.kind, ok.glob, ok.blt, ok.above, ok.inj, ok.has, ok.cab, ok.hd, ok.frames, ok.stk, ok.exf, ok.bs, ok.bsz, ok.noex, ok.exfs, ok.funs, ok.frf⟩
theorem Cx.Ok.unwish {X : Cx} {E : Value → Shared → Prop} (ok : (X.wish E).Ok) : X.Ok :=
  ⟨ok.mod, ok.kind, ok.glob, ok.blt, ok.above, ok.inj, ok.has, ok.cab, ok.hd, ok.frames, ok.stk, ok.exf, ok.bs, ok.bsz, ok.noex, ok.exfs, ok.funs, ok.frf⟩
section
variable {X : Cx} {pins : List (Addr × Obj)} {σ : St} {H : Hp} {s : Shared} {E : Value → Shared → Prop}
theorem Inv.wish (I : Inv X pins σ H s) (E : Value → Shared → Prop) : Inv (X.wish E) pins σ H s := ⟨I.ok.wish E, I.os, I.bare, I.base, I.loc, I.cell, I.free, I.freeC, I.pin, I.hok, I.len⟩
theorem Inv.unwish (I : Inv (X.wish E) pins σ H s) : Inv X pins σ H s := ⟨I.ok.unwish, I.os, I.bare, I.base, I.loc, I.cell, I.free, I.freeC, I.pin, I.hok, I.len⟩
theorem SP.unwish {D : Ends} {f : Flow} {s' : Shared} (h : SP (X.wish E) pins D f s') : SP X pins D f s' := by
  cases f with
  | next => obtain ⟨σ', H', I, q⟩ := h; exact ⟨σ', H', I.unwish, q⟩
  | brk => obtain ⟨σ', H', I, q⟩ := h; exact ⟨σ', H', I.unwish, q⟩
  | cont => obtain ⟨σ', H', I, q⟩ := h; exact ⟨σ', H', I.unwish, q⟩
  | ret u => obtain ⟨v, σ', H', I, r, q⟩ := h; exact ⟨v, σ', H', I.unwish, r, q⟩
theorem PSs.nox {st : List Stmt} {t : TS} (h : PSs X.nox st t) : PSs X st t := fun pins s σ H D I hw =>
  wpAny_mono (h pins s σ H D (I.wish _) hw) (fun _ _ q => q.unwish) fun _ _ z => False.elim z
end
section
variable {X : Cx} {st : Stmt} {rest : List Stmt} {t u : TS} {e : Expr} {te : TE} {pos : Pos}
noncomputable def tNext : TS := fun D σ H => D.nx σ H
noncomputable def tSeq (t u : TS) : TS := fun D σ H => t { D with nx := u D } σ H
theorem pss_nil : PSs X [] tNext := fun _ _ σ H _ I h => wpAny_execs_nil ⟨σ, H, I, h⟩
theorem pss_cons (h1 : PS X st t) (h2 : PSs X rest u) : PSs X (st :: rest) (tSeq t u) := by
  intro pins s σ H D I h
  refine wpAny_execs_cons (thn (h1 pins s σ H { D with nx := u D } I h) fun f s1 q => ?_)
  cases f with
  | next =>
    obtain ⟨σ', H', I', q⟩ := q
    exact h2 pins s1 σ' H' D I' q
  | ret v => exact q
  | brk => exact q
  | cont => exact q
theorem pss_one (h1 : PS X st t) : PSs X [st] t := by
  intro pins s σ H D I h
  refine wpAny_execs_cons (thn (h1 pins s σ H D I h) fun f s1 q => ?_)
  cases f with
  | next => exact wpAny_execs_nil q
  | ret v => exact q
  | brk => exact q
  | cont => exact q
theorem Inv.quiet {pins : List (Addr × Obj)} {σ : St} {H : Hp} {s : Shared} (I : Inv X pins σ H s) : interactive X.env = false := by simp [interactive, I.ok.kind]
noncomputable def tDrop (te : TE) : TS := fun D σ H => te σ H fun _ H1 => D.nx σ H1
theorem ps_expr (he : PE X e te) (hs : swapsWith e none pos.line X.env = pure false := by rfl) : PS X (.Expr e pos) (tDrop te) := by
  intro pins s σ H D I h
  exact wpAny_Expr_any (thn (he pins s σ H _ I h) fun v s1 ⟨x, H1, I1, r1, q1⟩ => ⟨σ, H1, I1, q1⟩) I.quiet hs
noncomputable def tRet (te : TE) : TS := fun D σ H => te σ H D.rt
theorem ps_ret (he : PE X e te) : PS X (.Return (some e) pos) (tRet te) := by
  intro pins s σ H D I h
  exact wpAny_Return_some (thn (he pins s σ H _ I h) fun v s1 ⟨x, H1, I1, r1, q1⟩ => ⟨x, σ, H1, I1, r1, q1⟩)
noncomputable def tIfS (c : TT) (t u : TS) : TS := fun D σ H => c σ H fun b H1 => if b = true then t D σ H1 else u D σ H1
theorem ps_if {c : Expr} {a b : List Stmt} {tc : TT} (hc : PT X c tc) (ha : PSs X a t) (hb : PSs X b u) : PS X (.If c a b pos) (tIfS tc t u) := by
  intro pins s σ H D I h
  refine wpAny_If (thn (hc pins s σ H _ I h) fun d s1 ⟨H1, I1, q1⟩ => ?_)
  cases d with
  | true => exact ha pins s1 σ H1 D I1 q1
  | false => exact hb pins s1 σ H1 D I1 q1
end
noncomputable abbrev TG := V → St → Hp → (St → Hp → Prop) → Prop
noncomputable abbrev TGs := List V → St → Hp → (St → Hp → Prop) → Prop
noncomputable def PG (X : Cx) (target : Expr) (t : TG) : Prop :=
  ∀ (pins : List (Addr × Obj)) (s : Shared) (σ : St) (H : Hp) (v : V) (u : Value) (Q : St → Hp → Prop), Inv X pins σ H s → RelV v u → t v σ H Q →
    wpAny (model X.prog X.w) X.A (assign target X.env u) (fun _ s' => ∃ σ' H', Inv X pins σ' H' s' ∧ Q σ' H') X.xe s
noncomputable def PGs (X : Cx) (ts : List Expr) (t : TGs) : Prop :=
  ∀ (pins : List (Addr × Obj)) (s : Shared) (σ : St) (H : Hp) (vs : List V) (us : List Value) (Q : St → Hp → Prop), Inv X pins σ H s → Vals vs us → t vs σ H Q →
    wpAny (model X.prog X.w) X.A (assignInOrder ((assignEach ts X.env).map (·.2)) us) (fun _ s' => ∃ σ' H', Inv X pins σ' H' s' ∧ Q σ' H') X.xe s
section
variable {X : Cx} {pos : Pos}
noncomputable def gName (i : Nat) : TG := fun v σ H Q => Q (σ.set i (some v)) H
theorem pg_name {i : Nat} {x : Str} (hN : X.N.Nodup) (hi : X.N[i]? = some x) (hx : Loc X.env.scope x) (hf : X.fn x = true ∨ X.env.scope.names.lookup x = some .local := by first | exact .inl rfl | exact .inr rfl | assumption) : PG X (.Name x pos) (gName i) := by
  intro pins s σ H v u Q I r h
  exact wpAny_assign_Name (store_ok I hN hi hx r (fun s' I' => ⟨_, H, I', h⟩) hf)
noncomputable def gNil : TGs := fun vs σ H Q => vs = [] ∧ Q σ H
noncomputable def gCons (t : TG) (u : TGs) : TGs := fun vs σ H Q => ∃ v r, vs = v :: r ∧ t v σ H fun σ' H' => u r σ' H' Q
theorem pgs_nil : PGs X [] gNil := by
  intro pins s σ H vs us Q I r h
  obtain ⟨e, h⟩ := h
  subst e
  cases r
  exact assignInOrder_nil ⟨σ, H, I, h⟩
theorem pgs_cons {e : Expr} {es : List Expr} {t : TG} {u : TGs} (h1 : PG X e t) (h2 : PGs X es u)
    (hs : (assignEach (e :: es) X.env).map (·.2) = assign e X.env :: (assignEach es X.env).map (·.2) := by rfl) : PGs X (e :: es) (gCons t u) := by
  intro pins s σ H vs us Q I r h
  obtain ⟨v, vr, e1, h⟩ := h
  subst e1
  cases r with
  | cons r rr =>
    rw [hs]
    refine assignInOrder_cons (thn (h1 pins s σ H _ _ _ I r h) fun _ s1 ⟨σ1, H1, I1, q1⟩ => ?_)
    exact h2 pins s1 σ1 H1 _ _ Q I1 rr q1
noncomputable def gTup (K : Fg) (n : Nat) (t : TGs) : TG := fun v σ H Q => ∃ a xs, v = .ref a ∧ SqT K H a xs ∧ xs.length = n ∧ t xs σ H Q
theorem pg_tup {es : List Expr} {k : Nat} {t : TGs} {n : Nat} (hc : X.calm = true) (h : PGs X es t)
    (hn : (assignEach es X.env).length = n := by rfl) (hst : (assignEach es X.env).findIdx? (·.1) = none := by rfl) : PG X (.Tuple es k pos) (gTup X.K n t) := by
  intro pins s σ H v u Q I r hw
  obtain ⟨a, xs, e1, hq, hl, hw⟩ := hw
  subst e1
  cases r
  obtain ⟨its, rv, ht, hz⟩ := I.tuple hq
  refine assign_Tuple_tuple (I.ok.hd hc) ht (by simp [hn, ← hl, rv.length]) hst fun h' hx => ?_
  have I1 : Inv X pins σ H { s with heap := h' } := I.kept (t' := s.toks) fun b o e => hx b o (Nat.ne_of_lt (Heap.lt_size e)) e
  exact h pins _ σ H xs _ Q I1 (by simpa using rv) hw
noncomputable def tAsg (te : TE) (g : TG) : TS := fun D σ H => te σ H fun x H1 => g x σ H1 D.nx
theorem ps_asg {tg e : Expr} {te : TE} {g : TG} (he : PE X e te) (hg : PG X tg g) (hs : swapsWithSole [tg] e pos.line X.env = pure false := by rfl) (hw : swappedStores [tg] e X.env = pure none := by rfl)
    (h1 : (assignEach [tg] X.env).map (·.2) = [assign tg X.env] := by rfl) : PS X (.Assign [tg] e pos) (tAsg te g) := by
  intro pins s σ H D I h
  refine wpAny_Assign_stores (thn (he pins s σ H _ I h) fun v s1 ⟨x, H1, I1, r1, q1⟩ => ?_) hs hw
  rw [h1]
  exact thn (hg pins s1 σ H1 x v _ I1 r1 q1) fun _ s2 q => q
theorem ps_set {i : Nat} {x : Str} {e : Expr} {te : TE} {pos' : Pos} (hN : X.N.Nodup) (hi : X.N[i]? = some x) (hx : Loc X.env.scope x) (he : PE X e te) (hs : swapsWith e (some (.Name x pos')) pos.line X.env = pure false := by rfl) (hf : X.fn x = true ∨ X.env.scope.names.lookup x = some .local := by first | exact .inl rfl | exact .inr rfl | assumption) :
    PS X (.Assign [.Name x pos'] e pos) (tAsg te (gName i)) := by
  intro pins s σ H D I h
  refine wpAny_Assign_Name (thn (he pins s σ H _ I h) fun v s1 ⟨y, H1, I1, r1, q1⟩ => ?_) hs
  exact store_ok I1 hN hi hx r1 (fun s2 I2 => ⟨_, H1, I2, q1⟩) hf
end
structure It where
  go : Nat → Hp → Prop
  yld : Nat → Hp → V → Hp → Prop
  stop : Nat → Hp → Prop
noncomputable def FpOk (X : Cx) (pins : List (Addr × Obj)) (H : Hp) (b : Addr) : Prop :=
  H b = none ∧ b ≠ X.env.locals ∧ b ∉ X.fs ∧ (b ∈ X.ex ∨ X.s₀.heap.objs.size ≤ b) ∧ (∀ x c, X.env.cells.lookup x = some c → c ≠ b) ∧ ∀ p ∈ X.pn ++ pins, p.1 ≠ b
theorem Inv.fpOk {X : Cx} {pins : List (Addr × Obj)} {σ : St} {H H' : Hp} {s : Shared} {b : Addr} (I : Inv X pins σ H s) (hb : s.heap.objs.size ≤ b) (hn : H' b = none) : FpOk X pins H' b := by
  refine ⟨hn, Nat.ne_of_gt (Nat.lt_of_lt_of_le I.lt hb), I.nofs hb, .inr (Nat.le_trans I.sz hb), fun x c e z => ?_, fun p hp z => ?_⟩
  · obtain ⟨v, q⟩ := I.cell x c e
    exact absurd (Nat.lt_of_lt_of_le q.lt (by rw [z]; exact hb)) (Nat.lt_irrefl _)
  · exact absurd (Nat.lt_of_lt_of_le (Heap.lt_size (I.pin p hp).1) (by rw [z]; exact hb)) (Nat.lt_irrefl _)
structure Turn (P : Program) (w : World) (K : Fg) (tg : Expr) (J : It) (fp : List Addr) (it : Addr) (tn : Nat → Heap → Prop) : Prop where
  mem : it ∈ fp
  obj : ∀ i h, tn i h → ∀ b ∈ fp, ∃ o, h.get? b = some o ∧ ∀ v, o.data ≠ .cell v
  keep : ∀ i h h', tn i h → (∀ b ∈ fp, ∀ o, h.get? b = some o → h'.get? b = some o) → tn i h'
  item : ∀ (X : Cx), X.prog = P → X.w = w → X.K = K → X.calm = true → ∀ (i : Nat) (pins : List (Addr × Obj)) (s : Shared) (σ : St) (H : Hp) (E : Value → Shared → Prop), Inv X pins σ H s → (∀ b ∈ fp, FpOk X pins H b) → tn i s.heap → J.go i H →
    wpAny (model P w) X.A (pyNext (.ref it)) (fun r s1 => ∃ u, r = some u ∧
      wpAny (model P w) X.A (letOwnedTupleGo tg (.ref it) u) (fun _ s2 => ∃ x H', Inv X pins σ H' s2 ∧ RelV x u ∧ J.yld i H x H' ∧ tn (i + 1) s2.heap ∧ ∀ b ∈ fp, H' b = none) E s1) E s
  done : ∀ (X : Cx), X.prog = P → X.w = w → X.K = K → X.calm = true → ∀ (i : Nat) (pins : List (Addr × Obj)) (s : Shared) (σ : St) (H : Hp) (E : Value → Shared → Prop), Inv X pins σ H s → (∀ b ∈ fp, FpOk X pins H b) → tn i s.heap → J.stop i H →
    wpAny (model P w) X.A (pyNext (.ref it)) (fun r s1 => r = none ∧ Inv X pins σ H s1) E s
  self : ∀ (A : Around) (i : Nat) (s : Shared) (Q : Value → Shared → Prop) (E : Value → Shared → Prop), tn i s.heap → Q (.ref it) s → wpAny (model P w) A (pyIter (.ref it)) Q E s
noncomputable abbrev TI := St → Hp → (It → Hp → Prop) → Prop
noncomputable def PIE (X : Cx) (pins : List (Addr × Obj)) (σ : St) (tg : Expr) (R : It → Hp → Prop) (itv : Value) (s2 : Shared) : Prop :=
  ∃ (it : Addr) (fp : List Addr) (tn : Nat → Heap → Prop) (J : It) (H' : Hp), itv = .ref it ∧ Inv X pins σ H' s2 ∧ Turn X.prog X.w X.K tg J fp it tn ∧ tn 0 s2.heap ∧ (∀ b ∈ fp, FpOk X pins H' b) ∧ R J H'
noncomputable def PI (X : Cx) (tg iter : Expr) (wi : TI) : Prop :=
  ∀ (pins : List (Addr × Obj)) (s : Shared) (σ : St) (H : Hp) (R : It → Hp → Prop), Inv X pins σ H s → wi σ H R →
    wpAny (model X.prog X.w) X.A (eval iter X.env) (fun v s1 => wpAny (model X.prog X.w) X.A (pyIter v) (PIE X pins σ tg R) X.xe s1) X.xe s
theorem go_of {M : Model} {A : Around} {E : Value → Shared → Prop} {s : Shared} {tg : Expr} {it : Addr} {u : Value} {o : Obj} {n : String} {vs : Array Value} {Q : Unit → Shared → Prop} (ho : s.heap.get? it = some o) (hc : o.cls = .type n) (hd : o.data = .fields vs)
    (hn : ["enumerate", "zip", "dict_itemiterator", "dict_reverseitemiterator", "odict_iterator", "itertools.zip_longest", "itertools.pairwise"].contains n = false) (hQ : Q () s) : wpAny M A (letOwnedTupleGo tg (.ref it) u) Q E s := by
  unfold letOwnedTupleGo
  cases tg <;> first
    | exact wpAny_pure hQ
    | (cases u <;> first
        | exact wpAny_pure hQ
        | (refine wpAny_bind (wpAny_load ho ?_)
           rw [hc, hd]
           show wpAny M A (if (["enumerate", "zip", "dict_itemiterator", "dict_reverseitemiterator", "odict_iterator", "itertools.zip_longest", "itertools.pairwise"].contains n && vs[0]? == some (rawInt _)) = true then _ else _) Q E s
           rw [if_neg (by intro h; rw [hn, Bool.false_and] at h; cases h)]
           exact wpAny_pure hQ))
noncomputable def Itl (K : Fg) (a : Addr) : It :=
  ⟨fun i H => ∃ xs x, SqL K H a xs ∧ xs[i]? = some x, fun i H x H' => H' = H ∧ ∀ xs, SqL K H a xs → xs[i]? = some x, fun i H => ∃ xs, SqL K H a xs ∧ xs.length ≤ i⟩
noncomputable def Itt (K : Fg) (a : Addr) : It :=
  ⟨fun i H => ∃ xs x, SqT K H a xs ∧ xs[i]? = some x, fun i H x H' => H' = H ∧ ∀ xs, SqT K H a xs → xs[i]? = some x, fun i H => ∃ xs, SqT K H a xs ∧ xs.length ≤ i⟩
noncomputable def Itr (lo : Int) (n : Nat) : It := ⟨fun i _ => i < n, fun i H x H' => H' = H ∧ x = .int (lo + i), fun i _ => n ≤ i⟩
theorem turn_list {P : Program} {w : World} {K : Fg} {tg : Expr} (a it : Addr) : Turn P w K tg (Itl K a) [it] it (fun i h => h.IsListIter it a i) where
  mem := by simp
  obj := fun i h st b hb => by
    have e : b = it := by simpa using hb
    subst e
    obtain ⟨o, e, c, d⟩ := st
    exact ⟨o, e, fun v z => by rw [d] at z; cases z⟩
  keep := fun i h h' st k => st.at fun o e => k it (by simp) o e
  item := by
    intro X hP hw hK hc i pins s σ H E I hf st hg
    subst hP hw hK
    obtain ⟨xs, x, hq, hx⟩ := hg
    obtain ⟨its, rv, p, hz⟩ := I.list hq
    obtain ⟨u, hu, ru⟩ := rv.get hx
    obtain ⟨f0, f1, f2, f3, f4, f5⟩ := hf it (by simp)
    refine wpAny_pyNext_list_item st p.isList (x := u) (by simpa using hu) fun h' st' sb => ?_
    have I1 : Inv X pins σ H { s with heap := h' } := I.turned (t' := s.toks) (fun b o hb e => (sb.2 b hb).trans e) f0 f1 f3 f4 f5
    obtain ⟨o, e, c, d⟩ := id st'
    exact ⟨u, rfl, go_of (s := { s with heap := h' }) e c d (by decide) ⟨x, H, I1, ru, ⟨rfl, fun ys hy => by rw [I.list_inj hy hq]; exact hx⟩, st', fun b hb => (hf b hb).1⟩⟩
  done := by
    intro X hP hw hK hc i pins s σ H E I hf st hg
    subst hP hw hK
    obtain ⟨xs, hq, hx⟩ := hg
    obtain ⟨its, rv, p, hz⟩ := I.list hq
    obtain ⟨f0, f1, f2, f3, f4, f5⟩ := hf it (by simp)
    have hl := rv.length
    exact wpAny_pyNext_list_end (I.ok.hd hc) st p.isList (by simp; omega) fun h' eb => ⟨rfl, I.turned (t' := s.toks) (fun b o hb e => eb b o hb e) f0 f1 f3 f4 f5⟩
  self := fun _ _ _ _ _ st h => wpAny_pyIter_listiter st h
theorem turn_tuple {P : Program} {w : World} {K : Fg} {tg : Expr} (a it : Addr) : Turn P w K tg (Itt K a) [it] it (fun i h => h.IsTupleIter it a i) where
  mem := by simp
  obj := fun i h st b hb => by
    have e : b = it := by simpa using hb
    subst e
    obtain ⟨o, e, c, d⟩ := st
    exact ⟨o, e, fun v z => by rw [d] at z; cases z⟩
  keep := fun i h h' st k => st.at fun o e => k it (by simp) o e
  item := by
    intro X hP hw hK hc i pins s σ H E I hf st hg
    subst hP hw hK
    obtain ⟨xs, x, hq, hx⟩ := hg
    obtain ⟨its, rv, p, hz⟩ := I.tuple hq
    obtain ⟨u, hu, ru⟩ := rv.get hx
    obtain ⟨f0, f1, f2, f3, f4, f5⟩ := hf it (by simp)
    refine wpAny_pyNext_tuple_item st (show s.heap.IsTuple a its.toArray from p) (x := u) (by simpa using hu) fun h' st' sb => ?_
    have I1 : Inv X pins σ H { s with heap := h' } := I.turned (t' := s.toks) (fun b o hb e => (sb.2 b hb).trans e) f0 f1 f3 f4 f5
    obtain ⟨o, e, c, d⟩ := id st'
    exact ⟨u, rfl, go_of (s := { s with heap := h' }) e c d (by decide) ⟨x, H, I1, ru, ⟨rfl, fun ys hy => by rw [I.tuple_inj hy hq]; exact hx⟩, st', fun b hb => (hf b hb).1⟩⟩
  done := by
    intro X hP hw hK hc i pins s σ H E I hf st hg
    subst hP hw hK
    obtain ⟨xs, hq, hx⟩ := hg
    obtain ⟨its, rv, p, hz⟩ := I.tuple hq
    obtain ⟨f0, f1, f2, f3, f4, f5⟩ := hf it (by simp)
    have hl := rv.length
    exact wpAny_pyNext_tuple_end (I.ok.hd hc) st (show s.heap.IsTuple a its.toArray from p) (by simp; omega) fun h' eb => ⟨rfl, I.turned (t' := s.toks) (fun b o hb e => eb b o hb e) f0 f1 f3 f4 f5⟩
  self := fun _ _ _ _ _ st h => wpAny_pyIter_tupleiter st h
theorem turn_range {P : Program} {w : World} {K : Fg} {tg : Expr} (it : Addr) (lo : Int) (n : Nat) : Turn P w K tg (Itr lo n) [it] it (fun i h => IsRangeIter h it (lo + (i : Nat) * 1) ((n : Int) - (i : Nat)) 1) where
  mem := by simp
  obj := fun i h st b hb => by
    have e : b = it := by simpa using hb
    subst e
    exact ⟨_, st, fun v z => by
      have z' : Data.fields _ = Data.cell v := z
      cases z'⟩
  keep := fun i h h' st k => k it (by simp) _ st
  item := by
    intro X hP hw hK hc i pins s σ H E I hf st hg
    subst hP hw hK
    obtain ⟨f0, f1, f2, f3, f4, f5⟩ := hf it (by simp)
    have W := Walks.range (prog := X.prog) (w := X.w) (I.ok.hd hc) it lo 1 n
    refine W.item i s _ _ hg st fun v h' tk hv st' kk => ?_
    obtain ⟨t, rfl⟩ := hv
    have I1 : Inv X pins σ H { s with heap := h', toks := tk } := I.turned (fun b o hb e => kk b o (by simpa using hb) e) f0 f1 f3 f4 f5
    refine ⟨_, rfl, go_of (s := { s with heap := h', toks := tk }) (n := "range_iterator") st' rfl rfl (by decide) ⟨.int (lo + i), H, I1, ⟨t, ?_⟩, ⟨rfl, rfl⟩, st', fun b hb => (hf b hb).1⟩⟩
    rw [Int.mul_one]
  done := by
    intro X hP hw hK hc i pins s σ H E I hf st hg
    subst hP hw hK
    obtain ⟨f0, f1, f2, f3, f4, f5⟩ := hf it (by simp)
    exact wpAny_pyNext_range_end (I.ok.hd hc) st (by have : n ≤ i := hg; omega) fun h' eb => ⟨rfl, I.turned (t' := s.toks) (fun b o hb e => eb b o hb e) f0 f1 f3 f4 f5⟩
  self := fun _ _ _ _ _ st h => wpAny_pyIter_rangeiter st h
end L2
namespace L2
open PySem PySem.Spec PyProof.Rows
section
variable {X : Cx} {tg : Expr}
theorem range_it {pins : List (Addr × Obj)} {σ : St} {H : Hp} {s : Shared} {R : It → Hp → Prop} {E : Value → Shared → Prop} {lo hi : Int} {t u v : Tok} {tk : Nat} (I : Inv X pins σ H s) (h1 : -(2 ^ 62) ≤ lo) (h2 : lo < 2 ^ 62) (h3 : -(2 ^ 62) ≤ hi) (h4 : hi < 2 ^ 62)
    (q : R (Itr lo (hi - lo).toNat) H) : wpAny (model X.prog X.w) X.A (pyIter (.ref s.heap.objs.size)) (PIE X pins σ tg R) E { s with heap := s.heap.push { cls := .type "range", data := .fields #[.int lo t, .int hi u, .int 1 v] }, toks := tk } := by
  refine wpAny_pyIter_range (IsRange.new ..) (small_one h1 h2 h3 h4) ?_
  have I1 : Inv X pins σ H { s with heap := s.heap.push { cls := .type "range", data := .fields #[.int lo t, .int hi u, .int 1 v] }, toks := tk } := I.kept fun b o e => Heap.get?_push_of_some _ e
  refine ⟨(s.heap.push { cls := .type "range", data := .fields #[.int lo t, .int hi u, .int 1 v] }).objs.size, [(s.heap.push { cls := .type "range", data := .fields #[.int lo t, .int hi u, .int 1 v] }).objs.size], _, _, H, rfl,
    I1.kept (t' := tk) fun b o e => Heap.get?_push_of_some _ e, turn_range _ lo (hi - lo).toNat, ?_, fun b hb => ?_, q⟩
  · have e1 : lo + ((0 : Nat) : Int) * 1 = lo := by simp
    have e2 : (((hi - lo).toNat : Nat) : Int) - ((0 : Nat) : Int) = Builtin.Range.rangeSize lo hi 1 := by rw [rangeSize_one]; split <;> omega
    show IsRangeIter _ _ (lo + ((0 : Nat) : Int) * 1) ((((hi - lo).toNat : Nat) : Int) - ((0 : Nat) : Int)) 1
    rw [e1, e2]
    exact Heap.get?_push_size _ rfl
  · have e : b = (s.heap.push { cls := .type "range", data := .fields #[.int lo t, .int hi u, .int 1 v] }).objs.size := by simpa using hb
    subst e
    exact I1.fpOk (Nat.le_refl _) (I1.hok.fresh (Nat.le_refl _))
noncomputable def iRng1 (ta : TA) : TI := fun σ H R => ta σ H fun vs H1 => ∃ j : Int, vs = [.int j] ∧ -(2 ^ 62) ≤ j ∧ j < 2 ^ 62 ∧ R (Itr 0 j.toNat) H1
theorem pi_range1 {a : Expr} {ta : TA} {p pos : Pos} (hg : Gl X "range") (hm : X.mg "range" = none) (ha : PA X [a] ta) (hs : starEach [a] X.env = [(false, eval a X.env)] := by rfl) : PI X tg (.Call (.Name "range" p) [a] [] pos) (iRng1 ta) := by
  intro pins s σ H R I h
  refine Call_ (ld_blt I hg hm boot_range (PyProof.Rows.callWith_type1 (thn (ha pos pins s σ H _ I h) fun us s1 ⟨vs, H1, I1, r1, q1⟩ => ?_) hs rfl))
  obtain ⟨j, e, q1, q2, q⟩ := q1
  subst e
  cases r1 with
  | cons r rr =>
    cases rr
    obtain ⟨t, rfl⟩ := r
    exact call_range_1 (range_it I1 (by omega) (by omega) q1 q2 (by simpa using q))
noncomputable def tFor (wi : TI) (g : TG) (tb : TS) : TS := fun D σ H => wi σ H fun J H1 => ∃ W : Nat → Nat → St → Hp → Prop, (∃ m, W 0 m σ H1) ∧ ∀ i m σ H, W i m σ H →
  (J.stop i H ∧ D.nx σ H) ∨ (J.go i H ∧ ∃ N : St → Hp → Prop, (∀ σ' H', N σ' H' → ∃ m', m' < m ∧ W (i + 1) m' σ' H') ∧ ∀ x H', J.yld i H x H' → g x σ H' fun σ2 H2 => tb { D with nx := N, ct := N, bk := D.nx } σ2 H2)
noncomputable def pinsAt (fp : List Addr) (h : Heap) : List (Addr × Obj) := fp.filterMap fun b => (h.get? b).map fun o => (b, o)
theorem mem_pinsAt {fp : List Addr} {h : Heap} {b : Addr} {o : Obj} (hb : b ∈ fp) (e : h.get? b = some o) : (b, o) ∈ pinsAt fp h := List.mem_filterMap.mpr ⟨b, hb, by rw [e]; rfl⟩
theorem of_pinsAt {fp : List Addr} {h : Heap} {p : Addr × Obj} (hp : p ∈ pinsAt fp h) : p.1 ∈ fp ∧ h.get? p.1 = some p.2 := by
  obtain ⟨b, hb, e⟩ := List.mem_filterMap.mp hp
  cases q : h.get? b with
  | none => rw [q] at e; cases e
  | some o =>
    rw [q] at e
    have e' : (b, o) = p := Option.some.inj e
    subst e'
    exact ⟨hb, q⟩
theorem Inv.pinned {pins : List (Addr × Obj)} {σ : St} {H : Hp} {s : Shared} {fp : List Addr} (I : Inv X pins σ H s) (hf : ∀ b ∈ fp, FpOk X pins H b) (ho : ∀ b ∈ fp, ∃ o, s.heap.get? b = some o ∧ ∀ v, o.data ≠ .cell v) : Inv X (pins ++ pinsAt fp s.heap) σ H s :=
  I.pins_of fun p hp => (List.mem_append.mp hp).elim (fun z => I.pin p (List.mem_append_right _ z)) fun z => by
    obtain ⟨hb, e⟩ := of_pinsAt z
    obtain ⟨f0, f1, f2, _⟩ := hf p.1 hb
    obtain ⟨o, e', d⟩ := ho p.1 hb
    rw [e] at e'; cases e'
    exact ⟨e, f0, f1, f2, d⟩
theorem Inv.unpinned {pins pl : List (Addr × Obj)} {σ : St} {H : Hp} {s : Shared} (I : Inv X (pins ++ pl) σ H s) : Inv X pins σ H s := I.pins_of fun p hp => I.pin p (List.mem_append_right _ (List.mem_append_left _ hp))
theorem ps_for {iter : Expr} {body : List Stmt} {wi : TI} {g : TG} {tb : TS} {pos : Pos} (hp : PassesOwn (model X.prog X.w) X.A X.env X.xe) (hc : X.calm = true) (hi : PI X tg iter wi) (hg : PG X tg g) (hb : PSs X body tb)
    (hs : ∀ x, foldedSetIterable iter X.env x = pure x := by intro _; rfl) : PS X (.For tg iter body [] pos) (tFor wi g tb) := by
  intro pins s σ H D I h
  refine wpAny_For (thn (hi pins s σ H _ I h) fun v s1 h1 => thn h1 fun itv s2 h2 => ?_) hs
  obtain ⟨it, fp, tn, J, H2, e, I2, T, st2, f2, W, ⟨m0, w0⟩, turn⟩ := h2
  subst e
  have stat : ∀ {H' : Hp}, (∀ b ∈ fp, H' b = none) → ∀ b ∈ fp, FpOk X pins H' b := fun hn b hb => ⟨hn b hb, (f2 b hb).2⟩
  refine codeAny_forLoop_any (fun n s' => ∃ i σ' H', Inv X pins σ' H' s' ∧ tn i s'.heap ∧ (∀ b ∈ fp, H' b = none) ∧ W i n σ' H') ?_ m0 ⟨0, σ, H2, I2, st2, fun b hb => (f2 b hb).1, w0⟩
  rintro n s3 ⟨i, σ3, H3, I3, st3, fr3, w3⟩
  rcases turn i n σ3 H3 w3 with ⟨stop, qn⟩ | ⟨go, N, hN, step⟩
  · refine wpAny_passesOwn hp (thn (T.done X rfl rfl rfl hc i pins s3 σ3 H3 X.xe I3 (stat fr3) st3 stop) fun r s4 ⟨hr, I4⟩ => ?_)
    subst hr
    exact wpAny_execs_nil ⟨σ3, H3, I4, qn⟩
  · refine wpAny_passesOwn hp (thn (T.item X rfl rfl rfl hc i pins s3 σ3 H3 X.xe I3 (stat fr3) st3 go) fun r s4 ⟨u, hr, h4⟩ => ?_)
    subst hr
    refine wpAny_passesOwn hp (thn h4 fun _ s5 ⟨x, H5, I5, r5, y5, st5, fr5⟩ => ?_)
    have I5' := I5.pinned (stat fr5) (T.obj _ _ st5)
    refine wpAny_passesOwn hp (thn (hg _ s5 σ3 H5 x u _ I5' r5 (step x H5 y5)) fun _ s6 ⟨σ6, H6, I6, q6⟩ => ?_)
    refine wpAny_passesOwn hp (thn (hb _ s6 σ6 H6 _ I6 q6) fun f s7 q7 => ?_)
    have again : ∀ {σ7 : St} {H7 : Hp}, Inv X (pins ++ pinsAt fp s5.heap) σ7 H7 s7 → N σ7 H7 → ∃ m, m < n ∧ ∃ i σ' H', Inv X pins σ' H' s7 ∧ tn i s7.heap ∧ (∀ b ∈ fp, H' b = none) ∧ W i m σ' H' := fun {σ7 H7} I7 n7 => by
      obtain ⟨m', hm, w7⟩ := hN σ7 H7 n7
      refine ⟨m', hm, i + 1, σ7, H7, I7.unpinned, T.keep _ _ _ st5 fun b hb o e => (I7.pin (b, o) (List.mem_append_right _ (List.mem_append_right _ (mem_pinsAt hb e)))).1, fun b hb => ?_, w7⟩
      obtain ⟨o, e, d⟩ := T.obj _ _ st5 b hb
      exact (I7.pin (b, o) (List.mem_append_right _ (List.mem_append_right _ (mem_pinsAt hb e)))).2.1
    cases f with
    | next => obtain ⟨σ7, H7, I7, n7⟩ := q7; exact again I7 n7
    | cont => obtain ⟨σ7, H7, I7, n7⟩ := q7; exact again I7 n7
    | brk => obtain ⟨σ7, H7, I7, q7⟩ := q7; exact ⟨σ7, H7, I7.unpinned, q7⟩
    | ret v => obtain ⟨x7, σ7, H7, I7, r7, q7⟩ := q7; exact ⟨x7, σ7, H7, I7.unpinned, r7, q7⟩
end
end L2
namespace L2
open PySem PySem.Spec PyProof.Rows
noncomputable abbrev R2 := V → V → Hp → VK → Prop
noncomputable def OpR (X : Cx) (f : Value → Value → Sem Value) (r : R2) : Prop :=
  ∀ (pins : List (Addr × Obj)) (s : Shared) (σ : St) (H : Hp) (x y : V) (v u : Value) (Q : VK), Inv X pins σ H s → RelV x v → RelV y u → r x y H Q →
    wpAny (model X.prog X.w) X.A (f v u) (EP X pins σ Q) X.xe s
noncomputable def UnR (X : Cx) (f : Value → Sem Value) (r : V → Hp → VK → Prop) : Prop :=
  ∀ (pins : List (Addr × Obj)) (s : Shared) (σ : St) (H : Hp) (x : V) (v : Value) (Q : VK), Inv X pins σ H s → RelV x v → r x H Q →
    wpAny (model X.prog X.w) X.A (f v) (EP X pins σ Q) X.xe s
noncomputable def CallR (X : Cx) (f : Value) (r : List V → Hp → VK → Prop) : Prop :=
  ∀ (pins : List (Addr × Obj)) (s : Shared) (σ : St) (H : Hp) (xs : List V) (us : List Value) (Q : VK), Inv X pins σ H s → Vals xs us → r xs H Q →
    wpAny (model X.prog X.w) X.A (call f us) (EP X pins σ Q) X.xe s
noncomputable def TruR (X : Cx) (r : V → Hp → (Bool → Hp → Prop) → Prop) : Prop :=
  ∀ (pins : List (Addr × Obj)) (s : Shared) (σ : St) (H : Hp) (x : V) (v : Value) (Q : Bool → Hp → Prop), Inv X pins σ H s → RelV x v → r x H Q →
    wpAny (model X.prog X.w) X.A (truthy v) (TP X pins σ Q) X.xe s
noncomputable def tOp (r : R2) (ta tb : TE) : TE := fun σ H Q => ta σ H fun x H1 => tb σ H1 fun y H2 => r x y H2 Q
noncomputable def tUn (r : V → Hp → VK → Prop) (ta : TE) : TE := fun σ H Q => ta σ H fun x H1 => r x H1 Q
noncomputable def rI (C : Int → Int → Prop) (g : Int → Int → V) : R2 := fun x y H Q => ∃ i j, x = .int i ∧ y = .int j ∧ C i j ∧ Q (g i j) H
noncomputable def rI0 (g : Int → Int → V) : R2 := fun x y H Q => ∃ i j, x = .int i ∧ y = .int j ∧ Q (g i j) H
noncomputable def rU (g : Int → V) : V → Hp → VK → Prop := fun x H Q => ∃ i, x = .int i ∧ Q (g i) H
section
variable {X : Cx} {a b c : Expr} {ta tb tc : TE} {pos : Pos}
theorem binT (ha : PE X a ta) (hb : PE X b tb) {pins : List (Addr × Obj)} {s : Shared} {σ : St} {H : Hp} {R : V → V → Hp → Prop} (I : Inv X pins σ H s)
    (h : ta σ H fun x H1 => tb σ H1 fun y H2 => R x y H2) {Q : Value → Shared → Prop} {f : Value → Value → Sem Value}
    (hf : ∀ v u s2 x y H2, Inv X pins σ H2 s2 → RelV x v → RelV y u → R x y H2 → wpAny (model X.prog X.w) X.A (f v u) Q X.xe s2) :
    wpAny (model X.prog X.w) X.A (eval a X.env) (fun v s₁ => wpAny (model X.prog X.w) X.A (eval b X.env) (fun u s₂ => wpAny (model X.prog X.w) X.A (f v u) Q X.xe s₂) X.xe s₁) X.xe s := by
  refine thn (ha pins s σ H _ I h) fun v s1 ⟨x, H1, I1, r1, q1⟩ => ?_
  refine thn (hb pins s1 σ H1 _ I1 q1) fun u s2 ⟨y, H2, I2, r2, q2⟩ => ?_
  exact hf v u s2 x y H2 I2 r1 r2 q2
theorem pe_op {op : Operator} {r : R2} (ho : OpR X (binaryOp op) r) (ha : PE X a ta) (hb : PE X b tb) : PE X (.BinOp a op b pos) (tOp r ta tb) := by
  intro pins s σ H Q I h
  exact wpAny_BinOp (binT ha hb I h fun v u s2 x y H2 I2 rx ry q => ho pins s2 σ H2 x y v u Q I2 rx ry q)
theorem pe_un {op : UnaryOp} {r : V → Hp → VK → Prop} (ho : UnR X (unaryOp op) r) (ha : PE X a ta) : PE X (.UnaryOp op a pos) (tUn r ta) := by
  intro pins s σ H Q I h
  exact UnaryOp_ (thn (ha pins s σ H _ I h) fun v s1 ⟨x, H1, I1, r1, q1⟩ => ho pins s1 σ H1 x v Q I1 r1 q1)
theorem opI {f : Value → Value → Sem Value} {C : Int → Int → Prop} {g : Int → Int → Int}
    (rule : ∀ (i j : Int) (t u : Tok) (s : Shared) (Q : Value → Shared → Prop) (E : Value → Shared → Prop), C i j → Q (.int (g i j) s.toks) { s with toks := s.toks + 1 } → wpAny (model X.prog X.w) X.A (f (.int i t) (.int j u)) Q E s) :
    OpR X f (rI C fun i j => .int (g i j)) := by
  intro pins s σ H x y v u Q I rx ry h
  obtain ⟨i, j, rfl, rfl, hc, q⟩ := h
  obtain ⟨t, rfl⟩ := rx
  obtain ⟨t', rfl⟩ := ry
  exact rule i j t t' s _ _ hc ⟨.int (g i j), H, I.tok _, ⟨_, rfl⟩, q⟩
theorem opI0 {f : Value → Value → Sem Value} {g : Int → Int → Int}
    (rule : ∀ (i j : Int) (t u : Tok) (s : Shared) (Q : Value → Shared → Prop) (E : Value → Shared → Prop), Q (.int (g i j) s.toks) { s with toks := s.toks + 1 } → wpAny (model X.prog X.w) X.A (f (.int i t) (.int j u)) Q E s) :
    OpR X f (rI0 fun i j => .int (g i j)) := by
  intro pins s σ H x y v u Q I rx ry h
  obtain ⟨i, j, rfl, rfl, q⟩ := h
  obtain ⟨t, rfl⟩ := rx
  obtain ⟨t', rfl⟩ := ry
  exact rule i j t t' s _ _ ⟨.int (g i j), H, I.tok _, ⟨_, rfl⟩, q⟩
theorem opB0 {f : Value → Value → Sem Value} {g : Int → Int → Bool}
    (rule : ∀ (i j : Int) (t u : Tok) (s : Shared) (Q : Value → Shared → Prop) (E : Value → Shared → Prop), Q (.bool (g i j)) s → wpAny (model X.prog X.w) X.A (f (.int i t) (.int j u)) Q E s) :
    OpR X f (rI0 fun i j => .bl (g i j)) := by
  intro pins s σ H x y v u Q I rx ry h
  obtain ⟨i, j, rfl, rfl, q⟩ := h
  obtain ⟨t, rfl⟩ := rx
  obtain ⟨t', rfl⟩ := ry
  exact rule i j t t' s _ _ ⟨.bl (g i j), H, I, rfl, q⟩
noncomputable def CDiv (i j : Int) : Prop := 0 < j ∧ j < 1073741824
noncomputable def CPow (i j : Int) : Prop := 0 ≤ j ∧ j ≤ 1000000 ∧ i.natAbs < 2 ^ 64
noncomputable def CMul (i j : Int) : Prop := (-(2 ^ 64) < i ∧ i < 2 ^ 64) ∨ (-(2 ^ 64) < j ∧ j < 2 ^ 64)
theorem CMul.ok {i j : Int} (h : CMul i j) : IntMulOk i j := by
  rcases h with ⟨h1, h2⟩ | ⟨h1, h2⟩
  · exact .of_left (intBits_le_64 h1 h2)
  · exact .of_right (intBits_le_64 h1 h2)
theorem op_add : OpR X (binaryOp .Add) (rI0 fun i j => .int (i + j)) := opI0 fun _ _ _ _ _ _ _ q => add_int q
theorem op_mul : OpR X (binaryOp .Mult) (rI CMul fun i j => .int (i * j)) := opI fun _ _ _ _ _ _ _ hc q => mul_int q hc.ok
theorem op_fdiv : OpR X (binaryOp .FloorDiv) (rI CDiv fun i j => .int (i / j)) := opI fun i j _ _ _ _ _ hc q => by
  have h1 : (0 : Int) < j := hc.1
  have h2 : j < 1073741824 := hc.2
  exact floordiv_int (by omega) (by rw [Int.fdiv_eq_ediv_of_nonneg i (by omega)]; exact q) (.inl (PyProof.noPylong_small (by omega)))
theorem op_mod : OpR X (binaryOp .Mod) (rI (fun _ j => 0 < j) fun i j => .int (i % j)) := opI fun i j _ _ _ _ _ hc q => by
  have h1 : (0 : Int) < j := hc
  exact mod_int' (by omega) (by rw [Int.fmod_eq_emod_of_nonneg i (by omega)]; exact q)
theorem op_pow : OpR X (binaryOp .Pow) (rI CPow fun i j => .int (i ^ j.toNat)) := opI fun _ _ _ _ _ _ _ hc q => pow_int_small hc.1 hc.2.1 hc.2.2 q
theorem unI {f : Value → Sem Value} {g : Int → Int}
    (rule : ∀ (i : Int) (t : Tok) (s : Shared) (Q : Value → Shared → Prop) (E : Value → Shared → Prop), Q (.int (g i) s.toks) { s with toks := s.toks + 1 } → wpAny (model X.prog X.w) X.A (f (.int i t)) Q E s) :
    UnR X f (rU fun i => .int (g i)) := by
  intro pins s σ H x v Q I rx h
  obtain ⟨i, rfl, q⟩ := h
  obtain ⟨t, rfl⟩ := rx
  exact rule i t s _ _ ⟨.int (g i), H, I.tok _, ⟨_, rfl⟩, q⟩
theorem un_neg : UnR X (unaryOp .USub) (rU fun i => .int (-i)) := unI fun _ _ _ _ _ q => neg_int q
end
noncomputable def scal : V → V → Bool
  | .non, .non => true | .non, .int _ => true | .int _, .non => true | .non, .bl _ => true | .bl _, .non => true | .non, .str _ => true | .str _, .non => true
  | .int _, .int _ => true | .bl _, .bl _ => true | .str _, .str _ => true | .byt _, .byt _ => true
  | .int _, .str _ => true | .str _, .int _ => true | .bl _, .str _ => true | .str _, .bl _ => true
  | _, _ => false
noncomputable def rEq : R2 := fun x y H Q => scal x y = true ∧ Q (.bl (decide (x = y))) H
noncomputable def rNe : R2 := fun x y H Q => scal x y = true ∧ Q (.bl (!decide (x = y))) H
theorem dec_int {i j : Int} : decide (V.int i = V.int j) = (i == j) := by
  rw [Bool.eq_iff_iff]
  simp
theorem dec_bl {i j : Bool} : decide (V.bl i = V.bl j) = (i == j) := by
  rw [Bool.eq_iff_iff]
  simp
theorem dec_str {i j : Str} : decide (V.str i = V.str j) = (i == j) := by
  rw [Bool.eq_iff_iff]
  simp
theorem dec_byt {i j : Array UInt8} : decide (V.byt i = V.byt j) = (i.toList == j.toList) := by
  rw [Bool.eq_iff_iff]
  cases i
  cases j
  simp
section
variable {X : Cx} {a b c : Expr} {ta tb tc : TE} {pos : Pos}
theorem fin_bl {pins : List (Addr × Obj)} {σ : St} {H : Hp} {s : Shared} {Q : VK} {k k' : Bool} (I : Inv X pins σ H s) (q : Q (.bl k) H) (e : k = k') : EP X pins σ Q (.bool k') s := by
  subst e
  exact ⟨.bl k, H, I, rfl, q⟩
theorem op_eq : OpR X (compareOp .Eq) rEq := by
  intro pins s σ H x y v u Q I rx ry h
  obtain ⟨hs, q⟩ := h
  cases x with
  | non =>
    cases rx
    cases y with
    | non => cases ry; exact PySem.EqNone.eq_none_none (fin_bl I q (by simp))
    | bl j => cases ry; exact PySem.EqNone.eq_none_bool (fin_bl I q (by simp))
    | int j => obtain ⟨t', rfl⟩ := ry; exact PySem.EqNone.eq_none_int (fin_bl I q (by simp))
    | str j => obtain ⟨t', rfl⟩ := ry; exact PySem.EqNone.eq_none_str (fin_bl I q (by simp))
    | _ => exact absurd (show false = true from hs) Bool.false_ne_true
  | bl i =>
    cases rx
    cases y with
    | non => cases ry; exact PySem.EqNone.eq_bool_none (fin_bl I q (by simp))
    | bl j => cases ry; exact eq_bool (fin_bl I q dec_bl)
    | str j => obtain ⟨t', rfl⟩ := ry; exact PySem.EqMixed.eq_bool_str (fin_bl I q (by simp))
    | _ => exact absurd (show false = true from hs) Bool.false_ne_true
  | int i =>
    obtain ⟨t, rfl⟩ := rx
    cases y with
    | non => cases ry; exact PySem.EqNone.eq_int_none (fin_bl I q (by simp))
    | int j => obtain ⟨t', rfl⟩ := ry; exact eq_int (fin_bl I q dec_int)
    | str j => obtain ⟨t', rfl⟩ := ry; exact PySem.EqMixed.eq_int_str (fin_bl I q (by simp))
    | _ => exact absurd (show false = true from hs) Bool.false_ne_true
  | str i =>
    obtain ⟨t, rfl⟩ := rx
    cases y with
    | non => cases ry; exact PySem.EqNone.eq_str_none (fin_bl I q (by simp))
    | bl j => cases ry; exact PySem.EqMixed.eq_str_bool (fin_bl I q (by simp))
    | int j => obtain ⟨t', rfl⟩ := ry; exact PySem.EqMixed.eq_str_int (fin_bl I q (by simp))
    | str j => obtain ⟨t', rfl⟩ := ry; exact eq_str (fin_bl I q dec_str)
    | _ => exact absurd (show false = true from hs) Bool.false_ne_true
  | byt i =>
    obtain ⟨t, rfl⟩ := rx
    cases y with
    | byt j => obtain ⟨t', rfl⟩ := ry; exact PySem.W.eq_bytes (fin_bl I q dec_byt)
    | _ => exact absurd (show false = true from hs) Bool.false_ne_true
  | _ => cases y <;> exact absurd (show false = true from hs) Bool.false_ne_true
theorem op_ne : OpR X (compareOp .NotEq) rNe := by
  intro pins s σ H x y v u Q I rx ry h
  obtain ⟨hs, q⟩ := h
  cases x with
  | non =>
    cases rx
    cases y with
    | non => cases ry; exact PySem.EqNone.ne_none_none (fin_bl I q (by simp))
    | bl j => cases ry; exact PySem.EqNone.ne_none_bool (fin_bl I q (by simp))
    | int j => obtain ⟨t', rfl⟩ := ry; exact PySem.EqNone.ne_none_int (fin_bl I q (by simp))
    | str j => obtain ⟨t', rfl⟩ := ry; exact PySem.EqNone.ne_none_str (fin_bl I q (by simp))
    | _ => exact absurd (show false = true from hs) Bool.false_ne_true
  | bl i =>
    cases rx
    cases y with
    | non => cases ry; exact PySem.EqNone.ne_bool_none (fin_bl I q (by simp))
    | bl j => cases ry; exact ne_bool (fin_bl I q (congrArg not dec_bl))
    | str j => obtain ⟨t', rfl⟩ := ry; exact PySem.EqMixed.ne_bool_str (fin_bl I q (by simp))
    | _ => exact absurd (show false = true from hs) Bool.false_ne_true
  | int i =>
    obtain ⟨t, rfl⟩ := rx
    cases y with
    | non => cases ry; exact PySem.EqNone.ne_int_none (fin_bl I q (by simp))
    | int j => obtain ⟨t', rfl⟩ := ry; exact ne_int (fin_bl I q (congrArg not dec_int))
    | str j => obtain ⟨t', rfl⟩ := ry; exact PySem.EqMixed.ne_int_str (fin_bl I q (by simp))
    | _ => exact absurd (show false = true from hs) Bool.false_ne_true
  | str i =>
    obtain ⟨t, rfl⟩ := rx
    cases y with
    | non => cases ry; exact PySem.EqNone.ne_str_none (fin_bl I q (by simp))
    | bl j => cases ry; exact PySem.EqMixed.ne_str_bool (fin_bl I q (by simp))
    | int j => obtain ⟨t', rfl⟩ := ry; exact PySem.EqMixed.ne_str_int (fin_bl I q (by simp))
    | str j => obtain ⟨t', rfl⟩ := ry; exact ne_str (fin_bl I q (congrArg not dec_str))
    | _ => exact absurd (show false = true from hs) Bool.false_ne_true
  | byt i =>
    obtain ⟨t, rfl⟩ := rx
    cases y with
    | byt j => obtain ⟨t', rfl⟩ := ry; exact PySem.W.ne_bytes (fin_bl I q (congrArg not dec_byt))
    | _ => exact absurd (show false = true from hs) Bool.false_ne_true
  | _ => cases y <;> exact absurd (show false = true from hs) Bool.false_ne_true
theorem op_lt : OpR X (compareOp .Lt) (rI0 fun i j => .bl (decide (i < j))) := opB0 fun _ _ _ _ _ _ _ q => lt_int q
theorem op_le : OpR X (compareOp .LtE) (rI0 fun i j => .bl (decide (i ≤ j))) := opB0 fun _ _ _ _ _ _ _ q => le_int q
theorem op_gt : OpR X (compareOp .Gt) (rI0 fun i j => .bl (decide (j < i))) := opB0 fun _ _ _ _ _ _ _ q => gt_int q
theorem op_isN : OpR X (compareOp .Is) (fun x y H Q => y = .non ∧ Q (.bl (decide (x = .non))) H) := by
  intro pins s σ H x y v u Q I rx ry h
  obtain ⟨rfl, q⟩ := h
  cases ry
  refine is_none_gen (fin_bl I q ?_)
  cases x <;> first
    | (cases rx; rfl)
    | (obtain ⟨t, rfl⟩ := rx; rfl)
theorem op_notN : OpR X (compareOp .IsNot) (fun x y H Q => y = .non ∧ Q (.bl (!decide (x = .non))) H) := by
  intro pins s σ H x y v u Q I rx ry h
  obtain ⟨rfl, q⟩ := h
  cases ry
  refine isnot_none_gen (fin_bl I q ?_)
  cases x <;> first
    | (cases rx; rfl)
    | (obtain ⟨t, rfl⟩ := rx; rfl)
theorem OpR.or {f : Value → Value → Sem Value} {r r' : R2} (h : OpR X f r) (h' : OpR X f r') : OpR X f (fun x y H Q => r x y H Q ∨ r' x y H Q) := by
  intro pins s σ H x y v u Q I rx ry q
  rcases q with q | q
  · exact h pins s σ H x y v u Q I rx ry q
  · exact h' pins s σ H x y v u Q I rx ry q
theorem nomark (b : Expr) {op : CmpOp} (h : op ≠ .In := by decide) (h2 : op ≠ .NotIn := by decide) : behindInMarks op b = false := by
  have e1 : (op == CmpOp.In) = false := by cases op <;> first | rfl | exact absurd rfl h
  have e2 : (op == CmpOp.NotIn) = false := by cases op <;> first | rfl | exact absurd rfl h2
  cases b <;> simp [behindInMarks, e1, e2]
theorem pe_cmpR {op : CmpOp} {r : R2} (ho : OpR X (compareOp op) r) (ha : PE X a ta) (hb : PE X b tb) (hm : behindInMarks op b = false) : PE X (.Compare a [op] [b] pos) (tOp r ta tb) := by
  intro pins s σ H Q I h
  exact wpAny_Compare1 (binT ha hb I h fun v u s2 x y H2 I2 rx ry q => ho pins s2 σ H2 x y v u Q I2 rx ry q) hm
noncomputable def tTest (t : TE) : TT := fun σ H Q => t σ H fun x H' => ∃ k, x = .bl k ∧ Q k H'
theorem pt_cmpR {op : CmpOp} {r : R2} (ho : OpR X (compareOp op) r) (ha : PE X a ta) (hb : PE X b tb) (hm : behindInMarks op b = false) : PT X (.Compare a [op] [b] pos) (tTest (tOp r ta tb)) := by
  intro pins s σ H Q I h
  refine wpAny_isTrue_Compare1 (thn (ha pins s σ H _ I h) fun v s1 ⟨x, H1, I1, r1, q1⟩ => thn (hb pins s1 σ H1 _ I1 q1) fun u s2 ⟨y, H2, I2, r2, q2⟩ =>
    thn (ho pins s2 σ H2 x y v u _ I2 r1 r2 q2) fun c s3 ⟨z, H3, I3, r3, k, e, q3⟩ => ?_) hm
  subst e
  cases r3
  exact wpAny_truthy_bool ⟨H3, I3, q3⟩
noncomputable def tChain (r r' : R2) (ta tb tc : TE) : TE := fun σ H Q => ta σ H fun x H1 => tb σ H1 fun y H2 => r x y H2 fun z H3 => ∃ k, z = .bl k ∧
  (if k = true then tc σ H3 fun w' H4 => r' y w' H4 Q else Q (.bl false) H3)
theorem pe_chain {op op' : CmpOp} {r r' : R2} (ho : OpR X (compareOp op) r) (ho' : OpR X (compareOp op') r') (ha : PE X a ta) (hb : PE X b tb) (hc : PE X c tc)
    (hm : lastMarks [op, op'] [b, c] = false := by with_unfolding_all rfl) : PE X (.Compare a [op, op'] [b, c] pos) (tChain r r' ta tb tc) := by
  intro pins s σ H Q I h
  refine Compare_chain (thn (ha pins s σ H _ I h) fun v s1 ⟨x, H1, I1, r1, q1⟩ => chain_link (thn (hb pins s1 σ H1 _ I1 q1) fun u s2 ⟨y, H2, I2, r2, q2⟩ =>
    thn (ho pins s2 σ H2 x y v u _ I2 r1 r2 q2) fun d s3 ⟨z, H3, I3, r3, k, e, q3⟩ => ?_)) hm
  subst e
  cases r3
  refine wpAny_truthy_bool ?_
  cases k with
  | false => exact ite_ff ⟨.bl false, H3, I3, rfl, q3⟩
  | true => exact ite_tt (chain_last (thn (hc pins s3 σ H3 _ I3 q3) fun w' s4 ⟨z', H4, I4, r4, q4⟩ => ho' pins s4 σ H4 y z' u w' Q I4 r2 r4 q4))
theorem pt_chain {op op' : CmpOp} {r r' : R2} (ho : OpR X (compareOp op) r) (ho' : OpR X (compareOp op') r') (ha : PE X a ta) (hb : PE X b tb) (hc : PE X c tc)
    (hm : lastMarks [op, op'] [b, c] = false := by with_unfolding_all rfl) : PT X (.Compare a [op, op'] [b, c] pos) (tTest (tChain r r' ta tb tc)) := by
  intro pins s σ H Q I h
  refine isTrue_chain (thn (ha pins s σ H _ I h) fun v s1 ⟨x, H1, I1, r1, q1⟩ => test_link (thn (hb pins s1 σ H1 _ I1 q1) fun u s2 ⟨y, H2, I2, r2, q2⟩ =>
    thn (ho pins s2 σ H2 x y v u _ I2 r1 r2 q2) fun d s3 ⟨z, H3, I3, r3, k, e, q3⟩ => ?_)) hm
  subst e
  cases r3
  refine wpAny_truthy_bool ?_
  cases k with
  | false =>
    obtain ⟨k', e', q'⟩ := q3
    cases e'
    exact ite_ff ⟨H3, I3, q'⟩
  | true =>
    refine ite_tt (test_last (thn (hc pins s3 σ H3 _ I3 q3) fun w' s4 ⟨z', H4, I4, r4, q4⟩ => thn (ho' pins s4 σ H4 y z' u w' _ I4 r2 r4 q4) fun d' s5 ⟨z2, H5, I5, r5, k2, e2, q5⟩ => ?_))
    subst e2
    cases r5
    exact wpAny_truthy_bool ⟨H5, I5, q5⟩
noncomputable def TruV (K : Fg) (x : V) (H : Hp) (k : Bool) : Prop :=
  match x with
  | .non => k = false
  | .bl b => k = b
  | .int i => k = (i != 0)
  | .str y => y.length ≤ sizeLine ∧ k = ((y.length : Int) != 0)
  | .byt y => y.size ≤ sizeLine ∧ k = ((y.size : Int) != 0)
  | .ref p => (∃ xs, SqL K H p xs ∧ k = !xs.isEmpty) ∨ (∃ xs, SqT K H p xs ∧ k = !xs.isEmpty) ∨ ∃ kvs, H p = some (.dK kvs) ∧ k = !kvs.isEmpty
  | _ => False
theorem isEmpty_kv {κ : Type} {kvs : List (κ × V)} {vs : List (κ × Value)} (r : KV kvs vs) : (!vs.isEmpty) = !kvs.isEmpty := by
  cases r <;> rfl
theorem isEmpty_of {xs : List V} {its : List Value} (r : Vals xs its) : (!its.toArray.isEmpty) = !xs.isEmpty := by
  cases r <;> simp
theorem line63 : (sizeLine : Nat) < 2 ^ 63 := by rw [sizeLine_eq]; decide
theorem tru_ok : TruR X (fun x H Q => ∃ k, TruV X.K x H k ∧ Q k H) := by
  intro pins s σ H x v Q I rx h
  obtain ⟨k, e, q⟩ := h
  have hl := line63
  have hs : sizeLine = 16777216 := sizeLine_eq
  cases x with
  | non =>
    cases rx
    have e' : k = false := e
    subst e'
    exact truthy_none ⟨H, I, q⟩
  | bl b =>
    cases rx
    have e' : k = b := e
    subst e'
    exact wpAny_truthy_bool ⟨H, I, q⟩
  | int i =>
    obtain ⟨t, rfl⟩ := rx
    have e' : k = (i != 0) := e
    subst e'
    exact PySem.P.truthy_int ⟨H, I, q⟩
  | str y =>
    obtain ⟨t, rfl⟩ := rx
    obtain ⟨hy, e'⟩ : y.length ≤ sizeLine ∧ k = ((y.length : Int) != 0) := e
    subst e'
    exact PySem.P.truthy_str (by omega) ⟨H, I.tok _, q⟩
  | byt y =>
    obtain ⟨t, rfl⟩ := rx
    obtain ⟨hy, e'⟩ : y.size ≤ sizeLine ∧ k = ((y.size : Int) != 0) := e
    subst e'
    exact PySem.W.truthy_bytes (by omega) ⟨H, I.tok _, q⟩
  | ref p =>
    cases rx
    have e' : (∃ xs, SqL X.K H p xs ∧ k = !xs.isEmpty) ∨ (∃ xs, SqT X.K H p xs ∧ k = !xs.isEmpty) ∨ ∃ kvs, H p = some (.dK kvs) ∧ k = !kvs.isEmpty := e
    rcases e' with ⟨xs, hx, e'⟩ | ⟨xs, hx, e'⟩ | ⟨kvs, hx, e'⟩
    · subst e'
      obtain ⟨its, r, pl, hz⟩ := I.list hx
      have hlen := r.length
      exact wpAny_truthy_list pl.isList (by simp only [List.size_toArray]; omega) ⟨H, I.tok _, by rw [isEmpty_of r]; exact q⟩
    · subst e'
      obtain ⟨its, r, pl, hz⟩ := I.tuple hx
      have hlen := r.length
      exact truthy_tuple pl (by simp only [List.size_toArray]; omega) ⟨H, I.tok _, by rw [isEmpty_of r]; exact q⟩
    · subst e'
      obtain ⟨hz, hS, vs, r, m⟩ : kvs.length ≤ sizeLine ∧ (p == sysModules) = false ∧ ∃ vs, KV kvs vs ∧ s.heap.DictOf (mixKind X.prog X.w) p vs := I.hok p _ hx
      have hlen : kvs.length = vs.length := Paired.length r
      exact wpAny_truthy_dict hS m (by omega) ⟨H, I.tok _, by rw [isEmpty_kv r]; exact q⟩
  | _ => exact (show False from e).elim
theorem pt_truth (ha : PE X a ta) (he : ∀ whole, isTrue a X.env whole = (do let v ← whole; standAt a.pos; holding [v] (truthy v))) :
    PT X a (fun σ H Q => ta σ H fun x H' => ∃ k, TruV X.K x H' k ∧ Q k H') := by
  intro pins s σ H Q I h
  exact isTrue_plain (thn (ha pins s σ H _ I h) fun v s1 ⟨x, H1, I1, r1, q1⟩ => tru_ok pins s1 σ H1 x v Q I1 r1 q1) (he _)
theorem op_add_str : OpR X (binaryOp .Add) (fun x y H Q => ∃ i j, x = .str i ∧ y = .str j ∧ i.length + j.length ≤ sizeLine ∧ Q (.str (i ++ j)) H) := by
  intro pins s σ H x y v u Q I rx ry h
  obtain ⟨i, j, rfl, rfl, hz, q⟩ := h
  obtain ⟨t, rfl⟩ := rx
  obtain ⟨t', rfl⟩ := ry
  exact add_str (fun t' tk => ⟨.str (i ++ j), H, I.tok _, ⟨_, rfl⟩, q⟩) hz
theorem vals1 {x : V} {us : List Value} (r : Vals [x] us) : ∃ u, us = [u] ∧ RelV x u := by
  cases r with
  | cons r1 r2 => cases r2; exact ⟨_, rfl, r1⟩
theorem vals2 {x y : V} {us : List Value} (r : Vals [x, y] us) : ∃ u w', us = [u, w'] ∧ RelV x u ∧ RelV y w' := by
  cases r with
  | cons r1 r2 =>
    cases r2 with
    | cons r3 r4 => cases r4; exact ⟨_, _, rfl, r1, r3⟩
theorem call_max2 (hc : X.calm = true) : CallR X (.builtin "max") (fun xs H Q => ∃ i j, xs = [.int i, .int j] ∧ Q (.int (if j > i then j else i)) H) := by
  intro pins s σ H xs us Q I r h
  obtain ⟨i, j, rfl, q⟩ := h
  obtain ⟨u, w', rfl, ⟨t, rfl⟩, ⟨t', rfl⟩⟩ := vals2 r
  refine max_two_ints (I.ok.hd hc) fun h' tk k => ⟨_, H, I.kept k, ?_, q⟩
  by_cases hj : j > i
  · rw [if_pos hj, if_pos hj]; exact ⟨_, rfl⟩
  · rw [if_neg hj, if_neg hj]; exact ⟨_, rfl⟩
theorem call_str_int : CallR X (.type "str") (fun xs H Q => ∃ i, xs = [.int i] ∧ i.natAbs.log2 < 1920 ∧ Q (.str (toString i)) H) := by
  intro pins s σ H xs us Q I r h
  obtain ⟨i, rfl, hz, q⟩ := h
  obtain ⟨u, rfl, t, rfl⟩ := vals1 r
  exact PySem.P.str_of_int hz ⟨.str _, H, I.tok _, ⟨_, rfl⟩, q⟩
end
end L2
namespace L2
open PySem PySem.Spec PyProof.Rows
end L2
namespace L2
open PySem PySem.Spec PyProof.Rows
structure Room (k : Nat) (A : Around) : Prop where
  hd : A.handled = none
  dp : A.depth + 3 * k + 5 < recursionLimit
  un : A.units + 16 * k + 200 < cLine
theorem Room.mono {j k : Nat} {A : Around} (r : Room k A) (h : j ≤ k) : Room j A := ⟨r.hd, by have := r.dp; omega, by have := r.un; omega⟩
theorem Room.deeper {k : Nat} {A : Around} (r : Room (k + 1) A) (env : Env) : Room k (A.deeper env) :=
  ⟨r.hd, by have := r.dp; show A.depth + 1 + 3 * k + 5 < _; omega, by have := r.un; show A.units + 3 + 16 * k + 200 < _; omega⟩
theorem Room.depth {k : Nat} {A : Around} (r : Room k A) : A.depth < recursionLimit := by have := r.dp; omega
theorem Room.units0 {k : Nat} {A : Around} (r : Room k A) : A.units < cLine := by have := r.un; omega
noncomputable def tNil : TA := fun _ H Q => Q [] H
noncomputable def tCons (ta : TE) (tr : TA) : TA := fun σ H Q => ta σ H fun x H1 => tr σ H1 fun xs H2 => Q (x :: xs) H2
section
variable {X : Cx} {e : Expr} {es : List Expr} {te : TE} {t : TA} {pos : Pos}
theorem pa_nil : PA X [] tNil := fun _ _ _ _ H Q I h => Calls.spliced_nil ⟨[], H, I, .nil, h⟩
theorem pa_cons (ha : PE X e te) (hr : PA X es t) (hs : starEach (e :: es) X.env = (false, eval e X.env) :: starEach es X.env := by rfl) : PA X (e :: es) (tCons te t) := by
  intro pos pins s σ H Q I h
  rw [hs]
  show wpAny _ _ (spliced ((false, eval e X.env) :: backTo pos (starEach es X.env))) _ _ s
  refine Calls.spliced_cons (thn (ha pins s σ H _ I h) fun u s1 ⟨x, H1, I1, r1, q1⟩ => ?_)
  exact thn (hr pos pins s1 σ H1 _ I1 q1) fun us s2 ⟨xs, H2, I2, r2, q2⟩ => ⟨x :: xs, H2, I2, .cons r1 r2, q2⟩
noncomputable def tTup (t : TA) : TE := fun σ H Q => t σ H fun xs H1 => xs.length ≤ sizeLine ∧ ∀ p, H1 p = none → Q (.ref p) (upd H1 p (.tup xs))
noncomputable def tLst (t : TA) : TE := fun σ H Q => t σ H fun xs H1 => xs.length ≤ sizeLine ∧ ∀ p, H1 p = none → Q (.ref p) (upd H1 p (.lst xs))
theorem pe_tup {x1} (h : PA X es t) : PE X (.Tuple es x1 pos) (tTup t) := by
  intro pins s σ H Q I hq
  refine wpAny_Tuple_spliced (thn (h pos pins s σ H _ I hq) fun us s1 ⟨xs, H1, I1, r, z, q⟩ => ⟨by rw [← r.length]; exact z, ?_⟩)
  have hf : H1 s1.heap.objs.size = none := I1.hok.fresh (Nat.le_refl _)
  refine ⟨.ref s1.heap.objs.size, upd H1 s1.heap.objs.size (.tup xs), I1.laid (t' := s1.toks) (fun b u e => Heap.get?_push_of_some _ e) (Nat.le_refl _) ?_, rfl, q _ hf⟩
  exact ⟨z, us, r, ⟨_, Heap.get?_push_size _ rfl, rfl, _, rfl⟩⟩
theorem pe_lst (h : PA X es t) : PE X (.List es pos) (tLst t) := by
  intro pins s σ H Q I hq
  refine wpAny_List_spliced (thn (h pos pins s σ H _ I hq) fun us s1 ⟨xs, H1, I1, r, z, q⟩ => ⟨by rw [← r.length]; exact z, ?_⟩)
  have hf : H1 s1.heap.objs.size = none := I1.hok.fresh (Nat.le_refl _)
  refine ⟨.ref s1.heap.objs.size, upd H1 s1.heap.objs.size (.lst xs), I1.laid (t' := s1.toks) (fun b u e => Heap.get?_push_of_some _ e) (Nat.le_refl _) ?_, rfl, q _ hf⟩
  exact ⟨z, us, 0, r, Heap.get?_push_size _ rfl⟩
end
noncomputable abbrev Sp := List V → Hp → VK → XK → Prop
noncomputable abbrev CXT := List Env → Hp → Shared → XK → Value → Shared → Prop
structure Env0 (P : Program) (w : World) (K : Fg) (mg : Str → Option Value) (base : Heap) (A : Around) (outer : List Env) (s : Shared) (H : Hp) : Prop where
  frames : A.frames = some outer
  mod : Mod K mg base
  bs : ∀ b o, base.get? b = some o → s.heap.get? b = some o ∧ H b = none
  bsz : base.objs.size ≤ s.heap.objs.size
  funs : s.heap.FunFrames base outer
  frf : ∀ b ∈ frs outer, H b = none
  hok : HOk P w H s.heap
  bare : AllBare s.gens
noncomputable def CE (outer : List Env) (P : Program) (w : World) (H : Hp) (s : Shared) (Q : VK) (u : Value) (s' : Shared) : Prop :=
  ∃ v H', s'.os = s.os ∧ AllBare s'.gens ∧ Un (frs outer) [] H H' s.heap s'.heap ∧ HOk P w H' s'.heap ∧ RelV v u ∧ Q v H'
noncomputable def CR (CX : CXT) (outer : List Env) (P : Program) (w : World) (H : Hp) (s : Shared) (Q : VK) (E : XK) (r : Result) (s' : Shared) : Prop :=
  match r with
  | .ok (.ret u) => CE outer P w H s Q u s'
  | .ok _ => False
  | .error e => CX outer H s E e s'
structure FnOk (P : Program) (w : World) (K : Fg) (mg : Str → Option Value) (base : Heap) (CX : CXT) (k : Nat) (f : Addr) (fd : FuncData) (ps : List Str) (sp : Sp) : Prop where
  len : ∀ vs H Q E, sp vs H Q E → vs.length = ps.length
  run : ∀ (A : Around) (outer : List Env) (s : Shared) (H : Hp) (args : Args) (us : List Value) (vs : List V) (Q : VK) (E : XK), Room k A → Env0 P w K mg base A outer s H → BindsTo s fd args (ps.zip us) → Vals vs us → sp vs H Q E →
    codeAny (model P w) A (.call (.ref f) args) (CR CX outer P w H s Q E) s
theorem FnOk.imp {P : Program} {w : World} {K : Fg} {mg : Str → Option Value} {base : Heap} {CX : CXT} {k : Nat} {f : Addr} {fd : FuncData} {ps : List Str} {sp sp' : Sp} (F : FnOk P w K mg base CX k f fd ps sp)
    (h : ∀ vs H Q E, sp' vs H Q E → sp vs H Q E) : FnOk P w K mg base CX k f fd ps sp' :=
  ⟨fun vs H Q E q => F.len vs H Q E (h _ _ _ _ q), fun A outer s H args us vs Q E hr he hb hv hs => F.run A outer s H args us vs Q E hr he hb hv (h _ _ _ _ hs)⟩
section
variable {X : Cx} {pins : List (Addr × Obj)} {σ : St} {H : Hp} {s s' : Shared}
theorem Inv.env0 (I : Inv X pins σ H s) : Env0 X.prog X.w X.K X.mg X.base X.A X.stack s H :=
  ⟨I.ok.frames, I.ok.mod, I.bs, Nat.le_trans I.ok.bsz I.sz, I.stack, I.stkFree, I.hok, I.bare⟩
theorem Inv.after {Q : VK} {u : Value} (I : Inv X pins σ H s) (h : CE X.stack X.prog X.w H s Q u s') : EP X pins σ Q u s' := by
  obtain ⟨v, H', os, bare, un, hok, r, q⟩ := h
  obtain ⟨hh, g, d, t, os'⟩ := s'
  obtain rfl : os' = s.os := os
  exact ⟨v, H', I.call (h' := hh) (g' := g) (d' := d) (t' := t) (ch := []) un hok bare (fun b z => absurd z (by simp)), r, q⟩
end
noncomputable def tCall (sp : Sp) (dvs : List V) (E : XK) (t : TA) : TE := fun σ H Q => t σ H fun vs H1 => sp (vs ++ dvs) H1 Q E
noncomputable def Binds (K : Fg) (fd : FuncData) (ps : List Str) (ds : List Value) : Prop :=
  ∀ (s : Shared) (us : List Value), K.In s.heap → (us ++ ds).length = ps.length → BindsTo s fd ⟨us, []⟩ (ps.zip (us ++ ds))
theorem Binds.all {K : Fg} {fd : FuncData} {ps : List Str} (h : ∀ us : List Value, us.length = ps.length → bindArgs fd ⟨us, []⟩ = pure (ps.zip us)) : Binds K fd ps [] := fun s us _ hl => by
  rw [List.append_nil] at hl ⊢
  exact .of_eq (h us hl)
noncomputable def Passes (CX : CXT) (X : Cx) (E : XK) : Prop := ∀ (pins : List (Addr × Obj)) (σ : St) (H : Hp) (s : Shared) (e : Value) (s' : Shared), Inv X pins σ H s → CX X.stack H s E e s' → X.xe e s'
section
variable {X : Cx} {CX : CXT} {k : Nat} {f C : Addr} {fd : FuncData} {ps : List Str} {sp : Sp} {dvs : List V} {ds : List Value} {E : XK} {x m : Str} {p pos apos : Pos} {e o : Expr} {es : List Expr} {ta : TE} {t : TA}
theorem run_fn {pins : List (Addr × Obj)} {σ : St} {H : Hp} {s : Shared} {Q : VK} {us : List Value} {vs : List V} (F : FnOk X.prog X.w X.K X.mg X.base CX k f fd ps sp) (hr : Room k X.A) (hb : Binds X.K fd ps ds) (hd : Vals dvs ds) (hx : Passes CX X E)
    (I : Inv X pins σ H s) (r : Vals vs us) (h : sp (vs ++ dvs) H Q E) : wpAny (model X.prog X.w) X.A (call (.ref f) us) (EP X pins σ Q) X.xe s := by
  have r2 : Vals (vs ++ dvs) (us ++ ds) := r.append hd
  have hl : (us ++ ds).length = ps.length := by rw [← r2.length]; exact F.len _ _ _ _ h
  refine wpAny_call (codeAny_mono (F.run X.A X.stack s H ⟨us, []⟩ (us ++ ds) (vs ++ dvs) Q E hr I.env0 (hb s us I.kIn hl) r2 h) fun r s' hq => ?_)
  cases r with
  | error e => exact hx pins σ H s e s' I hq
  | ok fl =>
    cases fl with
    | ret u => exact I.after hq
    | next => exact False.elim hq
    | brk => exact False.elim hq
    | cont => exact False.elim hq
theorem pe_call (F : FnOk X.prog X.w X.K X.mg X.base CX k f fd ps sp) (hr : Room k X.A) (hg : Gl X x) (hm : X.mg x = some (.ref f)) (hk : PySem.W.keepIn X.K (.ref f) = true) (hb : Binds X.K fd ps ds) (hd : Vals dvs ds) (hx : Passes CX X E)
    (ha : PA X (e :: es) t) (hdb : (x == ("__debug__" : Str)) = false := by decide) (he : starEach (e :: es) X.env = (false, eval e X.env) :: starEach es X.env := by rfl) (hpl : (backTo pos (starEach es X.env)).any (·.1) = false := by rfl) :
    PE X (.Call (.Name x p) (e :: es) [] pos) (tCall sp dvs E t) := by
  intro pins s σ H Q I h
  refine wpAny_Call_Name_kw (ld_glob I hg hm ?_ hdb)
  refine PySem.W.callWith_K (h₀ := X.base) I.ok.mod.kin hk (thn (ha pos pins s σ H _ I h) fun us s1 ⟨vs, H1, I1, r, q⟩ => ⟨I1.kIn, ?_⟩) he hpl
  exact run_fn F hr hb hd hx I1 r q
theorem pe_call0 (F : FnOk X.prog X.w X.K X.mg X.base CX k f fd ps sp) (hr : Room k X.A) (hg : Gl X x) (hm : X.mg x = some (.ref f)) (hk : PySem.W.keepIn X.K (.ref f) = true) (hb : Binds X.K fd ps ds) (hd : Vals dvs ds) (hx : Passes CX X E)
    (hdb : (x == ("__debug__" : Str)) = false := by decide) : PE X (.Call (.Name x p) [] [] pos) (tCall sp dvs E tNil) := by
  intro pins s σ H Q I h
  refine wpAny_Call_Name_kw (ld_glob I hg hm ?_ hdb)
  exact PySem.W.callWith_K0 I.kIn hk (run_fn (us := []) F hr hb hd hx I .nil h)
end
section
variable {X : Cx} {CX : CXT} {k : Nat} {f C : Addr} {fd : FuncData} {ps ks : List Str} {sp : Sp} {E : XK} {x m : Str} {p pos apos kpos : Pos} {e o : Expr} {es : List Expr} {kws : List Keyword} {te ta : TE} {t tk : TA} {nm : Option Str}
variable {g : List Value → List Value → List Value} {gV : List V → List V → List V}
end
structure FnScope (N P : List Str) (sc : Scope) : Prop where
  kind : sc.kind = .function
  co : sc.isCoroutine = false
  gen : sc.isGenerator = false
  nd : N.Nodup
  pre : N.take P.length = P
  par : ∀ x ∈ P, sc.names.lookup x = some .local ∨ sc.names.lookup x = some .cell
  nofree : ∀ y ∈ sc.names, y.2 ≠ .free
theorem bindL_out {kindOf : Str → Option NameKind} {x : Str} : ∀ {binds : List (Str × Value)} {m : Str → Option Value}, (∀ v, (x, v) ∉ binds) → bindL kindOf binds m x = m x
  | [], _, _ => rfl
  | (n, v) :: r, m, h => by
    unfold bindL
    rw [bindL_out fun w hw => h w (List.mem_cons_of_mem _ hw)]
    split
    · have : x ≠ n := by rintro rfl; exact h v List.mem_cons_self
      simp [this]
    · rfl
theorem bindC_out {kindOf : Str → Option NameKind} {x : Str} : ∀ {binds : List (Str × Value)} {m : Str → Option Value}, (∀ v, (x, v) ∉ binds) → bindC kindOf binds m x = m x
  | [], _, _ => rfl
  | (n, v) :: r, m, h => by
    unfold bindC
    rw [bindC_out fun w hw => h w (List.mem_cons_of_mem _ hw)]
    split
    · rfl
    · have : x ≠ n := by rintro rfl; exact h v List.mem_cons_self
      simp [this]
theorem bindL_get {kindOf : Str → Option NameKind} {x : Str} {v : Value} : ∀ {P : List Str} {vs : List Value} {i : Nat} {m : Str → Option Value}, P.Nodup → P[i]? = some x → vs[i]? = some v → kindOf x = some .local →
    bindL kindOf (P.zip vs) m x = some v
  | [], _, _, _, _, h, _, _ => by simp at h
  | _ :: _, [], _, _, _, _, h, _ => by simp at h
  | p :: P, w :: vs, 0, m, nd, h1, h2, hk => by
    simp at h1 h2; subst h1; subst h2
    show bindL kindOf ((p, w) :: P.zip vs) m p = _
    unfold bindL
    rw [bindL_out fun v hv => (List.nodup_cons.mp nd).1 (List.of_mem_zip hv).1, if_pos hk]
    simp
  | p :: P, w :: vs, i + 1, m, nd, h1, h2, hk => by
    show bindL kindOf ((p, w) :: P.zip vs) m x = _
    unfold bindL
    exact bindL_get (i := i) (List.nodup_cons.mp nd).2 (by simpa using h1) (by simpa using h2) hk
theorem bindC_get {kindOf : Str → Option NameKind} {x : Str} {v : Value} : ∀ {P : List Str} {vs : List Value} {i : Nat} {m : Str → Option Value}, P.Nodup → P[i]? = some x → vs[i]? = some v → kindOf x ≠ some .local →
    bindC kindOf (P.zip vs) m x = some v
  | [], _, _, _, _, h, _, _ => by simp at h
  | _ :: _, [], _, _, _, _, h, _ => by simp at h
  | p :: P, w :: vs, 0, m, nd, h1, h2, hk => by
    simp at h1 h2; subst h1; subst h2
    show bindC kindOf ((p, w) :: P.zip vs) m p = _
    unfold bindC
    rw [bindC_out fun v hv => (List.nodup_cons.mp nd).1 (List.of_mem_zip hv).1, if_neg hk]
    simp
  | p :: P, w :: vs, i + 1, m, nd, h1, h2, hk => by
    show bindC kindOf ((p, w) :: P.zip vs) m x = _
    unfold bindC
    exact bindC_get (i := i) (List.nodup_cons.mp nd).2 (by simpa using h1) (by simpa using h2) hk
noncomputable def start (N : List Str) (vs : List V) : St := vs.map some ++ List.replicate (N.length - vs.length) none
noncomputable def cxOf (CX : CXT) (P : Program) (w : World) (K : Fg) (mg : Str → Option Value) (base : Heap) (N : List Str) (qual : Str) (scope : Scope) (f : Addr) (cd : Value) (A : Around) (outer : List Env) (s : Shared) (H : Hp) (E : XK) : Cx where
  prog := P
  w := w
  K := K
  mg := mg
  base := base
  A := A.deeper (envOfC qual scope s.heap.objs.size f cd)
  N := N
  s₀ := s
  H₀ := H
  env := envOfC qual scope s.heap.objs.size f cd
  outer := outer
  stack := envOfC qual scope s.heap.objs.size f cd :: outer
  ex := []
  calm := true
  fn := fun _ => true
  pn := []
  xe := fun e s' => wpAny (model P w) (A.deeper (envOfC qual scope s.heap.objs.size f cd)) (leaving (envOfC qual scope s.heap.objs.size f cd) e) (fun _ s'' => CX outer H s E e s'') (fun e' s'' => CX outer H s E e' s'') s'
theorem cell_has {sc : Scope} {n : Nat} {x : Str} (h : sc.names.lookup x = some .cell) : ∃ c, (cellsFrom n sc.names []).lookup x = some c := by
  have q := PySem.W.cellsFrom_some sc.names n [] (.inl h)
  exact Option.isSome_iff_exists.mp q
theorem inv_start {CX : CXT} {P : Program} {w : World} {K : Fg} {mg : Str → Option Value} {base : Heap} {N ps : List Str} {qual : Str} {scope : Scope} {f : Addr} {cd : Value} {A : Around} {outer : List Env} {s s1 : Shared} {H : Hp} {E : XK} {us : List Value} {vs : List V}
    (S : FnScope N ps scope) (hd : A.handled = none) (e0 : Env0 P w K mg base A outer s H) (hl : vs.length = ps.length) (r : Vals vs us)
    (x : InCallC s s.heap.objs.size (bindL (envOfC qual scope s.heap.objs.size f cd).kindOf (ps.zip us) fun _ => none) (cellsFrom (s.heap.objs.size + 1) scope.names []) (bindC (envOfC qual scope s.heap.objs.size f cd).kindOf (ps.zip us) fun _ => none) s1) :
    Inv (cxOf CX P w K mg base N qual scope f cd A outer s H E) [] (start N vs) H s1 := by
  have hpl : ps.length ≤ N.length := by have := congrArg List.length S.pre; rw [List.length_take] at this; omega
  obtain ⟨h1, tk, rfl, hk⟩ := x.done
  have noA : ∀ b : Addr, b ∉ (cxOf CX P w K mg base N qual scope f cd A outer s H E).ex := fun b z => absurd (show b ∈ ([] : List Addr) from z) (by simp)
  refine ⟨⟨e0.mod, S.kind, rfl, rfl, Nat.le_refl _, fun y z c h1 h2 => ?_, fun y hy => ?_, fun y c _ h => ?_, fun _ => hd, Around.frames_deeper e0.frames, .inr ⟨rfl, rfl⟩, fun b z => absurd z (noA b), e0.bs, e0.bsz, fun b _ _ => noA b, fun b z => absurd z (noA b), e0.funs, e0.frf⟩,
    rfl, e0.bare, Un.kept hk, ⟨_, x.toInCall.ns, fun i y v h1 h2 h3 => ?_⟩, fun y c h => ⟨_, x.cell y c h⟩, e0.hok.fresh (Nat.le_refl _), fun y c h => ?_, fun p hp => absurd (show p ∈ ([] : List (Addr × Obj)) from hp) (by simp), e0.hok.kept hk, ?_⟩
  · exact name_of_addr x.apart (PySem.mem_of_lookup h1) (PySem.mem_of_lookup h2)
  · have hy : scope.names.lookup y = some .cell ∨ scope.names.lookup y = some .free := hy
    rcases hy with hy | hy
    · exact cell_has hy
    · exact absurd rfl (S.nofree _ (PySem.mem_of_lookup hy))
  · exact Nat.le_of_lt (x.above y c (PySem.mem_of_lookup h))
  · have hi : i < vs.length := by
      unfold start at h2
      by_cases hi : i < vs.length
      · exact hi
      · rw [List.getElem?_append_right (by simpa using hi)] at h2
        rw [List.getElem?_replicate] at h2
        split at h2 <;> cases h2
    have ha : vs[i]? = some v := by
      unfold start at h2
      rw [List.getElem?_append_left (by simpa using hi), List.getElem?_map] at h2
      cases e : vs[i]? with
      | none => rw [e] at h2; cases h2
      | some a => rw [e] at h2; cases h2; rfl
    obtain ⟨u, hu, rv⟩ := r.get ha
    have hp : ps[i]? = some y := by
      rw [← S.pre, List.getElem?_take_of_lt (by omega)]; exact h1
    have ndP : ps.Nodup := by rw [← S.pre]; exact S.nd.sublist (List.take_sublist _ _)
    refine ⟨u, rv, ?_⟩
    rcases S.par y (List.mem_of_getElem? hp) with k | k
    · exact .inl ⟨k, bindL_get ndP hp hu k⟩
    · obtain ⟨c, e⟩ := cell_has (n := s.heap.objs.size + 1) k
      refine .inr ⟨.inl k, c, e, ?_⟩
      have q := x.cell y c e
      rw [bindC_get ndP hp hu (by show scope.names.lookup y ≠ _; rw [k]; decide)] at q
      exact q
  · exact e0.hok.fresh (Nat.le_of_lt (x.above y c (PySem.mem_of_lookup h)))
  · unfold start
    show _ = N.length
    rw [List.length_append, List.length_map, List.length_replicate]
    omega
theorem fn_of {CX : CXT} {P : Program} {w : World} {K : Fg} {mg : Str → Option Value} {base : Heap} {k : Nat} {f : Addr} {name qual : Str} {params : Arguments} {body : List Stmt} {scope : Scope} {dV kV doc pm cdv ct oc : Value} {an od : Option Addr}
    {osl : Array (Option Value)} {N ps : List Str} {sp : Sp} (lk : K.lookup f = some ⟨oc, od, .func (PySem.W.fnOf name qual params body scope dV kV doc pm an cdv ct), osl⟩) (hcd : PySem.W.codeIn K cdv qual = true) (S : FnScope N ps scope)
    (len : ∀ vs H Q E, sp vs H Q E → vs.length = ps.length)
    (hbody : ∀ (A : Around) (outer : List Env) (s : Shared) (H : Hp) (vs : List V) (Q : VK) (E : XK), Room k (A.deeper (envOfC qual scope s.heap.objs.size f cdv)) → sp vs H Q E →
      ∃ t, PSs (cxOf CX P w K mg base N qual scope f cdv A outer s H E) body t ∧ t { nx := fun _ H' => Q .non H', rt := Q } (start N vs) H) :
    FnOk P w K mg base CX (k + 1) f (PySem.W.fnOf name qual params body scope dV kV doc pm an cdv ct) ps sp := by
  refine ⟨len, fun A outer s H args us vs Q E hr e0 hb r hsp => ?_⟩
  have hl := len _ _ _ _ hsp
  have KX : K.In s.heap := e0.mod.kin.keeps fun b o e => (e0.bs b o e).1
  have lim : s.heap.NoLimit := e0.mod.nolimit.keeps fun b o e => (e0.bs b o e).1
  have hkind : ∀ y ∈ ps.zip us, scope.names.lookup y.1 = some .local ∨ (scope.names.lookup y.1 = some .cell ∧ ((cellsFrom (s.heap.objs.size + 1) scope.names []).lookup y.1).isSome = true) := fun ⟨n, v⟩ hy => by
    rcases S.par n (List.of_mem_zip hy).1 with q | q
    · exact .inl q
    · exact .inr ⟨q, PySem.W.cellsFrom_some _ _ _ (.inl q)⟩
  refine codeAny_call_function hr.depth (KX _ _ lk) rfl S.co S.gen rfl (PySem.W.codeRec_of KX hcd) (hb _ _ _ _ ?_)
  refine wpAny_newFunctionEnv_cells S.kind hkind fun env he s1 x => ?_
  subst he
  refine ⟨lim.keeps x.toInCall.keep, codeAny_func ?_⟩
  obtain ⟨t, ht, hq⟩ := hbody A outer s H vs Q E (hr.deeper _) hsp
  have I : Inv (cxOf CX P w K mg base N qual scope f cdv A outer s H E) [] (start N vs) H s1 := inv_start S hr.hd e0 hl r x
  refine wpAny_mono (ht [] s1 (start N vs) H _ I hq) (fun fl s' hs => ?_) fun e s' hs => hs
  have fin : ∀ {σ' : St} {H' : Hp} {v : V} {u : Value}, Inv (cxOf CX P w K mg base N qual scope f cdv A outer s H E) [] σ' H' s' → RelV v u → Q v H' → CE outer P w H s Q u s' :=
    fun {σ' H' v u} J rv q => ⟨v, H', J.os, J.bare, J.base, J.hok, rv, q⟩
  cases fl with
  | ret u =>
    obtain ⟨v, σ', H', J, rv, q⟩ := hs
    exact fin J rv q
  | next =>
    obtain ⟨σ', H', J, q⟩ := hs
    exact fin (v := V.non) (u := Value.none) J rfl q
  | brk =>
    obtain ⟨_, _, _, q⟩ := hs
    exact False.elim q
  | cont =>
    obtain ⟨_, _, _, q⟩ := hs
    exact False.elim q
end L2
namespace L2
open PySem PySem.Spec PyProof.Rows
section
variable {X : Cx} {x : Str} {p pos : Pos} {e : Expr} {es : List Expr} {t : TA} {id T : String} {r : List V → Hp → VK → Prop}
noncomputable def tCB (r : List V → Hp → VK → Prop) (t : TA) : TE := fun σ H Q => t σ H fun vs H1 => r vs H1 Q
theorem pe_callB (hc : CallR X (.builtin id) r) (hg : Gl X x) (hm : X.mg x = none) (hv : bootBuiltins x = some (.builtin id)) (ha : PA X (e :: es) t) (hn : x ≠ "__name__" := by decide) (hdb : (x == ("__debug__" : Str)) = false := by decide)
    (he : starEach (e :: es) X.env = (false, eval e X.env) :: starEach es X.env := by rfl) (hpl : (backTo pos (starEach es X.env)).any (·.1) = false := by rfl) : PE X (.Call (.Name x p) (e :: es) [] pos) (tCB r t) := by
  intro pins s σ H Q I h
  refine wpAny_Call_Name_kw (ld_blt I hg hm hv ?_ hn hdb)
  exact PyProof.Rows.callWith_builtin1 (thn (ha pos pins s σ H _ I h) fun us s1 ⟨vs, H1, I1, r1, q1⟩ => hc pins s1 σ H1 vs us Q I1 r1 q1) he hpl
theorem pe_callTy (hc : CallR X (.type T) r) (hg : Gl X x) (hm : X.mg x = none) (hv : bootBuiltins x = some (.type T)) (ha : PA X (e :: es) t) (hn : x ≠ "__name__" := by decide) (hdb : (x == ("__debug__" : Str)) = false := by decide)
    (he : starEach (e :: es) X.env = (false, eval e X.env) :: starEach es X.env := by rfl) (hpl : (backTo pos (starEach es X.env)).any (·.1) = false := by rfl) : PE X (.Call (.Name x p) (e :: es) [] pos) (tCB r t) := by
  intro pins s σ H Q I h
  refine wpAny_Call_Name_kw (ld_blt I hg hm hv ?_ hn hdb)
  exact PyProof.Rows.callWith_type1 (thn (ha pos pins s σ H _ I h) fun us s1 ⟨vs, H1, I1, r1, q1⟩ => hc pins s1 σ H1 vs us Q I1 r1 q1) he hpl
end
end L2
namespace HT
open PySem PyProof.Rows
section
open PySem.SeqAt
open PySem.AutoSeq1 (wpAny_loadPart')
open PySem.MeetsSeq PySem.MeetsSeq2 PySem.MeetsSeq3
end
section
variable {prog : Program} {w : World} {A : Around} {E : Value → Shared → Prop} {s : Shared}
theorem cat_tup {t b : Addr} {vs ws : List Value} {Q : Value → Shared → Prop} (ht : IsTup s.heap t vs.toArray) (hb : IsTup s.heap b ws.toArray) (hv : vs ≠ [])
    (h1 : ws = [] → Q (.ref t) s) (h2 : ws ≠ [] → Q (.ref s.heap.objs.size) { s with heap := s.heap.push { cls := .type "tuple", data := .seq (vs ++ ws).toArray } })
    (hsz : vs.length + ws.length ≤ sizeLine) : wpAny (model prog w) A (binaryOp .Add (.ref t) (.ref b)) Q E s := by
  obtain ⟨⟨cls, dd, data, sl⟩, ho, hc, n, hd⟩ := id ht
  obtain ⟨⟨cls2, dd2, data2, sl2⟩, ho2, hc2, n2, hd2⟩ := id hb
  simp only at hc hd hc2 hd2
  subst hc hd hc2 hd2
  have e : vs.toArray ++ ws.toArray = (vs ++ ws).toArray := by simp
  by_cases hw : ws = []
  · exact concat_meets ⟨_, ho, rfl⟩ ⟨_, ho2, rfl⟩ noFill_tuple_add seq_tuple_add PySem.F.slot_tuple_add PySem.F.entry_tuple_add (PySem.F.args_tuple_add_2 _ _)
      (tuple_addW1 t b vs.toArray ws.toArray n n2 dd dd2 sl sl2 (by simpa using hv) (by simp [hw])) ⟨ho, ho2, h1 hw⟩
  · refine concat_meets ⟨_, ho, rfl⟩ ⟨_, ho2, rfl⟩ noFill_tuple_add seq_tuple_add PySem.F.slot_tuple_add PySem.F.entry_tuple_add (PySem.F.args_tuple_add_2 _ _)
      (tuple_addW2 t b vs.toArray ws.toArray n n2 dd dd2 sl sl2 (by simpa using hv) (by simpa using hw) (by rw [List.size_toArray, List.size_toArray]; exact hsz)) ⟨ho, ho2, ?_⟩
    rw [e]
    exact h2 hw
noncomputable def sIx (n d : Nat) : Option Int → Nat
  | none => d
  | some v => if v < 0 then (v + (n : Int)).toNat else min v.toNat n
theorem sIx_none (n d : Nat) : sIx n d none = d := rfl
theorem sIx_nat (n d k : Nat) : sIx n d (some (k : Int)) = min k n := by
  show (if (k : Int) < 0 then ((k : Int) + (n : Int)).toNat else min (k : Int).toNat n) = min k n
  rw [if_neg (by omega), Int.toNat_natCast]
theorem sIx_le (n d : Nat) (hd : d ≤ n) (o : Option Int) : sIx n d o ≤ n := by
  cases o with
  | none => exact hd
  | some v =>
    show (if v < 0 then (v + (n : Int)).toNat else min v.toNat n) ≤ n
    by_cases hv : v < 0
    · rw [if_pos hv]; omega
    · rw [if_neg hv]; exact Nat.min_le_right _ _
theorem clip_eq (v : Int) (n d : Nat) : (if v < 0 then max (v + (n : Int)) 0 else min v (n : Int)) = ((sIx n d (some v) : Nat) : Int) := by
  show (if v < 0 then max (v + (n : Int)) 0 else min v (n : Int)) = (((if v < 0 then (v + (n : Int)).toNat else min v.toNat n) : Nat) : Int)
  by_cases hv : v < 0
  · simp only [if_pos hv]; omega
  · simp only [if_neg hv]; omega
theorem adjust_gen (lo hi : Option Int) (n : Nat) : Builtin.Slice.sliceAdjust lo hi 1 (n : Int) = (((sIx n 0 lo : Nat) : Int), ((sIx n n hi : Nat) : Int)) := by
  have h1 : ¬ ((1 : Int) < 0) := by omega
  unfold Builtin.Slice.sliceAdjust
  simp only [h1, if_false]
  refine Prod.ext ?_ ?_
  · cases lo with
    | none => rfl
    | some v => exact clip_eq v n 0
  · cases hi with
    | none => rfl
    | some v => exact clip_eq v n n
theorem places_gen (i j : Nat) : Builtin.Slice.slicePlaces (i : Int) (j : Int) 1 = j - i := by
  unfold Builtin.Slice.slicePlaces
  have h1 : (1 : Int) > 0 := by omega
  simp only [h1, if_true, Int.ediv_one]
  split <;> omega
theorem slicePart_ {v : Value} {o : Option Int} {Q : Option Int → Shared → Prop} (p : IsPart v o) (h : Q o s) : wpAny (model prog w) A (Builtin.Slice.slicePartIndex v) Q E s := by
  cases p with
  | none => exact slicePart_none h
  | int i t => exact slicePart_int h
theorem sliceApplied_gen {sl : Addr} {vl vu : Value} {lo hi : Option Int} {n : Nat} {Q : Int × Int × Nat → Shared → Prop} (hs : s.heap.IsSliceOf sl vl vu .none) (pl : IsPart vl lo) (pu : IsPart vu hi)
    (h : Q (((sIx n 0 lo : Nat) : Int), 1, sIx n n hi - sIx n 0 lo) s) : wpAny (model prog w) A (Builtin.Slice.sliceApplied (.ref sl) (pure (n : Int))) Q E s := by
  obtain ⟨os, hos, hcs, hds⟩ := id hs
  unfold Builtin.Slice.sliceApplied Builtin.Slice.sliceFields
  refine wpAny_bind (wpAny_bind (wpAny_field hos hds (x := vl) rfl (wpAny_bind (wpAny_field hos hds (x := vu) rfl (wpAny_bind (wpAny_field hos hds (x := .none) rfl (wpAny_pure ?_)))))))
  refine wpAny_bind (slicePart_none ?_)
  show wpAny _ _ (if ((1 : Int) == 0) = true then _ else _) _ _ s
  rw [if_neg (by decide)]
  refine wpAny_bind (slicePart_ pl (wpAny_bind (slicePart_ pu (wpAny_bind (wpAny_pure ?_)))))
  show wpAny _ _ (match Builtin.Slice.sliceAdjust lo hi 1 (n : Int) with | (lo, hi) => pure (lo, (1 : Int), Builtin.Slice.slicePlaces lo hi 1)) _ _ s
  rw [adjust_gen lo hi n]
  show wpAny _ _ (pure (((sIx n 0 lo : Nat) : Int), (1 : Int), Builtin.Slice.slicePlaces ((sIx n 0 lo : Nat) : Int) ((sIx n n hi : Nat) : Int) 1)) _ _ s
  rw [places_gen]
  exact wpAny_pure h
theorem pick_gen (xs : Array Value) (i k : Nat) : ((List.range k).filterMap fun (m : Nat) => xs[((i : Int) + (m : Int) * 1).toNat]?).toArray = ((xs.toList.drop i).take k).toArray := by
  have e : (fun (m : Nat) => xs[((i : Int) + (m : Int) * 1).toNat]?) = fun m => xs[i + m]? := by
    funext m
    have : ((i : Int) + (m : Int) * 1).toNat = i + m := by omega
    rw [this]
  rw [e]
  have := pick_run xs i k
  rw [List.filterMap_map] at this
  have e2 : ((fun x => xs[x]?) ∘ fun x => i + x) = fun m => xs[i + m]? := rfl
  rw [e2] at this
  rw [this]
theorem getItem_tuple_cut {t sl : Addr} {items : Array Value} {vl vu : Value} {lo hi : Option Int} {Q : Value → Shared → Prop} (ht : IsTup s.heap t items) (hs : s.heap.IsSliceOf sl vl vu .none) (pl : IsPart vl lo) (pu : IsPart vu hi)
    (hw : ¬ (sIx items.size 0 lo = 0 ∧ sIx items.size items.size hi = items.size))
    (h : Q (.ref s.heap.objs.size) { s with heap := s.heap.push { cls := .type "tuple", data := .seq ((items.toList.drop (sIx items.size 0 lo)).take (sIx items.size items.size hi - sIx items.size 0 lo)).toArray } })
    (hsz : items.size ≤ sizeLine) : wpAny (model prog w) A (getItem (.ref t) (.ref sl)) Q E s := by
  have htake : sizeOk (.seq ((items.toList.drop (sIx items.size 0 lo)).take (sIx items.size items.size hi - sIx items.size 0 lo)).toArray) := by
    show ((items.toList.drop (sIx items.size 0 lo)).take (sIx items.size items.size hi - sIx items.size 0 lo)).toArray.size ≤ sizeLine
    rw [List.size_toArray, List.length_take, List.length_drop, Array.length_toList]
    omega
  have hj : sIx items.size items.size hi ≤ items.size := sIx_le _ _ (Nat.le_refl _) hi
  obtain ⟨os, hos, hcs, hds⟩ := id hs
  have hTs : s.TypeIs (.ref sl) "slice" := ⟨os, hos, hcs⟩
  unfold getItem
  try with_reducible refine wpAny_holding ?_
  first | refine wpAny_bind (wpAny_pure ?_) | skip
  refine wpAny_bind (wpAny_sequenceKey ht.typeIs (by decide) ?_)
  refine wpAny_bind (wpAny_callSpecial?_slot (name := Str.ofString "__getitem__") ht.typeIs PyProof.Rows.slot_tuple_getitem
    (wpAny_call_entry PyProof.Rows.slot_tuple_getitem ht.typeIs entry_tuple_getitem ?_ (args_tuple_getitem _ _)))
  show wpAny _ _ (Builtin.Tuple.tupleItemsOf (.ref t) >>= _) _ _ s
  refine wpAny_bind (tupleItemsOf_ ht ?_)
  refine wpAny_bind (wpAny_typeOf hTs ?_)
  rw [if_pos (by decide)]
  refine wpAny_bind (sliceApplied_gen hs pl pu ?_)
  have hno : ¬ ((((sIx items.size 0 lo : Nat) : Int) == 0 && (1 : Int) == 1 && (sIx items.size items.size hi - sIx items.size 0 lo) == items.size) = true) := by
    intro q
    rw [Bool.and_eq_true, Bool.and_eq_true] at q
    have q1 : ((sIx items.size 0 lo : Nat) : Int) = 0 := eq_of_beq q.1.1
    have q2 : sIx items.size items.size hi - sIx items.size 0 lo = items.size := eq_of_beq q.2
    exact hw ⟨by omega, by omega⟩
  show wpAny _ _ (if (((sIx items.size 0 lo : Nat) : Int) == 0 && (1 : Int) == 1 && (sIx items.size items.size hi - sIx items.size 0 lo) == items.size) = true then _ else _) _ _ s
  rw [if_neg hno, pick_gen]
  first
    | exact wpAny_bind (m := Builtin.Tuple.tupleExact _) (wpAny_newObj_type (wpAny_pure ⟨_, rfl, wpAny_pure h⟩) htake)
    | exact wpAny_bind (m := Builtin.Tuple.tupleExact _) (wpAny_newObj_type (wpAny_bind (wpAny_pure (wpAny_pure ⟨_, rfl, wpAny_pure h⟩))) htake)
    | exact wpAny_bind (wpAny_bind (m := Builtin.Tuple.tupleExact _) (wpAny_newObj_type (wpAny_pure (wpAny_pure ⟨_, rfl, wpAny_pure h⟩)) htake))
    | exact wpAny_bind (wpAny_bind (m := Builtin.Tuple.tupleExact _) (wpAny_newObj_type (wpAny_pure ⟨_, rfl, wpAny_pure h⟩) htake))
end
end HT
namespace L2
open PySem PySem.Spec PyProof.Rows
noncomputable abbrev TO := St → Hp → (Option Int → Hp → Prop) → Prop
noncomputable def PO (X : Cx) (e : Option Expr) (t : TO) : Prop :=
  ∀ (pins : List (Addr × Obj)) (s : Shared) (σ : St) (H : Hp) (Q : Option Int → Hp → Prop), Inv X pins σ H s → t σ H Q →
    wpAny (model X.prog X.w) X.A (evalPart e X.env) (fun u s' => ∃ o H', Inv X pins σ H' s' ∧ IsPart u o ∧ Q o H') X.xe s
noncomputable def tNoPart : TO := fun _ H Q => Q none H
noncomputable def tPart (t : TE) : TO := fun σ H Q => t σ H fun x H1 => ∃ i, x = .int i ∧ Q (some i) H1
theorem intsAre_of {ns : List Int} : ∀ {us : List Value}, Vals (ns.map V.int) us → IntsAre us ns := by
  induction ns with
  | nil => intro us r; rw [List.map_nil] at r; cases r; exact .nil
  | cons n ns ih =>
    intro us r
    rw [List.map_cons] at r
    cases r with
    | cons r1 r2 =>
      obtain ⟨t, e⟩ := r1
      subst e
      exact .cons n t (ih r2)
section
variable {X : Cx} {e : Expr} {te : TE} {lo hi : Option Expr} {tl th : TO} {pos p2 : Pos}
theorem po_none : PO X none tNoPart := by
  intro pins s σ H Q I h
  rw [evalPart_none]
  exact wpAny_pure ⟨none, H, I, .none, h⟩
theorem po_some (h : PE X e te) : PO X (some e) (tPart te) := by
  intro pins s σ H Q I hw
  rw [evalPart_some]
  refine thn (h pins s σ H _ I hw) fun u s1 ⟨x, H1, I1, r1, q1⟩ => ?_
  obtain ⟨i, rfl, q⟩ := q1
  obtain ⟨t, rfl⟩ := r1
  exact ⟨some i, H1, I1, .int i t, q⟩
noncomputable def SlR (X : Cx) (r : V → Option Int → Option Int → Hp → VK → Prop) : Prop :=
  ∀ (pins : List (Addr × Obj)) (s : Shared) (σ : St) (H : Hp) (x : V) (v vl vu : Value) (lo hi : Option Int) (sl : Addr) (Q : VK), Inv X pins σ H s → RelV x v → s.heap.IsSliceOf sl vl vu .none → IsPart vl lo → IsPart vu hi → r x lo hi H Q →
    ∃ T id, typeLookup (.type T) "__getitem__" = pure (some (.builtin id)) ∧ s.TypeIs v T ∧ wpAny (model X.prog X.w) X.A (getItem v (.ref sl)) (EP X pins σ Q) X.xe s
theorem SlR.or {r r' : V → Option Int → Option Int → Hp → VK → Prop} (h : SlR X r) (h' : SlR X r') : SlR X (fun x lo hi H Q => r x lo hi H Q ∨ r' x lo hi H Q) := by
  intro pins s σ H x v vl vu lo hi sl Q I rx hs pl pu q
  rcases q with q | q
  · exact h pins s σ H x v vl vu lo hi sl Q I rx hs pl pu q
  · exact h' pins s σ H x v vl vu lo hi sl Q I rx hs pl pu q
noncomputable def tSl (r : V → Option Int → Option Int → Hp → VK → Prop) (te : TE) (tl th : TO) : TE := fun σ H Q => te σ H fun x H1 => tl σ H1 fun l H2 => th σ H2 fun u H3 => r x l u H3 Q
theorem pe_slice {r : V → Option Int → Option Int → Hp → VK → Prop} (hr : SlR X r) (he : PE X e te) (hl : PO X lo tl) (hu : PO X hi th) : PE X (.Subscript e (.Slice lo hi none p2) pos) (tSl r te tl th) := by
  intro pins s σ H Q I h
  refine Subscript_ (thn (he pins s σ H _ I h) fun v s1 ⟨x, H1, I1, r1, q1⟩ => ?_)
  refine wpAny_Slice (thn (hl pins s1 σ H1 _ I1 q1) fun vl s2 ⟨l, H2, I2, pl, q2⟩ => thn (hu pins s2 σ H2 _ I2 q2) fun vu s3 ⟨u, H3, I3, pu, q3⟩ => ?_)
  rw [evalPart_none]
  refine wpAny_pure ?_
  have I4 : Inv X pins σ H3 { s3 with heap := s3.heap.push { cls := .type "slice", data := .fields #[vl, vu, .none] } } := I3.kept (t' := s3.toks) fun b ob q => Heap.get?_push_of_some _ q
  obtain ⟨T, id, hT, ht, hg⟩ := hr pins { s3 with heap := s3.heap.push { cls := .type "slice", data := .fields #[vl, vu, .none] } } σ H3 x v vl vu l u s3.heap.objs.size Q I4 r1 (Heap.IsSliceOf.new ..) pl pu q3
  show wpAny (model X.prog X.w) X.A (subscriptTail e (.Slice lo hi none p2) v (.ref s3.heap.objs.size)) (EP X pins σ Q) X.xe { s3 with heap := s3.heap.push { cls := .type "slice", data := .fields #[vl, vu, .none] } }
  exact tail_any (ops := [.ref s3.heap.objs.size, v]) ht hT hg (by with_unfolding_all rfl)
noncomputable def cutV (xs : List V) (lo hi : Option Int) : List V := (xs.drop (HT.sIx xs.length 0 lo)).take (HT.sIx xs.length xs.length hi - HT.sIx xs.length 0 lo)
theorem cutV_length (xs : List V) (lo hi : Option Int) : (cutV xs lo hi).length ≤ xs.length := by
  unfold cutV
  rw [List.length_take, List.length_drop]
  omega
noncomputable def rSlT (K : Fg) : V → Option Int → Option Int → Hp → VK → Prop := fun x lo hi H Q => ∃ a xs, x = .ref a ∧ SqT K H a xs ∧
  ¬ (HT.sIx xs.length 0 lo = 0 ∧ HT.sIx xs.length xs.length hi = xs.length) ∧ ∀ p, H p = none → Q (.ref p) (upd H p (.tup (cutV xs lo hi)))
theorem sl_tup : SlR X (rSlT X.K) := by
  intro pins s σ H x v vl vu lo hi sl Q I rx hs pl pu h
  obtain ⟨a, xs, rfl, hx, hw, q⟩ := h
  cases rx
  obtain ⟨its, r, ht, hz⟩ := I.tuple hx
  have hlen : its.toArray.size = xs.length := by rw [List.size_toArray]; exact r.length.symm
  refine ⟨"tuple", _, PyProof.Rows.slot_tuple_getitem.lookup, ht.typeIs, ?_⟩
  refine HT.getItem_tuple_cut ht hs pl pu (by rw [hlen]; exact hw) ?_ (by rw [hlen]; exact hz)
  rw [hlen]
  refine ⟨.ref s.heap.objs.size, _, I.laid (t' := s.toks) (o := .tup (cutV xs lo hi)) (fun b ob q => Heap.get?_push_of_some _ q) (Nat.le_refl _) ?_, rfl, q _ (I.hok.fresh (Nat.le_refl _))⟩
  exact ⟨Nat.le_trans (cutV_length xs lo hi) hz, _, (r.drop (HT.sIx xs.length 0 lo)).take (HT.sIx xs.length xs.length hi - HT.sIx xs.length 0 lo), IsTup.new _ _⟩
noncomputable def rCatT (K : Fg) : R2 := fun x y H Q => ∃ a b xs ys, x = .ref a ∧ y = .ref b ∧ SqT K H a xs ∧ SqT K H b ys ∧ xs ≠ [] ∧ xs.length + ys.length ≤ sizeLine ∧
  (ys = [] → Q (.ref a) H) ∧ (ys ≠ [] → ∀ p, H p = none → Q (.ref p) (upd H p (.tup (xs ++ ys))))
theorem Vals.nil_iff {xs : List V} {us : List Value} (r : Vals xs us) : us = [] ↔ xs = [] := by
  cases r with
  | nil => simp
  | cons _ _ => simp
theorem op_catT : OpR X (binaryOp .Add) (rCatT X.K) := by
  intro pins s σ H x y v u Q I rx ry h
  obtain ⟨a, b, xs, ys, rfl, rfl, ha, hb, hx, hz, q1, q2⟩ := h
  cases rx
  cases ry
  obtain ⟨its, r1, p1, _⟩ := I.tuple ha
  obtain ⟨its2, r2, p2, _⟩ := I.tuple hb
  refine HT.cat_tup p1 p2 (fun z => hx (r1.nil_iff.mp z)) (fun z => ⟨.ref a, H, I, rfl, q1 (r2.nil_iff.mp z)⟩) (fun z => ?_) (by rw [← r1.length, ← r2.length]; exact hz)
  refine ⟨.ref s.heap.objs.size, _, I.laid (t' := s.toks) (o := .tup (xs ++ ys)) (fun b ob q => Heap.get?_push_of_some _ q) (Nat.le_refl _) ?_, rfl, q2 (fun w => z (r2.nil_iff.mpr w)) _ (I.hok.fresh (Nat.le_refl _))⟩
  exact ⟨by rw [List.length_append]; exact hz, _, r1.append r2, IsTup.new _ _⟩
end
end L2
namespace L2
open PySem PySem.Spec PyProof.Rows
noncomputable def ixN (n : Nat) (i : Int) : Option Nat := if 0 ≤ i then (if i < n then some i.toNat else none) else if -(n : Int) ≤ i then some (i + n).toNat else none
noncomputable def atI {α : Type} (xs : List α) (i : Int) : Option α := (ixN xs.length i).bind fun j => xs[j]?
theorem ixN_seq {n : Nat} {i : Int} {j : Nat} (h : ixN n i = some j) : seqIndex? i n = some j ∧ j < n ∧ -(n : Int) ≤ i ∧ i < n := by
  unfold ixN at h
  by_cases h0 : 0 ≤ i
  · rw [if_pos h0] at h
    by_cases h1 : i < n
    · rw [if_pos h1] at h
      have e : i.toNat = j := Option.some.inj h
      exact ⟨by rw [seqIndex_of h0 h1, e], by omega, by omega, h1⟩
    · rw [if_neg h1] at h; cases h
  · rw [if_neg h0] at h
    by_cases h1 : -(n : Int) ≤ i
    · rw [if_pos h1] at h
      have e : (i + n).toNat = j := Option.some.inj h
      exact ⟨by rw [seqIndex_neg (by omega) h1, e], by omega, h1, by omega⟩
    · rw [if_neg h1] at h; cases h
theorem atI_get {α : Type} {xs : List α} {i : Int} {v : α} (h : atI xs i = some v) : ∃ j, seqIndex? i xs.length = some j ∧ xs[j]? = some v ∧ j < xs.length ∧ -(xs.length : Int) ≤ i ∧ i < xs.length := by
  unfold atI at h
  cases e : ixN xs.length i with
  | none => rw [e] at h; cases h
  | some j =>
    rw [e] at h
    obtain ⟨h1, h2, h3, h4⟩ := ixN_seq e
    exact ⟨j, h1, h, h2, h3, h4⟩
theorem atI_nat {α : Type} {xs : List α} {j : Nat} {v : α} (h : xs[j]? = some v) : atI xs (j : Int) = some v := by
  have hj : j < xs.length := (List.getElem?_eq_some_iff.mp h).1
  have e : ixN xs.length (j : Int) = some j := by
    unfold ixN
    rw [if_pos (by omega), if_pos (by omega)]; simp
  unfold atI; rw [e]; exact h
theorem atI_last {α : Type} (xs : List α) (v : α) : atI (xs ++ [v]) (-1) = some v := by
  have hl : (xs ++ [v]).length = xs.length + 1 := by simp
  have e : ixN (xs ++ [v]).length (-1) = some xs.length := by
    unfold ixN
    rw [hl, if_neg (by decide), if_pos (by omega)]
    congr 1
    omega
  unfold atI
  rw [e]
  show (xs ++ [v])[xs.length]? = some v
  simp
noncomputable def PlainIx (b : Expr) : Prop := ∀ o i, subscripted b false o i = operate [o, i] (getItem o i)
noncomputable def IxR (X : Cx) (r : R2) : Prop :=
  ∀ (value slice : Expr) (pins : List (Addr × Obj)) (s : Shared) (σ : St) (H : Hp) (x y : V) (v u : Value) (Q : VK), Inv X pins σ H s → RelV x v → RelV y u → r x y H Q →
    subscripted slice false v u = operate [v, u] (getItem v u) → wpAny (model X.prog X.w) X.A (subscriptTail value slice v u) (EP X pins σ Q) X.xe s
noncomputable def MtR (X : Cx) (id : String) (r : V → List V → Hp → VK → Prop) : Prop :=
  ∀ (pins : List (Addr × Obj)) (s : Shared) (σ : St) (H : Hp) (x : V) (xs : List V) (v : Value) (us : List Value) (Q : VK), Inv X pins σ H s → RelV x v → Vals xs us → r x xs H Q →
    wpAny (model X.prog X.w) X.A (call (.builtin id) (v :: us)) (EP X pins σ Q) X.xe s
section
variable {X : Cx} {a b : Expr} {ta tb : TE} {pos : Pos}
theorem IxR.or {r r' : R2} (h : IxR X r) (h' : IxR X r') : IxR X (fun x y H Q => r x y H Q ∨ r' x y H Q) := by
  intro value slice pins s σ H x y v u Q I rx ry q hs
  rcases q with q | q
  · exact h value slice pins s σ H x y v u Q I rx ry q hs
  · exact h' value slice pins s σ H x y v u Q I rx ry q hs
theorem pe_ix {r : R2} (hr : IxR X r) (ha : PE X a ta) (hb : PE X b tb) (hs : PlainIx b) : PE X (.Subscript a b pos) (tOp r ta tb) := by
  intro pins s σ H Q I h
  exact Subscript_ (binT ha hb I h fun v u s2 x y H2 I2 rx ry q => hr a b pins s2 σ H2 x y v u Q I2 rx ry q (hs _ _))
noncomputable def rIxL (K : Fg) : R2 := fun x y H Q => ∃ p xs i v, x = .ref p ∧ y = .int i ∧ SqL K H p xs ∧ atI xs i = some v ∧ Q v H
noncomputable def rIxT (K : Fg) : R2 := fun x y H Q => ∃ p xs i v, x = .ref p ∧ y = .int i ∧ SqT K H p xs ∧ atI xs i = some v ∧ Q v H
noncomputable def rIxS : R2 := fun x y H Q => ∃ z i c, x = .str z ∧ y = .int i ∧ z.length ≤ sizeLine ∧ atI z.cps.toList i = some c ∧ Q (.str ⟨#[c]⟩) H
theorem ix_list : IxR X (rIxL X.K) := by
  intro value slice pins s σ H x y v u Q I rx ry h hs
  obtain ⟨p, xs, i, z, rfl, rfl, hq, he, q⟩ := h
  cases rx
  obtain ⟨t, rfl⟩ := ry
  obtain ⟨its, r, pl, hz⟩ := I.list hq
  obtain ⟨j, h1, h2, h3, h4, h5⟩ := atI_get he
  obtain ⟨w, ew, rw'⟩ := r.get h2
  have hl := r.length
  have hn := line63
  have fin : EP X pins σ Q w s := ⟨z, H, I, rw', q⟩
  by_cases h0 : 0 ≤ i
  · have hj : i.toNat = j := by
      rw [seqIndex_of h0 h5] at h1
      exact Option.some.inj h1
    exact item_listR pl.isList h0 (by omega) (by rw [hj]; simpa using ew) fin hs
  · have hj : (i + (its.toArray.size : Int)).toNat = j := by
      rw [seqIndex_neg (by omega) h4] at h1
      rw [List.size_toArray, ← hl]
      exact Option.some.inj h1
    exact subscriptTail_builtinR (x := w) pl.isList.typeIs slot_list_getitem.lookup
      (wpAny_getItem_list_neg (Q := fun r s' => r = w ∧ EP X pins σ Q r s') pl.isList (by omega) (by rw [List.size_toArray] <;> omega) (by omega) (by rw [hj]; simpa using ew) ⟨rfl, fin⟩) hs
theorem ix_tup : IxR X (rIxT X.K) := by
  intro value slice pins s σ H x y v u Q I rx ry h hs
  obtain ⟨p, xs, i, z, rfl, rfl, hq, he, q⟩ := h
  cases rx
  obtain ⟨t, rfl⟩ := ry
  obtain ⟨its, r, pl, hz⟩ := I.tuple hq
  obtain ⟨j, h1, h2, h3, h4, h5⟩ := atI_get he
  obtain ⟨w, ew, rw'⟩ := r.get h2
  have hl := r.length
  have hn := line63
  have fin : EP X pins σ Q w s := ⟨z, H, I, rw', q⟩
  exact subscriptTail_builtinR (x := w) pl.typeIs slot_tuple_getitem.lookup
    (getItem_tuple (j := j) (Q := fun r s' => r = w ∧ EP X pins σ Q r s') pl (by omega) (by omega) (by rw [List.size_toArray, ← hl]; exact h1) (by simpa using ew) ⟨rfl, fin⟩) hs
theorem ix_str : IxR X rIxS := by
  intro value slice pins s σ H x y v u Q I rx ry h hs
  obtain ⟨z, i, c, rfl, rfl, hz, he, q⟩ := h
  obtain ⟨t, rfl⟩ := rx
  obtain ⟨t', rfl⟩ := ry
  obtain ⟨j, h1, h2, h3, h4, h5⟩ := atI_get he
  have hl : z.cps.toList.length = z.length := by simp [Str.length]
  rw [hl] at h1 h4 h5
  have hn := line63
  exact tail_any (typeIs_str s z t) slot_str_getitem.lookup (getItem_str (c := c) (by
    have e1 : decide (i < -(2 ^ 63 : Int)) = false := decide_eq_false (by omega)
    have e2 : decide (i ≥ 2 ^ 63) = false := decide_eq_false (by omega)
    rw [e1, e2, Bool.or_false]) (by rw [h1]; simpa using h2) ⟨.str ⟨#[c]⟩, H, I.tok _, ⟨_, rfl⟩, q⟩) hs
noncomputable def rIx (K : Fg) : R2 := fun x y H Q => rIxL K x y H Q ∨ rIxT K x y H Q ∨ rIxS x y H Q
theorem ix_seq : IxR X (rIx X.K) := ix_list.or (ix_tup.or ix_str)
theorem slice_bounds (lo hi : Option Int) (n : Nat) : (sliceBounds lo hi none n).1 = ((HT.sIx n 0 lo : Nat) : Int) ∧ (sliceBounds lo hi none n).2.1 = ((HT.sIx n n hi : Nat) : Int) ∧ (sliceBounds lo hi none n).2.2 = 1 := by
  refine ⟨?_, ?_, rfl⟩
  · cases lo with
    | none => simp [sliceBounds, HT.sIx]
    | some i =>
      simp only [sliceBounds, HT.sIx, Option.getD_none, show (1 : Int) > 0 by decide, if_true]
      by_cases h : i < 0
      · simp only [h, if_true] <;> omega
      · simp only [h, if_false] <;> omega
  · cases hi with
    | none => simp [sliceBounds, HT.sIx]
    | some i =>
      simp only [sliceBounds, HT.sIx, Option.getD_none, show (1 : Int) > 0 by decide, if_true]
      by_cases h : i < 0
      · simp only [h, if_true] <;> omega
      · simp only [h, if_false] <;> omega
theorem slicePick_cut (its : List Value) (lo hi : Option Int) : slicePick its.toArray lo hi none = ((its.drop (HT.sIx its.length 0 lo)).take (HT.sIx its.length its.length hi - HT.sIx its.length 0 lo)).toArray := by
  obtain ⟨h1, h2, h3⟩ := slice_bounds lo hi its.toArray.size
  unfold slicePick
  rw [h1, h2, h3]
  simp only [sliceRange_one, pick_run, List.size_toArray] <;> rfl
noncomputable def rSlL (K : Fg) : V → Option Int → Option Int → Hp → VK → Prop := fun x lo hi H Q => ∃ a xs, x = .ref a ∧ SqL K H a xs ∧ ∀ p, H p = none → Q (.ref p) (upd H p (.lst (cutV xs lo hi)))
theorem sl_list : SlR X (rSlL X.K) := by
  intro pins s σ H x v vl vu lo hi sl Q I rx hs pl pu h
  obtain ⟨a, xs, rfl, hx, q⟩ := h
  cases rx
  obtain ⟨its, r, ht, hz⟩ := I.list hx
  have hlen := r.length
  refine ⟨"list", _, slot_list_getitem.lookup, ht.isList.typeIs, ?_⟩
  refine wpAny_getItem_list_slice ht.isList hs pl pu .none (by simp) ?_ (by rw [List.size_toArray] <;> omega)
  rw [slicePick_cut, ← hlen]
  refine ⟨.ref s.heap.objs.size, _, I.laid (t' := s.toks) (o := .lst (cutV xs lo hi)) (fun b ob q => Heap.get?_push_of_some _ q) (Nat.le_refl _) ?_, rfl, q _ (I.hok.fresh (Nat.le_refl _))⟩
  exact ⟨Nat.le_trans (cutV_length xs lo hi) hz, _, 0, (r.drop (HT.sIx xs.length 0 lo)).take (HT.sIx xs.length xs.length hi - HT.sIx xs.length 0 lo), Heap.get?_push_size _ rfl⟩
noncomputable def flatV : V → Bool
  | .non => true
  | .bl _ => true
  | .int _ => true
  | .str _ => true
  | _ => false
noncomputable def eqV : V → V → Bool
  | .non, .non => true
  | .bl a, .bl b => a == b
  | .bl a, .int b => (if a then 1 else 0) == b
  | .int a, .bl b => a == (if b then 1 else 0)
  | .int a, .int b => a == b
  | .str a, .str b => a == b
  | _, _ => false
theorem eqAt_V {A : Around} {s : Shared} {y x : V} {u v : Value} (ry : RelV y u) (rx : RelV x v) (fy : flatV y = true) (fx : flatV x = true) : SeqAt.EqAt A s u v (eqV y x) := by
  cases y with
  | non =>
    cases ry
    cases x with
    | non => cases rx; exact SeqAt.EqAt.same _
    | bl b => cases rx; exact SeqAt.EqAt.none_bool b
    | int b => obtain ⟨t, rfl⟩ := rx; exact SeqAt.EqAt.none_int b t
    | str b => obtain ⟨t, rfl⟩ := rx; exact SeqAt.EqAt.none_str b t
    | _ => exact absurd (show false = true from fx) Bool.false_ne_true
  | bl a =>
    cases ry
    cases x with
    | non => cases rx; exact SeqAt.EqAt.bool_none a
    | bl b => cases rx; exact SeqAt.EqAt.bool_bool a b
    | int b => obtain ⟨t, rfl⟩ := rx; exact SeqAt.EqAt.bool_int a b t
    | str b => obtain ⟨t, rfl⟩ := rx; exact SeqAt.EqAt.bool_str a b t
    | _ => exact absurd (show false = true from fx) Bool.false_ne_true
  | int a =>
    obtain ⟨t', rfl⟩ := ry
    cases x with
    | non => cases rx; exact SeqAt.EqAt.int_none a t'
    | bl b => cases rx; exact SeqAt.EqAt.int_bool a t' b
    | int b => obtain ⟨t, rfl⟩ := rx; exact SeqAt.EqAt.int_int a t' b t
    | str b => obtain ⟨t, rfl⟩ := rx; exact SeqAt.EqAt.int_str a t' b t
    | _ => exact absurd (show false = true from fx) Bool.false_ne_true
  | str a =>
    obtain ⟨t', rfl⟩ := ry
    cases x with
    | non => cases rx; exact SeqAt.EqAt.str_none a t'
    | bl b => cases rx; exact SeqAt.EqAt.str_bool a t' b
    | int b => obtain ⟨t, rfl⟩ := rx; exact SeqAt.EqAt.str_int a t' b t
    | str b => obtain ⟨t, rfl⟩ := rx; exact SeqAt.EqAt.str_str a t' b t
    | _ => exact absurd (show false = true from fx) Bool.false_ne_true
  | _ => exact absurd (show false = true from fy) Bool.false_ne_true
noncomputable def eqU (x : V) (u : Value) : Bool := match u with
  | .none => eqV .non x
  | .bool b => eqV (.bl b) x
  | .int i _ => eqV (.int i) x
  | .str z _ => eqV (.str z) x
  | _ => false
theorem eqU_of {x y : V} {u : Value} (r : RelV y u) (f : flatV y = true) : eqU x u = eqV y x := by
  cases y with
  | non => cases r; rfl
  | bl b => cases r; rfl
  | int i => obtain ⟨t, rfl⟩ := r; rfl
  | str z => obtain ⟨t, rfl⟩ := r; rfl
  | _ => exact absurd (show false = true from f) Bool.false_ne_true
theorem any_eqU {x : V} : ∀ {xs : List V} {us : List Value}, Vals xs us → xs.all flatV = true → us.any (eqU x) = xs.any fun y => eqV y x
  | _, _, .nil, _ => rfl
  | y :: xs, u :: us, .cons r t, f => by
    rw [List.all_cons, Bool.and_eq_true] at f
    rw [List.any_cons, List.any_cons, eqU_of r f.1, any_eqU t f.2]
theorem mem_eqAt {A : Around} {s : Shared} {x : V} {v : Value} (rx : RelV x v) (fx : flatV x = true) : ∀ {xs : List V} {us : List Value}, Vals xs us → xs.all flatV = true → ∀ u ∈ us, SeqAt.EqAt A s u v (eqU x u)
  | _, _, .nil, _ => fun u hu => by cases hu
  | y :: xs, u :: us, .cons r t, f => fun u' hu => by
    rw [List.all_cons, Bool.and_eq_true] at f
    rcases List.mem_cons.mp hu with rfl | hu
    · rw [eqU_of r f.1]; exact eqAt_V r rx f.1 fx
    · exact mem_eqAt rx fx t f.2 u' hu
noncomputable def inV (x : V) (xs : List V) : Bool := xs.any fun y => eqV y x
noncomputable def rIn (K : Fg) (neg : Bool) : R2 := fun x y H Q => ∃ p xs, y = .ref p ∧ (SqL K H p xs ∨ SqT K H p xs) ∧ flatV x = true ∧ xs.all flatV = true ∧ Q (.bl (if neg then !inV x xs else inV x xs)) H
theorem op_in_seq : OpR X (compareOp .In) (rIn X.K false) := by
  intro pins s σ H x y v u Q I rx ry h
  obtain ⟨p, xs, rfl, hq, fx, fs, q⟩ := h
  cases ry
  rcases hq with hq | hq
  · obtain ⟨its, r, pl, hz⟩ := I.list hq
    refine SeqAt.in_listAt (eqU x) pl.isList (fun w hw => mem_eqAt rx fx r fs w (by simpa using hw)) ⟨.bl _, H, I, rfl, ?_⟩
    rw [show its.toArray.any (eqU x) = its.any (eqU x) by simp, any_eqU r fs]
    exact q
  · obtain ⟨its, r, pl, hz⟩ := I.tuple hq
    refine SeqAt.in_tupleAt (eqU x) pl (fun w hw => mem_eqAt rx fx r fs w (by simpa using hw)) ⟨.bl _, H, I, rfl, ?_⟩
    rw [show its.toArray.any (eqU x) = its.any (eqU x) by simp, any_eqU r fs]
    exact q
theorem op_notIn_seq : OpR X (compareOp .NotIn) (rIn X.K true) := by
  intro pins s σ H x y v u Q I rx ry h
  obtain ⟨p, xs, rfl, hq, fx, fs, q⟩ := h
  cases ry
  rcases hq with hq | hq
  · obtain ⟨its, r, pl, hz⟩ := I.list hq
    refine SeqAt.notIn_listAt (eqU x) pl.isList (fun w hw => mem_eqAt rx fx r fs w (by simpa using hw)) ⟨.bl _, H, I, rfl, ?_⟩
    rw [show its.toArray.any (eqU x) = its.any (eqU x) by simp, any_eqU r fs]
    exact q
  · obtain ⟨its, r, pl, hz⟩ := I.tuple hq
    refine SeqAt.notIn_tupleAt (eqU x) pl (fun w hw => mem_eqAt rx fx r fs w (by simpa using hw)) ⟨.bl _, H, I, rfl, ?_⟩
    rw [show its.toArray.any (eqU x) = its.any (eqU x) by simp, any_eqU r fs]
    exact q
theorem call_len_seq : CallR X (.builtin "len") (fun xs H Q => ∃ p ys, xs = [.ref p] ∧ (SqL X.K H p ys ∨ SqT X.K H p ys) ∧ Q (.int ys.length) H) := by
  intro pins s σ H xs us Q I r h
  obtain ⟨p, ys, rfl, hq, q⟩ := h
  obtain ⟨u, rfl, rx⟩ := vals1 r
  cases rx
  have hn := line63
  rcases hq with hq | hq
  · obtain ⟨its, r', pl, hz⟩ := I.list hq
    have hlen := r'.length
    exact Calls.call_len_list pl.isList (by simp only [List.size_toArray] <;> omega) ⟨.int ys.length, H, I.tok _, ⟨s.toks + 1, by rw [List.size_toArray, hlen]⟩, q⟩
  · obtain ⟨its, r', pl, hz⟩ := I.tuple hq
    have hlen := r'.length
    exact len_tuple pl (by simp only [List.size_toArray] <;> omega) ⟨.int ys.length, H, I.tok _, ⟨s.toks + 1, by rw [List.size_toArray, hlen]⟩, q⟩
theorem call_len_str : CallR X (.builtin "len") (fun xs H Q => ∃ z, xs = [.str z] ∧ z.length ≤ sizeLine ∧ Q (.int z.length) H) := by
  intro pins s σ H xs us Q I r h
  obtain ⟨z, rfl, hz, q⟩ := h
  obtain ⟨u, rfl, t, rfl⟩ := vals1 r
  have hn := line63
  exact len_str (by omega) ⟨.int z.length, H, I.tok _, ⟨_, rfl⟩, q⟩
theorem CallR.or {f : Value} {r r' : List V → Hp → VK → Prop} (h : CallR X f r) (h' : CallR X f r') : CallR X f (fun xs H Q => r xs H Q ∨ r' xs H Q) := by
  intro pins s σ H xs us Q I rs q
  rcases q with q | q
  · exact h pins s σ H xs us Q I rs q
  · exact h' pins s σ H xs us Q I rs q
theorem call_tuple_of : CallR X (.type "tuple") (fun xs H Q => ∃ p ys, xs = [.ref p] ∧ ((SqL X.K H p ys ∧ ∀ l, H l = none → Q (.ref l) (upd H l (.tup ys))) ∨ (SqT X.K H p ys ∧ Q (.ref p) H))) := by
  intro pins s σ H xs us Q I r h
  obtain ⟨p, ys, rfl, h⟩ := h
  obtain ⟨u, rfl, rx⟩ := vals1 r
  cases rx
  rcases h with ⟨hq, q⟩ | ⟨hq, q⟩
  · obtain ⟨its, r', pl, hz⟩ := I.list hq
    have hlen := r'.length
    refine call_tuple_list pl.isList (fun h' kp => ?_) (by simp only [List.size_toArray] <;> omega)
    have I1 : Inv X pins σ H { s with heap := h' } := I.kept (t' := s.toks) kp
    have I2 : Inv X pins σ (upd H h'.objs.size (.tup ys)) { s with heap := h'.push { cls := .type "tuple", data := .seq its.toArray } } :=
      I1.laid (t' := s.toks) (fun b o e => Heap.get?_push_of_some _ e) (Nat.le_refl _) (show ObjOk X.prog X.w _ _ _ (.tup ys) from ⟨hz, its, r', IsTup.new _ _⟩)
    exact ⟨.ref h'.objs.size, _, I2, rfl, q _ (I1.hok.fresh (Nat.le_refl _))⟩
  · obtain ⟨its, r', pl, hz⟩ := I.tuple hq
    exact call_tuple_same pl ⟨.ref p, H, I, rfl, q⟩
noncomputable def tyV (K : Fg) (T : String) (x : V) (H : Hp) : Prop := match x with
  | .str _ => T = "str"
  | .int _ => T = "int"
  | .ref p => (T = "list" ∧ ∃ xs, SqL K H p xs) ∨ (T = "tuple" ∧ ∃ o, K.lookup p = some o ∧ o.cls = .type "tuple" ∧ o.dict = none) ∨
      (T = "dict" ∧ ((∃ kvs, H p = some (.dK kvs)) ∨ ∃ kvs, H p = some (.dT kvs))) ∨ (T = "set" ∧ ∃ S n, H p = some (.set S n))
  | _ => False
theorem tyV_is {pins : List (Addr × Obj)} {σ : St} {H : Hp} {s : Shared} {T : String} {x : V} {v : Value} (I : Inv X pins σ H s) (r : RelV x v) (ty : tyV X.K T x H) :
    s.TypeIs v T ∧ ∀ a, v = .ref a → ∃ ob, s.heap.get? a = some ob ∧ ob.dict = none := by
  cases x with
  | str z =>
    obtain ⟨t, rfl⟩ := r
    cases (show T = "str" from ty)
    exact ⟨typeIs_str s z t, fun _ e => nomatch e⟩
  | int i =>
    obtain ⟨t, rfl⟩ := r
    cases (show T = "int" from ty)
    exact ⟨typeIs_int s i t, fun _ e => nomatch e⟩
  | ref p =>
    cases r
    rcases ty with ⟨rfl, xs, hq⟩ | ⟨rfl, o, hk, hc, hd⟩ | ⟨rfl, hk⟩ | ⟨rfl, S, n, hk⟩
    · obtain ⟨its, _, pl, _⟩ := I.list hq
      refine ⟨pl.isList.typeIs, fun a e => ?_⟩
      cases e
      obtain ⟨o, n, e, c, hd, _⟩ := pl
      exact ⟨o, e, hd⟩
    · refine ⟨⟨o, I.kIn p o hk, hc⟩, fun a e => ?_⟩
      cases e
      exact ⟨o, I.kIn _ o hk, hd⟩
    · have z : ∃ o, s.heap.get? p = some o ∧ o.ExactDict := by
        rcases hk with ⟨kvs, hk⟩ | ⟨kvs, hk⟩
        · obtain ⟨_, _, _, _, o, _, _, e, ex, _⟩ := I.hok p _ hk
          exact ⟨o, e, ex⟩
        · obtain ⟨_, _, _, _, o, _, _, e, ex, _⟩ := I.hok p _ hk
          exact ⟨o, e, ex⟩
      obtain ⟨o, e, ex⟩ := z
      refine ⟨⟨o, e, ex.1⟩, fun a e2 => ?_⟩
      cases e2
      exact ⟨o, e, ex.2.1⟩
    · obtain ⟨o, _, _, _, e, ex, _⟩ := I.hok p _ hk
      refine ⟨⟨o, e, ex.1⟩, fun a e2 => ?_⟩
      cases e2
      exact ⟨o, e, ex.2.1⟩
  | _ => exact False.elim ty
noncomputable def tBM0 (K : Fg) (T : String) (r : V → List V → Hp → VK → Prop) (to : TE) : TE := fun σ H Q => to σ H fun x H1 => tyV K T x H1 ∧ r x [] H1 Q
noncomputable def tBM (K : Fg) (T : String) (r : V → List V → Hp → VK → Prop) (to : TE) (t : TA) : TE := fun σ H Q => to σ H fun x H1 => tyV K T x H1 ∧ t σ H1 fun xs H2 => r x xs H2 Q
variable {o e : Expr} {es : List Expr} {to : TE} {t : TA} {name : Str} {apos cpos : Pos} {T id : String} {r : V → List V → Hp → VK → Prop}
theorem pe_bm0 (pa : PlainAttrs T) (slot : Slot T name id) (hty : typeOf (.builtin id) = pure (.type "method_descriptor")) (hm : MtR X id r) (ho : PE X o to)
    (hbase : attributeBase o name X.env (eval o X.env) = eval o X.env := by rfl) (hline : (apos.endLine == cpos.line) = true := by rfl) : PE X (.Call (.Attribute o name apos) [] [] cpos) (tBM0 X.K T r to) := by
  intro pins s σ H Q I h
  refine wpAny_Call_method0_late hbase hline (thn (ho pins s σ H _ I h) fun v s1 ⟨x, H1, I1, r1, ty, q1⟩ => ?_)
  obtain ⟨h1, h2⟩ := tyV_is I1 r1 ty
  exact ⟨T, id, pa, slot, hty, h1, h2, Calls.callWith_builtin rfl (PySem.evalArgs_none (hm pins s1 σ H1 x [] v [] Q I1 r1 .nil q1))⟩
theorem pe_bm (pa : PlainAttrs T) (slot : Slot T name id) (hty : typeOf (.builtin id) = pure (.type "method_descriptor")) (hm : MtR X id r) (ho : PE X o to) (ha : PA X (e :: es) t)
    (hbase : attributeBase o name X.env (eval o X.env) = eval o X.env := by rfl)
    (hfew : ((backTo cpos (starEach (e :: es) X.env)).all (fun x => !x.1) && (backToKw cpos (keywordEach [] X.env)).all (fun x => x.1.isSome)
      && decide ((e :: es).length + ([] : List Keyword).length + (if ([] : List Keyword).isEmpty then 0 else 1) < 30)) = true := by rfl)
    (hline : (apos.endLine == cpos.line) = true := by rfl) (hs : starEach (e :: es) X.env = (false, eval e X.env) :: starEach es X.env := by rfl) (hplain : (backTo cpos (starEach es X.env)).any (·.1) = false := by rfl) :
    PE X (.Call (.Attribute o name apos) (e :: es) [] cpos) (tBM X.K T r to t) := by
  intro pins s σ H Q I h
  refine wpAny_Call_method_late hbase hfew hline rfl (thn (ho pins s σ H _ I h) fun v s1 ⟨x, H1, I1, r1, ty, q1⟩ => ?_)
  obtain ⟨h1, h2⟩ := tyV_is I1 r1 ty
  refine ⟨T, id, pa, slot, hty, h1, h2, ?_⟩
  have hA := ha cpos pins s1 σ H1 _ I1 q1
  rw [hs] at hA ⊢
  refine Calls.callWith_builtin (by show (false || (backTo cpos (starEach es X.env)).any (·.1)) = false; rw [hplain] <;> rfl) (Calls.evalArgs_plain ?_)
  exact thn hA fun us s2 ⟨vs, H2, I2, r2, q2⟩ => hm pins s2 σ H2 x vs v us Q I2 r1 r2 q2
end
end L2
namespace L2
open PySem PySem.Spec PyProof.Rows
noncomputable def MtM (X : Cx) (id : String) (r : V → List V → Hp → VK → Prop) : Prop :=
  ∀ (pins : List (Addr × Obj)) (s : Shared) (σ : St) (H : Hp) (x : V) (xs : List V) (v : Value) (us : List Value) (Q : VK), Inv X pins σ H s → RelV x v → Vals xs us → r x xs H Q →
    wpAny (model X.prog X.w) X.A (call (.builtin id) (v :: us)) (EP X pins σ Q) X.xe s
theorem Vals.one : ∀ {x : V} {us : List Value}, Vals [x] us → ∃ u, us = [u] ∧ RelV x u
  | _, _, .cons r .nil => ⟨_, rfl, r⟩
theorem Vals.two : ∀ {x y : V} {us : List Value}, Vals [x, y] us → ∃ u v, us = [u, v] ∧ RelV x u ∧ RelV y v
  | _, _, _, .cons r (.cons q .nil) => ⟨_, _, rfl, r, q⟩
theorem Vals.zero : ∀ {us : List Value}, Vals [] us → us = []
  | _, .nil => rfl
theorem Vals.dropLast {xs : List V} {us : List Value} (h : Vals xs us) : Vals xs.dropLast us.dropLast := by
  induction h with
  | nil => exact .nil
  | cons r t ih =>
    cases t with
    | nil => exact .nil
    | cons q t' => exact .cons r ih
theorem Vals.reverse {xs : List V} {us : List Value} (h : Vals xs us) : Vals xs.reverse us.reverse := by
  induction h with
  | nil => exact .nil
  | cons r t ih => rw [List.reverse_cons, List.reverse_cons]; exact Vals.append ih (.cons r .nil)
theorem erase_last {α : Type} (l : List α) : l.eraseIdx (l.length - 1) = l.dropLast := by
  induction l with
  | nil => rfl
  | cons a r ih =>
    cases r with
    | nil => rfl
    | cons b r =>
      have e : (a :: b :: r).length - 1 = ((b :: r).length - 1) + 1 := by
        have h1 : (a :: b :: r).length = r.length + 2 := rfl
        have h2 : (b :: r).length = r.length + 1 := rfl
        omega
      rw [e, List.eraseIdx_cons_succ, ih]
      all_goals rfl
section
variable {X : Cx} {pins : List (Addr × Obj)} {σ : St} {H : Hp} {s : Shared} {l b : Addr} {xs ys zs : List V}
theorem Inv.lset {its its' : List Value} {n : Nat} {f : Array Value → Array Value} {t' : Nat} (I : Inv X pins σ H s) (hH : H l = some (.lst xs))
    (e : s.heap.get? l = some { cls := .type "list", data := .seq its.toArray n }) (hf : f its.toArray = its'.toArray) (hv : Vals ys its') (hz : ys.length ≤ sizeLine) :
    Inv X pins σ (upd H l (.lst ys)) { s with heap := s.heap.update l (Obj.mapSeq f), toks := t' } := by
  have q := PySem.IsL.update e f
  rw [hf] at q
  refine I.write (x := l) (e := l) (by rw [hH]; exact trivial) (.inl rfl) (fun b' u hb hu => (Heap.get?_update_other s.heap (Obj.mapSeq f) (Ne.symm hb)).trans hu) ⟨_, q⟩ ?_
  exact ⟨hz, its', _, hv, q⟩
theorem Inv.lnew {its : List Value} {t' : Nat} (I : Inv X pins σ H s) (hv : Vals ys its) (hz : ys.length ≤ sizeLine) :
    Inv X pins σ (upd H s.heap.objs.size (.lst ys)) { s with heap := s.heap.push { cls := .type "list", data := .seq its.toArray }, toks := t' } :=
  I.laid (fun _ _ q => Heap.get?_push_of_some _ q) (Nat.le_refl _) ⟨hz, its, 0, hv, Heap.get?_push_size _ rfl⟩
theorem Inv.fresh (I : Inv X pins σ H s) : H s.heap.objs.size = none := I.hok.fresh (Nat.le_refl _)
theorem Inv.lstM (I : Inv X pins σ H s) (hH : H l = some (.lst xs)) : xs.length ≤ sizeLine ∧ ∃ (its : List Value) (n : Nat), Vals xs its ∧ xs.length = its.length ∧ s.heap.get? l = some { cls := .type "list", data := .seq its.toArray n } := by
  obtain ⟨z, its, n, r, e⟩ := I.hok l _ hH
  exact ⟨z, its, n, r, r.length, e⟩
end
section
variable {X : Cx}
noncomputable def rAppend : V → List V → Hp → VK → Prop := fun x vs H Q => ∃ l xs y, x = .ref l ∧ vs = [y] ∧ H l = some (.lst xs) ∧ xs.length < sizeLine ∧ Q .non (upd H l (.lst (xs ++ [y])))
theorem mt_append : MtM X "list.append" rAppend := by
  intro pins s σ H x vs v us Q I rx rv h
  obtain ⟨l, xs, y, rfl, rfl, hH, hz, q⟩ := h
  cases rx
  obtain ⟨u, rfl, ru⟩ := rv.one
  obtain ⟨z, its, n, r, hl, e⟩ := I.lstM hH
  refine call_meets F.slot_list_append ⟨_, e, rfl⟩ F.entry_list_append (F.args_list_append_2 _ _) (PySem.list_append l its.toArray n u (by rw [List.size_toArray]; omega)) ⟨e, ?_⟩
  refine ⟨.non, _, I.lset (its' := its ++ [u]) hH e (by simp) (r.append (.cons ru .nil)) ?_, rfl, q⟩
  rw [List.length_append, List.length_singleton]
  omega
noncomputable def rPop : V → List V → Hp → VK → Prop := fun x vs H Q => ∃ l xs y, x = .ref l ∧ vs = [] ∧ H l = some (.lst xs) ∧ xs[xs.length - 1]? = some y ∧ Q y (upd H l (.lst xs.dropLast))
theorem mt_pop : MtM X "list.pop" rPop := by
  intro pins s σ H x vs v us Q I rx rv h
  obtain ⟨l, xs, y, rfl, rfl, hH, hy, q⟩ := h
  cases rx
  have hus := rv.zero
  subst hus
  obtain ⟨z, its, n, r, hl, e⟩ := I.lstM hH
  obtain ⟨u, hu, ru⟩ := r.get hy
  have hy' : its.toArray[its.toArray.size - 1]? = some u := by
    show its.toArray[its.length - 1]? = some u
    rw [← Array.getElem?_toList, ← hl]
    exact hu
  refine call_meets F.slot_list_pop ⟨_, e, rfl⟩ F.entry_list_pop (F.args_list_pop_1 _) (MeetsSeq.list_pop_last l its.toArray n u hy' (by rw [List.size_toArray]; omega)) ⟨e, ?_⟩
  refine ⟨y, _, I.lset (its' := its.dropLast) hH e ?_ r.dropLast ?_, ru, q⟩
  · show its.toArray.eraseIdxIfInBounds (its.toArray.size - 1) = its.dropLast.toArray
    rw [List.size_toArray, List.eraseIdxIfInBounds_toArray, erase_last]
  · rw [List.length_dropLast]
    omega
end
end L2
namespace Att
open PySem PySem.W PySem.Calls PyProof.Rows
theorem ints_of_wellAll {P : Params} {h : Heap} : ∀ (ns : List Int) (vs : List Value), WellAll P h vs (ns.map WData.int) → IntsAre vs ns := by
  intro ns
  induction ns with
  | nil =>
    intro vs w
    rw [List.map_nil] at w
    cases w
    exact .nil
  | cons n ns ih =>
    intro vs w
    rw [List.map_cons] at w
    cases w with
    | cons a b =>
      cases a
      exact .cons _ _ (ih _ b)
theorem script_of {l : OpenLaw} {n : Nat} (hn : l.most = some n) {P : Params} {h : Heap} {args : List WData} {vals : List Value}
    (hpre : l.row.toRowW.claim.pre args = true) (hwl : WellAll P h vals args) :
    ∃ a vs ns, vals = [Value.ref a] ∧ args = [WData.list (ns.map WData.int)] ∧ h.get? a = some { cls := .type "list", data := .seq vs.toArray } ∧ IntsAre vs ns ∧ ns.length ≤ n := by
  have hsh : WShape.hasAll [] args [.list .int] = true := (pre_splitW hpre).1
  have hc : l.pre.holds [] { args := args } = true := (pre_splitW hpre).2
  obtain ⟨d, r, rfl, h1, h2⟩ := hasAllW_cons hsh
  obtain rfl := hasAllW_nil h2
  obtain ⟨xs, rfl, h3⟩ := hasW_list h1
  obtain ⟨ns, rfl⟩ := items_int h3
  have hlen : ns.length ≤ n := by
    unfold OpenLaw.pre at hc
    have h4 : (WTm.not (.lt (.lit (.int (n : Int))) (.len (.arg 0)))).holds [] { args := [.list (ns.map .int)] } = true := by
      have h4 := (holds_andW hc).1
      rw [hn] at h4
      exact h4
    have h5 := condW_of h4 (w_not (w_lt w_lit (w_len_list (w_arg rfl))))
    rw [List.length_map] at h5
    refine Nat.le_of_not_lt fun q => ?_
    have q' : (n : Int) < ((ns.length : Nat) : Int) := by omega
    first
      | (rw [decide_eq_true q'] at h5; exact absurd h5 (by decide))
      | (simp at h5; omega)
  cases hwl with
  | cons w1 w2 =>
    cases w2
    cases w1 with
    | list ho hall => exact ⟨_, _, ns, rfl, rfl, ho, ints_of_wellAll ns _ hall, hlen⟩
theorem post_true (l : OpenLaw) (args : List WData) : l.row.toRowW.claim.post args (.bool true) args = true :=
  postW_of (r := l.row.toRowW) (X := (true == true))
    (show WShape.has [] (.bool true) .bool = true by first | rfl | decide | simp [WShape.has, WShape.arms, WShape.armsAll])
    (show (WTm.eq .res (.lit (.bool true))).value [] { args := args, res := some (.bool true), after := args } = some (.bool (true == true)) from w_eq_bool (w_res rfl) w_lit) rfl
theorem attach_call {l : OpenLaw} {n : Nat} {q : Program} {loose : List Str} {XP : (Str → Option Value) → Heap → Prop} {YP : World → Heap → Prop} {d : DefRec}
    (hn : l.most = some n) (hdf : d.params.defaults = [])
    (call : ∀ (w : World) (s₀ s₁ : Shared) (mg mb : Str → Option Value) (fa : Addr) (o : Obj) (pm cd doc : Value) (a : Addr) (vs : List Value) (ns : List Int),
      Ground q loose [] XP w s₀ mg mb s₁.heap → YP w s₁.heap →
      s₁.heap.get? fa = some o → o.data = .func (docDef d.name d.params d.body d.scope pm cd doc) → s₁.heap.CodeRec cd d.name → mg d.name = some (.ref fa) →
      s₁.heap.get? a = some { cls := .type "list", data := .seq vs.toArray } → IntsAre vs ns → ns.length ≤ n → s₁.gens = #[] →
      codeAny (model l.prog w) callerA (.call (.ref fa) ⟨[.ref a], []⟩) (fun r s' => r = .ok (.ret (.bool true)) ∧ OldK s₁.heap s'.heap ∧ s'.os = s₁.os ∧ AllBare s'.gens) s₁) :
    WalkO q loose XP YP l.row.toRowW d [] (fun f vs => PySem.call f vs) := by
  intro w s₀ s₁ mg mb G Y fa o pm cd doc dV kV ho hd hcd hD hmg hg args vals as hpre hlay hrd hwl hlo
  obtain rfl : dV = .none := Dflts.none hD hdf
  obtain rfl : kV = .none := Dflts.noKw hD
  obtain ⟨a, vs, ns, rfl, rfl, hobj, hints, hlen⟩ := script_of hn hpre hwl
  refine enter_call (codeAny_mono (call w s₀ s₁ mg mb fa o pm cd doc a vs ns G Y ho (fd_plain hd) hcd hmg hobj hints hlen hg) fun r s' hq => ?_)
  obtain ⟨rfl, h2, h3, h4⟩ := hq
  exact ⟨.inl ⟨.bool true, .bool true, [], rfl, fun _ => rfl, .bool true, post_true l _, fun _ => ⟨List.Pairwise.nil, fun _ hm => (nomatch hm)⟩⟩, h2, h3, h4⟩
end Att
namespace L2
open PySem PySem.Spec PyProof.Rows
theorem vals_ints : ∀ {vs : List Value} {ns : List Int}, IntsAre vs ns → Vals (ns.map V.int) vs
  | _, _, .nil => .nil
  | _, _, .cons n t h => .cons ⟨t, rfl⟩ (vals_ints h)
noncomputable def Only (H : Hp) : Prop := ∀ b, H b = none ∨ ∃ o xs, H b = some (.frz o (.lst xs))
theorem law_call {P : Program} {w : World} {K : Fg} {mg mb : Str → Option Value} {CX : CXT} {k : Nat} {fa a : Addr} {fd : FuncData} {x : Str} {sp : Sp} {s₁ : Shared} {vs : List Value} {ns : List Int}
    (KX : K.In s₁.heap) (hns : s₁.heap.Ns mainGlobals mg) (hb : s₁.heap.Ns builtinsNs mb) (hbb : ∀ x : Str, x ≠ "__name__" → mb x = bootBuiltins x) (hlim : s₁.heap.NoLimit) (hg : s₁.gens = #[])
    (ha : s₁.heap.get? a = some { cls := .type "list", data := .seq vs.toArray }) (hi : IntsAre vs ns) (hl : ns.length ≤ sizeLine) (hr : Room k callerA)
    (F : ∀ base : Heap, K.In base → base.Ns mainGlobals mg → FnOk P w K mg base CX k fa fd [x] sp) (hbind : ∀ (s : Shared) (u : Value), BindsTo s fd ⟨[u], []⟩ [(x, u)])
    (hsp : ∀ H : Hp, Only H → SqL K H a (ns.map V.int) → sp [.ref a] H (fun v _ => v = .bl true) fun _ _ _ => False)
    (hCX : ∀ H e s', CX [] H s₁ (fun _ _ _ => False) e s' → False) :
    codeAny (model P w) callerA (.call (.ref fa) ⟨[.ref a], []⟩) (fun r s' => r = .ok (.ret (.bool true)) ∧ OldK s₁.heap s'.heap ∧ s'.os = s₁.os ∧ AllBare s'.gens) s₁ := by
  have rv := vals_ints hi
  have lenV := hi.length
  have core : ∀ H : Hp, Only H → SqL K H a (ns.map V.int) → HOk P w H s₁.heap → (∀ b, H b ≠ none → b = a) → (H a ≠ none → K.lookup a = none) →
      codeAny (model P w) callerA (.call (.ref fa) ⟨[.ref a], []⟩) (fun r s' => r = .ok (.ret (.bool true)) ∧ OldK s₁.heap s'.heap ∧ s'.os = s₁.os ∧ AllBare s'.gens) s₁ := by
    intro H hO hS hok hA hK
    have base_of : ∀ {b : Addr} {o : Obj}, s₁.heap.get? b = some o → H b = none → (hidT s₁.heap H).get? b = some o := fun e n => hidT_get e n
    have noA : ∀ {b : Addr} {o : Obj} {es : Array DictEntry} {ep : Nat}, s₁.heap.get? b = some o → o.data = .dict es ep → H b = none := fun {b o es ep} e d => by
      cases q : H b with
      | none => rfl
      | some u =>
        have e' : b = a := hA b (by rw [q]; simp)
        subst e'
        rw [ha] at e; cases e
        have d' : Data.seq vs.toArray _ = Data.dict es ep := d
        cases d'
    have nsK : ∀ {b : Addr} {m : Str → Option Value}, s₁.heap.Ns b m → (hidT s₁.heap H).Ns b m := fun {b m} ⟨o, es, ep, e, d, r⟩ => ⟨o, es, ep, base_of e (noA e d), d, r⟩
    have hKb : K.In (hidT s₁.heap H) := fun b o e => base_of (KX b o e) (by
      cases q : H b with
      | none => rfl
      | some u =>
        have e' : b = a := hA b (by rw [q]; simp)
        subst e'
        rw [hK (by rw [q]; simp)] at e; cases e)
    have hM : Mod K mg (hidT s₁.heap H) := ⟨hKb, nsK hns, ⟨mb, nsK hb, hbb⟩, let ⟨mc, h1, h2⟩ := hlim; ⟨mc, nsK h1, h2⟩⟩
    have e0 : Env0 P w K mg (hidT s₁.heap H) callerA [] s₁ H := ⟨rfl, hM, fun b o e => of_hidT e, Nat.le_of_eq (hidT_size _ _), trivial, fun b hb => absurd (show b ∈ ([] : List Addr) from hb) (by simp), hok, .of_eq hg⟩
    refine codeAny_mono ((F _ hKb (nsK hns)).run callerA [] s₁ H ⟨[.ref a], []⟩ [.ref a] [.ref a] _ _ hr e0 (hbind s₁ (.ref a)) (.cons rfl .nil) (hsp H hO hS)) fun r s' h => ?_
    cases r with
    | error e => exact (hCX H e s' h).elim
    | ok fl =>
      cases fl with
      | next => exact False.elim h
      | brk => exact False.elim h
      | cont => exact False.elim h
      | ret u =>
        obtain ⟨v, H', os, bare, un, hok', r', q⟩ := h
        have q' : v = .bl true := q
        subst q'
        obtain rfl : u = Value.bool true := r'
        refine ⟨rfl, OldK.of_keep fun b o e => ?_, os, bare⟩
        cases q : H b with
        | none => exact un.keep b o e q (by intro z; exact absurd (show b ∈ ([] : List Addr) from z) (by simp)) (by simp)
        | some u =>
          rcases hO b with z | ⟨ob, xs, z⟩
          · rw [q] at z; cases z
          · have z2 := un.frzs b ob _ z
            obtain ⟨e1, _⟩ := hok b _ z
            obtain ⟨e2, _⟩ := hok' b _ z2
            rw [e] at e1; cases e1
            exact e2
  cases hk : K.lookup a with
  | some o =>
    have e := KX a o hk
    rw [ha] at e
    cases e
    refine core (fun _ => none) (fun _ => .inl rfl) (.inr ⟨_, vs.toArray, _, hk, rfl, rfl, rfl, by rw [List.size_toArray, lenV]; exact hl, by simpa using rv⟩) (fun b u z => by have z' : (none : Option HO) = some u := z; cases z') (fun b z => absurd rfl z) fun z => absurd rfl z
  | none =>
    refine core (fun b => if b = a then some (.frz { cls := .type "list", data := .seq vs.toArray } (.lst (ns.map V.int))) else none) (fun b => ?_) (.inl (.inr ⟨{ cls := .type "list", data := .seq vs.toArray }, if_pos rfl⟩)) (fun b u z => ?_) (fun b z => ?_) fun _ => hk
    · by_cases hb : b = a
      · exact .inr ⟨_, _, if_pos hb⟩
      · exact .inl (if_neg hb)
    · by_cases hb : b = a
      · have z' := (if_pos hb).symm.trans z
        cases z'
        subst hb
        exact ⟨ha, by rw [List.length_map]; exact hl, vs, _, rv, ha⟩
      · have z' := (if_neg hb).symm.trans z
        cases z'
    · by_cases hb : b = a
      · exact hb
      · exact absurd (if_neg hb) z
end L2
namespace L2
open PySem PySem.Spec PyProof.Rows
theorem walk_of {l : PySem.W.OpenLaw} {n k : Nat} {q : Program} {loose : List Str} {XP : (Str → Option Value) → Heap → Prop} {YP : World → Heap → Prop} {d : DefRec} {K : Params → Fg} {CX : World → CXT} {sp : World → Sp} {x : Str}
    (hn : l.most = some n) (hn2 : n ≤ sizeLine) (hdf : d.params.defaults = []) (hr : Room k callerA)
    (hY : ∀ (w : World) (h : Heap), YP w h → (K w.params).In h)
    (F : ∀ (w : World) (mg : Str → Option Value) (fa : Addr) (h : Heap), (K w.params).In h → h.Ns mainGlobals mg → mg d.name = some (.ref fa) →
      ∃ fd : FuncData, (∀ (s : Shared) (u : Value), BindsTo s fd ⟨[u], []⟩ [(x, u)]) ∧
        ∀ base : Heap, (K w.params).In base → base.Ns mainGlobals mg → FnOk l.prog w (K w.params) mg base (CX w) k fa fd [x] (sp w))
    (hsp : ∀ (w : World) (H : Hp) (a : Addr) (ns : List Int), ns.length ≤ n → Only H → SqL (K w.params) H a (ns.map V.int) → sp w [.ref a] H (fun v _ => v = .bl true) fun _ _ _ => False)
    (hCX : ∀ (w : World) (H : Hp) (s : Shared) (e : Value) (s' : Shared), CX w [] H s (fun _ _ _ => False) e s' → False) :
    PySem.W.WalkO q loose XP YP l.row.toRowW d [] (fun f vs => PySem.call f vs) := by
  refine Att.attach_call hn hdf fun w s₀ s₁ mg mb fa o pm cd doc a vs ns G Y ho hd hcd hmg hobj hints hlen hg => ?_
  have KX := hY w _ Y
  obtain ⟨fd, hb, hF⟩ := F w mg fa _ KX G.T.g hmg
  exact law_call KX G.T.g G.T.b G.T.builtins G.T.nolimit hg hobj hints (Nat.le_trans hlen hn2) hr hF hb (fun H hO hS => hsp w H a ns hlen hO hS) fun H e s' => hCX w H s₁ e s'
theorem walk_ofK {l : PySem.W.OpenLaw} {n k : Nat} {q : Program} {loose : List Str} {XP : (Str → Option Value) → Heap → Prop} {YP : World → Heap → Prop} {d : DefRec} {K : Params → Fg} {CX : CXT} {sp : Fg → Sp} {x : Str}
    (hn : l.most = some n) (hn2 : n ≤ sizeLine) (hdf : d.params.defaults = []) (hr : Room k callerA)
    (hY : ∀ (w : World) (h : Heap), YP w h → (K w.params).In h)
    (F : ∀ (w : World) (mg : Str → Option Value) (fa : Addr) (h : Heap), (K w.params).In h → h.Ns mainGlobals mg → mg d.name = some (.ref fa) →
      ∃ fd : FuncData, (∀ (s : Shared) (u : Value), BindsTo s fd ⟨[u], []⟩ [(x, u)]) ∧
        ∀ base : Heap, (K w.params).In base → base.Ns mainGlobals mg → FnOk l.prog w (K w.params) mg base CX k fa fd [x] (sp (K w.params)))
    (hsp : ∀ (K : Fg) (H : Hp) (a : Addr) (ns : List Int), ns.length ≤ n → Only H → SqL K H a (ns.map V.int) → sp K [.ref a] H (fun v _ => v = .bl true) fun _ _ _ => False)
    (hCX : ∀ (H : Hp) (s : Shared) (e : Value) (s' : Shared), CX [] H s (fun _ _ _ => False) e s' → False) :
    PySem.W.WalkO q loose XP YP l.row.toRowW d [] (fun f vs => PySem.call f vs) :=
  walk_of (K := K) (CX := fun _ => CX) (sp := fun w => sp (K w.params)) hn hn2 hdf hr hY F (fun w H a ns h1 h2 h3 => hsp (K w.params) H a ns h1 h2 h3) fun _ H s e s' => hCX H s e s'
end L2
namespace L2
open PySem PySem.Spec PyProof.Rows
noncomputable def defArgs (s : Stmt) : Arguments := match s with
  | .FunctionDef _ a _ _ _ _ _ _ _ _ => a
  | _ => { posonlyargs := [], args := [], vararg := none, kwonlyargs := [], kw_defaults := [], kwarg := none, defaults := [] }
noncomputable def defBody (s : Stmt) : List Stmt := match s with
  | .FunctionDef _ _ b _ _ _ _ _ _ _ => b
  | _ => []
noncomputable def defScope (s : Stmt) : Scope := match s with
  | .FunctionDef _ _ _ _ _ _ sc _ _ _ => sc
  | _ => { kind := .function, names := [], isGenerator := false, isCoroutine := false }
noncomputable abbrev CX0 : CXT := fun _ _ _ _ _ _ => False
noncomputable abbrev E0 : XK := fun _ _ _ => False
theorem pass0 {X : Cx} : Passes CX0 X E0 := fun _ _ _ _ _ _ _ h => h.elim
structure Fun (K : Fg) (x qual : Str) (st : Stmt) (f : Addr) (fd : FuncData) : Prop where
  ex : ∃ (oc : Value) (od : Option Addr) (kV doc pm : Value) (an : Option Addr) (cdv ct : Value) (osl : Array (Option Value)),
    fd = PySem.W.fnOf x qual (defArgs st) (defBody st) (defScope st) .none kV doc pm an cdv ct ∧ K.lookup f = some ⟨oc, od, .func fd, osl⟩ ∧ PySem.W.codeIn K cdv qual = true
  kp : PySem.W.keepIn K (.ref f) = true
section
variable {P : Program} {w : World} {K : Fg} {mg : Str → Option Value} {base : Heap}
theorem Fun.ok {x qual : Str} {st : Stmt} {f : Addr} {fd : FuncData} {N ps : List Str} {k : Nat} {sp : Sp} (F : Fun K x qual st f fd) (S : FnScope N ps (defScope st)) (len : ∀ vs H Q E, sp vs H Q E → vs.length = ps.length)
    (hbody : ∀ (cdv : Value) (A : Around) (outer : List Env) (s : Shared) (H : Hp) (vs : List V) (Q : VK) (E : XK), Room k (A.deeper (envOfC qual (defScope st) s.heap.objs.size f cdv)) → sp vs H Q E →
      ∃ t, PSs (cxOf CX0 P w K mg base N qual (defScope st) f cdv A outer s H E).nox (defBody st) t ∧ t { nx := fun _ H' => Q .non H', rt := Q } (start N vs) H) : FnOk P w K mg base CX0 (k + 1) f fd ps sp := by
  obtain ⟨oc, od, kV, doc, pm, an, cdv, ct, osl, rfl, lk, hcd⟩ := F.ex
  refine fn_of lk hcd S len fun A outer s H vs Q E hr hsp => ?_
  obtain ⟨t, h, q⟩ := hbody cdv A outer s H vs Q E hr hsp
  exact ⟨t, h.nox, q⟩
theorem Fun.binds {x qual : Str} {st : Stmt} {f : Addr} {fd : FuncData} {ps : List Str} (F : Fun K x qual st f fd)
    (h : ∀ (kV doc pm : Value) (an : Option Addr) (cdv ct : Value) (us : List Value), us.length = ps.length → bindArgs (PySem.W.fnOf x qual (defArgs st) (defBody st) (defScope st) .none kV doc pm an cdv ct) ⟨us, []⟩ = pure (ps.zip us)) : Binds K fd ps [] := by
  obtain ⟨oc, od, kV, doc, pm, an, cdv, ct, osl, rfl, lk, hcd⟩ := F.ex
  exact .all (h kV doc pm an cdv ct)
theorem fun_mk {x qual : Str} {st : Stmt} {f : Addr} {oc : Value} {od an : Option Addr} {osl : Array (Option Value)} {kV doc pm cdv ct : Value} (l : K.lookup f = some ⟨oc, od, .func (PySem.W.fnOf x qual (defArgs st) (defBody st) (defScope st) .none kV doc pm an cdv ct), osl⟩)
    (c : PySem.W.codeIn K cdv qual = true) (k : PySem.W.keepIn K (.ref f) = true) : Fun K x qual st f (PySem.W.fnOf x qual (defArgs st) (defBody st) (defScope st) .none kV doc pm an cdv ct) := ⟨⟨oc, od, kV, doc, pm, an, cdv, ct, osl, rfl, l, c⟩, k⟩
end
section
variable {X : Cx}
theorem pv (i : Nat) {x : Str} {pos : Pos} (hN : X.N[i]? = some x := by rfl) (hv : Vis X.env.scope x := by first | exact Or.inl rfl | exact Or.inr (Or.inl rfl) | exact Or.inr (Or.inr rfl)) (hd : (x == ("__debug__" : Str)) = false := by decide)
    (hcd : (x == ("__classdict__" : Str)) = false := by decide) : PE X (.Name x pos) (tVar i) := pe_var hN hv hd hcd
end
theorem iteF {A B : Prop} (h : B) : if false = true then A else B := by
  rw [if_neg Bool.false_ne_true]
  exact h
theorem iteT {A B : Prop} (h : A) : if true = true then A else B := by
  rw [if_pos rfl]
  exact h
noncomputable def Same (H H' : Hp) : Prop := ∀ b o, H b = some o → H' b = some o
theorem Same.refl (H : Hp) : Same H H := fun _ _ h => h
theorem Same.trans {H H1 H2 : Hp} (a : Same H H1) (b : Same H1 H2) : Same H H2 := fun c o h => b c o (a c o h)
theorem Same.free {H H' : Hp} (e : Same H H') {l : Addr} (h : H' l = Option.none) : H l = Option.none := by
  cases q : H l with
  | none => rfl
  | some o =>
    rw [e l o q] at h
    cases h
theorem Same.seq {K : Fg} {H H' : Hp} {a : Addr} {xs : List V} (e : Same H H') (h : SqL K H a xs) : SqL K H' a xs := by
  rcases h with (h | ⟨o, h⟩) | h
  · exact .inl (.inl (e _ _ h))
  · exact .inl (.inr ⟨o, e _ _ h⟩)
  · exact .inr h
end L2
namespace DD
open PySem PySem.Spec PyProof.Rows L2
noncomputable abbrev St := L2.St
inductive D where
  | non | bl (b : Bool) | int (i : Int) | str (s : List Nat) | tup (l : List D) | lst (l : List D) | ty (n : String) | ref (a : Addr)
noncomputable def LsAt (K : Fg) (O : Addr → Prop) (H : Hp) (a : Addr) (xs : List V) : Prop :=
  (¬ O a ∧ Rd H a (.lst xs)) ∨ ∃ (o : Obj) (its : Array Value) (n : Nat), K.lookup a = some o ∧ o.cls = .type "list" ∧ o.dict = none ∧ o.data = .seq its n ∧ its.size ≤ sizeLine ∧ Vals xs its.toList
theorem LsAt.sq {K : Fg} {O : Addr → Prop} {H : Hp} {a : Addr} {xs : List V} (h : LsAt K O H a xs) : SqL K H a xs := h.imp (·.2) id
mutual
noncomputable def Is (K : Fg) (O : Addr → Prop) (H : Hp) : D → V → Prop
  | .non, v => v = .non
  | .bl b, v => v = .bl b
  | .int i, v => v = .int i
  | .str s, v => v = .str ⟨s.toArray⟩
  | .ty n, v => v = .ty n
  | .ref a, v => v = .ref a
  | .tup l, v => ∃ a xs, v = .ref a ∧ SqT K H a xs ∧ IsL K O H l xs
  | .lst l, v => ∃ a xs, v = .ref a ∧ LsAt K O H a xs ∧ IsL K O H l xs
noncomputable def IsL (K : Fg) (O : Addr → Prop) (H : Hp) : List D → List V → Prop
  | [], vs => vs = []
  | d :: l, vs => ∃ v r, vs = v :: r ∧ Is K O H d v ∧ IsL K O H l r
end
noncomputable def OLst (O : Addr → Prop) (H : Hp) : Prop := ∀ a, O a → ∃ xs, H a = some (.lst xs)
noncomputable def Keep (O : Addr → Prop) (H H' : Hp) : Prop := ∀ b o, H b = some o → ¬ O b → H' b = some o
theorem Rd.some {H : Hp} {a : Addr} {u : HO} (h : Rd H a u) : ∃ o, H a = some o := by
  rcases h with h | ⟨o, h⟩
  · exact ⟨_, h⟩
  · exact ⟨_, h⟩
theorem SqT.keep {K : Fg} {O : Addr → Prop} {H H' : Hp} {a : Addr} {xs : List V} (k : Keep O H H') (o : OLst O H) (h : SqT K H a xs) : SqT K H' a xs := by
  rcases h with (h | ⟨ob, h⟩) | h
  · exact .inl (.inl (k _ _ h fun z => by obtain ⟨ys, q⟩ := o a z; rw [h] at q; cases q))
  · exact .inl (.inr ⟨ob, k _ _ h fun z => by obtain ⟨ys, q⟩ := o a z; rw [h] at q; cases q⟩)
  · exact .inr h
theorem Rd.keep {O : Addr → Prop} {H H' : Hp} {a : Addr} {u : HO} (k : Keep O H H') (n : ¬ O a) (h : Rd H a u) : Rd H' a u := by
  rcases h with h | ⟨ob, h⟩
  · exact .inl (k _ _ h n)
  · exact .inr ⟨ob, k _ _ h n⟩
mutual
theorem Is.mono {K : Fg} {O O' : Addr → Prop} {H H' : Hp} (k : Keep O H H') (ol : OLst O H) (oo : ∀ a, O' a → H a ≠ none → O a) : ∀ (d : D) (v : V), Is K O H d v → Is K O' H' d v
  | .non, v, h => by unfold Is at h ⊢; exact h
  | .bl b, v, h => by unfold Is at h ⊢; exact h
  | .int i, v, h => by unfold Is at h ⊢; exact h
  | .str s, v, h => by unfold Is at h ⊢; exact h
  | .ty n, v, h => by unfold Is at h ⊢; exact h
  | .ref a, v, h => by unfold Is at h ⊢; exact h
  | .tup l, v, h => by
    unfold Is at h ⊢
    obtain ⟨a, xs, e, q, r⟩ := h
    exact ⟨a, xs, e, SqT.keep k ol q, IsL.mono k ol oo l xs r⟩
  | .lst l, v, h => by
    unfold Is at h ⊢
    obtain ⟨a, xs, e, nq, r⟩ := h
    refine ⟨a, xs, e, ?_, IsL.mono k ol oo l xs r⟩
    rcases nq with ⟨n, q⟩ | q
    · exact .inl ⟨fun z => n (oo a z (by obtain ⟨o, q⟩ := Rd.some q; rw [q]; simp)), Rd.keep k n q⟩
    · exact .inr q
theorem IsL.mono {K : Fg} {O O' : Addr → Prop} {H H' : Hp} (k : Keep O H H') (ol : OLst O H) (oo : ∀ a, O' a → H a ≠ none → O a) : ∀ (l : List D) (vs : List V), IsL K O H l vs → IsL K O' H' l vs
  | [], vs, h => by unfold IsL at h ⊢; exact h
  | d :: l, vs, h => by
    unfold IsL at h ⊢
    obtain ⟨v, r, e, h1, h2⟩ := h
    exact ⟨v, r, e, Is.mono k ol oo d v h1, IsL.mono k ol oo l r h2⟩
end
theorem Same.kp {H H' : Hp} (s : Same H H') (O : Addr → Prop) : Keep O H H' := fun b o e _ => s b o e
theorem Is.same {K : Fg} {O : Addr → Prop} {H H' : Hp} {d : D} {v : V} (s : Same H H') (ol : OLst O H) (h : Is K O H d v) : Is K O H' d v := Is.mono (Same.kp s O) ol (fun _ z _ => z) d v h
theorem IsL.same {K : Fg} {O : Addr → Prop} {H H' : Hp} {l : List D} {vs : List V} (s : Same H H') (ol : OLst O H) (h : IsL K O H l vs) : IsL K O H' l vs := IsL.mono (Same.kp s O) ol (fun _ z _ => z) l vs h
section
variable {K : Fg} {O : Addr → Prop} {H : Hp}
theorem IsL.length : ∀ {l : List D} {vs : List V}, IsL K O H l vs → l.length = vs.length
  | [], vs, h => by unfold IsL at h; subst h; rfl
  | d :: l, vs, h => by unfold IsL at h; obtain ⟨v, r, rfl, _, h2⟩ := h; simp [IsL.length h2]
theorem IsL.get : ∀ {l : List D} {vs : List V} {i : Nat} {d : D}, IsL K O H l vs → l[i]? = some d → ∃ v, vs[i]? = some v ∧ Is K O H d v
  | [], _, _, _, _, e => by simp at e
  | d :: l, vs, 0, d', h, e => by
    unfold IsL at h; obtain ⟨v, r, rfl, h1, h2⟩ := h
    simp at e; subst e; exact ⟨v, rfl, h1⟩
  | d :: l, vs, i + 1, d', h, e => by
    unfold IsL at h; obtain ⟨v, r, rfl, h1, h2⟩ := h
    obtain ⟨u, q1, q2⟩ := IsL.get (i := i) h2 (by simpa using e)
    exact ⟨u, by simpa using q1, q2⟩
theorem IsL.nil : IsL K O H [] [] := by unfold IsL; rfl
theorem IsL.cons {d : D} {v : V} {l : List D} {vs : List V} (h : Is K O H d v) (t : IsL K O H l vs) : IsL K O H (d :: l) (v :: vs) := by unfold IsL; exact ⟨v, vs, rfl, h, t⟩
theorem IsL.append : ∀ {l m : List D} {vs us : List V}, IsL K O H l vs → IsL K O H m us → IsL K O H (l ++ m) (vs ++ us)
  | [], _, _, _, h, t => by unfold IsL at h; subst h; exact t
  | d :: l, m, vs, us, h, t => by unfold IsL at h; obtain ⟨v, r, rfl, h1, h2⟩ := h; exact .cons h1 (IsL.append h2 t)
theorem IsL.take : ∀ {l : List D} {vs : List V} (n : Nat), IsL K O H l vs → IsL K O H (l.take n) (vs.take n)
  | _, _, 0, _ => by simpa using IsL.nil
  | [], _, _ + 1, h => by unfold IsL at h; subst h; simpa using IsL.nil
  | d :: l, vs, n + 1, h => by unfold IsL at h; obtain ⟨v, r, rfl, h1, h2⟩ := h; exact .cons h1 (IsL.take n h2)
theorem IsL.drop : ∀ {l : List D} {vs : List V} (n : Nat), IsL K O H l vs → IsL K O H (l.drop n) (vs.drop n)
  | _, _, 0, h => h
  | [], _, _ + 1, h => by unfold IsL at h; subst h; simpa using IsL.nil
  | d :: l, vs, n + 1, h => by unfold IsL at h; obtain ⟨v, r, rfl, h1, h2⟩ := h; exact IsL.drop n h2
theorem IsL.reverse : ∀ {l : List D} {vs : List V}, IsL K O H l vs → IsL K O H l.reverse vs.reverse
  | [], _, h => by unfold IsL at h; subst h; exact IsL.nil
  | d :: l, vs, h => by
    unfold IsL at h; obtain ⟨v, r, rfl, h1, h2⟩ := h
    rw [List.reverse_cons, List.reverse_cons]; exact (IsL.reverse h2).append (.cons h1 .nil)
theorem IsL.inv1 {d : D} {vs : List V} (h : IsL K O H [d] vs) : ∃ v, vs = [v] ∧ Is K O H d v := by
  unfold IsL at h
  obtain ⟨v, r, rfl, h1, h2⟩ := h
  unfold IsL at h2; subst h2
  exact ⟨v, rfl, h1⟩
theorem IsL.inv2 {d e : D} {vs : List V} (h : IsL K O H [d, e] vs) : ∃ v u, vs = [v, u] ∧ Is K O H d v ∧ Is K O H e u := by
  unfold IsL at h
  obtain ⟨v, r, rfl, h1, h2⟩ := h
  obtain ⟨u, rfl, h3⟩ := h2.inv1
  exact ⟨v, u, rfl, h1, h3⟩
theorem IsL.inv3 {d e f : D} {vs : List V} (h : IsL K O H [d, e, f] vs) : ∃ v u w, vs = [v, u, w] ∧ Is K O H d v ∧ Is K O H e u ∧ Is K O H f w := by
  unfold IsL at h
  obtain ⟨v, r, rfl, h1, h2⟩ := h
  obtain ⟨u, w, rfl, h3, h4⟩ := h2.inv2
  exact ⟨v, u, w, rfl, h1, h3, h4⟩
theorem Is.int_iff {i : Int} {v : V} : Is K O H (.int i) v ↔ v = .int i := by unfold Is; exact Iff.rfl
theorem Is.bl_iff {b : Bool} {v : V} : Is K O H (.bl b) v ↔ v = .bl b := by unfold Is; exact Iff.rfl
theorem Is.str_iff {s : List Nat} {v : V} : Is K O H (.str s) v ↔ v = .str ⟨s.toArray⟩ := by unfold Is; exact Iff.rfl
theorem Is.non_iff {v : V} : Is K O H .non v ↔ v = .non := by unfold Is; exact Iff.rfl
theorem Is.ty_iff {n : String} {v : V} : Is K O H (.ty n) v ↔ v = .ty n := by unfold Is; exact Iff.rfl
theorem Is.ref_iff {a : Addr} {v : V} : Is K O H (.ref a) v ↔ v = .ref a := by unfold Is; exact Iff.rfl
theorem Is.tup_iff {l : List D} {v : V} : Is K O H (.tup l) v ↔ ∃ a xs, v = .ref a ∧ SqT K H a xs ∧ IsL K O H l xs := by unfold Is; exact Iff.rfl
theorem Is.lst_iff {l : List D} {v : V} : Is K O H (.lst l) v ↔ ∃ a xs, v = .ref a ∧ LsAt K O H a xs ∧ IsL K O H l xs := by unfold Is; exact Iff.rfl
end
inductive Sl where
  | un | v (d : D) | o (l : List D) | p (l : List D) | z (l : List D)
noncomputable abbrev En := List Sl
noncomputable def Sl.own : Sl → Option (List D)
  | .o l => some l
  | .p l => some l
  | .z l => some l
  | _ => none
noncomputable def Sl.mt : Sl → Option (List D)
  | .o l => some l
  | .p l => some l
  | _ => none
noncomputable def AtS (q : Sl → Option (List D)) (r : En) (σ : St) (a : Addr) : Prop := ∃ (i : Nat) (l : List D), (r[i]?).bind q = some l ∧ σ[i]? = some (some (.ref a))
noncomputable abbrev OwnAt := AtS Sl.own
noncomputable abbrev MutAt := AtS Sl.mt
theorem mt_own {x : Sl} {l : List D} (h : x.mt = some l) : x.own = some l := by
  cases x <;> first | (cases h; rfl) | cases h
theorem MutAt.own {r : En} {σ : St} {a : Addr} (h : MutAt r σ a) : OwnAt r σ a := by
  obtain ⟨i, l, e, q⟩ := h
  obtain ⟨x, e1, e2⟩ := Option.bind_eq_some_iff.mp e
  exact ⟨i, l, by rw [e1]; exact mt_own e2, q⟩
noncomputable def Ow (O0 : Addr → Prop) (r : En) (σ : St) : Addr → Prop := fun a => O0 a ∨ OwnAt r σ a
structure R (K : Fg) (O0 : Addr → Prop) (H : Hp) (r : En) (σ : St) : Prop where
  len : r.length = σ.length
  val : ∀ (i : Nat) (d : D), r[i]? = some (.v d) → ∃ v, σ[i]? = some (some v) ∧ Is K (Ow O0 r σ) H d v
  own : ∀ (i : Nat) (l : List D), (r[i]?).bind Sl.own = some l → ∃ a xs, σ[i]? = some (some (.ref a)) ∧ H a = some (.lst xs) ∧ IsL K (Ow O0 r σ) H l xs
  apart : ∀ (i j : Nat) (a : Addr) (l m : List D), (r[i]?).bind Sl.own = some l → (r[j]?).bind Sl.own = some m → σ[i]? = some (some (.ref a)) → σ[j]? = some (some (.ref a)) → i = j
  o0 : OLst O0 H
  loc : ∀ (i : Nat) (l : List D) (a : Addr), (r[i]? = some (.o l) ∨ r[i]? = some (.z l)) → σ[i]? = some (some (.ref a)) → ¬ O0 a
  par : ∀ (i : Nat) (l : List D) (a : Addr), r[i]? = some (.p l) → σ[i]? = some (some (.ref a)) → O0 a
theorem R.ol {K : Fg} {O0 : Addr → Prop} {H : Hp} {r : En} {σ : St} (h : R K O0 H r σ) : OLst (Ow O0 r σ) H := fun a z => by
  rcases z with z | ⟨i, l, e, q⟩
  · exact h.o0 a z
  · obtain ⟨b, xs, e1, e2, _⟩ := h.own i l e
    rw [q] at e1; cases e1
    exact ⟨xs, e2⟩
theorem R.nofresh {K : Fg} {O0 : Addr → Prop} {H : Hp} {r : En} {σ : St} (h : R K O0 H r σ) {a : Addr} (n : H a = none) : ¬ Ow O0 r σ a := fun z => by
  obtain ⟨xs, e⟩ := h.ol a z
  rw [n] at e; cases e
theorem R.same {K : Fg} {O0 : Addr → Prop} {H H' : Hp} {r : En} {σ : St} (h : R K O0 H r σ) (s : Same H H') : R K O0 H' r σ where
  len := h.len
  val := fun i d e => by obtain ⟨v, e1, q⟩ := h.val i d e; exact ⟨v, e1, q.same s h.ol⟩
  own := fun i l e => by obtain ⟨a, xs, e1, e2, q⟩ := h.own i l e; exact ⟨a, xs, e1, s _ _ e2, q.same s h.ol⟩
  apart := h.apart
  o0 := fun a z => by obtain ⟨xs, e⟩ := h.o0 a z; exact ⟨xs, s _ _ e⟩
  loc := h.loc
  par := h.par
structure Kp (H : Hp) (r : En) (σ : St) (H' : Hp) (r' : En) (σ' : St) : Prop where
  keep : Keep (MutAt r σ) H H'
  live : ∀ b, H' b = none → H b = none
  lst : ∀ b xs, H b = some (.lst xs) → ∃ ys, H' b = some (.lst ys)
  new : ∀ b, OwnAt r' σ' b → OwnAt r σ b ∨ H b = none
  mnew : ∀ b, MutAt r' σ' b → MutAt r σ b ∨ H b = none
  par : ∀ (i : Nat) (l : List D), r[i]? = some (.p l) → (∃ l', r'[i]? = some (.p l')) ∧ σ'[i]? = σ[i]?
  fz : ∀ (i : Nat) (l : List D), r[i]? = some (.z l) → r'[i]? = some (.z l) ∧ σ'[i]? = σ[i]?
theorem Kp.of_same {H H' : Hp} (r : En) (σ : St) (s : Same H H') : Kp H r σ H' r σ :=
  ⟨fun b o e _ => s b o e, fun b e => s.free e, fun b xs e => ⟨xs, s _ _ e⟩, fun b z => .inl z, fun b z => .inl z, fun i l e => ⟨⟨l, e⟩, rfl⟩, fun i l e => ⟨e, rfl⟩⟩
theorem Kp.refl (H : Hp) (r : En) (σ : St) : Kp H r σ H r σ := .of_same r σ (Same.refl H)
theorem Kp.trans {H H1 H2 : Hp} {r r1 r2 : En} {σ σ1 σ2 : St} (a : Kp H r σ H1 r1 σ1) (b : Kp H1 r1 σ1 H2 r2 σ2) : Kp H r σ H2 r2 σ2 where
  keep := fun c o e n => b.keep c o (a.keep c o e n) fun z => (a.mnew c z).elim n fun q => by rw [e] at q; cases q
  live := fun c e => a.live c (b.live c e)
  lst := fun c xs e => by obtain ⟨ys, q⟩ := a.lst c xs e; exact b.lst c ys q
  new := fun c z => (b.new c z).elim (a.new c) fun q => .inr (a.live c q)
  mnew := fun c z => (b.mnew c z).elim (a.mnew c) fun q => .inr (a.live c q)
  par := fun i l e => by
    obtain ⟨⟨l1, e1⟩, q1⟩ := a.par i l e
    obtain ⟨⟨l2, e2⟩, q2⟩ := b.par i l1 e1
    exact ⟨⟨l2, e2⟩, q2.trans q1⟩
  fz := fun i l e => by
    obtain ⟨e1, q1⟩ := a.fz i l e
    obtain ⟨e2, q2⟩ := b.fz i l e1
    exact ⟨e2, q2.trans q1⟩
theorem PE.conseq {X : Cx} {e : Expr} {t t' : TE} (h : PE X e t) (i : ∀ σ H Q, t' σ H Q → t σ H Q) : PE X e t' := fun pins s σ H Q I q => h pins s σ H Q I (i σ H Q q)
theorem PT.conseq {X : Cx} {e : Expr} {t t' : TT} (h : PT X e t) (i : ∀ σ H Q, t' σ H Q → t σ H Q) : PT X e t' := fun pins s σ H Q I q => h pins s σ H Q I (i σ H Q q)
theorem PA.conseq {X : Cx} {e : List Expr} {t t' : TA} (h : PA X e t) (i : ∀ σ H Q, t' σ H Q → t σ H Q) : PA X e t' := fun pos pins s σ H Q I q => h pos pins s σ H Q I (i σ H Q q)
theorem PS.conseq {X : Cx} {st : Stmt} {t t' : TS} (h : PS X st t) (i : ∀ D σ H, t' D σ H → t D σ H) : PS X st t' := fun pins s σ H D I q => h pins s σ H D I (i D σ H q)
theorem PSs.conseq {X : Cx} {st : List Stmt} {t t' : TS} (h : PSs X st t) (i : ∀ D σ H, t' D σ H → t D σ H) : PSs X st t' := fun pins s σ H D I q => h pins s σ H D I (i D σ H q)
noncomputable abbrev ME := En → Option D
noncomputable abbrev ML := En → Option (List D)
noncomputable abbrev MB := En → Option Bool
noncomputable def lE (K : Fg) (f : ME) : TE := fun σ H Q => ∃ O0 r d, R K O0 H r σ ∧ f r = some d ∧ ∀ v H', Same H H' → Is K (Ow O0 r σ) H' d v → Q v H'
noncomputable def lT (K : Fg) (f : MB) : TT := fun σ H Q => ∃ O0 r b, R K O0 H r σ ∧ f r = some b ∧ ∀ H', Same H H' → Q b H'
noncomputable def lA (K : Fg) (f : ML) : TA := fun σ H Q => ∃ O0 r l, R K O0 H r σ ∧ f r = some l ∧ ∀ vs H', Same H H' → IsL K (Ow O0 r σ) H' l vs → Q vs H'
noncomputable def lF (K : Fg) (f : ML) : TE := fun σ H Q => ∃ O0 r l, R K O0 H r σ ∧ f r = some l ∧ ∀ a xs H', Same H H' → H a = none → H' a = some (.lst xs) → IsL K (fun b => Ow O0 r σ b ∨ b = a) H' l xs → Q (.ref a) H'
noncomputable def lB (K : Fg) (f : ML) : TE := fun σ H Q => ∃ O0 r l, R K O0 H r σ ∧ f r = some l ∧ ∀ a xs H', Same H H' → SqL K H' a xs → IsL K (Ow O0 r σ) H' l xs → Q (.ref a) H'
noncomputable def lX (K : Fg) (f : En → Option (D × En)) : TE := fun σ H Q => ∃ O0 r d r', R K O0 H r σ ∧ f r = some (d, r') ∧ ∀ v H', R K O0 H' r' σ → Kp H r σ H' r' σ → Is K (Ow O0 r' σ) H' d v → Q v H'
noncomputable def DE (X : Cx) (e : Expr) (f : ME) : Prop := PE X e (lE X.K f)
noncomputable def DT (X : Cx) (e : Expr) (f : MB) : Prop := PT X e (lT X.K f)
noncomputable def DA (X : Cx) (es : List Expr) (f : ML) : Prop := PA X es (lA X.K f)
noncomputable def DF (X : Cx) (e : Expr) (f : ML) : Prop := PE X e (lF X.K f)
noncomputable def DB (X : Cx) (e : Expr) (f : ML) : Prop := PE X e (lB X.K f)
noncomputable def DX (X : Cx) (e : Expr) (f : En → Option (D × En)) : Prop := PE X e (lX X.K f)
inductive Fl where
  | nx (r : En) | bk (r : En) | ct (r : En) | rt (d : D) (r : En) | rf (l : List D) (r : En)
noncomputable abbrev MS := En → Option Fl
noncomputable def FrA (H : Hp) (r : En) (σ : St) (a : Addr) : Prop := H a = none ∨ ∃ (i : Nat) (l : List D), r[i]? = some (.o l) ∧ σ[i]? = some (some (.ref a))
noncomputable def PostS (K : Fg) (O0 : Addr → Prop) (H : Hp) (r : En) (σ : St) (Dn : Ends) : Fl → Prop
  | .nx r' => ∀ σ' H', R K O0 H' r' σ' → Kp H r σ H' r' σ' → Dn.nx σ' H'
  | .bk r' => ∀ σ' H', R K O0 H' r' σ' → Kp H r σ H' r' σ' → Dn.bk σ' H'
  | .ct r' => ∀ σ' H', R K O0 H' r' σ' → Kp H r σ H' r' σ' → Dn.ct σ' H'
  | .rt d r' => ∀ v σ' H', R K O0 H' r' σ' → Kp H r σ H' r' σ' → Is K O0 H' d v → Dn.rt v H'
  | .rf l r' => ∀ a xs σ' H', R K O0 H' r' σ' → Kp H r σ H' r' σ' → FrA H r σ a → ¬ O0 a → H' a = some (.lst xs) → IsL K (fun b => O0 b ∨ b = a) H' l xs → Dn.rt (.ref a) H'
noncomputable def lS (K : Fg) (g : MS) : TS := fun Dn σ H => ∃ O0 r fl, R K O0 H r σ ∧ g r = some fl ∧ PostS K O0 H r σ Dn fl
noncomputable def DS (X : Cx) (st : Stmt) (g : MS) : Prop := PS X st (lS X.K g)
noncomputable def DSs (X : Cx) (st : List Stmt) (g : MS) : Prop := PSs X st (lS X.K g)
theorem PostS.before {K : Fg} {O0 : Addr → Prop} {H H1 : Hp} {r r1 : En} {σ σ1 : St} {Dn : Ends} {fl : Fl} (R1 : R K O0 H1 r1 σ1) (k : Kp H r σ H1 r1 σ1) (h : PostS K O0 H r σ Dn fl) : PostS K O0 H1 r1 σ1 Dn fl := by
  have fra : ∀ a, FrA H1 r1 σ1 a → FrA H r σ a := fun a z => by
    rcases z with z | ⟨i, l, e, q⟩
    · exact .inl (k.live a z)
    · rcases k.new a ⟨i, l, by rw [e]; rfl, q⟩ with ⟨j, m, e2, q2⟩ | z
      · cases ej : r[j]? with
        | none => rw [ej] at e2; cases e2
        | some x =>
          rw [ej] at e2
          cases x with
          | un => cases e2
          | v d => cases e2
          | o l' => exact .inr ⟨j, l', ej, q2⟩
          | p l' =>
            obtain ⟨⟨l2, e3⟩, q3⟩ := k.par j l' ej
            have := R1.apart i j a l l2 (by rw [e]; rfl) (by rw [e3]; rfl) q (q3.trans q2)
            subst this
            rw [e] at e3; cases e3
          | z l' =>
            obtain ⟨e3, q3⟩ := k.fz j l' ej
            have := R1.apart i j a l l' (by rw [e]; rfl) (by rw [e3]; rfl) q (q3.trans q2)
            subst this
            rw [e] at e3; cases e3
      · exact .inl z
  cases fl with
  | nx r' => exact fun σ' H' h1 h2 => h σ' H' h1 (k.trans h2)
  | bk r' => exact fun σ' H' h1 h2 => h σ' H' h1 (k.trans h2)
  | ct r' => exact fun σ' H' h1 h2 => h σ' H' h1 (k.trans h2)
  | rt d r' => exact fun v σ' H' h1 h2 h3 => h v σ' H' h1 (k.trans h2) h3
  | rf l r' => exact fun a xs σ' H' h1 h2 h3 h4 h5 h6 => h a xs σ' H' h1 (k.trans h2) (fra a h3) h4 h5 h6
noncomputable def mC (d : D) : ME := fun _ => some d
noncomputable def mVar (i : Nat) : ME := fun r => match r[i]? with
  | some (.v d) => some d
  | _ => none
noncomputable def mOwn (i : Nat) : ML := fun r => (r[i]?).bind Sl.own
noncomputable def mBin (m : D → D → Option D) (f g : ME) : ME := fun r => (f r).bind fun x => (g r).bind fun y => m x y
noncomputable def mUn (m : D → Option D) (f : ME) : ME := fun r => (f r).bind m
noncomputable def mNil : ML := fun _ => some []
noncomputable def mCons (f : ME) (g : ML) : ML := fun r => (f r).bind fun x => (g r).bind fun l => some (x :: l)
noncomputable def mTup (f : ML) : ME := fun r => (f r).bind fun l => if l.length ≤ sizeLine then some (.tup l) else none
noncomputable def mLstF (f : ML) : ML := fun r => (f r).bind fun l => if l.length ≤ sizeLine then some l else none
noncomputable def mOfF (f : ML) : ME := fun r => (f r).map .lst
noncomputable def mAsL (f : ME) : ML := fun r => (f r).bind fun d => match d with
  | .lst l => some l
  | _ => none
noncomputable def mAnd (f g : ME) : ME := fun r => (f r).bind fun d => match d with
  | .bl true => g r
  | .bl false => some (.bl false)
  | _ => none
noncomputable def mOr (f g : ME) : ME := fun r => (f r).bind fun d => match d with
  | .bl true => some (.bl true)
  | .bl false => g r
  | _ => none
noncomputable def notD : D → Option D
  | .bl b => some (.bl !b)
  | _ => none
noncomputable def mAndT (f g : MB) : MB := fun r => (f r).bind fun b => if b = true then g r else some false
noncomputable def mOrT (f g : MB) : MB := fun r => (f r).bind fun b => if b = true then some true else g r
noncomputable def mNotT (f : MB) : MB := fun r => (f r).map (!·)
noncomputable def blD : D → Option Bool
  | .bl b => some b
  | _ => none
noncomputable def mBl (f : ME) : MB := fun r => (f r).bind blD
noncomputable def truD : D → Option Bool
  | .non => some false
  | .bl b => some b
  | .int i => some (i != 0)
  | .str s => if s.length ≤ sizeLine then some (!s.isEmpty) else none
  | .tup l => some (!l.isEmpty)
  | .lst l => some (!l.isEmpty)
  | _ => none
noncomputable def mTruB (fl : ML) : MB := fun r => (fl r).map fun l => !l.isEmpty
noncomputable def mTru (f : ME) : MB := fun r => (f r).bind truD
section
variable {X : Cx} {pos : Pos} {a b c : Expr} {f g : ME}
theorem bind_some {α β : Type} {o : Option α} {h : α → Option β} {y : β} (e : o.bind h = some y) : ∃ x, o = some x ∧ h x = some y := by
  cases o with
  | none => cases e
  | some x => exact ⟨x, rfl, e⟩
theorem de_of {t : TE} (h : PE X a t) (i : ∀ O0 σ H r d Q, R X.K O0 H r σ → f r = some d → (∀ v H', Same H H' → Is X.K (Ow O0 r σ) H' d v → Q v H') → t σ H Q) : DE X a f :=
  PE.conseq h fun σ H Q ⟨O0, r, d, hR, e, q⟩ => i O0 σ H r d Q hR e q
theorem de_var (i : Nat) {x : Str} (h : PE X (.Name x pos) (tVar i)) : DE X (.Name x pos) (mVar i) :=
  de_of h fun O0 σ H r d Q hR e q => by
    unfold mVar at e
    have e' : r[i]? = some (.v d) := by
      split at e
      · rename_i d' h; cases e; exact h
      · cases e
    obtain ⟨v, e1, q1⟩ := hR.val i d e'
    exact ⟨v, e1, q v H (Same.refl H) q1⟩
theorem db_own (i : Nat) {x : Str} (h : PE X (.Name x pos) (tVar i)) : DB X (.Name x pos) (mOwn i) :=
  PE.conseq h fun σ H Q ⟨O0, r, l, hR, e, q⟩ => by
    obtain ⟨a, xs, e1, e2, q1⟩ := hR.own i l e
    exact ⟨.ref a, e1, q a xs H (Same.refl H) (SqL.of e2) q1⟩
theorem de_con {v : V} {d : D} (h : PE X a (tC v)) (hd : ∀ O H, Is X.K O H d v) : DE X a (mC d) :=
  de_of h fun O0 σ H r d' Q hR e q => by
    unfold mC at e
    cases e
    exact q v H (Same.refl H) (hd _ _)
theorem de_int {i j} : DE X (.Constant (.int i) j pos) (mC (.int i)) := de_con pe_int fun O H => by unfold Is; rfl
theorem de_bl {i j} : DE X (.Constant (.bool i) j pos) (mC (.bl i)) := de_con pe_bl fun O H => by unfold Is; rfl
theorem de_non {j} : DE X (.Constant .none j pos) (mC .non) := de_con pe_non fun O H => by unfold Is; rfl
theorem de_str {x : Str} {s : List Nat} {j} (e : x.cps.toList = s := by rfl) : DE X (.Constant (.str x) j pos) (mC (.str s)) := de_con pe_str fun O H => by
  unfold Is; subst e; simp
noncomputable def OpD (K : Fg) (r2 : R2) (m : D → D → Option D) : Prop := ∀ (O : Addr → Prop) (H : Hp) (dx dy d : D) (vx vy : V) (Q : VK), OLst O H → Is K O H dx vx → Is K O H dy vy → m dx dy = some d → (∀ v H', Same H H' → Is K O H' d v → Q v H') → r2 vx vy H Q
theorem two {ta tb : TE} {r2 : R2} {m : D → D → Option D} (hd : OpD X.K r2 m) {σ : St} {H : Hp} {Q : VK} (h : lE X.K (mBin m f g) σ H Q) : tOp r2 (lE X.K f) (lE X.K g) σ H Q := by
  obtain ⟨O0, r, d, hR, e, q⟩ := h
  obtain ⟨x, e1, e⟩ := bind_some e
  obtain ⟨y, e2, e⟩ := bind_some e
  refine ⟨O0, r, x, hR, e1, fun v1 H1 s1 i1 => ⟨O0, r, y, hR.same s1, e2, fun v2 H2 s2 i2 => ?_⟩⟩
  exact hd (Ow O0 r σ) H2 x y d v1 v2 Q (hR.same (s1.trans s2)).ol (i1.same s2 (hR.same s1).ol) i2 e fun v H' s' i' => q v H' ((s1.trans s2).trans s') i'
theorem de_bin {op : Operator} {r2 : R2} {m : D → D → Option D} (ho : OpR X (binaryOp op) r2) (hd : OpD X.K r2 m) (ha : DE X a f) (hb : DE X b g) : DE X (.BinOp a op b pos) (mBin m f g) :=
  PE.conseq (pe_op ho ha hb) fun σ H Q h => two (ta := lE X.K f) (tb := lE X.K g) hd h
theorem de_cmp {op : CmpOp} {r2 : R2} {m : D → D → Option D} (ho : OpR X (compareOp op) r2) (hd : OpD X.K r2 m) (ha : DE X a f) (hb : DE X b g) (hm : behindInMarks op b = false) : DE X (.Compare a [op] [b] pos) (mBin m f g) :=
  PE.conseq (pe_cmpR ho ha hb hm) fun σ H Q h => two (ta := lE X.K f) (tb := lE X.K g) hd h
theorem dt_cmp {op : CmpOp} {r2 : R2} {m : D → D → Option D} (ho : OpR X (compareOp op) r2) (hd : OpD X.K r2 m) (ha : DE X a f) (hb : DE X b g) (hm : behindInMarks op b = false) : DT X (.Compare a [op] [b] pos) (mBl (mBin m f g)) := by
  refine PT.conseq (pt_cmpR ho ha hb hm) fun σ H Q h => ?_
  obtain ⟨O0, r, k, hR, e, q⟩ := h
  obtain ⟨d, e1, e⟩ := bind_some e
  refine two (ta := lE X.K f) (tb := lE X.K g) (m := m) hd ⟨O0, r, d, hR, e1, fun v H' s' i' => ?_⟩
  cases d <;> first | cases e | skip
  rw [Is.bl_iff] at i'
  exact ⟨_, i', q H' s'⟩
theorem de_un {op : UnaryOp} {r1 : V → Hp → VK → Prop} {m : D → Option D} (ho : UnR X (unaryOp op) r1)
    (hd : ∀ (O : Addr → Prop) (H : Hp) (dx d : D) (vx : V) (Q : VK), Is X.K O H dx vx → m dx = some d → (∀ v, Is X.K O H d v → Q v H) → r1 vx H Q) (ha : DE X a f) : DE X (.UnaryOp op a pos) (mUn m f) := by
  refine PE.conseq (pe_un ho ha) fun σ H Q h => ?_
  obtain ⟨O0, r, d, hR, e, q⟩ := h
  obtain ⟨x, e1, e⟩ := bind_some e
  exact ⟨O0, r, x, hR, e1, fun v1 H1 s1 i1 => hd _ H1 x d v1 Q i1 e fun v i => q v H1 s1 i⟩
theorem de_one {op} (h : DE X a f) : DE X (.BoolOp op [a] pos) f := pe_one h
theorem de_and {rest : List Expr} (ha : DE X a f) (hb : DE X (.BoolOp .And (b :: rest) pos) g) : DE X (.BoolOp .And (a :: b :: rest) pos) (mAnd f g) := by
  refine PE.conseq (pe_and ha hb) fun σ H Q h => ?_
  obtain ⟨O0, r, d, hR, e, q⟩ := h
  obtain ⟨x, e1, e⟩ := bind_some e
  refine ⟨O0, r, x, hR, e1, fun v1 H1 s1 i1 => ?_⟩
  cases x with
  | bl k =>
    rw [Is.bl_iff] at i1
    refine ⟨k, i1, ?_⟩
    cases k with
    | true =>
      rw [if_pos rfl]
      exact ⟨O0, r, d, hR.same s1, e, fun v H' s' i' => q v H' (s1.trans s') i'⟩
    | false =>
      rw [if_neg Bool.false_ne_true]
      cases e
      exact q _ H1 s1 (by rw [Is.bl_iff])
  | _ => cases e
theorem de_or {rest : List Expr} (ha : DE X a f) (hb : DE X (.BoolOp .Or (b :: rest) pos) g) : DE X (.BoolOp .Or (a :: b :: rest) pos) (mOr f g) := by
  refine PE.conseq (pe_or ha hb) fun σ H Q h => ?_
  obtain ⟨O0, r, d, hR, e, q⟩ := h
  obtain ⟨x, e1, e⟩ := bind_some e
  refine ⟨O0, r, x, hR, e1, fun v1 H1 s1 i1 => ?_⟩
  cases x with
  | bl k =>
    rw [Is.bl_iff] at i1
    refine ⟨k, i1, ?_⟩
    cases k with
    | true =>
      rw [if_pos rfl]
      cases e
      exact q _ H1 s1 (by rw [Is.bl_iff])
    | false =>
      rw [if_neg Bool.false_ne_true]
      exact ⟨O0, r, d, hR.same s1, e, fun v H' s' i' => q v H' (s1.trans s') i'⟩
  | _ => cases e
section
variable {tf tg : MB}
theorem dw_and1 (ha : DT X a tf) : PW X (.BoolOp .And [a] pos) (lT X.K tf) := pw_and1 ha
theorem dw_or1 (ha : DT X a tf) : PW X (.BoolOp .Or [a] pos) (lT X.K tf) := pw_or1 ha
theorem PW.conseq {e : Expr} {t t' : TT} (h : PW X e t) (i : ∀ σ H Q, t' σ H Q → t σ H Q) : PW X e t' := fun wh pins s σ H Q I q => h wh pins s σ H Q I (i σ H Q q)
theorem dw_and {rest : List Expr} (ha : DT X a tf) (hb : PW X (.BoolOp .And (b :: rest) pos) (lT X.K tg)) : PW X (.BoolOp .And (a :: b :: rest) pos) (lT X.K (mAndT tf tg)) := by
  refine PW.conseq (pw_and ha hb) fun σ H Q h => ?_
  obtain ⟨O0, r, d, hR, e, q⟩ := h
  obtain ⟨x, e1, e⟩ := bind_some e
  refine ⟨O0, r, x, hR, e1, fun H1 s1 => ?_⟩
  cases x with
  | true =>
    rw [if_pos rfl]
    exact ⟨O0, r, d, hR.same s1, e, fun H' s' => q H' (s1.trans s')⟩
  | false =>
    rw [if_neg Bool.false_ne_true]
    cases e
    exact q H1 s1
theorem dw_or {rest : List Expr} (ha : DT X a tf) (hb : PW X (.BoolOp .Or (b :: rest) pos) (lT X.K tg)) : PW X (.BoolOp .Or (a :: b :: rest) pos) (lT X.K (mOrT tf tg)) := by
  refine PW.conseq (pw_or ha hb) fun σ H Q h => ?_
  obtain ⟨O0, r, d, hR, e, q⟩ := h
  obtain ⟨x, e1, e⟩ := bind_some e
  refine ⟨O0, r, x, hR, e1, fun H1 s1 => ?_⟩
  cases x with
  | true =>
    rw [if_pos rfl]
    cases e
    exact q H1 s1
  | false =>
    rw [if_neg Bool.false_ne_true]
    exact ⟨O0, r, d, hR.same s1, e, fun H' s' => q H' (s1.trans s')⟩
theorem dt_w (h : PW X a (lT X.K tf)) : DT X a tf := h.pt
theorem dt_not (ha : DT X a tf) : DT X (.UnaryOp .Not a pos) (mNotT tf) := by
  refine PT.conseq (pt_not ha) fun σ H Q h => ?_
  obtain ⟨O0, r, d, hR, e, q⟩ := h
  unfold mNotT at e
  cases e1 : tf r with
  | none => rw [e1] at e; cases e
  | some k =>
    rw [e1] at e; cases e
    exact ⟨O0, r, k, hR, e1, fun H1 s1 => q H1 s1⟩
theorem truD_ok {K : Fg} {O : Addr → Prop} {H : Hp} {d : D} {v : V} {k : Bool} (h : Is K O H d v) (e : truD d = some k) : TruV K v H k := by
  cases d with
  | non => rw [Is.non_iff] at h; subst h; cases e; rfl
  | bl b => rw [Is.bl_iff] at h; subst h; cases e; rfl
  | int i => rw [Is.int_iff] at h; subst h; cases e; rfl
  | str s =>
    rw [Is.str_iff] at h; subst h
    simp only [truD] at e
    split at e
    · rename_i hl
      cases e
      refine ⟨by simpa [Str.length] using hl, ?_⟩
      cases s with
      | nil => rfl
      | cons c r =>
        have : ((r.length : Int) + 1) ≠ 0 := by omega
        simpa [Str.length] using this
    · cases e
  | tup l =>
    rw [Is.tup_iff] at h; obtain ⟨a, xs, rfl, hs, hl⟩ := h; cases e
    refine .inr (.inl ⟨xs, hs, ?_⟩)
    have := hl.length
    cases l <;> cases xs <;> simp_all
  | lst l =>
    rw [Is.lst_iff] at h; obtain ⟨a, xs, rfl, hs, hl⟩ := h; cases e
    refine .inl ⟨xs, hs.sq, ?_⟩
    have := hl.length
    cases l <;> cases xs <;> simp_all
  | ty n => cases e
  | ref a => cases e
theorem dt_tru (ha : DE X a f) (he : ∀ whole, isTrue a X.env whole = (do let v ← whole; standAt a.pos; holding [v] (truthy v)) := by intro _; rfl) : DT X a (mTru f) := by
  refine PT.conseq (pt_truth ha he) fun σ H Q h => ?_
  obtain ⟨O0, r, d, hR, e, q⟩ := h
  obtain ⟨x, e1, e⟩ := bind_some e
  exact ⟨O0, r, x, hR, e1, fun v1 H1 s1 i1 => ⟨d, truD_ok i1 e, q H1 s1⟩⟩
theorem dt_truB {fl : ML} (ha : DB X a fl) (he : ∀ whole, isTrue a X.env whole = (do let v ← whole; standAt a.pos; holding [v] (truthy v)) := by intro _; rfl) : DT X a (mTruB fl) := by
  refine PT.conseq (pt_truth ha he) fun σ H Q h => ?_
  obtain ⟨O0, r, d, hR, e, q⟩ := h
  unfold mTruB at e
  cases e1 : fl r with
  | none => rw [e1] at e; cases e
  | some l =>
    rw [e1] at e; cases e
    refine ⟨O0, r, l, hR, e1, fun a xs H1 s1 i1 i2 => ⟨_, .inl ⟨xs, i1, ?_⟩, q H1 s1⟩⟩
    have := i2.length
    cases l <;> cases xs <;> simp_all
end
section
variable {es : List Expr} {fs : ML}
theorem da_nil : DA X [] mNil := PA.conseq pa_nil fun σ H Q ⟨O0, r, l, hR, e, q⟩ => by
  unfold mNil at e; cases e
  exact q [] H (Same.refl H) .nil
theorem da_cons (ha : DE X a f) (hr : DA X es fs) (hs : starEach (a :: es) X.env = (false, eval a X.env) :: starEach es X.env := by rfl) : DA X (a :: es) (mCons f fs) := by
  refine PA.conseq (pa_cons ha hr hs) fun σ H Q h => ?_
  obtain ⟨O0, r, d, hR, e, q⟩ := h
  obtain ⟨x, e1, e⟩ := bind_some e
  obtain ⟨l, e2, e⟩ := bind_some e
  cases e
  exact ⟨O0, r, x, hR, e1, fun v1 H1 s1 i1 => ⟨O0, r, l, hR.same s1, e2, fun vs H2 s2 i2 => q _ H2 (s1.trans s2) (.cons (i1.same s2 (hR.same s1).ol) i2)⟩⟩
theorem same_upd {H : Hp} {p : Addr} {o : HO} (n : H p = none) : Same H (upd H p o) := fun b u e => by rw [upd_ne (ne_of_none e n)]; exact e
theorem de_tup {x1} (h : DA X es fs) : DE X (.Tuple es x1 pos) (mTup fs) := by
  refine PE.conseq (pe_tup h) fun σ H Q h => ?_
  obtain ⟨O0, r, d, hR, e, q⟩ := h
  obtain ⟨l, e1, e⟩ := bind_some e
  split at e
  · rename_i hl
    cases e
    refine ⟨O0, r, l, hR, e1, fun vs H1 s1 i1 => ⟨by rw [← i1.length]; exact hl, fun p hp => q _ _ (s1.trans (same_upd hp)) ?_⟩⟩
    rw [Is.tup_iff]
    exact ⟨p, vs, rfl, SqT.of upd_same, i1.same (same_upd hp) (hR.same s1).ol⟩
  · cases e
theorem df_lst (h : DA X es fs) : DF X (.List es pos) (mLstF fs) := by
  refine PE.conseq (pe_lst h) fun σ H Q h => ?_
  obtain ⟨O0, r, l', hR, e, q⟩ := h
  obtain ⟨l, e1, e⟩ := bind_some e
  split at e
  · rename_i hl
    have e' : l = l' := Option.some.inj e
    subst e'
    refine ⟨O0, r, l, hR, e1, fun vs H1 s1 i1 => ⟨by rw [← i1.length]; exact hl, fun p hp => q _ _ _ (s1.trans (same_upd hp)) (s1.free hp) upd_same ?_⟩⟩
    refine IsL.mono (Same.kp (same_upd hp) _) (hR.same s1).ol (fun a z n => ?_) _ vs i1
    rcases z with z | z
    · exact z
    · subst z; exact absurd hp n
  · cases e
theorem de_f {fl : ML} (h : DF X a fl) : DE X a (mOfF fl) := by
  refine PE.conseq h fun σ H Q h => ?_
  obtain ⟨O0, r, d, hR, e, q⟩ := h
  unfold mOfF at e
  cases e1 : fl r with
  | none => rw [e1] at e; cases e
  | some l =>
    rw [e1] at e; cases e
    refine ⟨O0, r, l, hR, e1, fun p xs H1 s1 n1 e2 i1 => q _ H1 s1 ?_⟩
    rw [Is.lst_iff]
    have ol : OLst (fun b => Ow O0 r σ b ∨ b = p) H1 := fun b z => z.elim (fun z => (hR.same s1).ol b z) fun z => by subst z; exact ⟨xs, e2⟩
    exact ⟨p, xs, rfl, .inl ⟨hR.nofresh n1, .inl e2⟩, IsL.mono (Same.kp (Same.refl H1) _) ol (fun a z _ => .inl z) l xs i1⟩
theorem db_e (h : DE X a f) : DB X a (mAsL f) := by
  refine PE.conseq h fun σ H Q h => ?_
  obtain ⟨O0, r, l, hR, e, q⟩ := h
  obtain ⟨d, e1, e⟩ := bind_some e
  refine ⟨O0, r, d, hR, e1, fun v H1 s1 i1 => ?_⟩
  cases d with
  | lst l' =>
    cases e
    rw [Is.lst_iff] at i1
    obtain ⟨p, xs, rfl, rd, il⟩ := i1
    exact q p xs H1 s1 rd.sq il
  | _ => cases e
end
end
noncomputable def sSkip : MS := fun r => some (.nx r)
noncomputable def sSeq (g h : MS) : MS := fun r => (g r).bind fun fl => match fl with
  | .nx r' => h r'
  | x => some x
noncomputable def setV (i : Nat) (d : D) (r : En) : Option En := match r[i]? with
  | some (.p _) => none
  | some (.z _) => none
  | some _ => some (r.set i (.v d))
  | none => none
noncomputable def setO (i : Nat) (l : List D) (r : En) : Option En := match r[i]? with
  | some (.p _) => none
  | some (.z _) => none
  | some _ => some (r.set i (.o l))
  | none => none
noncomputable def sSet (i : Nat) (f : ME) : MS := fun r => (f r).bind fun d => (setV i d r).map .nx
noncomputable def sOwn (i : Nat) (f : ML) : MS := fun r => (f r).bind fun l => (setO i l r).map .nx
noncomputable def sRet (f : ME) : MS := fun r => (f r).map fun d => .rt d r
noncomputable def sIf (c : MB) (g h : MS) : MS := fun r => (c r).bind fun b => if b = true then g r else h r
noncomputable def sX (f : En → Option (D × En)) : MS := fun r => (f r).map fun p => .nx p.2
noncomputable def sSetX (i : Nat) (f : En → Option (D × En)) : MS := fun r => (f r).bind fun p => (setV i p.1 p.2).map .nx
noncomputable def sRetX (f : En → Option (D × En)) : MS := fun r => (f r).map fun p => .rt p.1 p.2
noncomputable def forL (bd : D → En → Option En) (g : MS) : List D → MS
  | [], r => some (.nx r)
  | d :: l, r => (bd d r).bind fun r1 => (g r1).bind fun fl => match fl with
      | .nx r' => forL bd g l r'
      | .ct r' => forL bd g l r'
      | .bk r' => some (.nx r')
      | x => some x
noncomputable def sFor (bd : D → En → Option En) (it : ML) (g : MS) : MS := fun r => (it r).bind fun l => forL bd g l r
theorem get_set_ne {α : Type} {l : List α} {i j : Nat} {x : α} (h : i ≠ j) : (l.set i x)[j]? = l[j]? := by rw [List.getElem?_set]; simp [h]
theorem get_set_eq {α : Type} {l : List α} {i : Nat} {x : α} (h : i < l.length) : (l.set i x)[i]? = some x := by rw [List.getElem?_set]; simp [h]
section
variable {K : Fg} {O0 : Addr → Prop} {H H1 : Hp} {r : En} {σ : St} {i : Nat} {d : D} {v : V}
theorem own_setv {q : Sl → Option (List D)} (hq : ∀ d, q (.v d) = none) {a : Addr} {x : Option V} (h : AtS q (r.set i (.v d)) (σ.set i x) a) : AtS q r σ a := by
  obtain ⟨j, l, e, q'⟩ := h
  by_cases hj : i = j
  · subst hj
    by_cases hl : i < r.length
    · rw [get_set_eq hl] at e
      have e' : q (.v d) = some l := e
      rw [hq] at e'; cases e'
    · rw [List.getElem?_eq_none (by simpa using hl)] at e; cases e
  · rw [get_set_ne hj] at e q'
    exact ⟨j, l, e, q'⟩
theorem R.setv (h : R K O0 H r σ) (hi : i < r.length) (np : ∀ l, r[i]? ≠ some (.p l) ∧ r[i]? ≠ some (.z l)) (hv : Is K (Ow O0 r σ) H d v) : R K O0 H (r.set i (.v d)) (σ.set i (some v)) ∧ Kp H r σ H (r.set i (.v d)) (σ.set i (some v)) := by
  have his : i < σ.length := by rw [← h.len]; exact hi
  have sub : ∀ a, Ow O0 (r.set i (.v d)) (σ.set i (some v)) a → H a ≠ none → Ow O0 r σ a := fun a z _ => z.elim .inl fun z => .inr (own_setv (fun _ => rfl) z)
  have ne : ∀ (j : Nat) (l : List D), ((r.set i (.v d))[j]?).bind Sl.own = some l → i ≠ j := fun j l e z => by subst z; rw [get_set_eq hi] at e; cases e
  refine ⟨⟨by simp [h.len], fun j d' e => ?_, fun j l e => ?_, fun j k a l m e1 e2 q1 q2 => ?_, h.o0, fun j l a e q => ?_, fun j l a e q => ?_⟩, ⟨fun b o e _ => e, fun b e => e, fun b xs e => ⟨xs, e⟩, fun b z => .inl (own_setv (fun _ => rfl) z), fun b z => .inl (own_setv (fun _ => rfl) z), fun j l e => ?_, fun j l e => ?_⟩⟩
  · by_cases hj : i = j
    · subst hj
      rw [get_set_eq hi] at e; cases e
      exact ⟨v, get_set_eq his, Is.mono (Same.kp (Same.refl H) _) h.ol sub _ _ hv⟩
    · rw [get_set_ne hj] at e
      obtain ⟨u, e1, q⟩ := h.val j d' e
      exact ⟨u, by rw [get_set_ne hj]; exact e1, Is.mono (Same.kp (Same.refl H) _) h.ol sub _ _ q⟩
  · have hj := ne j l e
    rw [get_set_ne hj] at e
    obtain ⟨a, xs, e1, e2, q⟩ := h.own j l e
    exact ⟨a, xs, by rw [get_set_ne hj]; exact e1, e2, IsL.mono (Same.kp (Same.refl H) _) h.ol sub _ _ q⟩
  · have hj := ne j l e1
    have hk := ne k m e2
    rw [get_set_ne hj] at e1 q1
    rw [get_set_ne hk] at e2 q2
    exact h.apart j k a l m e1 e2 q1 q2
  · have hj : i ≠ j := ne j l (by rcases e with e | e <;> rw [e] <;> rfl)
    rw [get_set_ne hj] at e q
    exact h.loc j l a e q
  · have hj : i ≠ j := ne j l (by rw [e]; rfl)
    rw [get_set_ne hj] at e q
    exact h.par j l a e q
  · have hj : i ≠ j := fun z => by subst z; exact (np l).1 e
    exact ⟨⟨l, by rw [get_set_ne hj]; exact e⟩, get_set_ne hj⟩
  · have hj : i ≠ j := fun z => by subst z; exact (np l).2 e
    exact ⟨by rw [get_set_ne hj]; exact e, get_set_ne hj⟩
theorem R.seto {l : List D} {xs : List V} {p : Addr} (h : R K O0 H r σ) (s : Same H H1) (n : H p = none) (e : H1 p = some (.lst xs)) (hl : IsL K (fun b => Ow O0 r σ b ∨ b = p) H1 l xs) (hi : i < r.length) (np : ∀ l, r[i]? ≠ some (.p l) ∧ r[i]? ≠ some (.z l)) :
    R K O0 H1 (r.set i (.o l)) (σ.set i (some (.ref p))) ∧ Kp H r σ H1 (r.set i (.o l)) (σ.set i (some (.ref p))) := by
  have his : i < σ.length := by rw [← h.len]; exact hi
  have ow : ∀ {q : Sl → Option (List D)} a, AtS q (r.set i (.o l)) (σ.set i (some (.ref p))) a → AtS q r σ a ∨ a = p := fun {q} a z => by
    obtain ⟨j, m, e1, q1⟩ := z
    by_cases hj : i = j
    · subst hj
      rw [get_set_eq his] at q1; cases q1; exact .inr rfl
    · rw [get_set_ne hj] at e1 q1
      exact .inl ⟨j, m, e1, q1⟩
  have sub : ∀ a, Ow O0 (r.set i (.o l)) (σ.set i (some (.ref p))) a → H a ≠ none → Ow O0 r σ a := fun a z nn => z.elim .inl fun z => (ow a z).elim .inr fun z => by subst z; exact absurd n nn
  have olp : OLst (fun b => Ow O0 r σ b ∨ b = p) H1 := fun b z => z.elim (fun z => (h.same s).ol b z) fun z => by subst z; exact ⟨xs, e⟩
  refine ⟨⟨by simp [h.len], fun j d' e1 => ?_, fun j m e1 => ?_, fun j k a l1 m e1 e2 q1 q2 => ?_, (h.same s).o0, fun j m a e1 q => ?_, fun j m a e1 q => ?_⟩, ⟨fun b o e1 _ => s b o e1, fun b e1 => s.free e1, fun b ys e1 => ⟨ys, s _ _ e1⟩, fun b z => (ow b z).imp id fun z => by subst z; exact n, fun b z => (ow b z).imp id fun z => by subst z; exact n, fun j m e1 => ?_, fun j m e1 => ?_⟩⟩
  · have hj : i ≠ j := fun z => by subst z; rw [get_set_eq hi] at e1; cases e1
    rw [get_set_ne hj] at e1
    obtain ⟨u, e2, q⟩ := h.val j d' e1
    exact ⟨u, by rw [get_set_ne hj]; exact e2, Is.mono (Same.kp s _) h.ol sub _ _ q⟩
  · by_cases hj : i = j
    · subst hj
      rw [get_set_eq hi] at e1; cases e1
      refine ⟨p, xs, get_set_eq his, e, IsL.mono (Same.kp (Same.refl H1) _) olp (fun a z _ => z.elim (fun z => .inl (.inl z)) fun z => (ow a z).imp .inr id) _ _ hl⟩
    · rw [get_set_ne hj] at e1
      obtain ⟨a, ys, e2, e3, q⟩ := h.own j m e1
      exact ⟨a, ys, by rw [get_set_ne hj]; exact e2, s _ _ e3, IsL.mono (Same.kp s _) h.ol sub _ _ q⟩
  · have out : ∀ (j : Nat) (m : List D) (a : Addr), i ≠ j → ((r.set i (.o l))[j]?).bind Sl.own = some m → (σ.set i (some (.ref p)))[j]? = some (some (.ref a)) → a ≠ p := fun j m a hj e1 q1 z => by
      rw [get_set_ne hj] at e1 q1
      obtain ⟨b, ys, e2, e3, _⟩ := h.own j m e1
      rw [q1] at e2; cases e2
      subst z
      rw [n] at e3; cases e3
    by_cases hj : i = j
    · by_cases hk : i = k
      · exact hj.symm.trans hk
      · subst hj
        rw [get_set_eq his] at q1; cases q1
        exact absurd rfl (out k m p hk e2 q2)
    · by_cases hk : i = k
      · subst hk
        rw [get_set_eq his] at q2; cases q2
        exact absurd rfl (out j l1 p hj e1 q1)
      · rw [get_set_ne hj] at e1 q1
        rw [get_set_ne hk] at e2 q2
        exact h.apart j k a l1 m e1 e2 q1 q2
  · by_cases hj : i = j
    · subst hj
      rw [get_set_eq his] at q; cases q
      exact fun z => by obtain ⟨ys, e3⟩ := h.o0 p z; rw [n] at e3; cases e3
    · rw [get_set_ne hj] at e1 q
      exact h.loc j m a e1 q
  · have hj : i ≠ j := fun z => by subst z; rw [get_set_eq hi] at e1; cases e1
    rw [get_set_ne hj] at e1 q
    exact h.par j m a e1 q
  · have hj : i ≠ j := fun z => by subst z; exact (np m).1 e1
    exact ⟨⟨m, by rw [get_set_ne hj]; exact e1⟩, get_set_ne hj⟩
  · have hj : i ≠ j := fun z => by subst z; exact (np m).2 e1
    exact ⟨by rw [get_set_ne hj]; exact e1, get_set_ne hj⟩
theorem setV_some {r' : En} (e : setV i d r = some r') : i < r.length ∧ (∀ l, r[i]? ≠ some (.p l) ∧ r[i]? ≠ some (.z l)) ∧ r' = r.set i (.v d) := by
  unfold setV at e
  cases e1 : r[i]? with
  | none => rw [e1] at e; cases e
  | some x =>
    have hi : i < r.length := (List.getElem?_eq_some_iff.mp e1).1
    rw [e1] at e
    cases x with
    | p l => cases e
    | z l => cases e
    | _ => cases e; exact ⟨hi, fun l => ⟨(fun z => by cases z), (fun z => by cases z)⟩, rfl⟩
theorem setO_some {r' : En} {l : List D} (e : setO i l r = some r') : i < r.length ∧ (∀ l, r[i]? ≠ some (.p l) ∧ r[i]? ≠ some (.z l)) ∧ r' = r.set i (.o l) := by
  unfold setO at e
  cases e1 : r[i]? with
  | none => rw [e1] at e; cases e
  | some x =>
    have hi : i < r.length := (List.getElem?_eq_some_iff.mp e1).1
    rw [e1] at e
    cases x with
    | p l => cases e
    | z l => cases e
    | _ => cases e; exact ⟨hi, fun l => ⟨(fun z => by cases z), (fun z => by cases z)⟩, rfl⟩
theorem map_some {α β : Type} {o : Option α} {h : α → β} {y : β} (e : o.map h = some y) : ∃ x, o = some x ∧ h x = y := by
  cases o with
  | none => cases e
  | some x => exact ⟨x, rfl, Option.some.inj e⟩
theorem Is.less {O : Addr → Prop} (h : R K O0 H r σ) (hi : Is K (Ow O0 r σ) H1 d v) (s : Same H H1) : Is K O0 H1 d v := Is.mono (Same.kp (Same.refl H1) _) (h.same s).ol (fun _ z _ => .inl z) _ _ hi
end
section
variable {X : Cx} {pos : Pos} {e : Expr} {f : ME} {fl : ML} {g h : MS} {st : Stmt} {rest : List Stmt}
theorem ds_nil : DSs X [] sSkip := PSs.conseq pss_nil fun Dn σ H ⟨O0, r, f', hR, e, q⟩ => by
  unfold sSkip at e; cases e
  exact q σ H hR (Kp.refl H r σ)
theorem ds_cons (h1 : DS X st g) (h2 : DSs X rest h) : DSs X (st :: rest) (sSeq g h) := by
  refine PSs.conseq (pss_cons h1 h2) fun Dn σ H hq => ?_
  obtain ⟨O0, r, fl, hR, e, q⟩ := hq
  obtain ⟨f1, e1, e2⟩ := bind_some e
  cases f1 with
  | nx r1 => exact ⟨O0, r, .nx r1, hR, e1, fun σ' H' R' k => ⟨O0, r1, fl, R', e2, q.before R' k⟩⟩
  | bk r1 => cases e2; exact ⟨O0, r, _, hR, e1, q⟩
  | ct r1 => cases e2; exact ⟨O0, r, _, hR, e1, q⟩
  | rt d r1 => cases e2; exact ⟨O0, r, _, hR, e1, q⟩
  | rf l r1 => cases e2; exact ⟨O0, r, _, hR, e1, q⟩
theorem ds_one (h1 : DS X st g) : DSs X [st] g := pss_one h1
theorem ds_set (i : Nat) {x : Str} {pos' : Pos} (he : DE X e f) (hN : X.N.Nodup) (hi : X.N[i]? = some x := by rfl) (hx : Loc X.env.scope x := by first | exact Or.inl rfl | exact Or.inr rfl) (hs : swapsWith e (some (.Name x pos')) pos.line X.env = pure false := by rfl) (hf : X.fn x = true ∨ X.env.scope.names.lookup x = some .local := by first | exact .inl rfl | exact .inr rfl) :
    DS X (.Assign [.Name x pos'] e pos) (sSet i f) := by
  refine PS.conseq (ps_set hN hi hx he hs hf) fun Dn σ H hq => ?_
  obtain ⟨O0, r, fl, hR, e, q⟩ := hq
  obtain ⟨d, e1, e2⟩ := bind_some e
  obtain ⟨r', e3, rfl⟩ := map_some e2
  obtain ⟨hl, np, rfl⟩ := setV_some e3
  refine ⟨O0, r, d, hR, e1, fun v H1 s1 i1 => ?_⟩
  obtain ⟨R1, k1⟩ := (hR.same s1).setv hl np i1
  exact q _ H1 R1 ((Kp.of_same r σ s1).trans k1)
theorem ds_own (i : Nat) {x : Str} {pos' : Pos} (he : DF X e fl) (hN : X.N.Nodup) (hi : X.N[i]? = some x := by rfl) (hx : Loc X.env.scope x := by first | exact Or.inl rfl | exact Or.inr rfl) (hs : swapsWith e (some (.Name x pos')) pos.line X.env = pure false := by rfl) (hf : X.fn x = true ∨ X.env.scope.names.lookup x = some .local := by first | exact .inl rfl | exact .inr rfl) :
    DS X (.Assign [.Name x pos'] e pos) (sOwn i fl) := by
  refine PS.conseq (ps_set hN hi hx he hs hf) fun Dn σ H hq => ?_
  obtain ⟨O0, r, fl', hR, e, q⟩ := hq
  obtain ⟨l, e1, e2⟩ := bind_some e
  obtain ⟨r', e4, rfl⟩ := map_some e2
  obtain ⟨hl, np, rfl⟩ := setO_some e4
  refine ⟨O0, r, l, hR, e1, fun p xs H1 s1 n1 e3 i1 => ?_⟩
  obtain ⟨R1, k1⟩ := hR.seto s1 n1 e3 i1 hl np
  exact q _ H1 R1 k1
theorem ds_ret (he : DE X e f) : DS X (.Return (some e) pos) (sRet f) := by
  refine PS.conseq (ps_ret he) fun Dn σ H hq => ?_
  obtain ⟨O0, r, fl, hR, e, q⟩ := hq
  obtain ⟨d, e1, rfl⟩ := map_some e
  exact ⟨O0, r, d, hR, e1, fun v H1 s1 i1 => q v σ H1 (hR.same s1) (Kp.of_same r σ s1) (Is.less (O := O0) hR i1 s1)⟩
theorem ds_if {c : Expr} {sa sb : List Stmt} {tc : MB} (hc : DT X c tc) (ha : DSs X sa g) (hb : DSs X sb h) : DS X (.If c sa sb pos) (sIf tc g h) := by
  refine PS.conseq (ps_if hc ha hb) fun Dn σ H hq => ?_
  obtain ⟨O0, r, fl', hR, e, q⟩ := hq
  obtain ⟨k, e1, e2⟩ := bind_some e
  refine ⟨O0, r, k, hR, e1, fun H1 s1 => ?_⟩
  have R1 := hR.same s1
  have q1 := PostS.before R1 (Kp.of_same r σ s1) q
  cases k with
  | true => rw [if_pos rfl] at e2; exact iteT ⟨O0, r, fl', R1, e2, q1⟩
  | false => rw [if_neg Bool.false_ne_true] at e2; exact iteF ⟨O0, r, fl', R1, e2, q1⟩
theorem ds_x {fx : En → Option (D × En)} (he : DX X e fx) (hs : swapsWith e none pos.line X.env = pure false := by rfl) : DS X (.Expr e pos) (sX fx) := by
  refine PS.conseq (ps_expr he hs) fun Dn σ H hq => ?_
  obtain ⟨O0, r, fl', hR, e, q⟩ := hq
  obtain ⟨⟨d, r'⟩, e1, rfl⟩ := map_some e
  exact ⟨O0, r, d, r', hR, e1, fun v H1 R1 k1 i1 => q σ H1 R1 k1⟩
theorem ds_setX (i : Nat) {x : Str} {pos' : Pos} {fx : En → Option (D × En)} (he : DX X e fx) (hN : X.N.Nodup) (hi : X.N[i]? = some x := by rfl) (hx : Loc X.env.scope x := by first | exact Or.inl rfl | exact Or.inr rfl) (hs : swapsWith e (some (.Name x pos')) pos.line X.env = pure false := by rfl) (hf : X.fn x = true ∨ X.env.scope.names.lookup x = some .local := by first | exact .inl rfl | exact .inr rfl) :
    DS X (.Assign [.Name x pos'] e pos) (sSetX i fx) := by
  refine PS.conseq (ps_set hN hi hx he hs hf) fun Dn σ H hq => ?_
  obtain ⟨O0, r, fl, hR, e, q⟩ := hq
  obtain ⟨⟨d, r1⟩, e1, e2⟩ := bind_some e
  obtain ⟨r', e3, rfl⟩ := map_some e2
  obtain ⟨hl, np, rfl⟩ := setV_some e3
  refine ⟨O0, r, d, r1, hR, e1, fun v H1 R1 k1 i1 => ?_⟩
  obtain ⟨R2, k2⟩ := R1.setv hl np i1
  exact q _ H1 R2 (k1.trans k2)
theorem ds_retX {fx : En → Option (D × En)} (he : DX X e fx) : DS X (.Return (some e) pos) (sRetX fx) := by
  refine PS.conseq (ps_ret he) fun Dn σ H hq => ?_
  obtain ⟨O0, r, fl, hR, e, q⟩ := hq
  obtain ⟨⟨d, r1⟩, e1, rfl⟩ := map_some e
  exact ⟨O0, r, d, r1, hR, e1, fun v H1 R1 k1 i1 => q v σ H1 R1 k1 (Is.less (O := O0) R1 i1 (Same.refl H1))⟩
end
noncomputable def lG (K : Fg) (bd : D → En → Option En) : TG := fun v σ H Q => ∃ O0 r d r', R K O0 H r σ ∧ Is K (Ow O0 r σ) H d v ∧ bd d r = some r' ∧ ∀ σ', R K O0 H r' σ' → Kp H r σ H r' σ' → Q σ' H
noncomputable def DG (X : Cx) (tg : Expr) (bd : D → En → Option En) : Prop := PG X tg (lG X.K bd)
noncomputable def Ylds (K : Fg) (O M : Addr → Prop) (H0 : Hp) (J : It) (l : List D) : Prop := ∀ (i : Nat) (H : Hp) (O' : Addr → Prop), Keep M H0 H → (∀ a, O' a → H0 a ≠ none → O a) →
  (i < l.length → J.go i H ∧ ∀ x H', J.yld i H x H' → Same H H' ∧ ∀ d, l[i]? = some d → Is K O' H' d x) ∧ (i = l.length → J.stop i H)
noncomputable def lI (K : Fg) (it : ML) : TI := fun σ H Rr => ∃ O0 r l, R K O0 H r σ ∧ it r = some l ∧ ∀ J H', Same H H' → Ylds K (Ow O0 r σ) (MutAt r σ) H' J l → Rr J H'
noncomputable def DI (X : Cx) (tg iter : Expr) (it : ML) : Prop := PI X tg iter (lI X.K it)
theorem PG.conseq {X : Cx} {e : Expr} {t t' : TG} (h : PG X e t) (i : ∀ v σ H Q, t' v σ H Q → t v σ H Q) : PG X e t' := fun pins s σ H v u Q I r q => h pins s σ H v u Q I r (i v σ H Q q)
theorem PI.conseq {X : Cx} {tg e : Expr} {t t' : TI} (h : PI X tg e t) (i : ∀ σ H Q, t' σ H Q → t σ H Q) : PI X tg e t' := fun pins s σ H Q I q => h pins s σ H Q I (i σ H Q q)
theorem drop_cons {α : Type} {l : List α} {i : Nat} {d : α} (h : l[i]? = some d) : l.drop i = d :: l.drop (i + 1) := by
  obtain ⟨lt, eq⟩ := List.getElem?_eq_some_iff.mp h
  rw [← eq, List.drop_eq_getElem_cons lt]
section
variable {X : Cx} {pos : Pos} {tg iter : Expr} {bd : D → En → Option En} {it : ML} {g : MS} {body : List Stmt}
theorem ds_for (hp : PassesOwn (model X.prog X.w) X.A X.env X.xe) (hc : X.calm = true) (hi : DI X tg iter it) (hg : DG X tg bd) (hb : DSs X body g) (hs : ∀ x, foldedSetIterable iter X.env x = pure x := by intro _; rfl) :
    DS X (.For tg iter body [] pos) (sFor bd it g) := by
  refine PS.conseq (ps_for hp hc hi hg hb hs) fun Dn σ H hq => ?_
  obtain ⟨O0, r, fl, hR, e, q⟩ := hq
  obtain ⟨l, e1, e2⟩ := bind_some e
  refine ⟨O0, r, l, hR, e1, fun J H0 s0 yl => ?_⟩
  have R0 := hR.same s0
  refine ⟨fun i m σ1 H1 => m = l.length - i ∧ i ≤ l.length ∧ ∃ r1, R X.K O0 H1 r1 σ1 ∧ Kp H0 r σ H1 r1 σ1 ∧ forL bd g (l.drop i) r1 = some fl, ⟨l.length, by simp, Nat.zero_le _, r, R0, Kp.refl H0 r σ, by simpa using e2⟩, ?_⟩
  rintro i m σ1 H1 ⟨rfl, hil, r1, R1, k1, e3⟩
  have k0 := (Kp.of_same r σ s0).trans k1
  obtain ⟨y1, y2⟩ := yl i H1 (Ow O0 r1 σ1) k1.keep fun a z n => z.elim .inl fun z => (k1.new a z).elim .inr fun z => absurd z n
  by_cases hlt : i < l.length
  · obtain ⟨go, yd⟩ := y1 hlt
    have hd : l[i]? = some l[i] := by simp [hlt]
    rw [drop_cons hd] at e3
    obtain ⟨r2, e4, e5⟩ := bind_some e3
    obtain ⟨f1, e6, e7⟩ := bind_some e5
    refine .inr ⟨go, fun σ3 H3 => ∃ r3, R X.K O0 H3 r3 σ3 ∧ Kp H0 r σ H3 r3 σ3 ∧ forL bd g (l.drop (i + 1)) r3 = some fl, fun σ3 H3 z => ⟨l.length - (i + 1), by omega, rfl, hlt, z⟩, fun x H2 yx => ?_⟩
    obtain ⟨s2, ix⟩ := yd x H2 yx
    have R2 := R1.same s2
    refine ⟨O0, r1, l[i], r2, R2, ix _ hd, e4, fun σ2 R2' k2 => ⟨O0, r2, f1, R2', e6, ?_⟩⟩
    have k3 := (k1.trans (Kp.of_same r1 σ1 s2)).trans k2
    have k4 := (k0.trans (Kp.of_same r1 σ1 s2)).trans k2
    cases f1 with
    | nx r3 => exact fun σ3 H3 R3 kk => ⟨r3, R3, k3.trans kk, e7⟩
    | ct r3 => exact fun σ3 H3 R3 kk => ⟨r3, R3, k3.trans kk, e7⟩
    | bk r3 => cases e7; exact fun σ3 H3 R3 kk => q σ3 H3 R3 (k4.trans kk)
    | rt d r3 => cases e7; exact PostS.before R2' k4 q
    | rf l' r3 => cases e7; exact PostS.before R2' k4 q
  · have hl : l.drop i = [] := List.drop_eq_nil_of_le (by omega)
    rw [hl] at e3
    cases e3
    exact .inl ⟨y2 (by omega), q σ1 H1 R1 k0⟩
theorem dg_name (i : Nat) {x : Str} (hN : X.N.Nodup) (hi : X.N[i]? = some x := by rfl) (hx : Loc X.env.scope x := by first | exact Or.inl rfl | exact Or.inr rfl) (hf : X.fn x = true ∨ X.env.scope.names.lookup x = some .local := by first | exact .inl rfl | exact .inr rfl) : DG X (.Name x pos) (setV i) := by
  refine PG.conseq (pg_name hN hi hx hf) fun v σ H Q h => ?_
  obtain ⟨O0, r, d, r', hR, iv, e, q⟩ := h
  obtain ⟨hl, np, rfl⟩ := setV_some e
  obtain ⟨R1, k1⟩ := hR.setv hl np iv
  exact q _ R1 k1
noncomputable def bdNil : List D → En → Option En := fun l r => if l.isEmpty then some r else none
noncomputable def bdCons (b : D → En → Option En) (bs : List D → En → Option En) : List D → En → Option En := fun l r => match l with
  | [] => none
  | d :: t => (b d r).bind fun r1 => bs t r1
noncomputable def lGs (K : Fg) (bs : List D → En → Option En) : TGs := fun vs σ H Q => ∃ O0 r l r', R K O0 H r σ ∧ IsL K (Ow O0 r σ) H l vs ∧ bs l r = some r' ∧ ∀ σ', R K O0 H r' σ' → Kp H r σ H r' σ' → Q σ' H
noncomputable def DGs (X : Cx) (ts : List Expr) (bs : List D → En → Option En) : Prop := PGs X ts (lGs X.K bs)
theorem PGs.conseq {e : List Expr} {t t' : TGs} (h : PGs X e t) (i : ∀ v σ H Q, t' v σ H Q → t v σ H Q) : PGs X e t' := fun pins s σ H v u Q I r q => h pins s σ H v u Q I r (i v σ H Q q)
theorem dgs_nil : DGs X [] bdNil := by
  refine PGs.conseq pgs_nil fun vs σ H Q h => ?_
  obtain ⟨O0, r, l, r', hR, il, e, q⟩ := h
  unfold bdNil at e
  cases l with
  | nil =>
    unfold IsL at il
    cases e
    exact ⟨il, q σ hR (Kp.refl H r σ)⟩
  | cons d l => cases e
theorem dgs_cons {e : Expr} {es : List Expr} {bs : List D → En → Option En} (h1 : DG X e bd) (h2 : DGs X es bs) (hs : (assignEach (e :: es) X.env).map (·.2) = assign e X.env :: (assignEach es X.env).map (·.2) := by rfl) : DGs X (e :: es) (bdCons bd bs) := by
  refine PGs.conseq (pgs_cons h1 h2 hs) fun vs σ H Q h => ?_
  obtain ⟨O0, r, l, r', hR, il, e, q⟩ := h
  cases l with
  | nil => cases e
  | cons d t =>
    unfold IsL at il
    obtain ⟨v, us, rfl, i1, i2⟩ := il
    obtain ⟨r1, e1, e2⟩ := bind_some e
    refine ⟨v, us, rfl, O0, r, d, r1, hR, i1, e1, fun σ1 R1 k1 => ⟨O0, r1, t, r', R1, ?_, e2, fun σ2 R2 k2 => q σ2 R2 (k1.trans k2)⟩⟩
    exact IsL.mono (Same.kp (Same.refl H) _) hR.ol (fun a z n => z.elim .inl fun z => (k1.new a z).elim .inr fun z => absurd z n) _ _ i2
end
inductive Rs where
  | v (d : D) | f (l : List D)
noncomputable abbrev MF := List Sl → Option (Rs × List Sl)
structure PostF (K : Fg) (O0 : Addr → Prop) (H : Hp) (as : List Sl) (vs : List V) (H' : Hp) (as' : List Sl) : Prop where
  keep : Keep (MutAt as (vs.map some)) H H'
  live : ∀ b, H' b = none → H b = none
  lst : ∀ b xs, H b = some (.lst xs) → ∃ ys, H' b = some (.lst ys)
  par : ∀ (i : Nat) (l : List D), as[i]? = some (.p l) → ∃ l' a xs, as'[i]? = some (.p l') ∧ vs[i]? = some (.ref a) ∧ H' a = some (.lst xs) ∧ IsL K O0 H' l' xs
noncomputable def RsP (K : Fg) (O0 : Addr → Prop) (H : Hp) (as : List Sl) (vs : List V) (as' : List Sl) (Q : VK) : Rs → Prop
  | .v d => ∀ v H', PostF K O0 H as vs H' as' → Is K O0 H' d v → Q v H'
  | .f l => ∀ a xs H', PostF K O0 H as vs H' as' → H a = none → H' a = some (.lst xs) → IsL K (fun b => O0 b ∨ b = a) H' l xs → Q (.ref a) H'
noncomputable def spD (K : Fg) (n : Nat) (m : MF) : Sp := fun vs H Q _ => ∃ O0 as rs as', as.length = n ∧ R K O0 H as (vs.map some) ∧ (∀ (i : Nat) (l : List D), as[i]? ≠ some (.o l) ∧ as[i]? ≠ some (.z l)) ∧ m as = some (rs, as') ∧ RsP K O0 H as vs as' Q rs
noncomputable def mkF (n N : Nat) (g : MS) : MF := fun as => (g (as ++ List.replicate (N - n) .un)).bind fun fl => match fl with
  | .rt d r' => some (.v d, r'.take n)
  | .rf l r' => some (.f l, r'.take n)
  | .nx r' => some (.v .non, r'.take n)
  | _ => none
section
variable {P : Program} {w : World} {K : Fg} {mg : Str → Option Value} {base : Heap}
theorem own_start {q : Sl → Option (List D)} (hq : q .un = none) {as : List Sl} {vs : List V} {k n : Nat} {a : Addr} (hl : as.length = vs.length) : AtS q (as ++ List.replicate k .un) (vs.map some ++ List.replicate n none) a ↔ AtS q as (vs.map some) a := by
  constructor
  · rintro ⟨i, l, e, q'⟩
    by_cases hi : i < as.length
    · rw [List.getElem?_append_left hi] at e
      rw [List.getElem?_append_left (by simp; omega)] at q'
      exact ⟨i, l, e, q'⟩
    · rw [List.getElem?_append_right (by omega), List.getElem?_replicate] at e
      split at e
      · have e' : q .un = some l := e
        rw [hq] at e'; cases e'
      · cases e
  · rintro ⟨i, l, e, q'⟩
    have hi : i < as.length := by
      cases e1 : as[i]? with
      | none => rw [e1] at e; cases e
      | some x => exact (List.getElem?_eq_some_iff.mp e1).1
    exact ⟨i, l, by rw [List.getElem?_append_left hi]; exact e, by rw [List.getElem?_append_left (by simp; omega)]; exact q'⟩
theorem R.start {O0 : Addr → Prop} {H : Hp} {as : List Sl} {vs : List V} {k : Nat} (h : R K O0 H as (vs.map some)) : R K O0 H (as ++ List.replicate k .un) (vs.map some ++ List.replicate k none) := by
  have hl : as.length = vs.length := by simpa using h.len
  have own : ∀ a, Ow O0 (as ++ List.replicate k .un) (vs.map some ++ List.replicate k none) a → H a ≠ none → Ow O0 as (vs.map some) a := fun a z _ => z.imp id (own_start rfl hl).mp
  have pre : ∀ (i : Nat) (x : Sl), (as ++ List.replicate k .un)[i]? = some x → x ≠ .un → as[i]? = some x ∧ (vs.map some ++ List.replicate k none)[i]? = (vs.map some)[i]? := fun i x e n => by
    by_cases hi : i < as.length
    · rw [List.getElem?_append_left hi] at e
      exact ⟨e, List.getElem?_append_left (by simp; omega)⟩
    · rw [List.getElem?_append_right (by omega), List.getElem?_replicate] at e
      split at e
      · cases e; exact absurd rfl n
      · cases e
  have preO : ∀ (i : Nat) (l : List D), ((as ++ List.replicate k .un)[i]?).bind Sl.own = some l → (as[i]?).bind Sl.own = some l ∧ (vs.map some ++ List.replicate k none)[i]? = (vs.map some)[i]? := fun i l e => by
    cases e1 : (as ++ List.replicate k .un)[i]? with
    | none => rw [e1] at e; cases e
    | some x =>
      obtain ⟨q1, q2⟩ := pre i x e1 (by rintro rfl; rw [e1] at e; cases e)
      rw [e1] at e
      exact ⟨by rw [q1]; exact e, q2⟩
  refine ⟨by simp [hl], fun i d e => ?_, fun i l e => ?_, fun i j a l m e1 e2 q1 q2 => ?_, h.o0, fun i l a e q => ?_, fun i l a e q => ?_⟩
  · obtain ⟨q1, q2⟩ := pre i _ e (by intro z; cases z)
    obtain ⟨v, e3, q3⟩ := h.val i d q1
    exact ⟨v, q2.trans e3, Is.mono (Same.kp (Same.refl H) _) h.ol own _ _ q3⟩
  · obtain ⟨q1, q2⟩ := preO i l e
    obtain ⟨a, xs, e3, e4, q3⟩ := h.own i l q1
    exact ⟨a, xs, q2.trans e3, e4, IsL.mono (Same.kp (Same.refl H) _) h.ol own _ _ q3⟩
  · obtain ⟨p1, p2⟩ := preO i l e1
    obtain ⟨p3, p4⟩ := preO j m e2
    exact h.apart i j a l m p1 p3 (p2 ▸ q1) (p4 ▸ q2)
  · rcases e with e | e
    · obtain ⟨p1, p2⟩ := pre i _ e (by intro z; cases z)
      exact h.loc i l a (.inl p1) (p2 ▸ q)
    · obtain ⟨p1, p2⟩ := pre i _ e (by intro z; cases z)
      exact h.loc i l a (.inr p1) (p2 ▸ q)
  · obtain ⟨p1, p2⟩ := pre i _ e (by intro z; cases z)
    exact h.par i l a p1 (p2 ▸ q)
theorem fn_d {x qual : Str} {st : Stmt} {f : Addr} {fd : FuncData} {N ps : List Str} {k : Nat} {g : MS} (F : Fun K x qual st f fd) (S : FnScope N ps (defScope st)) (n : Nat) (nN : Nat) (hn : ps.length = n := by rfl) (hN : N.length = nN := by rfl)
    (hb : ∀ (cdv : Value) (A : Around) (outer : List Env) (s : Shared) (H : Hp) (E : XK), Room k (A.deeper (envOfC qual (defScope st) s.heap.objs.size f cdv)) →
      DSs (cxOf CX0 P w K mg base N qual (defScope st) f cdv A outer s H E).nox (defBody st) g) : FnOk P w K mg base CX0 (k + 1) f fd ps (spD K n (mkF n nN g)) := by
  subst hn hN
  refine F.ok S (fun vs H Q E h => ?_) (fun cdv A outer s H vs Q E hr h => ?_)
  · obtain ⟨O0, as, rs, as', hl, hR, _⟩ := h
    have := hR.len
    simp at this; omega
  · obtain ⟨O0, as, rs, as', hl, hR, no, e, q⟩ := h
    have hlv : as.length = vs.length := by simpa using hR.len
    refine ⟨_, hb cdv A outer s H E hr, ?_⟩
    obtain ⟨fl, e1, e2⟩ := bind_some e
    have hst : L2.start N vs = vs.map some ++ List.replicate (N.length - ps.length) none := by unfold L2.start; rw [← hlv, hl]
    rw [hst]
    have R0 := R.start (k := N.length - ps.length) hR
    have fin : ∀ (σ' : St) (H' : Hp) (r' : En), R K O0 H' r' σ' → Kp H (as ++ List.replicate (N.length - ps.length) .un) (vs.map some ++ List.replicate (N.length - ps.length) none) H' r' σ' → PostF K O0 H as vs H' (r'.take ps.length) := fun σ' H' r' R' k' => by
      refine ⟨fun b o eb nb => k'.keep b o eb fun z => nb ((own_start rfl hlv).mp z), k'.live, k'.lst, fun i l ei => ?_⟩
      have hi : i < as.length := (List.getElem?_eq_some_iff.mp ei).1
      obtain ⟨⟨l', e3⟩, e4⟩ := k'.par i l (by rw [List.getElem?_append_left hi]; exact ei)
      rw [List.getElem?_append_left (by simp; omega)] at e4
      obtain ⟨a, xs, e5, e6, e7⟩ := R'.own i l' (by rw [e3]; rfl)
      rw [e4] at e5
      have ev : vs[i]? = some (.ref a) := by
        rw [List.getElem?_map] at e5
        cases e8 : vs[i]? with
        | none => rw [e8] at e5; cases e5
        | some y => rw [e8] at e5; cases e5; rfl
      exact ⟨l', a, xs, by rw [List.getElem?_take_of_lt (by omega)]; exact e3, ev, e6, IsL.mono (Same.kp (Same.refl H') _) R'.ol (fun _ z _ => .inl z) _ _ e7⟩
    refine ⟨O0, _, fl, R0, e1, ?_⟩
    cases fl with
    | nx r' => cases e2; exact fun σ' H' R' k' => q .non H' (fin σ' H' r' R' k') (by rw [Is.non_iff])
    | bk r' => cases e2
    | ct r' => cases e2
    | rt d r' => cases e2; exact fun v σ' H' R' k' i' => q v H' (fin σ' H' r' R' k') i'
    | rf l r' =>
      cases e2
      refine fun a xs σ' H' R' k' fr no0 ea il => q a xs H' (fin σ' H' r' R' k') ?_ ea il
      rcases fr with z | ⟨i, m, ei, _⟩
      · exact z
      · exfalso
        by_cases hi : i < as.length
        · rw [List.getElem?_append_left hi] at ei; exact (no i m).1 ei
        · rw [List.getElem?_append_right (by omega), List.getElem?_replicate] at ei
          split at ei <;> cases ei
theorem fn_0 {f : Addr} {fd : FuncData} {ps : List Str} {k : Nat} (n : Nat) : FnOk P w K mg base CX0 k f fd ps (spD K n fun _ => none) :=
  ⟨(fun vs H Q E h => by obtain ⟨_, _, _, _, _, _, _, e, _⟩ := h; cases e), (fun A outer s H args us vs Q E _ _ _ _ h => by obtain ⟨_, _, _, _, _, _, _, e, _⟩ := h; cases e)⟩
end
noncomputable def rsD : Rs → D
  | .v d => d
  | .f l => .lst l
noncomputable def mCall (n : Nat) (m : MF) (fs : ML) : ME := fun r => (fs r).bind fun ds => if ds.length = n then (m (ds.map .v)).map fun p => rsD p.1 else none
section
variable {K : Fg}
theorem R.args {O : Addr → Prop} {H : Hp} {ds : List D} {vs : List V} (ol : OLst O H) (h : IsL K O H ds vs) : R K O H (ds.map .v) (vs.map some) := by
  have no : ∀ (i : Nat) (l : List D), ((ds.map Sl.v)[i]?).bind Sl.own ≠ some l := fun i l e => by
    rw [List.getElem?_map] at e
    cases e1 : ds[i]? with
    | none => rw [e1] at e; cases e
    | some x => rw [e1] at e; cases e
  refine ⟨by simp [h.length], fun i d e => ?_, fun i l e => absurd e (no i l), fun i j a l m e1 => absurd e1 (no i l), ol, fun i l a e => absurd (show ((ds.map Sl.v)[i]?).bind Sl.own = some l by rcases e with e | e <;> rw [e] <;> rfl) (no i l), fun i l a e => absurd (show ((ds.map Sl.v)[i]?).bind Sl.own = some l by rw [e]; rfl) (no i l)⟩
  rw [List.getElem?_map] at e
  cases e1 : ds[i]? with
  | none => rw [e1] at e; cases e
  | some x =>
    rw [e1] at e; cases e
    obtain ⟨v, e2, q⟩ := h.get e1
    exact ⟨v, by rw [List.getElem?_map, e2]; rfl, Is.mono (Same.kp (Same.refl H) _) ol (fun a z _ => z.elim id fun ⟨j, l, ej, _⟩ => absurd ej (no j l)) _ _ q⟩
theorem own_none {ds : List D} {σ : St} {a : Addr} : ¬ MutAt (ds.map .v) σ a := fun ⟨i, l, e, _⟩ => by
  rw [List.getElem?_map] at e
  cases e1 : ds[i]? with
  | none => rw [e1] at e; cases e
  | some x => rw [e1] at e; cases e
theorem PostF.same {O0 : Addr → Prop} {H H' : Hp} {ds : List D} {vs : List V} {as' : List Sl} (h : PostF K O0 H (ds.map .v) vs H' as') : Same H H' := fun b o e => h.keep b o e own_none
end
section
variable {X : Cx} {k n : Nat} {f : Addr} {fd : FuncData} {ps : List Str} {m : MF} {x : Str} {p pos : Pos} {e : Expr} {es : List Expr} {fs : ML}
theorem sp_pure {O0 : Addr → Prop} {r : En} {σ : St} {H H1 : Hp} {ds : List D} {vs : List V} {rs : Rs} {as' : List Sl} {Q : VK} {E : XK} (hR : R X.K O0 H r σ) (s1 : Same H H1) (il : IsL X.K (Ow O0 r σ) H1 ds vs) (hl : ds.length = n) (em : m (ds.map .v) = some (rs, as'))
    (q : RsP X.K (Ow O0 r σ) H1 (ds.map .v) vs as' Q rs) : spD X.K n m (vs ++ []) H1 Q E := by
  rw [List.append_nil]
  refine ⟨Ow O0 r σ, ds.map .v, rs, as', by simpa using hl, R.args (hR.same s1).ol il, fun i l => ?_, em, q⟩
  rw [List.getElem?_map]
  cases e1 : ds[i]? with
  | none => exact ⟨(fun z => by cases z), (fun z => by cases z)⟩
  | some y => exact ⟨(fun z => by cases z), (fun z => by cases z)⟩
theorem de_call (F : FnOk X.prog X.w X.K X.mg X.base CX0 k f fd ps (spD X.K n m)) (hr : Room k X.A) (hg : Gl X x) (hm : X.mg x = some (.ref f)) (hk : PySem.W.keepIn X.K (.ref f) = true) (hb : Binds X.K fd ps []) (ha : DA X (e :: es) fs)
    (hdb : (x == ("__debug__" : Str)) = false := by decide) (he : starEach (e :: es) X.env = (false, eval e X.env) :: starEach es X.env := by rfl) (hpl : (backTo pos (starEach es X.env)).any (·.1) = false := by rfl) :
    DE X (.Call (.Name x p) (e :: es) [] pos) (mCall n m fs) := by
  refine PE.conseq (pe_call (E := fun _ _ _ => False) (dvs := []) F hr hg hm hk hb .nil pass0 ha hdb he hpl) fun σ H Q h => ?_
  obtain ⟨O0, r, d, hR, e, q⟩ := h
  obtain ⟨ds, e1, e2⟩ := bind_some e
  split at e2
  · rename_i hl
    obtain ⟨⟨rs, as'⟩, e3, rfl⟩ := map_some e2
    refine ⟨O0, r, ds, hR, e1, fun vs H1 s1 il => sp_pure hR s1 il hl e3 ?_⟩
    cases rs with
    | v d => exact fun v H2 pf iv => q v H2 (s1.trans pf.same) iv
    | f l =>
      refine fun a xs H2 pf na ea il2 => q _ H2 (s1.trans pf.same) ?_
      have R1 := hR.same s1
      have olp : OLst (fun b => Ow O0 r σ b ∨ b = a) H2 := fun b z => z.elim (fun z => (R1.same pf.same).ol b z) fun z => by subst z; exact ⟨xs, ea⟩
      show Is X.K (Ow O0 r σ) H2 (.lst l) (.ref a)
      rw [Is.lst_iff]
      exact ⟨a, xs, rfl, .inl ⟨R1.nofresh na, .inl ea⟩, IsL.mono (Same.kp (Same.refl H2) _) olp (fun _ z _ => .inl z) _ _ il2⟩
  · cases e2
theorem de_call0 (F : FnOk X.prog X.w X.K X.mg X.base CX0 k f fd ps (spD X.K 0 m)) (hr : Room k X.A) (hg : Gl X x) (hm : X.mg x = some (.ref f)) (hk : PySem.W.keepIn X.K (.ref f) = true) (hb : Binds X.K fd ps [])
    (hdb : (x == ("__debug__" : Str)) = false := by decide) : DE X (.Call (.Name x p) [] [] pos) (mCall 0 m mNil) := by
  refine PE.conseq (pe_call0 (E := fun _ _ _ => False) (dvs := []) F hr hg hm hk hb .nil pass0 hdb) fun σ H Q h => ?_
  obtain ⟨O0, r, d, hR, e, q⟩ := h
  obtain ⟨ds, e1, e2⟩ := bind_some e
  unfold mNil at e1; cases e1
  split at e2
  · rename_i hl
    obtain ⟨⟨rs, as'⟩, e3, rfl⟩ := map_some e2
    refine sp_pure (E := fun _ _ _ => False) hR (Same.refl H) .nil hl e3 ?_
    cases rs with
    | v d => exact fun v H2 pf iv => q v H2 pf.same iv
    | f l =>
      refine fun a xs H2 pf na ea il2 => q _ H2 pf.same ?_
      have olp : OLst (fun b => Ow O0 r σ b ∨ b = a) H2 := fun b z => z.elim (fun z => (hR.same pf.same).ol b z) fun z => by subst z; exact ⟨xs, ea⟩
      show Is X.K (Ow O0 r σ) H2 (.lst l) (.ref a)
      rw [Is.lst_iff]
      exact ⟨a, xs, rfl, .inl ⟨hR.nofresh na, .inl ea⟩, IsL.mono (Same.kp (Same.refl H2) _) olp (fun _ z _ => .inl z) _ _ il2⟩
  · cases e2
end
section
variable {X : Cx} {tg l : Expr} {f : ME} {p pos : Pos}
noncomputable def itemsD : D → Option (List D)
  | .lst l => some l
  | .tup l => some l
  | _ => none
noncomputable def mIt (f : ME) : ML := fun r => (f r).bind itemsD
theorem get_of_lt {l : List D} {i : Nat} (h : i < l.length) : ∃ d, l[i]? = some d := ⟨l[i], by simp [h]⟩
theorem yl_list {K : Fg} {O M : Addr → Prop} (mo : ∀ a, M a → O a) {H : Hp} {a : Addr} {xs : List V} {ds : List D} (ol : OLst O H) (rd : ∀ H1, Keep M H H1 → SqL K H1 a xs) (il : IsL K O H ds xs): Ylds K O M H (Itl K a) ds := by
  intro i H1 O' kp oo
  have kp' : Keep O H H1 := fun b o e n => kp b o e fun z => n (mo b z)
  have rd1 : SqL K H1 a xs := rd H1 kp
  refine ⟨fun hi => ⟨?_, fun x H' y => ?_⟩, fun hi => ⟨xs, rd1, by rw [← il.length]; exact Nat.le_of_eq hi.symm⟩⟩
  · obtain ⟨d, e⟩ := get_of_lt hi
    obtain ⟨v, e1, _⟩ := il.get e
    exact ⟨xs, v, rd1, e1⟩
  · obtain ⟨rfl, y⟩ := y
    refine ⟨Same.refl _, fun d e => ?_⟩
    obtain ⟨v, e1, q⟩ := il.get e
    have := y xs rd1
    rw [e1] at this; cases this
    exact Is.mono kp' ol oo _ _ q
theorem yl_tup {K : Fg} {O M : Addr → Prop} (mo : ∀ a, M a → O a) {H : Hp} {a : Addr} {xs : List V} {ds : List D} (ol : OLst O H) (rd : SqT K H a xs) (il : IsL K O H ds xs) : Ylds K O M H (Itt K a) ds := by
  intro i H1 O' kp oo
  have kp' : Keep O H H1 := fun b o e n => kp b o e fun z => n (mo b z)
  have rd1 : SqT K H1 a xs := SqT.keep kp' ol rd
  refine ⟨fun hi => ⟨?_, fun x H' y => ?_⟩, fun hi => ⟨xs, rd1, by rw [← il.length]; exact Nat.le_of_eq hi.symm⟩⟩
  · obtain ⟨d, e⟩ := get_of_lt hi
    obtain ⟨v, e1, _⟩ := il.get e
    exact ⟨xs, v, rd1, e1⟩
  · obtain ⟨rfl, y⟩ := y
    refine ⟨Same.refl _, fun d e => ?_⟩
    obtain ⟨v, e1, q⟩ := il.get e
    have := y xs rd1
    rw [e1] at this; cases this
    exact Is.mono kp' ol oo _ _ q
theorem pi_seq {tl : TE} (hl : PE X l tl) : PI X tg l (fun σ H Rr => tl σ H fun x H1 => ∃ a, x = .ref a ∧ (((∃ xs, SqL X.K H1 a xs) ∧ Rr (Itl X.K a) H1) ∨ ((∃ xs, SqT X.K H1 a xs) ∧ Rr (Itt X.K a) H1))) := by
  intro pins s σ H R I h
  refine thn (hl pins s σ H _ I h) fun v s1 ⟨x, H1, I1, r1, q1⟩ => ?_
  obtain ⟨a, e, q⟩ := q1
  subst e
  cases r1
  rcases q with ⟨⟨xs, hq⟩, q⟩ | ⟨⟨xs, hq⟩, q⟩
  · obtain ⟨its, rv, p, hz⟩ := I1.list hq
    refine wpAny_pyIter_list p.isList ?_
    refine ⟨s1.heap.objs.size, [s1.heap.objs.size], _, _, H1, rfl, I1.kept (t' := s1.toks) fun b o e => Heap.get?_push_of_some _ e, turn_list a _, ⟨_, Heap.get?_push_size _ rfl, rfl, rfl⟩, fun b hb => ?_, q⟩
    have e : b = s1.heap.objs.size := by simpa using hb
    subst e
    exact I1.fpOk (Nat.le_refl _) (I1.hok.fresh (Nat.le_refl _))
  · obtain ⟨its, rv, p, hz⟩ := I1.tuple hq
    refine wpAny_pyIter_tuple (show s1.heap.IsTuple a its.toArray from p) ?_
    refine ⟨s1.heap.objs.size, [s1.heap.objs.size], _, _, H1, rfl, I1.kept (t' := s1.toks) fun b o e => Heap.get?_push_of_some _ e, turn_tuple a _, ⟨_, Heap.get?_push_size _ rfl, rfl, rfl⟩, fun b hb => ?_, q⟩
    have e : b = s1.heap.objs.size := by simpa using hb
    subst e
    exact I1.fpOk (Nat.le_refl _) (I1.hok.fresh (Nat.le_refl _))
theorem di_seq (hl : DE X l f) : DI X tg l (mIt f) := by
  refine PI.conseq (pi_seq hl) fun σ H Rr h => ?_
  obtain ⟨O0, r, ds, hR, e, q⟩ := h
  obtain ⟨d, e1, e2⟩ := bind_some e
  refine ⟨O0, r, d, hR, e1, fun v H1 s1 i1 => ?_⟩
  have ol := (hR.same s1).ol
  cases d with
  | lst l' =>
    cases e2
    rw [Is.lst_iff] at i1
    obtain ⟨a, xs, rfl, rd, il⟩ := i1
    exact ⟨a, rfl, .inl ⟨⟨xs, rd.sq⟩, q _ H1 s1 (yl_list (fun a z => .inr z.own) ol (fun H2 k2 => rd.imp (fun z => Rd.keep k2 (fun y => z.1 (.inr y.own)) z.2) id) il)⟩⟩
  | tup l' =>
    cases e2
    rw [Is.tup_iff] at i1
    obtain ⟨a, xs, rfl, rd, il⟩ := i1
    exact ⟨a, rfl, .inr ⟨⟨xs, rd⟩, q _ H1 s1 (yl_tup (fun a z => .inr z.own) ol rd il)⟩⟩
  | _ => cases e2
noncomputable def rngD (lo : Int) (n : Nat) : List D := (List.range n).map fun i => .int (lo + (i : Nat))
theorem yl_rng {K : Fg} {O M : Addr → Prop} {H : Hp} (lo : Int) (n : Nat) : Ylds K O M H (Itr lo n) (rngD lo n) := by
  intro i H1 O' kp oo
  have hl : (rngD lo n).length = n := by simp [rngD]
  refine ⟨fun hi => ⟨by rw [hl] at hi; exact hi, fun x H' y => ?_⟩, fun hi => by rw [hl] at hi; exact Nat.le_of_eq hi.symm⟩
  obtain ⟨rfl, rfl⟩ := y
  refine ⟨Same.refl _, fun d e => ?_⟩
  rw [hl] at hi
  unfold rngD at e
  rw [List.getElem?_map, List.getElem?_range hi] at e
  cases e
  rw [Is.int_iff]
noncomputable def intD : D → Option Int
  | .int i => some i
  | _ => none
noncomputable def mRng1 (f : ME) : ML := fun r => (f r).bind fun d => (intD d).bind fun j => if -(2 ^ 62) ≤ j ∧ j < 2 ^ 62 then some (rngD 0 j.toNat) else none
theorem intD_some {d : D} {i : Int} (e : intD d = some i) : d = .int i := by
  cases d <;> first | cases e; rfl | cases e
theorem di_rng1 (hg : Gl X "range") (hm : X.mg "range" = none) (ha : DE X l f) (hs : starEach [l] X.env = [(false, eval l X.env)] := by rfl) : DI X tg (.Call (.Name "range" p) [l] [] pos) (mRng1 f) := by
  refine PI.conseq (pi_range1 hg hm (pa_cons ha pa_nil hs) hs) fun σ H Rr h => ?_
  obtain ⟨O0, r, ds, hR, e, q⟩ := h
  obtain ⟨d, e1, e2⟩ := bind_some e
  obtain ⟨j, e3, e4⟩ := bind_some e2
  cases intD_some e3
  split at e4
  · rename_i hj
    cases e4
    refine ⟨O0, r, _, hR, e1, fun v H1 s1 i1 => ?_⟩
    rw [Is.int_iff] at i1
    exact ⟨j, by rw [i1], hj.1, hj.2, q _ H1 s1 (yl_rng 0 _)⟩
  · cases e4
end
noncomputable def clOf (env : Env) : List (Str × NameKind) → List (Str × Addr) → List (Str × Addr)
  | [], acc => acc
  | (n, k) :: r, acc => if k = .free then clOf env r ((n, (env.cells.lookup n).getD 0) :: acc) else clOf env r acc
theorem closure_eq {env : Env} : ∀ (names : List (Str × NameKind)) (acc : List (Str × Addr)), (∀ y ∈ names, y.2 = .free → ∃ c, env.cells.lookup y.1 = some c) →
    (forIn names acc (fun (x : Str × NameKind) (cs : List (Str × Addr)) => match x with
      | (name, kind) => if (kind == NameKind.free) = true then do let a ← cellOf env name; pure (ForInStep.yield ((name, a) :: cs)) else pure (ForInStep.yield cs)) : Sem (List (Str × Addr))) = pure (clOf env names acc)
  | [], acc, _ => rfl
  | (n, k) :: r, acc, h => by
    rw [List.forIn_cons]
    by_cases hk : k = .free
    · obtain ⟨c, hc⟩ := h (n, k) List.mem_cons_self hk
      have ih := closure_eq r ((n, c) :: acc) fun y hy => h y (List.mem_cons_of_mem _ hy)
      subst hk
      show ((do let a ← cellOf env n; pure (ForInStep.yield ((n, a) :: acc))) >>= _ : Sem _) = _
      unfold cellOf
      rw [hc]
      unfold clOf
      rw [if_pos rfl, hc]
      exact ih
    · have hb : (k == NameKind.free) = false := by simpa using hk
      have ih := closure_eq r acc fun y hy => h y (List.mem_cons_of_mem _ hy)
      unfold clOf
      rw [if_neg hk]
      simp only [hb]
      exact ih
theorem closureFor_eq {scope : Scope} {env : Env} (h : ∀ y ∈ scope.names, y.2 = .free → ∃ c, env.cells.lookup y.1 = some c) : closureFor scope env = pure (clOf env scope.names []) := by
  unfold closureFor
  have := closure_eq (env := env) scope.names [] h
  first
    | exact this
    | (simp only [bind_pure]; exact this)
    | (rw [← this]; rfl)
theorem clOf_sub {env : Env} {x : Str} {c : Addr} : ∀ (names : List (Str × NameKind)) (acc : List (Str × Addr)), (∀ y ∈ names, y.2 = .free → ∃ c, env.cells.lookup y.1 = some c) → (∀ c, acc.lookup x = some c → env.cells.lookup x = some c) →
    (clOf env names acc).lookup x = some c → env.cells.lookup x = some c
  | [], acc, _, ha, e => ha c e
  | (n, k) :: r, acc, h, ha, e => by
    unfold clOf at e
    split at e
    · rename_i hk
      refine clOf_sub r _ (fun y hy => h y (List.mem_cons_of_mem _ hy)) (fun c' e' => ?_) e
      rw [List.lookup_cons] at e'
      split at e'
      · rename_i hx
        have hx' : x = n := by simpa using hx
        subst hx'
        obtain ⟨c2, q⟩ := h (x, k) List.mem_cons_self hk
        rw [q] at e' ⊢
        simpa using e'
      · exact ha c' e'
    · exact clOf_sub r _ (fun y hy => h y (List.mem_cons_of_mem _ hy)) ha e
theorem clOf_acc {env : Env} {x : Str} : ∀ (names : List (Str × NameKind)) (acc : List (Str × Addr)), (∃ c, acc.lookup x = some c) → ∃ c, (clOf env names acc).lookup x = some c
  | [], acc, h => h
  | (n, k) :: r, acc, h => by
    unfold clOf
    split
    · refine clOf_acc r _ ?_
      rw [List.lookup_cons]
      split
      · exact ⟨_, rfl⟩
      · exact h
    · exact clOf_acc r _ h
theorem clOf_has {env : Env} {x : Str} : ∀ (names : List (Str × NameKind)) (acc : List (Str × Addr)), (x, NameKind.free) ∈ names → ∃ c, (clOf env names acc).lookup x = some c
  | [], _, h => nomatch h
  | (n, k) :: r, acc, h => by
    unfold clOf
    rcases List.mem_cons.mp h with z | z
    · cases z
      rw [if_pos rfl]
      refine clOf_acc r _ ?_
      rw [List.lookup_cons]
      simp
    · split
      · exact clOf_has r _ z
      · exact clOf_has r _ z
theorem relabel_inv {env : Env} : ∀ {names : List (Str × NameKind)} {x : Str} {k : NameKind}, (names.map fun (n, k) => if (k == NameKind.free && env.scope.kind == .function && env.kindOf n == some .cell) then (n, NameKind.cell) else (n, k)).lookup x = some k →
    ∃ k', names.lookup x = some k' ∧ (k = k' ∨ (k' = .free ∧ k = .cell))
  | [], _, _, h => by simp at h
  | (n, k0) :: r, x, k, h => by
    have h' : List.lookup x ((if (k0 == NameKind.free && env.scope.kind == .function && env.kindOf n == some .cell) = true then (n, NameKind.cell) else (n, k0)) :: (r.map fun (n, k) => if (k == NameKind.free && env.scope.kind == .function && env.kindOf n == some .cell) then (n, NameKind.cell) else (n, k))) = some k := h
    rw [List.lookup_cons]
    by_cases hc : (k0 == NameKind.free && env.scope.kind == .function && env.kindOf n == some .cell) = true
    · rw [if_pos hc, List.lookup_cons] at h'
      split at h'
      · rename_i hx
        cases h'
        refine ⟨k0, rfl, .inr ⟨?_, rfl⟩⟩
        simp only [Bool.and_eq_true, beq_iff_eq] at hc
        exact hc.1.1
      · rename_i hx
        exact relabel_inv h'
    · rw [if_neg hc, List.lookup_cons] at h'
      split at h'
      · rename_i hx
        cases h'
        exact ⟨k0, rfl, .inl rfl⟩
      · rename_i hx
        exact relabel_inv h'
theorem relabel_free {env : Env} : ∀ {names : List (Str × NameKind)} {x : Str}, names.lookup x = some .free →
    let l := (names.map fun (n, k) => if (k == NameKind.free && env.scope.kind == .function && env.kindOf n == some .cell) then (n, NameKind.cell) else (n, k)); l.lookup x = some .cell ∨ l.lookup x = some .free
  | [], _, h => by simp at h
  | (n, k0) :: r, x, h => by
    show List.lookup x ((if (k0 == NameKind.free && env.scope.kind == .function && env.kindOf n == some .cell) = true then (n, NameKind.cell) else (n, k0)) :: _) = _ ∨ List.lookup x ((if (k0 == NameKind.free && env.scope.kind == .function && env.kindOf n == some .cell) = true then (n, NameKind.cell) else (n, k0)) :: _) = _
    rw [List.lookup_cons] at h
    cases hx : x == n with
    | true =>
      rw [hx] at h
      cases h
      split
      · left; rw [List.lookup_cons, hx]
      · right; rw [List.lookup_cons, hx]
    | false =>
      rw [hx] at h
      have ih := relabel_free (env := env) h
      split
      · rw [List.lookup_cons, hx]; exact ih
      · rw [List.lookup_cons, hx]; exact ih
noncomputable def cxC (X : Cx) (N' : List Str) (scope : Scope) (C : Addr) (fp : List Addr) (s : Shared) (H : Hp) : Cx where
  prog := X.prog
  w := X.w
  K := X.K
  mg := X.mg
  base := X.base
  A := X.A
  N := N'
  s₀ := s
  H₀ := H
  env := compEnvC scope (clOf X.env scope.names []) C X.env
  outer := X.stack
  stack := X.stack
  ex := fp
  fn := fun _ => false
  calm := X.calm
  pn := []
  xe := fun _ _ => False
structure CmpOk (X : Cx) (N' : List Str) (cap : List Nat) (scope : Scope) : Prop where
  kind : scope.kind = .function
  nc : ∀ y ∈ scope.names, y.2 ≠ .cell
  nm : ∀ y ∈ scope.names, y.2 = .local → scope.names.lookup y.1 = some .local
  fr : ∀ y ∈ scope.names, y.2 = .free → X.env.kindOf y.1 = some .cell ∨ X.env.kindOf y.1 = some .free
  capt : ∀ (i j : Nat), cap[i]? = some j → ∃ x, N'[i]? = some x ∧ X.N[j]? = some x ∧ scope.names.lookup x = some .free
  len : cap.length ≤ N'.length
noncomputable def sigC (cap : List Nat) (n : Nat) (σ : St) : St := (cap.map fun j => (σ[j]?).getD none) ++ List.replicate (n - cap.length) none
section
variable {X : Cx} {pins : List (Addr × Obj)} {σ : St} {H : Hp} {s : Shared} {N' : List Str} {cap : List Nat} {scope : Scope} {fp : List Addr}
theorem CmpOk.hasc (o : CmpOk X N' cap scope) (ok : X.Ok) : ∀ y ∈ scope.names, y.2 = .free → ∃ c, X.env.cells.lookup y.1 = some c := fun y hy e => ok.has y.1 (o.fr y hy e)
theorem CmpOk.sub (o : CmpOk X N' cap scope) (ok : X.Ok) {x : Str} {c : Addr} (e : (clOf X.env scope.names []).lookup x = some c) : X.env.cells.lookup x = some c := clOf_sub scope.names [] (o.hasc ok) (fun _ z => by simp at z) e
theorem inv_comp (o : CmpOk X N' cap scope) (I : Inv X pins σ H s) (hfp : ∀ b ∈ fp, FpOk X pins H b) (hlt : ∀ b ∈ fp, b < s.heap.objs.size) {h' : Heap} {t' : Nat} (ns : h'.Ns s.heap.objs.size (fun _ => none)) (kp : ∀ b u, s.heap.get? b = some u → h'.get? b = some u) :
    Inv (cxC X N' scope s.heap.objs.size fp s H) [] (sigC cap N'.length σ) H { s with heap := h', toks := t' } := by
  have hf : H s.heap.objs.size = none := I.hok.fresh (Nat.le_refl _)
  have nofp : ∀ b ∈ fp, b ∉ frs X.stack := fun b hb z => by
    obtain ⟨f0, f1, f2, f3, f4, f5⟩ := hfp b hb
    rcases List.mem_cons.mp (I.stkSub b z) with q | q
    · exact f1 q
    · exact f2 q
  have ok' : (cxC X N' scope s.heap.objs.size fp s H).Ok := by
    refine ⟨I.ok.mod, o.kind, I.ok.glob, I.ok.blt, Nat.le_refl _, fun x y c e1 e2 => I.ok.inj x y c (o.sub I.ok e1) (o.sub I.ok e2), fun x hx => ?_, fun x c z => (by cases z), I.ok.hd, I.ok.frames, .inl rfl, fun b hb => ⟨Nat.ne_of_lt (hlt b hb), fun x c e => (hfp b hb).2.2.2.2.1 x c (o.sub I.ok e)⟩,
      fun b ob e => I.bs b ob e, Nat.le_trans I.ok.bsz I.sz, fun b ob e hb => ?_, nofp, I.stack, I.stkFree⟩
    · have key : scope.names.lookup x = some .free := by
        rcases hx with hx | hx
        · obtain ⟨k', e1, e2⟩ := relabel_inv (env := X.env) (names := scope.names) (x := x) (k := .cell) hx
          rcases e2 with e2 | e2
          · subst e2; exact absurd rfl (o.nc _ (PySem.mem_of_lookup e1))
          · rw [e2.1] at e1; exact e1
        · obtain ⟨k', e1, e2⟩ := relabel_inv (env := X.env) (names := scope.names) (x := x) (k := .free) hx
          rcases e2 with e2 | e2
          · subst e2; exact e1
          · exact absurd e2.2 (by decide)
      exact clOf_has scope.names [] (PySem.mem_of_lookup key)
    · rcases (hfp b hb).2.2.2.1 with z | z
      · exact I.ok.noex b ob e z
      · exact absurd (Nat.lt_of_lt_of_le (Nat.lt_of_lt_of_le (Heap.lt_size e) I.ok.bsz) z) (Nat.lt_irrefl _)
  refine ⟨ok', rfl, I.bare, Un.kept kp, ⟨fun _ => none, ns, fun i x v hN hs hv => ?_⟩, fun x c e => ?_, hf, fun x c e => I.freeC x c (o.sub I.ok e), fun p hp => ?_, I.hok.kept kp, ?_⟩
  · have hN : N'[i]? = some x := hN
    by_cases hi : i < cap.length
    · unfold sigC at hs
      rw [List.getElem?_append_left (by simpa using hi), List.getElem?_map] at hs
      obtain ⟨j, hj⟩ : ∃ j, cap[i]? = some j := ⟨cap[i], by simp [hi]⟩
      rw [hj] at hs
      have hs' : σ[j]? = some (some v) := by
        have hs'' : (σ[j]?).getD none = some v := Option.some.inj hs
        cases e : σ[j]? with
        | none => rw [e] at hs''; cases hs''
        | some y => rw [e] at hs''; have : y = some v := hs''; rw [this]
      obtain ⟨x', e1, e2, e3⟩ := o.capt i j hj
      rw [hN] at e1; cases e1
      have hk := o.fr (x, .free) (PySem.mem_of_lookup e3) rfl
      obtain ⟨m, hn, hl⟩ := I.loc
      have hvis : Vis X.env.scope x := hk.elim (fun z => .inr (.inl z)) fun z => .inr (.inr z)
      obtain ⟨u, r, lk⟩ := hl j x v e2 hs' hvis
      refine ⟨u, r, .inr ⟨relabel_free (env := X.env) e3, ?_⟩⟩
      rcases lk with ⟨z, _⟩ | ⟨_, c, hc, hcell⟩
      · have z' : X.env.kindOf x = some .local := z
        rw [z'] at hk
        rcases hk with hk | hk <;> cases hk
      · obtain ⟨c', hc'⟩ := clOf_has (env := X.env) scope.names [] (PySem.mem_of_lookup e3)
        have hcc := o.sub I.ok hc'
        rw [hc] at hcc; cases hcc
        obtain ⟨ob, q1, q2⟩ := hcell
        exact ⟨c, hc', ob, kp _ _ q1, q2⟩
    · unfold sigC at hs
      rw [List.getElem?_append_right (by simpa using Nat.le_of_not_lt hi), List.getElem?_replicate] at hs
      split at hs <;> cases hs
  · obtain ⟨v, ob, q1, q2⟩ := I.cell x c (o.sub I.ok e)
    exact ⟨v, ob, kp _ _ q1, q2⟩
  · exact absurd (show p ∈ ([] : List (Addr × Obj)) from hp) (by simp)
  · unfold sigC
    show _ = N'.length
    rw [List.length_append, List.length_map, List.length_replicate]
    have := o.len
    omega
theorem inv_comp_end {H2 : Hp} {σ2 : St} {s2 : Shared} {h' : Heap} (I : Inv X pins σ H s) (hfp : ∀ b ∈ fp, FpOk X pins H b) (J : Inv (cxC X N' scope s.heap.objs.size fp s H) [] σ2 H2 s2) (sb : Heap.SameBut s.heap.objs.size s2.heap h') : Inv X pins σ H2 { s2 with heap := h' } := by
  have hb : Un (frs X.stack) fp H H2 s.heap s2.heap := J.base
  have ne : ∀ b o, s.heap.get? b = some o → b ≠ s.heap.objs.size := fun b o e => Nat.ne_of_lt (Heap.lt_size e)
  have fr : H2 s.heap.objs.size = none := J.free
  refine I.call' (s' := { s2 with heap := h' }) (ch := fp) J.os ?_ ?_ J.bare fun b hb => ⟨(hfp b hb).2.2.2.1, (hfp b hb).2.1, (hfp b hb).2.2.2.2.1, (hfp b hb).2.2.2.2.2⟩
  · refine ⟨fun b o e n h1 h2 => ?_, fun b o e n h1 h2 => ?_, fun b o e n h2 => hb.free b o e n h2, fun b o e h2 => ?_, hb.tups, hb.frzs, hb.tbls⟩
    · exact sb.extBut b o (ne b o e) (hb.keep b o e n h1 h2)
    · obtain ⟨sl, q⟩ := hb.slot b o e n h1 h2
      exact ⟨sl, sb.extBut b _ (ne b o e) q⟩
    · obtain ⟨o', q⟩ := hb.there b o e h2
      exact ⟨o', sb.extBut b _ (ne b o e) q⟩
  · intro b u e
    have nb : ∀ c w, H2 c = some w → c ≠ s.heap.objs.size := fun c w q z => by rw [z, fr] at q; cases q
    refine (J.hok b u e).stay (fun c v hc q => sb.extBut c v ?_ q) (fun _ q => q) fun _ _ q => q
    rcases hc with z | z
    · rw [z]; exact nb b u e
    · exact nb c _ z
noncomputable def tComp1 (tc : Option TT) (te : TE) (K1 : V → Hp → Prop) (K0 : Hp → Prop) : St → Hp → Prop := fun σ H => match tc with
  | none => te σ H K1
  | some c => c σ H fun b H1 => if b = true then te σ H1 K1 else K0 H1
noncomputable def tComp (cap : List Nat) (n : Nat) (wi : TI) (g : TG) (tc : Option TT) (te : TE) : TE := fun σ H Q => wi σ H fun J H1 => ∀ p, H1 p = none → ∃ W : Nat → Nat → List V → St → Hp → Prop, (∃ m, W 0 m [] (sigC cap n σ) (upd H1 p (.lst []))) ∧ ∀ i m ys σ2 H2, W i m ys σ2 H2 → H2 p = some (.lst ys) ∧ ys.length < sizeLine ∧
  ((J.stop i H2 ∧ Q (.ref p) H2) ∨ (J.go i H2 ∧ ∀ x H3, J.yld i H2 x H3 → g x σ2 H3 fun σ4 H4 => tComp1 tc te (fun y H5 => H5 p = some (.lst ys) ∧ ∃ m', m' < m ∧ W (i + 1) m' (ys ++ [y]) σ4 (upd H5 p (.lst (ys ++ [y])))) (fun H5 => ∃ m', m' < m ∧ W (i + 1) m' ys σ4 H5) σ4 H4))
theorem compLoop_go {prog : Program} {w : World} {A : Around} {Z : Result → Shared → Prop} {t0 : Shared} {elt tgt src : Expr} {tests : List Expr} {scope : Scope} {pos : Pos} {it out : Value} {env : Env} (W : Nat → Shared → Prop)
    (each : ∀ k t, W k t → wpAny (model prog w) A (pyNext it) (fun got t1 => match got with
      | none => Z (.ok .next) t1
      | some y => wpAny (model prog w) A (letOwnedTupleGo tgt it y) (fun _ t2 => wpAny (model prog w) A (assign tgt env y) (fun _ t3 =>
          wpAny (model prog w) A (forIn tests true fun c b => if b = true then do let ok ← isTrue c env (eval c env); pure (ForInStep.yield ok) else pure (ForInStep.yield b)) (fun good t4 =>
            if good = true then wpAny (model prog w) A (eval elt env) (fun x t5 =>
              wpAny (model prog w) A (call (.builtin "list.append") [out, x]) (fun _ t6 => ∃ j, j < k ∧ W j t6) (fun _ _ => False) t5) (fun _ _ => False) t4
            else ∃ j, j < k ∧ W j t4) (fun _ _ => False) t3) (fun _ _ => False) t2) (fun _ _ => False) t1) (fun _ _ => False) t)
    (k : Nat) (h0 : W k t0) : codeAny (model prog w) A (.compLoop (.ListComp elt [⟨tgt, src, tests, 0⟩] scope pos) 0 it out env) Z t0 := by
  refine codeAny_loop rfl W (fun k t hW => ?_) k h0
  show wpAny _ A ((compTurn (.ListComp elt [⟨tgt, src, tests, 0⟩] scope pos) 0 it out env).onRaise (fun x => do noteFrame x env; theTreesLotGoes x)) _ _ t
  refine wpAny_noted ?_
  rw [compTurn_list]
  refine wpAny_bind (wpAny_standAt (wpAny_bind (wpAny_mono (each k t hW) (fun got t1 g1 => ?_) fun _ _ no => no.elim)))
  cases got with
  | none => exact wpAny_pure g1
  | some y =>
    refine wpAny_bind (wpAny_mono g1 (fun _ t2 g2 => wpAny_bind (wpAny_mono g2 (fun _ t3 g3 => wpAny_bind (wpAny_mono g3 (fun good t4 g4 => ?_) fun _ _ no => no.elim)) fun _ _ no => no.elim)) fun _ _ no => no.elim)
    cases good with
    | false => exact wpAny_pure ⟨rfl, g4⟩
    | true =>
      exact wpAny_bind (wpAny_bind (wpAny_mono g4 (fun x t5 g5 => wpAny_bind (wpAny_mono g5 (fun _ t6 g6 => wpAny_pure (wpAny_pure ⟨rfl, g6⟩)) fun _ _ no => no.elim)) fun _ _ no => no.elim))
theorem comp_core {elt tg iter : Expr} {ifs : List Expr} {pos : Pos} {g : TG} {tc : Option TT} {te : TE} {J : It} {it : Addr} {tn : Nat → Heap → Prop} {Q : VK} {RR : Value → Addr → Result → Shared → Prop} (hc : X.calm = true) (o : CmpOk X N' cap scope)
    (hg : ∀ C fp s H, PG (cxC X N' scope C fp s H) tg g) (ht : match (generalizing := false) tc with | none => ifs = [] | some c => ∃ e, ifs = [e] ∧ ∀ C fp s H, PT (cxC X N' scope C fp s H) e c) (he : ∀ C fp s H, PE (cxC X N' scope C fp s H) elt te)
    (I : Inv X pins σ H s) (T : Turn X.prog X.w X.K tg J fp it tn) (st : tn 0 s.heap) (hfp : ∀ b ∈ fp, FpOk X pins H b)
    (hw : ∀ p, H p = none → ∃ W : Nat → Nat → List V → St → Hp → Prop, (∃ m, W 0 m [] (sigC cap N'.length σ) (upd H p (.lst []))) ∧ ∀ i m ys σ2 H2, W i m ys σ2 H2 → H2 p = some (.lst ys) ∧ ys.length < sizeLine ∧
      ((J.stop i H2 ∧ Q (.ref p) H2) ∨ (J.go i H2 ∧ ∀ x H3, J.yld i H2 x H3 → g x σ2 H3 fun σ4 H4 => tComp1 tc te (fun y H5 => H5 p = some (.lst ys) ∧ ∃ m', m' < m ∧ W (i + 1) m' (ys ++ [y]) σ4 (upd H5 p (.lst (ys ++ [y])))) (fun H5 => ∃ m', m' < m ∧ W (i + 1) m' ys σ4 H5) σ4 H4)))
    (hRR : ∀ (p : Addr) (s3 s' : Shared) (H3 H2 : Hp) (σ2 : St), Inv X pins σ H3 s3 → (∀ b ∈ fp, FpOk X pins H3 b) → Inv (cxC X N' scope s3.heap.objs.size fp s3 H3) [] σ2 H2 s' → Q (.ref p) H2 → RR (.ref p) s3.heap.objs.size (.ok .next) s') :
    wpAny (model X.prog X.w) X.A (newList []) (fun acc s₃ => wpAny (model X.prog X.w) X.A (newFunctionEnv scope X.env.globals (clOf X.env scope.names []) [] X.env.qual none .none (some X.env)) (fun cenv s₄ =>
      codeAny (model X.prog X.w) X.A (.compStart (.ListComp elt [⟨tg, iter, ifs, 0⟩] scope pos) 0 (.ref it) acc { cenv with scope := relabel scope X.env }) (RR acc cenv.locals) s₄) X.xe s₃) X.xe s := by
  refine wpAny_newObj_type ?_
  obtain ⟨W, ⟨m0, w0⟩, turn⟩ := hw s.heap.objs.size (I.hok.fresh (Nat.le_refl _))
  have nfp : ∀ b ∈ fp, b < s.heap.objs.size := fun b hb => by
    obtain ⟨ob, e, _⟩ := T.obj 0 _ st b hb
    exact Heap.lt_size e
  have I3 := I.lnew (its := []) (ys := []) (t' := s.toks) .nil (Nat.zero_le _)
  generalize hs3 : ({ s with heap := s.heap.push { cls := .type "list", data := .seq ([] : List Value).toArray }, toks := s.toks } : Shared) = s3 at I3
  have hs3' : ({ s with heap := s.heap.push { cls := .type "list", dict := none, data := .seq ([] : List Value).toArray } } : Shared) = s3 := hs3
  have hf3 : ∀ b ∈ fp, FpOk X pins (upd H s.heap.objs.size (.lst [])) b := fun b hb => ⟨by rw [upd_ne (Nat.ne_of_lt (nfp b hb))]; exact (hfp b hb).1, (hfp b hb).2⟩
  have st3 : tn 0 s3.heap := T.keep 0 _ _ st fun b _ ob e => by rw [← hs3]; exact Heap.get?_push_of_some _ e
  have nfp3 : ∀ b ∈ fp, b < s3.heap.objs.size := fun b hb => by
    obtain ⟨ob, e, _⟩ := T.obj 0 _ st3 b hb
    exact Heap.lt_size e
  refine wpAny_newFunctionEnv o.nc (by intro y hy; simp at hy) (fun h₁ hns₁ hsb₁ => ?_) o.kind
  have old : ∀ b ob, s3.heap.get? b = some ob → h₁.get? b = some ob := fun b ob e => hsb₁.extBut b ob (Nat.ne_of_lt (Heap.lt_size e)) (Heap.get?_push_of_some _ e)
  have I4 := inv_comp (t' := s3.toks + ([] : List (Str × Value)).length) o I3 hf3 nfp3 (by simpa using hns₁) old
  have st4 : tn 0 h₁ := T.keep 0 _ _ st3 fun b _ ob e => old b ob e
  have fpC : ∀ H', (∀ b ∈ fp, H' b = none) → ∀ b ∈ fp, FpOk (cxC X N' scope s3.heap.objs.size fp s3 (upd H s.heap.objs.size (.lst []))) [] H' b := fun H' hn b hb => by
    refine ⟨hn b hb, Nat.ne_of_lt (nfp3 b hb), I4.ok.exfs b hb, .inl hb, (I4.ok.exf b hb).2, fun p hp => absurd (show p ∈ ([] : List (Addr × Obj)) from hp) (by simp)⟩
  have loop : codeAny (model X.prog X.w) X.A (.compLoop (.ListComp elt [⟨tg, iter, ifs, 0⟩] scope pos) 0 (.ref it) (.ref s.heap.objs.size) (compEnvC scope (clOf X.env scope.names []) s3.heap.objs.size X.env)) (RR (.ref s.heap.objs.size) s3.heap.objs.size) { s3 with heap := h₁, toks := s3.toks + ([] : List (Str × Value)).length } := by
    refine compLoop_go (fun n s' => ∃ i ys σ' H', Inv (cxC X N' scope s3.heap.objs.size fp s3 (upd H s.heap.objs.size (.lst []))) [] σ' H' s' ∧ tn i s'.heap ∧ (∀ b ∈ fp, H' b = none) ∧ W i n ys σ' H') ?_ m0 ⟨0, [], _, _, I4, st4, fun b hb => (hf3 b hb).1, w0⟩
    rintro n s5 ⟨i, ys, σ5, H5, I5, st5, fr5, w5⟩
    obtain ⟨hp5, hz5, br⟩ := turn i n ys σ5 H5 w5
    rcases br with ⟨stop, q⟩ | ⟨go, step⟩
    · refine thn (T.done (cxC X N' scope s3.heap.objs.size fp s3 (upd H s.heap.objs.size (.lst []))) rfl rfl rfl hc i [] s5 _ H5 (fun _ _ => False) I5 (fpC H5 fr5) st5 stop) fun r s6 ⟨hr, I6⟩ => ?_
      subst hr
      exact hRR _ s3 s6 _ H5 _ I3 hf3 I6 q
    · refine thn (T.item (cxC X N' scope s3.heap.objs.size fp s3 (upd H s.heap.objs.size (.lst []))) rfl rfl rfl hc i [] s5 _ H5 (fun _ _ => False) I5 (fpC H5 fr5) st5 go) fun r s6 ⟨u, hr, h6⟩ => ?_
      subst hr
      refine thn h6 fun _ s7 ⟨x, H7, I7, r7, y7, st7, fr7⟩ => ?_
      have I7' := I7.pinned (fpC H7 fr7) (T.obj _ _ st7)
      refine thn (hg _ _ _ _ _ s7 _ H7 x u _ I7' r7 (step x H7 y7)) fun _ s8 ⟨σ8, H8, I8, q8⟩ => ?_
      have again : ∀ {H9 : Hp} {σ9 : St} {s9 : Shared} {ys' : List V}, Inv (cxC X N' scope s3.heap.objs.size fp s3 (upd H s.heap.objs.size (.lst []))) ([] ++ pinsAt fp s7.heap) σ9 H9 s9 → (∃ m', m' < n ∧ W (i + 1) m' ys' σ9 H9) →
          ∃ m, m < n ∧ ∃ i ys σ' H', Inv (cxC X N' scope s3.heap.objs.size fp s3 (upd H s.heap.objs.size (.lst []))) [] σ' H' s9 ∧ tn i s9.heap ∧ (∀ b ∈ fp, H' b = none) ∧ W i m ys σ' H' := fun {H9 σ9 s9 ys'} I9 z => by
        obtain ⟨m', hm, w9⟩ := z
        refine ⟨m', hm, i + 1, ys', σ9, H9, I9.unpinned, T.keep _ _ _ st7 fun b hb ob e => (I9.pin (b, ob) (List.mem_append_right _ (List.mem_append_right _ (mem_pinsAt hb e)))).1, fun b hb => ?_, w9⟩
        obtain ⟨ob, e, d⟩ := T.obj _ _ st7 b hb
        exact (I9.pin (b, ob) (List.mem_append_right _ (List.mem_append_right _ (mem_pinsAt hb e)))).2.1
      have app : ∀ {s9 : Shared} {H9 : Hp} {y : V} {u9 : Value}, Inv (cxC X N' scope s3.heap.objs.size fp s3 (upd H s.heap.objs.size (.lst []))) ([] ++ pinsAt fp s7.heap) σ8 H9 s9 → RelV y u9 → (H9 s.heap.objs.size = some (.lst ys) ∧ ∃ m', m' < n ∧ W (i + 1) m' (ys ++ [y]) σ8 (upd H9 s.heap.objs.size (.lst (ys ++ [y])))) →
          wpAny (model X.prog X.w) X.A (call (.builtin "list.append") [.ref s.heap.objs.size, u9]) (fun _ s₅ => ∃ m, m < n ∧ ∃ i ys σ' H', Inv (cxC X N' scope s3.heap.objs.size fp s3 (upd H s.heap.objs.size (.lst []))) [] σ' H' s₅ ∧ tn i s₅.heap ∧ (∀ b ∈ fp, H' b = none) ∧ W i m ys σ' H') (fun _ _ => False) s9 := fun {s9 H9 y u9} I9 r9 z9 => by
        refine thn (mt_append (X := cxC X N' scope s3.heap.objs.size fp s3 (upd H s.heap.objs.size (.lst []))) _ s9 σ8 H9 (.ref s.heap.objs.size) [y] (.ref s.heap.objs.size) [u9] (fun _ H' => ∃ m', m' < n ∧ W (i + 1) m' (ys ++ [y]) σ8 H') I9 rfl (.cons r9 .nil) ⟨_, ys, y, rfl, rfl, z9.1, hz5, z9.2⟩) fun _ s10 ⟨_, H10, I10, _, z10⟩ => ?_
        exact again I10 z10
      cases tc with
      | none =>
        have hi : ifs = [] := ht
        subst hi
        refine wpAny_tests_nil ?_
        rw [if_pos rfl]
        exact thn (he _ _ _ _ _ s8 σ8 H8 _ I8 q8) fun u9 s9 ⟨y, H9, I9, r9, z9⟩ => app I9 r9 z9
      | some c =>
        obtain ⟨e, he1, hce⟩ := ht
        subst he1
        refine wpAny_tests_one (thn (hce _ _ _ _ _ s8 σ8 H8 _ I8 q8) fun b s9 ⟨H9, I9, q9⟩ => ?_)
        cases b with
        | false =>
          rw [if_neg Bool.false_ne_true] at q9 ⊢
          exact again I9 q9
        | true =>
          rw [if_pos rfl] at q9 ⊢
          exact thn (he _ _ _ _ _ s9 σ8 H9 _ I9 q9) fun u10 s10 ⟨y, H10, I10, r10, z10⟩ => app I10 r10 z10
  exact codeAny_compStart_list loop (T.self X.A 0 _ _ _ st4 loop)
end
section
variable {X : Cx} {N' : List Str} {cap : List Nat} {scope : Scope} {elt tg iter : Expr} {ifs : List Expr} {pos : Pos} {wi : TI} {g : TG} {tc : Option TT} {te : TE}
theorem pe_lcomp (hc : X.calm = true) (o : CmpOk X N' cap scope) (hi : PI X tg iter wi)
    (hg : ∀ C fp s H, PG (cxC X N' scope C fp s H) tg g) (ht : match (generalizing := false) tc with | none => ifs = [] | some c => ∃ e, ifs = [e] ∧ ∀ C fp s H, PT (cxC X N' scope C fp s H) e c) (he : ∀ C fp s H, PE (cxC X N' scope C fp s H) elt te)
    (hs : ∀ x, foldedSetIterable iter X.env x = pure x := by intro _; rfl) : PE X (.ListComp elt [⟨tg, iter, ifs, 0⟩] scope pos) (tComp cap N'.length wi g tc te) := by
  intro pins s σ H Q I h
  rw [eval_ListComp]
  refine wpAny_comprehension_free (use := none) rfl hs (closureFor_eq (o.hasc I.ok)) o.kind o.nm (thn (hi pins s σ H _ I h) fun xv s1 h1 => thn h1 fun itv s2 h2 => ?_)
  obtain ⟨it, fp, tn, J, H2, rfl, I2, T, st2, f2, hw⟩ := h2
  refine comp_core (Q := Q) hc o hg ht he I2 T st2 f2 hw ?_
  intro p s3 s' H3 H4 σ4 I3 f3 J4 q
  obtain ⟨m, hn, _⟩ := J4.loc
  exact ⟨m, hn, fun h' sb => ⟨.ref p, H4, inv_comp_end I3 f3 J4 sb, rfl, q⟩⟩
end
noncomputable def addD : D → D → Option D
  | .int i, .int j => some (.int (i + j))
  | .str s, .str t => if s.length + t.length ≤ sizeLine then some (.str (s ++ t)) else none
  | .lst l, .lst m => if l.length + m.length ≤ sizeLine then some (.lst (l ++ m)) else none
  | .tup l, .tup m => if l.length + m.length ≤ sizeLine ∧ l.isEmpty = false ∧ m.isEmpty = false then some (.tup (l ++ m)) else none
  | _, _ => none
noncomputable def mulD : D → D → Option D
  | .int i, .int j => if (-(2 ^ 64) < i ∧ i < 2 ^ 64) ∨ (-(2 ^ 64) < j ∧ j < 2 ^ 64) then some (.int (i * j)) else none
  | _, _ => none
noncomputable def fdivD : D → D → Option D
  | .int i, .int j => if 0 < j ∧ j < 1073741824 then some (.int (i / j)) else none
  | _, _ => none
noncomputable def modD : D → D → Option D
  | .int i, .int j => if 0 < j then some (.int (i % j)) else none
  | _, _ => none
noncomputable def powD : D → D → Option D
  | .int i, .int j => if 0 ≤ j ∧ j ≤ 1000000 ∧ i.natAbs < 2 ^ 64 then some (.int (i ^ j.toNat)) else none
  | _, _ => none
noncomputable def negD : D → Option D
  | .int i => some (.int (-i))
  | _ => none
noncomputable def gtD : D → D → Option D
  | .int i, .int j => some (.bl (decide (j < i)))
  | _, _ => none
noncomputable def eqS : D → D → Option Bool
  | .int i, .int j => some (decide (i = j))
  | .str s, .str t => some (decide (s = t))
  | .bl a, .bl b => some (decide (a = b))
  | .non, .non => some true
  | .non, .int _ => some false
  | .int _, .non => some false
  | .non, .str _ => some false
  | .str _, .non => some false
  | .int _, .str _ => some false
  | .str _, .int _ => some false
  | _, _ => none
noncomputable def eqD (x y : D) : Option D := (eqS x y).map .bl
noncomputable def neD (x y : D) : Option D := (eqS x y).map fun b => .bl !b
noncomputable def isND (x y : D) : Option D := match y with
  | .non => match x with
    | .non => some (.bl true)
    | _ => some (.bl false)
  | _ => none
noncomputable def notND (x y : D) : Option D := match y with
  | .non => match x with
    | .non => some (.bl false)
    | _ => some (.bl true)
  | _ => none
section
variable {X : Cx}
noncomputable def rCatR (K : Fg) : R2 := fun x y H Q => ∃ l b xs zs, x = .ref l ∧ y = .ref b ∧ SqL K H l xs ∧ SqL K H b zs ∧ xs.length + zs.length ≤ sizeLine ∧ ∀ p, H p = none → Q (.ref p) (upd H p (.lst (xs ++ zs)))
theorem op_catR : OpR X (binaryOp .Add) (rCatR X.K) := by
  intro pins s σ H x y v u Q I rx ry h
  obtain ⟨l, b, xs, zs, rfl, rfl, hH, hB, hz, q⟩ := h
  cases rx
  cases ry
  obtain ⟨its, r, ⟨⟨cls, dd, data, sl⟩, n, e, hc, hd0, hd⟩, z⟩ := I.list hH
  obtain ⟨its2, r2, ⟨⟨cls2, dd2, data2, sl2⟩, n2, e2, hc2, hd02, hd2⟩, z2⟩ := I.list hB
  have hl := r.length
  have hl2 := r2.length
  cases (show cls = _ from hc); cases (show dd = _ from hd0); cases (show data = _ from hd)
  cases (show cls2 = _ from hc2); cases (show dd2 = _ from hd02); cases (show data2 = _ from hd2)
  refine concat_meets ⟨_, e, rfl⟩ ⟨_, e2, rfl⟩ noFill_list_add seq_list_add PySem.F.slot_list_add PySem.F.entry_list_add (PySem.F.args_list_add_2 _ _) (list_addW l b its.toArray its2.toArray n n2 none none sl sl2 (by rw [List.size_toArray, List.size_toArray]; omega)) ⟨e, e2, ?_⟩
  have ea : its.toArray ++ its2.toArray = (its ++ its2).toArray := by simp
  rw [ea]
  exact ⟨.ref _, _, I.lnew (t' := s.toks) (r.append r2) (by rw [List.length_append]; omega), rfl, q _ I.fresh⟩
noncomputable def rPlus (K : Fg) : R2 := fun x y H Q => rI0 (fun i j => .int (i + j)) x y H Q ∨ (∃ i j, x = .str i ∧ y = .str j ∧ i.length + j.length ≤ sizeLine ∧ Q (.str (i ++ j)) H) ∨ rCatR K x y H Q ∨ rCatT K x y H Q
theorem op_plus : OpR X (binaryOp .Add) (rPlus X.K) := op_add.or (op_add_str.or (op_catR.or op_catT))
theorem str_app (s t : List Nat) : ((⟨s.toArray⟩ : Str) ++ (⟨t.toArray⟩ : Str)) = (⟨(s ++ t).toArray⟩ : Str) := by
  show (⟨s.toArray ++ t.toArray⟩ : Str) = _
  simp
theorem str_len (s : List Nat) : (⟨s.toArray⟩ : Str).length = s.length := by simp [Str.length]
theorem od_plus {K : Fg} : OpD K (rPlus K) addD := by
  intro O H dx dy d vx vy Q ol ix iy e q
  cases dx <;> cases dy <;> first | (simp only [addD, reduceCtorEq] at e; done) | skip
  · simp only [addD, Option.some.injEq] at e
    subst e
    rw [Is.int_iff] at ix iy
    exact .inl ⟨_, _, ix, iy, q _ H (Same.refl H) (by rw [Is.int_iff])⟩
  · rename_i s t
    simp only [addD] at e
    split at e
    · rename_i hl
      cases e
      rw [Is.str_iff] at ix iy
      refine .inr (.inl ⟨_, _, ix, iy, by rw [str_len, str_len]; exact hl, q _ H (Same.refl H) ?_⟩)
      rw [Is.str_iff, str_app]
    · cases e
  · rename_i l m
    simp only [addD] at e
    split at e
    · rename_i hl
      cases e
      rw [Is.tup_iff] at ix iy
      obtain ⟨a, xs, rfl, hs, il⟩ := ix
      obtain ⟨b, ys, rfl, hs2, il2⟩ := iy
      have e1 := il.length
      have e2 := il2.length
      refine .inr (.inr (.inr ⟨a, b, xs, ys, rfl, rfl, hs, hs2, ?_, by omega, fun z => ?_, fun _ p hp => q _ _ (same_upd hp) ?_⟩))
      · rintro rfl
        have : l = [] := by simpa using e1
        subst this
        simp at hl
      · subst z
        have : m = [] := by simpa using e2
        subst this
        simp at hl
      · rw [Is.tup_iff]
        exact ⟨p, _, rfl, SqT.of upd_same, (il.append il2).same (same_upd hp) ol⟩
    · cases e
  · rename_i l m
    simp only [addD] at e
    split at e
    · rename_i hl
      cases e
      rw [Is.lst_iff] at ix iy
      obtain ⟨a, xs, rfl, hs, il⟩ := ix
      obtain ⟨b, ys, rfl, hs2, il2⟩ := iy
      have e1 := il.length
      have e2 := il2.length
      refine .inr (.inr (.inl ⟨a, b, xs, ys, rfl, rfl, hs.sq, hs2.sq, by omega, fun p hp => q _ _ (same_upd hp) ?_⟩))
      rw [Is.lst_iff]
      refine ⟨p, _, rfl, .inl ⟨fun z => ?_, .inl upd_same⟩, (il.append il2).same (same_upd hp) ol⟩
      obtain ⟨zs, ez⟩ := ol p z
      rw [hp] at ez; cases ez
    · cases e
theorem od_I {K : Fg} {C : Int → Int → Prop} {g : Int → Int → V} {m : D → D → Option D} (h : ∀ dx dy d, m dx dy = some d → ∃ i j, dx = .int i ∧ dy = .int j ∧ C i j ∧ ∀ O H, Is K O H d (g i j)) : OpD K (rI C g) m := by
  intro O H dx dy d vx vy Q ol ix iy e q
  obtain ⟨i, j, rfl, rfl, hc, hd⟩ := h dx dy d e
  rw [Is.int_iff] at ix iy
  exact ⟨i, j, ix, iy, hc, q _ H (Same.refl H) (hd O H)⟩
theorem od_I0 {K : Fg} {g : Int → Int → V} {m : D → D → Option D} (h : ∀ dx dy d, m dx dy = some d → ∃ i j, dx = .int i ∧ dy = .int j ∧ ∀ O H, Is K O H d (g i j)) : OpD K (rI0 g) m := by
  intro O H dx dy d vx vy Q ol ix iy e q
  obtain ⟨i, j, rfl, rfl, hd⟩ := h dx dy d e
  rw [Is.int_iff] at ix iy
  exact ⟨i, j, ix, iy, q _ H (Same.refl H) (hd O H)⟩
theorem od_mul {K : Fg} : OpD K (rI CMul fun i j => .int (i * j)) mulD := od_I fun dx dy d e => by
  cases dx <;> cases dy <;> first | (simp only [mulD, reduceCtorEq] at e; done) | skip
  simp only [mulD] at e
  split at e
  · rename_i hc; cases e; exact ⟨_, _, rfl, rfl, hc, fun O H => by rw [Is.int_iff]⟩
  · cases e
theorem od_fdiv {K : Fg} : OpD K (rI CDiv fun i j => .int (i / j)) fdivD := od_I fun dx dy d e => by
  cases dx <;> cases dy <;> first | (simp only [fdivD, reduceCtorEq] at e; done) | skip
  simp only [fdivD] at e
  split at e
  · rename_i hc; cases e; exact ⟨_, _, rfl, rfl, hc, fun O H => by rw [Is.int_iff]⟩
  · cases e
theorem od_mod {K : Fg} : OpD K (rI (fun _ j => 0 < j) fun i j => .int (i % j)) modD := od_I fun dx dy d e => by
  cases dx <;> cases dy <;> first | (simp only [modD, reduceCtorEq] at e; done) | skip
  simp only [modD] at e
  split at e
  · rename_i hc; cases e; exact ⟨_, _, rfl, rfl, hc, fun O H => by rw [Is.int_iff]⟩
  · cases e
theorem od_pow {K : Fg} : OpD K (rI CPow fun i j => .int (i ^ j.toNat)) powD := od_I fun dx dy d e => by
  cases dx <;> cases dy <;> first | (simp only [powD, reduceCtorEq] at e; done) | skip
  simp only [powD] at e
  split at e
  · rename_i hc; cases e; exact ⟨_, _, rfl, rfl, hc, fun O H => by rw [Is.int_iff]⟩
  · cases e
theorem od_gt {K : Fg} : OpD K (rI0 fun i j => .bl (decide (j < i))) gtD := od_I0 fun dx dy d e => by
  cases dx <;> cases dy <;> first | (simp only [gtD, reduceCtorEq] at e; done) | skip
  simp only [gtD, Option.some.injEq] at e
  subst e
  exact ⟨_, _, rfl, rfl, fun O H => by rw [Is.bl_iff]⟩
theorem eqS_ok {K : Fg} {O : Addr → Prop} {H : Hp} {dx dy : D} {vx vy : V} {b : Bool} (ix : Is K O H dx vx) (iy : Is K O H dy vy) (e : eqS dx dy = some b) : scal vx vy = true ∧ decide (vx = vy) = b := by
  cases dx <;> cases dy <;> first | (simp only [eqS, reduceCtorEq] at e; done) | skip
  all_goals simp only [eqS, Option.some.injEq] at e
  all_goals subst e
  all_goals first | rw [Is.int_iff] at ix | rw [Is.str_iff] at ix | rw [Is.bl_iff] at ix | rw [Is.non_iff] at ix
  all_goals first | rw [Is.int_iff] at iy | rw [Is.str_iff] at iy | rw [Is.bl_iff] at iy | rw [Is.non_iff] at iy
  all_goals subst ix iy
  all_goals refine ⟨rfl, ?_⟩
  all_goals simp
theorem od_eq {K : Fg} : OpD K rEq eqD := by
  intro O H dx dy d vx vy Q ol ix iy e q
  obtain ⟨b, e1, rfl⟩ := map_some e
  obtain ⟨h1, h2⟩ := eqS_ok ix iy e1
  exact ⟨h1, q _ H (Same.refl H) (by rw [Is.bl_iff, h2])⟩
theorem od_ne {K : Fg} : OpD K rNe neD := by
  intro O H dx dy d vx vy Q ol ix iy e q
  obtain ⟨b, e1, rfl⟩ := map_some e
  obtain ⟨h1, h2⟩ := eqS_ok ix iy e1
  exact ⟨h1, q _ H (Same.refl H) (by rw [Is.bl_iff, h2])⟩
theorem Is.non_only {K : Fg} {O : Addr → Prop} {H : Hp} {d : D} {v : V} (h : Is K O H d v) : decide (v = .non) = (match d with | .non => true | _ => false) := by
  cases d with
  | non => rw [Is.non_iff] at h; subst h; rfl
  | bl b => rw [Is.bl_iff] at h; subst h; rfl
  | int i => rw [Is.int_iff] at h; subst h; rfl
  | str s => rw [Is.str_iff] at h; subst h; rfl
  | ty n => rw [Is.ty_iff] at h; subst h; rfl
  | ref a => rw [Is.ref_iff] at h; subst h; rfl
  | tup l => rw [Is.tup_iff] at h; obtain ⟨a, xs, rfl, _⟩ := h; rfl
  | lst l => rw [Is.lst_iff] at h; obtain ⟨a, xs, rfl, _⟩ := h; rfl
theorem od_isN {K : Fg} : OpD K (fun x y H Q => y = .non ∧ Q (.bl (decide (x = .non))) H) isND := by
  intro O H dx dy d vx vy Q ol ix iy e q
  unfold isND at e
  cases dy <;> first | (cases e; done) | skip
  rw [Is.non_iff] at iy
  refine ⟨iy, q _ H (Same.refl H) ?_⟩
  have h := ix.non_only
  cases dx <;> cases e <;> rw [Is.bl_iff, h]
theorem od_notN {K : Fg} : OpD K (fun x y H Q => y = .non ∧ Q (.bl (!decide (x = .non))) H) notND := by
  intro O H dx dy d vx vy Q ol ix iy e q
  unfold notND at e
  cases dy <;> first | (cases e; done) | skip
  rw [Is.non_iff] at iy
  refine ⟨iy, q _ H (Same.refl H) ?_⟩
  have h := ix.non_only
  cases dx <;> cases e <;> rw [Is.bl_iff, h] <;> rfl
noncomputable def flatD : D → Bool
  | .int _ => true
  | .str _ => true
  | _ => false
noncomputable def eqF : D → D → Bool
  | .int i, .int j => decide (i = j)
  | .str s, .str t => decide (s = t)
  | _, _ => false
noncomputable def inD (neg : Bool) (x y : D) : Option D := match y with
  | .lst l => if flatD x = true ∧ l.all flatD = true then some (.bl (if neg then !(l.any fun z => eqF z x) else l.any fun z => eqF z x)) else none
  | .tup l => if flatD x = true ∧ l.all flatD = true then some (.bl (if neg then !(l.any fun z => eqF z x) else l.any fun z => eqF z x)) else none
  | _ => none
theorem flat_ok {K : Fg} {O : Addr → Prop} {H : Hp} {d : D} {v : V} (h : Is K O H d v) (f : flatD d = true) : flatV v = true := by
  cases d <;> first | (cases f; done) | skip
  · rw [Is.int_iff] at h; subst h; rfl
  · rw [Is.str_iff] at h; subst h; rfl
theorem eqF_ok {K : Fg} {O : Addr → Prop} {H : Hp} {d e : D} {v u : V} (h : Is K O H d v) (f : flatD d = true) (h' : Is K O H e u) (f' : flatD e = true) : eqV v u = eqF d e := by
  cases d <;> first | (cases f; done) | skip
  all_goals cases e <;> first | (cases f'; done) | skip
  all_goals first | rw [Is.int_iff] at h | rw [Is.str_iff] at h
  all_goals first | rw [Is.int_iff] at h' | rw [Is.str_iff] at h'
  all_goals subst h h'
  · simp [eqV, eqF]
    rw [Bool.beq_eq_decide_eq]
  · rfl
  · rfl
  · rename_i s t
    simp only [eqV, eqF]
    by_cases z : s = t
    · subst z; simp
    · rw [decide_eq_false z, beq_eq_false_iff_ne]
      intro z'
      have : s.toArray = t.toArray := by injection z'
      exact z (by simpa using this)
theorem in_ok {K : Fg} {O : Addr → Prop} {H : Hp} {d : D} {v : V} (h : Is K O H d v) (f : flatD d = true) : ∀ {l : List D} {xs : List V}, IsL K O H l xs → l.all flatD = true → xs.all flatV = true ∧ inV v xs = l.any fun z => eqF z d
  | [], xs, il, _ => by unfold IsL at il; subst il; exact ⟨rfl, rfl⟩
  | e :: l, xs, il, fa => by
    unfold IsL at il
    obtain ⟨u, r, rfl, i1, i2⟩ := il
    rw [List.all_cons, Bool.and_eq_true] at fa
    obtain ⟨q1, q2⟩ := in_ok h f i2 fa.2
    refine ⟨by rw [List.all_cons, flat_ok i1 fa.1, q1]; rfl, ?_⟩
    unfold inV at q2 ⊢
    rw [List.any_cons, List.any_cons, q2, eqF_ok i1 fa.1 h f]
theorem od_in {K : Fg} (neg : Bool) : OpD K (rIn K neg) (inD neg) := by
  intro O H dx dy d vx vy Q ol ix iy e q
  unfold inD at e
  cases dy <;> first | (cases e; done) | skip
  · rename_i l
    simp only at e
    split at e
    · rename_i hl
      cases e
      rw [Is.tup_iff] at iy
      obtain ⟨a, xs, rfl, hs, il⟩ := iy
      obtain ⟨q1, q2⟩ := in_ok ix hl.1 il hl.2
      exact ⟨a, xs, rfl, .inr hs, flat_ok ix hl.1, q1, q _ H (Same.refl H) (by rw [Is.bl_iff, q2])⟩
    · cases e
  · rename_i l
    simp only at e
    split at e
    · rename_i hl
      cases e
      rw [Is.lst_iff] at iy
      obtain ⟨a, xs, rfl, hs, il⟩ := iy
      obtain ⟨q1, q2⟩ := in_ok ix hl.1 il hl.2
      exact ⟨a, xs, rfl, .inl hs.sq, flat_ok ix hl.1, q1, q _ H (Same.refl H) (by rw [Is.bl_iff, q2])⟩
    · cases e
end
noncomputable def ixD : D → D → Option D
  | .lst l, .int i => atI l i
  | .tup l, .int i => atI l i
  | .str s, .int i => if s.length ≤ sizeLine then (atI s i).map fun c => .str [c] else none
  | _, _ => none
theorem atI_len {α β : Type} {l : List α} {m : List β} {i : Int} {x : α} (hl : l.length = m.length) (e : atI l i = some x) : ∃ j : Nat, l[j]? = some x ∧ ∀ y, m[j]? = some y → atI m i = some y := by
  unfold atI at e ⊢
  obtain ⟨j, e1, e2⟩ := bind_some e
  exact ⟨j, e2, fun y ey => by rw [← hl, e1]; exact ey⟩
noncomputable def mLenB (fl : ML) : ME := fun r => (fl r).map fun l => .int l.length
section
variable {X : Cx} {pos : Pos} {a b : Expr} {f g : ME}
theorem od_ix {K : Fg} : OpD K (rIx K) ixD := by
  intro O H dx dy d vx vy Q ol ix iy e q
  cases dx <;> cases dy <;> first | (simp only [ixD, reduceCtorEq] at e; done) | skip
  · rename_i s i
    simp only [ixD] at e
    split at e
    · rename_i hl
      obtain ⟨c, e1, rfl⟩ := map_some e
      rw [Is.str_iff] at ix
      rw [Is.int_iff] at iy
      exact .inr (.inr ⟨_, i, c, ix, iy, by rw [str_len]; exact hl, by simpa using e1, q _ H (Same.refl H) (by rw [Is.str_iff])⟩)
    · cases e
  · rename_i l i
    simp only [ixD] at e
    rw [Is.tup_iff] at ix
    rw [Is.int_iff] at iy
    obtain ⟨p, xs, rfl, hs, il⟩ := ix
    obtain ⟨j, e1, e2⟩ := atI_len il.length e
    obtain ⟨v, e3, iv⟩ := il.get e1
    exact .inr (.inl ⟨p, xs, i, v, rfl, iy, hs, e2 v e3, q _ H (Same.refl H) iv⟩)
  · rename_i l i
    simp only [ixD] at e
    rw [Is.lst_iff] at ix
    rw [Is.int_iff] at iy
    obtain ⟨p, xs, rfl, hs, il⟩ := ix
    obtain ⟨j, e1, e2⟩ := atI_len il.length e
    obtain ⟨v, e3, iv⟩ := il.get e1
    exact .inl ⟨p, xs, i, v, rfl, iy, hs.sq, e2 v e3, q _ H (Same.refl H) iv⟩
theorem de_ix (ha : DE X a f) (hb : DE X b g) (hs : PlainIx b := by intro _ _; rfl) : DE X (.Subscript a b pos) (mBin ixD f g) :=
  PE.conseq (pe_ix ix_seq ha hb hs) fun σ H Q h => two (ta := lE X.K f) (tb := lE X.K g) od_ix h
noncomputable def lenD : D → Option D
  | .lst l => some (.int l.length)
  | .tup l => some (.int l.length)
  | .str s => if s.length ≤ sizeLine then some (.int s.length) else none
  | _ => none
theorem call_lenA : CallR X (.builtin "len") (fun xs H Q => (∃ p ys, xs = [.ref p] ∧ (SqL X.K H p ys ∨ SqT X.K H p ys) ∧ Q (.int ys.length) H) ∨ (∃ z, xs = [.str z] ∧ z.length ≤ sizeLine ∧ Q (.int z.length) H)) := call_len_seq.or call_len_str
theorem lenD_ok {K : Fg} {O : Addr → Prop} {H : Hp} {x d : D} {v : V} {Q : VK} (i1 : Is K O H x v) (e : lenD x = some d) (q : ∀ v, Is K O H d v → Q v H) :
    (∃ p ys, [v] = [.ref p] ∧ (SqL K H p ys ∨ SqT K H p ys) ∧ Q (.int ys.length) H) ∨ (∃ z, [v] = [.str z] ∧ z.length ≤ sizeLine ∧ Q (.int z.length) H) := by
  cases x <;> first | (simp only [lenD, reduceCtorEq] at e; done) | skip
  · simp only [lenD] at e
    split at e
    · rename_i hl
      cases e
      rw [Is.str_iff] at i1
      subst i1
      exact .inr ⟨_, rfl, by rw [str_len]; exact hl, q _ (by rw [Is.int_iff, str_len])⟩
    · cases e
  · simp only [lenD, Option.some.injEq] at e
    subst e
    rw [Is.tup_iff] at i1
    obtain ⟨p, ys, rfl, hs, il⟩ := i1
    exact .inl ⟨p, ys, rfl, .inr hs, q _ (by rw [Is.int_iff, il.length])⟩
  · simp only [lenD, Option.some.injEq] at e
    subst e
    rw [Is.lst_iff] at i1
    obtain ⟨p, ys, rfl, hs, il⟩ := i1
    exact .inl ⟨p, ys, rfl, .inl hs.sq, q _ (by rw [Is.int_iff, il.length])⟩
theorem de_len {p' : Pos} (hg : Gl X "len") (hm : X.mg "len" = none) (ha : DE X a f) (hs : starEach [a] X.env = (false, eval a X.env) :: starEach [] X.env := by rfl) : DE X (.Call (.Name "len" p') [a] [] pos) (mUn lenD f) := by
  refine PE.conseq (pe_callB call_lenA hg hm PySem.boot_len (pa_cons ha pa_nil hs) (he := hs)) fun σ H Q h => ?_
  obtain ⟨O0, r, d, hR, e, q⟩ := h
  obtain ⟨x, e1, e2⟩ := bind_some e
  exact ⟨O0, r, x, hR, e1, fun v H1 s1 i1 => lenD_ok i1 e2 fun v' iv => q v' H1 s1 iv⟩
theorem de_lenB {p' : Pos} {fl : ML} (hg : Gl X "len") (hm : X.mg "len" = none) (ha : DB X a fl) (hs : starEach [a] X.env = (false, eval a X.env) :: starEach [] X.env := by rfl) : DE X (.Call (.Name "len" p') [a] [] pos) (mLenB fl) := by
  refine PE.conseq (pe_callB call_lenA hg hm PySem.boot_len (pa_cons ha pa_nil hs) (he := hs)) fun σ H Q h => ?_
  obtain ⟨O0, r, d, hR, e, q⟩ := h
  obtain ⟨l, e1, rfl⟩ := map_some e
  exact ⟨O0, r, l, hR, e1, fun p xs H1 s1 rd il => .inl ⟨p, xs, rfl, .inl rd, q _ H1 s1 (by rw [Is.int_iff, il.length])⟩⟩
end
noncomputable def mtOf (r : En) (i : Nat) : Option (List D) := (r[i]?).bind Sl.mt
noncomputable def putO (i : Nat) (l : List D) (r : En) : Option En := match r[i]? with
  | some (.o _) => some (r.set i (.o l))
  | some (.p _) => some (r.set i (.p l))
  | _ => none
section
variable {K : Fg} {O0 : Addr → Prop} {H H' : Hp} {r : En} {σ : St} {i : Nat} {a : Addr} {l l' : List D}
theorem putO_some {r' : En} (e : putO i l' r = some r') : ∃ x y, r[i]? = some x ∧ r' = r.set i y ∧ y.own = some l' ∧ y.mt = some l' ∧ (∃ l, x.mt = some l) ∧ (∀ m, y = .p m ↔ m = l' ∧ ∃ n, x = .p n) ∧ (∀ m, y = .o m ↔ m = l' ∧ ∃ n, x = .o n) ∧ ∀ m, y ≠ .z m := by
  unfold putO at e
  cases e1 : r[i]? with
  | none => rw [e1] at e; cases e
  | some x =>
    rw [e1] at e
    cases x with
    | o n => cases e; exact ⟨.o n, .o l', rfl, rfl, rfl, rfl, ⟨n, rfl⟩, fun m => ⟨(fun z => by cases z), (fun ⟨_, _, z⟩ => by cases z)⟩, fun m => ⟨(fun z => by cases z; exact ⟨rfl, n, rfl⟩), (fun ⟨z, _⟩ => by subst z; rfl)⟩, (fun m z => by cases z)⟩
    | p n => cases e; exact ⟨.p n, .p l', rfl, rfl, rfl, rfl, ⟨n, rfl⟩, fun m => ⟨(fun z => by cases z; exact ⟨rfl, n, rfl⟩), (fun ⟨z, _⟩ => by subst z; rfl)⟩, fun m => ⟨(fun z => by cases z), (fun ⟨_, _, z⟩ => by cases z)⟩, (fun m z => by cases z)⟩
    | _ => cases e
theorem R.put {r' : En} {xs' : List V} (h : R K O0 H r σ) (e : putO i l' r = some r') (ha : σ[i]? = some (some (.ref a))) (kp : ∀ b o, b ≠ a → H b = some o → H' b = some o) (lv : ∀ b, b ≠ a → H' b = none → H b = none) (e' : H' a = some (.lst xs')) (il : IsL K (Ow O0 r σ) H' l' xs') :
    R K O0 H' r' σ ∧ Kp H r σ H' r' σ := by
  obtain ⟨x, y, ex, rfl, yo, ym, ⟨l0, xm⟩, yp, yoo, yz⟩ := putO_some e
  have hi : i < r.length := (List.getElem?_eq_some_iff.mp ex).1
  have own_i : OwnAt r σ a := ⟨i, l0, by rw [ex]; exact mt_own xm, ha⟩
  have mut_i : MutAt r σ a := ⟨i, l0, by rw [ex]; exact xm, ha⟩
  have atO : ∀ b, OwnAt (r.set i y) σ b → OwnAt r σ b := fun b ⟨j, m, e1, q1⟩ => by
    by_cases hj : i = j
    · subst hj; rw [ha] at q1; cases q1; exact own_i
    · rw [get_set_ne hj] at e1; exact ⟨j, m, e1, q1⟩
  have atM : ∀ b, MutAt (r.set i y) σ b → MutAt r σ b := fun b ⟨j, m, e1, q1⟩ => by
    by_cases hj : i = j
    · subst hj; rw [ha] at q1; cases q1; exact mut_i
    · rw [get_set_ne hj] at e1; exact ⟨j, m, e1, q1⟩
  have sub : ∀ b, Ow O0 (r.set i y) σ b → H b ≠ none → Ow O0 r σ b := fun b z _ => z.imp id (atO b)
  have sub' : ∀ b, Ow O0 (r.set i y) σ b → H' b ≠ none → Ow O0 r σ b := fun b z _ => z.imp id (atO b)
  have keep : Keep (Ow O0 r σ) H H' := fun b o e1 n => kp b o (fun z => n (by subst z; exact .inr own_i)) e1
  have lst : ∀ b xs, H b = some (.lst xs) → ∃ ys, H' b = some (.lst ys) := fun b xs e1 => by
    by_cases hb : b = a
    · subst hb; exact ⟨xs', e'⟩
    · exact ⟨xs, kp b _ hb e1⟩
  have ol' : OLst (Ow O0 r σ) H' := fun b z => by obtain ⟨xs, q⟩ := h.ol b z; exact lst b xs q
  refine ⟨⟨by simp [h.len], fun j d e1 => ?_, fun j m e1 => ?_, fun j k b m n e1 e2 q1 q2 => ?_, fun b z => ?_, fun j m b e1 q1 => ?_, fun j m b e1 q1 => ?_⟩, ⟨fun b o e1 n => kp b o (fun z => n (by subst z; exact mut_i)) e1, fun b e1 => ?_, lst, fun b z => .inl (atO b z), fun b z => .inl (atM b z), fun j m e1 => ?_, fun j m e1 => ?_⟩⟩
  · have hj : i ≠ j := fun z => by subst z; rw [get_set_eq hi] at e1; cases e1; cases yo
    rw [get_set_ne hj] at e1
    obtain ⟨v, q1, q2⟩ := h.val j d e1
    exact ⟨v, q1, Is.mono keep h.ol sub _ _ q2⟩
  · by_cases hj : i = j
    · subst hj
      rw [get_set_eq hi] at e1
      have : l' = m := by have e1' : y.own = some m := e1; rw [yo] at e1'; exact Option.some.inj e1'
      subst this
      exact ⟨a, xs', ha, e', IsL.mono (Same.kp (Same.refl H') _) ol' sub' _ _ il⟩
    · rw [get_set_ne hj] at e1
      obtain ⟨b, ys, q1, q2, q3⟩ := h.own j m e1
      have hb : b ≠ a := fun z => by
        subst z
        exact hj (h.apart i j b l0 m (by rw [ex]; exact mt_own xm) e1 ha q1)
      exact ⟨b, ys, q1, kp b _ hb q2, IsL.mono keep h.ol sub _ _ q3⟩
  · have get : ∀ (j : Nat) (m : List D), ((r.set i y)[j]?).bind Sl.own = some m → ∃ m', (r[j]?).bind Sl.own = some m' := fun j m e1 => by
      by_cases hj : i = j
      · subst hj; exact ⟨l0, by rw [ex]; exact mt_own xm⟩
      · rw [get_set_ne hj] at e1; exact ⟨m, e1⟩
    obtain ⟨m', z1⟩ := get j m e1
    obtain ⟨n', z2⟩ := get k n e2
    exact h.apart j k b m' n' z1 z2 q1 q2
  · obtain ⟨xs, q⟩ := h.o0 b z; exact lst b xs q
  · by_cases hj : i = j
    · subst hj
      rw [get_set_eq hi] at e1
      rcases e1 with e1 | e1
      · obtain ⟨_, n, z⟩ := (yoo m).mp (Option.some.inj e1)
        exact h.loc i n b (.inl (by rw [ex, z])) q1
      · exact absurd (Option.some.inj e1) (yz m)
    · rw [get_set_ne hj] at e1
      exact h.loc j m b e1 q1
  · by_cases hj : i = j
    · subst hj
      rw [get_set_eq hi] at e1
      obtain ⟨_, n, z⟩ := (yp m).mp (Option.some.inj e1)
      exact h.par i n b (by rw [ex, z]) q1
    · rw [get_set_ne hj] at e1
      exact h.par j m b e1 q1
  · by_cases hb : b = a
    · subst hb; rw [e'] at e1; cases e1
    · exact lv b hb e1
  · by_cases hj : i = j
    · subst hj
      rw [ex] at e1
      exact ⟨⟨l', by rw [get_set_eq hi, (yp l').mpr ⟨rfl, m, Option.some.inj e1⟩]⟩, rfl⟩
    · exact ⟨⟨m, by rw [get_set_ne hj]; exact e1⟩, rfl⟩
  · have hj : i ≠ j := fun z => by subst z; rw [ex] at e1; cases e1; cases xm
    exact ⟨by rw [get_set_ne hj]; exact e1, rfl⟩
theorem R.upd {r' : En} {xs xs' : List V} (h : R K O0 H r σ) (e : putO i l' r = some r') (ha : σ[i]? = some (some (.ref a))) (hx : H a = some (.lst xs)) (il : IsL K (Ow O0 r σ) H l' xs') : R K O0 (upd H a (.lst xs')) r' σ ∧ Kp H r σ (upd H a (.lst xs')) r' σ := by
  have own_a : Ow O0 r σ a := by
    obtain ⟨x, y, ex, _, _, _, ⟨l0, xm⟩, _⟩ := putO_some e
    exact .inr ⟨i, l0, by rw [ex]; exact mt_own xm, ha⟩
  refine h.put e ha (fun b o hb e1 => by rw [upd_ne hb]; exact e1) (fun b hb e1 => by rw [upd_ne hb] at e1; exact e1) upd_same ?_
  exact IsL.mono (fun b o e1 n => by rw [upd_ne (fun z => n (by subst z; exact own_a))]; exact e1) h.ol (fun _ z _ => z) _ _ il
end
noncomputable def mApp (i : Nat) (f : ME) : En → Option (D × En) := fun r => (f r).bind fun d => (mtOf r i).bind fun l => if l.length < sizeLine then (putO i (l ++ [d]) r).map fun r' => (.non, r') else none
noncomputable def mAppX (i : Nat) (f : En → Option (D × En)) : En → Option (D × En) := fun r0 => (f r0).bind fun p => (mtOf r0 i).bind fun _ => (mtOf p.2 i).bind fun l => if l.length < sizeLine then (putO i (l ++ [p.1]) p.2).map fun r' => (.non, r') else none
noncomputable def mPop (i : Nat) : En → Option (D × En) := fun r => (mtOf r i).bind fun l => (l[l.length - 1]?).bind fun d => (putO i l.dropLast r).map fun r' => (d, r')
theorem IsL.dropLast {K : Fg} {O : Addr → Prop} {H : Hp} {l : List D} {vs : List V} (h : IsL K O H l vs) : IsL K O H l.dropLast vs.dropLast := by
  rw [List.dropLast_eq_take, List.dropLast_eq_take, h.length]
  exact h.take _
section
variable {X : Cx} {apos cpos pn : Pos} {e : Expr} {f : ME} {x : Str} {i : Nat}
theorem mt_at {K : Fg} {O0 : Addr → Prop} {H : Hp} {r : En} {σ : St} {l : List D} (h : R K O0 H r σ) (e : mtOf r i = some l) : ∃ a xs, σ[i]? = some (some (.ref a)) ∧ H a = some (.lst xs) ∧ IsL K (Ow O0 r σ) H l xs := by
  obtain ⟨y, e1, e2⟩ := bind_some e
  exact h.own i l (by rw [e1]; exact mt_own e2)
theorem dx_append (i : Nat) {x : Str} (h : PE X (.Name x pn) (tVar i)) (he : DE X e f)
    (hline : (apos.endLine == cpos.line) = true := by rfl) (hbase : attributeBase (.Name x pn) "append" X.env (eval (.Name x pn) X.env) = eval (.Name x pn) X.env := by rfl)
    (hfew : ((backTo cpos (starEach [e] X.env)).all (fun x => !x.1) && (backToKw cpos (keywordEach [] X.env)).all (fun x => x.1.isSome) && decide ([e].length + ([] : List Keyword).length + (if ([] : List Keyword).isEmpty then 0 else 1) < 30)) = true := by rfl)
    (hs : starEach [e] X.env = (false, eval e X.env) :: starEach [] X.env := by rfl) :
    DX X (.Call (.Attribute (.Name x pn) "append" apos) [e] [] cpos) (mApp i f) := by
  refine PE.conseq (pe_bm PySem.F.plainAttrs_list PySem.F.slot_list_append PySem.F.type_list_append mt_append h (pa_cons he pa_nil hs) hbase hfew hline hs) fun σ H Q hq => ?_
  obtain ⟨O0, r, d', r', hR, e, q⟩ := hq
  obtain ⟨d, e1, e⟩ := bind_some e
  obtain ⟨l, e2, e⟩ := bind_some e
  split at e
  · rename_i hl
    obtain ⟨r2, e3, e4⟩ := map_some e
    cases e4
    obtain ⟨a, xs, q1, q2, q3⟩ := mt_at hR e2
    refine ⟨.ref a, q1, .inl ⟨rfl, xs, SqL.of q2⟩, O0, r, d, hR, e1, fun v H1 s1 i1 => ?_⟩
    have R1 := hR.same s1
    obtain ⟨R2, k2⟩ := R1.upd (xs' := xs ++ [v]) e3 q1 (s1 _ _ q2) ((q3.same s1 hR.ol).append (.cons i1 .nil))
    exact ⟨a, xs, v, rfl, rfl, s1 _ _ q2, by rw [← q3.length]; exact hl, q _ _ R2 ((Kp.of_same r σ s1).trans k2) (by rw [Is.non_iff])⟩
  · cases e
theorem dx_appendX (i : Nat) {x : Str} {fx : En → Option (D × En)} (h : PE X (.Name x pn) (tVar i)) (he : DX X e fx)
    (hline : (apos.endLine == cpos.line) = true := by rfl) (hbase : attributeBase (.Name x pn) "append" X.env (eval (.Name x pn) X.env) = eval (.Name x pn) X.env := by rfl)
    (hfew : ((backTo cpos (starEach [e] X.env)).all (fun x => !x.1) && (backToKw cpos (keywordEach [] X.env)).all (fun x => x.1.isSome) && decide ([e].length + ([] : List Keyword).length + (if ([] : List Keyword).isEmpty then 0 else 1) < 30)) = true := by rfl)
    (hs : starEach [e] X.env = (false, eval e X.env) :: starEach [] X.env := by rfl) :
    DX X (.Call (.Attribute (.Name x pn) "append" apos) [e] [] cpos) (mAppX i fx) := by
  refine PE.conseq (pe_bm PySem.F.plainAttrs_list PySem.F.slot_list_append PySem.F.type_list_append mt_append h (pa_cons he pa_nil hs) hbase hfew hline hs) fun σ H Q hq => ?_
  obtain ⟨O0, r, d', r', hR, e, q⟩ := hq
  obtain ⟨⟨d, r1⟩, e1, e⟩ := bind_some e
  obtain ⟨l0, e0, e⟩ := bind_some e
  obtain ⟨l, e2, e⟩ := bind_some e
  split at e
  · rename_i hl
    obtain ⟨r2, e3, e4⟩ := map_some e
    cases e4
    obtain ⟨a0, xs0, p1, p2, p3⟩ := mt_at hR e0
    refine ⟨.ref a0, p1, .inl ⟨rfl, xs0, SqL.of p2⟩, O0, r, d, r1, hR, e1, fun v H1 R1 k1 i1 => ?_⟩
    obtain ⟨a, xs, q1, q2, q3⟩ := mt_at R1 e2
    rw [p1] at q1; cases q1
    obtain ⟨R2, k2⟩ := R1.upd (xs' := xs ++ [v]) e3 p1 q2 (q3.append (.cons i1 .nil))
    exact ⟨_, xs, v, rfl, rfl, q2, by rw [← q3.length]; exact hl, q _ _ R2 (k1.trans k2) (by rw [Is.non_iff])⟩
  · cases e
theorem dx_pop (i : Nat) {x : Str} (h : PE X (.Name x pn) (tVar i)) (hbase : attributeBase (.Name x pn) "pop" X.env (eval (.Name x pn) X.env) = eval (.Name x pn) X.env := by rfl) (hline : (apos.endLine == cpos.line) = true := by rfl) :
    DX X (.Call (.Attribute (.Name x pn) "pop" apos) [] [] cpos) (mPop i) := by
  refine PE.conseq (pe_bm0 PySem.F.plainAttrs_list PySem.F.slot_list_pop PySem.F.type_list_pop mt_pop h hbase hline) fun σ H Q hq => ?_
  obtain ⟨O0, r, d', r', hR, e, q⟩ := hq
  obtain ⟨l, e2, e⟩ := bind_some e
  obtain ⟨d, e1, e⟩ := bind_some e
  obtain ⟨r2, e3, e4⟩ := map_some e
  have e5 : d = d' := congrArg Prod.fst e4
  have e6 : r2 = r' := congrArg Prod.snd e4
  subst e5 e6
  obtain ⟨a, xs, q1, q2, q3⟩ := mt_at hR e2
  obtain ⟨v, ev, iv⟩ := q3.get e1
  obtain ⟨R2, k2⟩ := hR.upd (xs' := xs.dropLast) e3 q1 q2 q3.dropLast
  refine ⟨.ref a, q1, .inl ⟨rfl, xs, SqL.of q2⟩, a, xs, v, rfl, rfl, q2, by rw [← q3.length]; exact ev, q _ _ R2 k2 ?_⟩
  have own_a : Ow O0 r σ a := by
    obtain ⟨y, z1, z2⟩ := bind_some e2
    exact .inr ⟨i, l, by rw [z1]; exact mt_own z2, q1⟩
  have ow2 : ∀ b, Ow O0 r2 σ b → H b ≠ none → Ow O0 r σ b := fun b z n => z.imp id fun z => (k2.new b z).elim id fun z => absurd z n
  exact Is.mono (fun b o e1 n => by rw [upd_ne (fun z => n (by subst z; exact own_a))]; exact e1) hR.ol ow2 _ _ iv
end
noncomputable def capS : Option Sl → Sl
  | some (.v d) => .v d
  | _ => .un
noncomputable def capR (cap : List Nat) (n : Nat) (r : En) : En := (cap.map fun j => capS r[j]?) ++ List.replicate (n - cap.length) .un
noncomputable def compL (bd : D → En → Option En) (c : MB) (x : ME) : List D → En → Option (List D)
  | [], _ => some []
  | d :: t, r => (bd d r).bind fun r1 => (c r1).bind fun b => if b = true then (x r1).bind fun y => (compL bd c x t r1).map (y :: ·) else compL bd c x t r1
noncomputable def mTrue : MB := fun _ => some true
noncomputable def mCompIf (cap : List Nat) (n : Nat) (it : ML) (bd : D → En → Option En) (c : MB) (x : ME) : ML := fun r => (it r).bind fun l => if l.length < sizeLine then compL bd c x l (capR cap n r) else none
noncomputable def mComp (cap : List Nat) (n : Nat) (it : ML) (bd : D → En → Option En) (x : ME) : ML := mCompIf cap n it bd mTrue x
theorem R.cap {K : Fg} {O0 : Addr → Prop} {H H2 : Hp} {r : En} {σ : St} {cap : List Nat} {n : Nat} {p : Addr} {ys : List V} (h : R K O0 H r σ) (s : Same H H2) (hp : H p = none) (ep : H2 p = some (.lst ys)) :
    R K (fun b => Ow O0 r σ b ∨ b = p) H2 (capR cap n r) (sigC cap n σ) := by
  have noO : ∀ (i : Nat) (l : List D), ((capR cap n r)[i]?).bind Sl.own ≠ some l := fun i l e => by
    unfold capR at e
    by_cases hi : i < cap.length
    · rw [List.getElem?_append_left (by simpa using hi), List.getElem?_map] at e
      obtain ⟨j, hj⟩ : ∃ j, cap[i]? = some j := ⟨cap[i], by simp [hi]⟩
      rw [hj] at e
      have e' : (capS r[j]?).own = some l := e
      cases ej : r[j]? with
      | none => rw [ej] at e'; cases e'
      | some y => rw [ej] at e'; cases y <;> cases e'
    · rw [List.getElem?_append_right (by simpa using Nat.le_of_not_lt hi), List.getElem?_replicate] at e
      split at e <;> cases e
  have ol : OLst (fun b => Ow O0 r σ b ∨ b = p) H2 := fun b z => z.elim (fun z => (h.same s).ol b z) fun z => by subst z; exact ⟨ys, ep⟩
  refine ⟨by simp [capR, sigC], fun i d e => ?_, fun i l e => absurd e (noO i l), fun i j a l m e1 => absurd e1 (noO i l), ol, fun i l a e => absurd (show ((capR cap n r)[i]?).bind Sl.own = some l by rcases e with e | e <;> rw [e] <;> rfl) (noO i l), fun i l a e => absurd (show ((capR cap n r)[i]?).bind Sl.own = some l by rw [e]; rfl) (noO i l)⟩
  unfold capR at e
  by_cases hi : i < cap.length
  · rw [List.getElem?_append_left (by simpa using hi), List.getElem?_map] at e
    obtain ⟨j, hj⟩ : ∃ j, cap[i]? = some j := ⟨cap[i], by simp [hi]⟩
    rw [hj] at e
    have e' : capS r[j]? = .v d := Option.some.inj e
    have ej : r[j]? = some (.v d) := by
      cases ej : r[j]? with
      | none => rw [ej] at e'; cases e'
      | some y => rw [ej] at e'; cases y <;> cases e'; rfl
    obtain ⟨v, e1, q⟩ := h.val j d ej
    refine ⟨v, ?_, ?_⟩
    · unfold sigC
      rw [List.getElem?_append_left (by simpa using hi), List.getElem?_map, hj]
      show some ((σ[j]?).getD none) = _
      rw [e1]; rfl
    · refine Is.mono (Same.kp s _) h.ol (fun a z nn => ?_) _ _ q
      rcases z with (z | z) | ⟨k, l, ek, _⟩
      · exact z
      · subst z; exact absurd hp nn
      · exact absurd ek (noO k l)
  · rw [List.getElem?_append_right (by simpa using Nat.le_of_not_lt hi), List.getElem?_replicate] at e
    split at e <;> cases e
section
variable {X : Cx} {N' : List Str} {cap : List Nat} {scope : Scope} {elt tg iter : Expr} {ifs : List Expr} {pos : Pos} {it : ML} {bd : D → En → Option En} {c : MB} {x : ME}
theorem comp_read {tc : Option TT} (htc : ∀ {σ : St} {H : Hp} {K1 : V → Hp → Prop} {K0 : Hp → Prop} {te : TE}, (lT X.K c σ H fun b H1 => if b = true then te σ H1 K1 else K0 H1) → tComp1 tc te K1 K0 σ H)
    (n : Nat) {σ : St} {H : Hp} {Q : VK} (h : lF X.K (mCompIf cap n it bd c x) σ H Q) : tComp cap n (lI X.K it) (lG X.K bd) tc (lE X.K x) σ H Q := by
  obtain ⟨O0, r, out, hR, e, q⟩ := h
  obtain ⟨l, e1, e2⟩ := bind_some e
  split at e2
  · rename_i hlen
    refine ⟨O0, r, l, hR, e1, fun J H1 s1 yl p hp => ?_⟩
    have hpH : H p = none := s1.free hp
    refine ⟨fun i m ys σ2 H2 => m = l.length - i ∧ i ≤ l.length ∧ ys.length ≤ i ∧ H2 p = some (.lst ys) ∧ Same H1 H2 ∧ ∃ r2 dn rest, R X.K (fun b => Ow O0 r σ b ∨ b = p) H2 r2 σ2 ∧ (∀ a, ¬ OwnAt r2 σ2 a) ∧ IsL X.K (fun b => Ow O0 r σ b ∨ b = p) H2 dn ys ∧ compL bd c x (l.drop i) r2 = some rest ∧ dn ++ rest = out,
      ⟨l.length, by simp, Nat.zero_le _, Nat.le_refl _, upd_same, same_upd hp, capR cap n r, [], out, ?_, ?_, .nil, by simpa using e2, rfl⟩, ?_⟩
    · exact R.cap hR (s1.trans (same_upd hp)) hpH upd_same
    · rintro a ⟨i, l', e', _⟩
      obtain ⟨b, xs, _, _⟩ := (R.cap (cap := cap) (n := n) hR (s1.trans (same_upd hp)) hpH (upd_same (o := .lst []))).own i l' e'
      unfold capR at e'
      by_cases hi : i < cap.length
      · rw [List.getElem?_append_left (by simpa using hi), List.getElem?_map] at e'
        obtain ⟨j, hj⟩ : ∃ j, cap[i]? = some j := ⟨cap[i], by simp [hi]⟩
        rw [hj] at e'
        have e'' : (capS r[j]?).own = some l' := e'
        cases ej : r[j]? with
        | none => rw [ej] at e''; cases e''
        | some y => rw [ej] at e''; cases y <;> cases e''
      · rw [List.getElem?_append_right (by simpa using Nat.le_of_not_lt hi), List.getElem?_replicate] at e'
        split at e' <;> cases e'
    · rintro i m ys σ2 H2 ⟨rfl, hil, hyl, hp2, s2, r2, dn, rest, R2, no2, il2, e3, eo⟩
      refine ⟨hp2, by omega, ?_⟩
      obtain ⟨y1, y2⟩ := yl i H2 (fun b => Ow O0 r σ b ∨ b = p) (Same.kp s2 _) fun a z nn => z.elim id fun z => by subst z; exact absurd hp nn
      by_cases hlt : i < l.length
      · obtain ⟨go, yd⟩ := y1 hlt
        have hd : l[i]? = some l[i] := by simp [hlt]
        rw [drop_cons hd] at e3
        obtain ⟨r3, e4, e5⟩ := bind_some e3
        obtain ⟨b, e6, e7⟩ := bind_some e5
        refine .inr ⟨go, fun v H3 yv => ?_⟩
        obtain ⟨s3, iv⟩ := yd v H3 yv
        have R3 := R2.same s3
        have ow2 : ∀ a, Ow (fun b => Ow O0 r σ b ∨ b = p) r2 σ2 a → Ow O0 r σ a ∨ a = p := fun a z => z.elim id fun z => absurd z (no2 a)
        refine ⟨_, r2, l[i], r3, R3, ?_, e4, fun σ4 R4 k4 => ?_⟩
        · exact Is.mono (Same.kp (Same.refl H3) _) R3.o0 (fun a z _ => ow2 a z) _ _ (iv _ hd)
        have no4 : ∀ a, ¬ OwnAt r3 σ4 a := fun a z => by
          rcases k4.new a z with z' | z'
          · exact no2 a z'
          · obtain ⟨xs, ex⟩ := R4.ol a (.inr z)
            rw [z'] at ex; cases ex
        have ow4 : ∀ a, Ow (fun b => Ow O0 r σ b ∨ b = p) r3 σ4 a → Ow O0 r σ a ∨ a = p := fun a z => z.elim id fun z => absurd z (no4 a)
        refine htc ⟨_, r3, b, R4, e6, fun H5 s5 => ?_⟩
        have R5 := R4.same s5
        cases b with
        | false =>
          rw [if_neg Bool.false_ne_true] at e7
          refine iteF ⟨l.length - (i + 1), by omega, rfl, hlt, by omega, (s3.trans s5) _ _ hp2, s2.trans (s3.trans s5), r3, dn, rest, R5, no4, ?_, e7, eo⟩
          exact il2.same (s3.trans s5) R2.o0
        | true =>
          rw [if_pos rfl] at e7
          obtain ⟨y, e8, e9⟩ := bind_some e7
          obtain ⟨rest', e10, e11⟩ := map_some e9
          refine iteT ⟨_, r3, y, R5, e8, fun u H6 s6 iu => ?_⟩
          have s26 := s3.trans (s5.trans s6)
          have hp6 := s26 _ _ hp2
          have R6 := R5.same s6
          have kk : Keep (fun b => Ow O0 r σ b ∨ b = p) H6 (upd H6 p (.lst (ys ++ [u]))) := fun b' o e' nn => by rw [upd_ne (fun z => nn (.inr z))]; exact e'
          refine ⟨hp6, l.length - (i + 1), by omega, rfl, hlt, by simp; omega, upd_same, ?_, r3, dn ++ [y], rest', ?_, no4, ?_, e10, ?_⟩
          · intro b' o e'
            have hb : b' ≠ p := fun z => by subst z; rw [hp] at e'; cases e'
            rw [upd_ne hb]
            exact s26 _ _ (s2 _ _ e')
          · refine ⟨R6.len, fun j d ej => ?_, fun j m ej => ?_, R6.apart, fun b' z => ?_, R6.loc, R6.par⟩
            · obtain ⟨w, q1, q2⟩ := R6.val j d ej
              exact ⟨w, q1, Is.mono (fun b' o e' nn => kk b' o e' fun z => nn (.inl z)) R6.ol (fun _ z _ => z) _ _ q2⟩
            · obtain ⟨a', xs', q1, q2, _⟩ := R6.own j m ej
              exact absurd ⟨j, m, ej, q1⟩ (no4 a')
            · rcases z with z | z
              · by_cases hb : b' = p
                · subst hb; exact ⟨_, upd_same⟩
                · rw [upd_ne hb]; exact R6.o0 b' (.inl z)
              · subst z; exact ⟨_, upd_same⟩
          · have i1 := il2.same s26 R2.o0
            have i2 : Is X.K (fun b => Ow O0 r σ b ∨ b = p) H6 y u := Is.mono (Same.kp (Same.refl H6) _) R6.ol (fun a z _ => .inl z) _ _ iu
            exact IsL.mono kk R6.o0 (fun _ z _ => z) _ _ (i1.append (.cons i2 .nil))
          · rw [← eo, ← e11]; simp
      · have hl : l.drop i = [] := List.drop_eq_nil_of_le (by omega)
        rw [hl] at e3
        have e3' : some [] = some rest := e3
        cases e3'
        rw [List.append_nil] at eo
        subst eo
        exact .inl ⟨y2 (by omega), q p ys H2 (s1.trans s2) hpH hp2 il2⟩
  · cases e2
theorem df_comp (hc : X.calm = true) (o : CmpOk X N' cap scope) (hi : DI X tg iter it) (hg : ∀ C fp s H, DG (cxC X N' scope C fp s H) tg bd) (he : ∀ C fp s H, DE (cxC X N' scope C fp s H) elt x)
    (n : Nat) (hn : N'.length = n := by rfl) (hs : ∀ x, foldedSetIterable iter X.env x = pure x := by intro _; rfl) : DF X (.ListComp elt [⟨tg, iter, [], 0⟩] scope pos) (mComp cap n it bd x) := by
  subst hn
  exact PE.conseq (pe_lcomp (g := lG X.K bd) (te := lE X.K x) (tc := none) hc o hi hg rfl he hs) fun σ H Q h => comp_read (tc := none) (fun {σ H K1 K0 te} z => by
    obtain ⟨O0, r, b, hR, e, q⟩ := z
    unfold mTrue at e; cases e
    have z1 : (if true = true then te σ H K1 else K0 H) := q H (Same.refl H)
    rw [if_pos rfl] at z1
    exact z1) N'.length h
end
noncomputable def CapOk (X : Cx) (scope : Scope) : List Nat → List Str → Prop
  | [], _ => True
  | j :: t, x :: r => X.N[j]? = some x ∧ scope.names.lookup x = some .free ∧ CapOk X scope t r
  | _ :: _, [] => False
theorem CapOk.get {X : Cx} {scope : Scope} : ∀ {cap : List Nat} {N' : List Str}, CapOk X scope cap N' → ∀ (i j : Nat), cap[i]? = some j → ∃ x, N'[i]? = some x ∧ X.N[j]? = some x ∧ scope.names.lookup x = some .free
  | [], _, _, i, j, e => by simp at e
  | k :: t, [], h, _, _, _ => False.elim h
  | k :: t, x :: r, h, 0, j, e => by
    have e' : k = j := by simpa using e
    subst e'
    exact ⟨x, rfl, h.1, h.2.1⟩
  | k :: t, x :: r, h, i + 1, j, e => by
    obtain ⟨y, q1, q2⟩ := CapOk.get h.2.2 i j (by simpa using e)
    exact ⟨y, by simpa using q1, q2⟩
theorem CapOk.len {X : Cx} {scope : Scope} : ∀ {cap : List Nat} {N' : List Str}, CapOk X scope cap N' → cap.length ≤ N'.length
  | [], _, _ => Nat.zero_le _
  | k :: t, [], h => False.elim h
  | k :: t, x :: r, h => Nat.succ_le_succ (CapOk.len h.2.2)
theorem cmp_mk {X : Cx} {N' : List Str} {cap : List Nat} {scope : Scope} (kind : scope.kind = .function := by rfl) (nc : ∀ y ∈ scope.names, y.2 ≠ .cell := by decide +kernel) (nm : ∀ y ∈ scope.names, y.2 = .local → scope.names.lookup y.1 = some .local := by decide +kernel)
    (fr : ∀ y ∈ scope.names, y.2 = .free → X.env.kindOf y.1 = some .cell ∨ X.env.kindOf y.1 = some .free := by repeat (first | exact List.forall_mem_nil _ | refine List.forall_mem_cons.mpr ⟨fun e => (by first | exact absurd e (by decide) | exact .inl rfl | exact .inr rfl), ?_⟩))
    (capt : CapOk X scope cap N' := by repeat (first | exact trivial | refine ⟨rfl, rfl, ?_⟩)) : CmpOk X N' cap scope := ⟨kind, nc, nm, fr, capt.get, capt.len⟩
end DD
namespace ZZ
open PySem
open PySem
end ZZ
namespace DD
open PySem PySem.Spec PyProof.Rows L2
section
variable {X : Cx} {pins : List (Addr × Obj)} {σ : St} {H : Hp} {s : Shared} {h' : Heap}
theorem inv_drew {t' : Nat} {ch : List Addr} {T : Addr} {vs : List V} {its : List Value} (I : Inv X pins σ H s) (hch : ∀ b ∈ ch, FpOk X pins H b) (hT : s.heap.objs.size ≤ T) (kp : ∀ b o, b ∉ ch → s.heap.get? b = some o → h'.get? b = some o)
    (hz : vs.length ≤ sizeLine) (hv : Vals vs its) (ht : IsTup h' T its.toArray) : Inv X pins σ (upd H T (.tup vs)) { s with heap := h', toks := t' } := by
  have hn : H T = none := I.hok.fresh hT
  have old : ∀ {b : Addr} {o : Obj}, s.heap.get? b = some o → b ≠ T := fun e => Nat.ne_of_lt (Nat.lt_of_lt_of_le (Heap.lt_size e) hT)
  have tr : ∀ {b : Addr} {u : HO}, H b = some u → b ≠ T := fun e => ne_of_none e hn
  have trc : ∀ {b : Addr} {u : HO}, H b = some u → b ∉ ch := fun {b u} e z => by rw [(hch b z).1] at e; cases e
  refine I.step (g' := s.gens) (d' := s.drawn) (ch := ch) (fun b hb => ⟨(hch b hb).2.2.2.1, (hch b hb).2.1, (hch b hb).2.2.2.2.1, (hch b hb).2.2.2.2.2⟩) (fun b o _ _ hc e _ => kp b o hc e) (fun b o _ _ hc e _ => ⟨o.slots, kp b o hc e⟩)
    (fun b o _ e n => by rw [upd_ne (old e)]; exact n) (fun b o hc e => ⟨o, kp b o hc e⟩) (fun b xs e => by rw [upd_ne (tr e)]; exact e) (fun b o u e => by rw [upd_ne (tr e)]; exact e) (fun b ps e => ⟨#[], by rw [upd_ne (tr e), e]; simp⟩) (fun m hm => ?_) (fun b u e => ?_) I.bare
  · obtain ⟨o, es, ep, ho, r⟩ := hm
    exact ⟨o, es, ep, kp _ o (fun z => (hch _ z).2.1 rfl) ho, r⟩
  · by_cases hb : b = T
    · subst hb
      rw [upd_same] at e; cases e
      exact ⟨hz, its, hv, ht⟩
    · rw [upd_ne hb] at e
      refine (I.hok b u e).stay (fun c v hc q => kp c v ?_ q) (fun c q => by rw [upd_ne (tr q)]; exact q) fun c xs q => by rw [upd_ne (tr q)]; exact q
      rcases hc with z | z
      · rw [z]; exact trc e
      · exact trc z
theorem inv_turnL {t' : Nat} {ch : List Addr} (I : Inv X pins σ H s) (hch : ∀ b ∈ ch, FpOk X pins H b) (kp : ∀ b o, b ∉ ch → s.heap.get? b = some o → h'.get? b = some o) : Inv X pins σ H { s with heap := h', toks := t' } := by
  have trc : ∀ {b : Addr} {u : HO}, H b = some u → b ∉ ch := fun {b u} e z => by rw [(hch b z).1] at e; cases e
  refine I.step (g' := s.gens) (d' := s.drawn) (ch := ch) (fun b hb => ⟨(hch b hb).2.2.2.1, (hch b hb).2.1, (hch b hb).2.2.2.2.1, (hch b hb).2.2.2.2.2⟩) (fun b o _ _ hc e _ => kp b o hc e) (fun b o _ _ hc e _ => ⟨o.slots, kp b o hc e⟩)
    (fun b o _ e n => n) (fun b o hc e => ⟨o, kp b o hc e⟩) (fun b xs e => e) (fun b o u e => e) (fun b ps e => ⟨#[], by rw [e]; simp⟩) (fun m hm => ?_) (fun b u e => ?_) I.bare
  · obtain ⟨o, es, ep, ho, r⟩ := hm
    exact ⟨o, es, ep, kp _ o (fun z => (hch _ z).2.1 rfl) ho, r⟩
  · refine (I.hok b u e).stay (fun c v hc q => kp c v ?_ q) (fun _ q => q) fun _ _ q => q
    rcases hc with z | z
    · rw [z]; exact trc e
    · exact trc z
end
theorem cls_ne {h : Heap} {a b : Addr} {o o' : Obj} {n m : String} (e : h.get? a = some o) (c : o.cls = .type n) (e' : h.get? b = some o') (c' : o'.cls = .type m) (d : n ≠ m) : a ≠ b := by
  rintro rfl
  rw [e] at e'; cases e'
  rw [c] at c'; injection c' with q; exact d q
noncomputable def ItE (K : Fg) (a : Addr) : It :=
  ⟨fun i H => ∃ xs x, SqL K H a xs ∧ xs[i]? = some x, fun i H x H' => ∃ T y, x = .ref T ∧ H T = none ∧ H' = upd H T (.tup [.int i, y]) ∧ ∀ xs, SqL K H a xs → xs[i]? = some y, fun i H => ∃ xs, SqL K H a xs ∧ xs.length = i⟩
theorem turn_enum {P : Program} {w : World} {K : Fg} {elts : List Expr} {k : Nat} {tp : Pos} (a e it : Addr) (hei : e ≠ it) : Turn P w K (.Tuple elts k tp) (ItE K a) [e, it] e (fun i h => (∃ old, IsEnum h e it i old) ∧ h.IsListIter it a i) where
  mem := by simp
  obj := fun i h st b hb => by
    obtain ⟨⟨old, h1⟩, o, h2, h3, h4⟩ := st
    have hb' : b = e ∨ b = it := by simpa using hb
    rcases hb' with rfl | rfl
    · exact ⟨_, h1, fun v z => by cases z⟩
    · exact ⟨o, h2, fun v z => by rw [h4] at z; cases z⟩
  keep := fun i h g st kp => ⟨let ⟨old, h1⟩ := st.1; ⟨old, kp e (by simp) _ h1⟩, st.2.at fun o q => kp it (by simp) o q⟩
  item := by
    intro X hP hw hK hc i pins s σ H E I hf st hg
    subst hP hw hK
    obtain ⟨xs, x, hq, hx⟩ := hg
    obtain ⟨its, rv, p, hz⟩ := I.list hq
    obtain ⟨u, hu, ru⟩ := rv.get hx
    obtain ⟨oa, na, ea, ca, _⟩ := id p
    obtain ⟨⟨old, h1⟩, oi, h2, h3, h4⟩ := id st
    have hae : a ≠ e := cls_ne ea ca h1 rfl (by decide)
    have hai : a ≠ it := cls_ne ea ca h2 h3 (by decide)
    have W := WalksT.enumerate (prog := X.prog) (w := X.w) (A := X.A) (I.ok.hd hc) e it a hei hae hai its.toArray
    have hi : i < its.toArray.size := by
      obtain ⟨q, _⟩ := List.getElem?_eq_some_iff.mp hu
      simpa using q
    refine W.item i s _ _ hi ⟨st.1, st.2, p.isList⟩ fun T vals g tk pt hT isT mid kp => ⟨_, rfl, W.go elts k tp i T _ _ _ mid fun g2 st2 kp2 => ?_⟩
    obtain ⟨t, y, hy, rfl⟩ := pt
    have hy' : y = u := by
      have : its[i]? = some y := by simpa using hy
      rw [hu] at this; exact (Option.some.inj this).symm
    subst hy'
    have isT2 : IsTup g2 T #[.int i t, y] := by
      obtain ⟨o, q1, q2⟩ := isT
      exact ⟨o, kp2 T o (W.apart i T _ mid) q1, q2⟩
    refine ⟨.ref T, upd H T (.tup [.int i, x]), inv_drew (s := s) (t' := tk) I (its := [.int i t, y]) (ch := [e, it]) hf hT (fun b o hb q => kp2 b o hb (kp b o hb q)) (by show 2 ≤ sizeLine; decide) (.cons ⟨t, rfl⟩ (.cons ru .nil)) isT2, rfl, ⟨T, x, rfl, I.hok.fresh hT, rfl, fun ys hys => by rw [I.list_inj hys hq]; exact hx⟩, ⟨st2.1, st2.2.1⟩, fun b hb => ?_⟩
    have hbT : b ≠ T := by
      have hb' : b = e ∨ b = it := by simpa using hb
      rcases hb' with rfl | rfl
      · exact Nat.ne_of_lt (Nat.lt_of_lt_of_le (Heap.lt_size h1) hT)
      · exact Nat.ne_of_lt (Nat.lt_of_lt_of_le (Heap.lt_size h2) hT)
    rw [upd_ne hbT]
    exact (hf b hb).1
  done := by
    intro X hP hw hK hc i pins s σ H E I hf st hg
    subst hP hw hK
    obtain ⟨xs, hq, hx⟩ := hg
    obtain ⟨its, rv, p, hz⟩ := I.list hq
    obtain ⟨oa, na, ea, ca, _⟩ := id p
    obtain ⟨⟨old, h1⟩, oi, h2, h3, h4⟩ := id st
    have hae : a ≠ e := cls_ne ea ca h1 rfl (by decide)
    have hai : a ≠ it := cls_ne ea ca h2 h3 (by decide)
    have W := WalksT.enumerate (prog := X.prog) (w := X.w) (A := X.A) (I.ok.hd hc) e it a hei hae hai its.toArray
    have hl : its.toArray.size = i := by rw [List.size_toArray, ← rv.length]; exact hx
    exact W.done s _ _ (by rw [hl]; exact ⟨st.1, st.2, p.isList⟩) fun g tk kp => ⟨rfl, inv_turnL I hf kp⟩
  self := fun _ _ _ _ _ st h => let ⟨⟨_, h1⟩, _⟩ := st; wpAny_pyIter_enum h1 h
section
variable {X : Cx} {pos : Pos} {a b c : Expr} {f g h : ME}
theorem de_neg (ha : DE X a f) : DE X (.UnaryOp .USub a pos) (mUn negD f) := de_un un_neg (fun O H dx d vx Q i e q => by
  cases dx <;> first | (simp only [negD, reduceCtorEq] at e; done) | skip
  simp only [negD, Option.some.injEq] at e
  subst e
  rw [Is.int_iff] at i
  exact ⟨_, i, q _ (by rw [Is.int_iff])⟩) ha
noncomputable def leA : D → D → Option D
  | .int i, .int j => some (.bl (decide (i ≤ j)))
  | .str s, .str t => some (.bl (!decide (t < s)))
  | _, _ => none
theorem op_leS : OpR X (compareOp .LtE) (fun x y H Q => ∃ i j, x = .str i ∧ y = .str j ∧ Q (.bl (!decide (j.cps.toList < i.cps.toList))) H) := by
  intro pins s σ H x y v u Q I rx ry hq
  obtain ⟨i, j, rfl, rfl, q⟩ := hq
  obtain ⟨t, rfl⟩ := rx
  obtain ⟨t', rfl⟩ := ry
  exact PySem.P.le_str ⟨.bl _, H, I, rfl, q⟩
noncomputable def rLeA : R2 := fun x y H Q => rI0 (fun i j => .bl (decide (i ≤ j))) x y H Q ∨ ∃ i j, x = .str i ∧ y = .str j ∧ Q (.bl (!decide (j.cps.toList < i.cps.toList))) H
theorem op_leA : OpR X (compareOp .LtE) rLeA := op_le.or op_leS
theorem od_leA {K : Fg} : OpD K rLeA leA := by
  intro O H dx dy d vx vy Q ol ix iy e q
  cases dx <;> cases dy <;> first | (simp only [leA, reduceCtorEq] at e; done) | skip
  · simp only [leA, Option.some.injEq] at e
    subst e
    rw [Is.int_iff] at ix iy
    exact .inl ⟨_, _, ix, iy, q _ H (Same.refl H) (by rw [Is.bl_iff])⟩
  · simp only [leA, Option.some.injEq] at e
    subst e
    rw [Is.str_iff] at ix iy
    exact .inr ⟨_, _, ix, iy, q _ H (Same.refl H) (by rw [Is.bl_iff])⟩
noncomputable def mChain (m m' : D → D → Option D) (f g h : ME) : ME := fun r => (f r).bind fun x => (g r).bind fun y => (m x y).bind fun k => match k with
  | .bl true => (h r).bind fun z => m' y z
  | .bl false => some (.bl false)
  | _ => none
theorem chain_read {r2 r3 : R2} {m m' : D → D → Option D} (hd : OpD X.K r2 m) (hd' : OpD X.K r3 m') {σ : St} {H : Hp} {Q : VK} (hq : lE X.K (mChain m m' f g h) σ H Q) : tChain r2 r3 (lE X.K f) (lE X.K g) (lE X.K h) σ H Q := by
  obtain ⟨O0, r, d, hR, e, q⟩ := hq
  obtain ⟨x, e1, e⟩ := bind_some e
  obtain ⟨y, e2, e⟩ := bind_some e
  obtain ⟨k, e3, e⟩ := bind_some e
  refine ⟨O0, r, x, hR, e1, fun v1 H1 s1 i1 => ⟨O0, r, y, hR.same s1, e2, fun v2 H2 s2 i2 => ?_⟩⟩
  have R2 := hR.same (s1.trans s2)
  refine hd (Ow O0 r σ) H2 x y k v1 v2 _ R2.ol (i1.same s2 (hR.same s1).ol) i2 e3 fun v H3 s3 i3 => ?_
  have s13 := (s1.trans s2).trans s3
  cases k with
  | bl kb =>
    rw [Is.bl_iff] at i3
    refine ⟨kb, i3, ?_⟩
    cases kb with
    | true =>
      obtain ⟨z, e4, e5⟩ := bind_some e
      refine iteT ⟨O0, r, z, hR.same s13, e4, fun v3 H4 s4 i4 => ?_⟩
      exact hd' (Ow O0 r σ) H4 y z d v2 v3 Q (hR.same (s13.trans s4)).ol (i2.same (s3.trans s4) R2.ol) i4 e5 fun v' H' s' i' => q v' H' ((s13.trans s4).trans s') i'
    | false =>
      cases e
      exact iteF (q _ H3 s13 (by rw [Is.bl_iff]))
  | _ => cases e
theorem de_chain {op op' : CmpOp} {r2 r3 : R2} {m m' : D → D → Option D} (ho : OpR X (compareOp op) r2) (hd : OpD X.K r2 m) (ho' : OpR X (compareOp op') r3) (hd' : OpD X.K r3 m') (ha : DE X a f) (hb : DE X b g) (hc : DE X c h)
    (hm : lastMarks [op, op'] [b, c] = false := by with_unfolding_all rfl) : DE X (.Compare a [op, op'] [b, c] pos) (mChain m m' f g h) :=
  PE.conseq (pe_chain ho ho' ha hb hc hm) fun σ H Q hq => chain_read hd hd' hq
theorem dt_chain {op op' : CmpOp} {r2 r3 : R2} {m m' : D → D → Option D} (ho : OpR X (compareOp op) r2) (hd : OpD X.K r2 m) (ho' : OpR X (compareOp op') r3) (hd' : OpD X.K r3 m') (ha : DE X a f) (hb : DE X b g) (hc : DE X c h)
    (hm : lastMarks [op, op'] [b, c] = false := by with_unfolding_all rfl) : DT X (.Compare a [op, op'] [b, c] pos) (mBl (mChain m m' f g h)) := by
  refine PT.conseq (pt_chain ho ho' ha hb hc hm) fun σ H Q hq => ?_
  obtain ⟨O0, r, k, hR, e, q⟩ := hq
  obtain ⟨d, e1, e⟩ := bind_some e
  refine chain_read (m := m) (m' := m') hd hd' ⟨O0, r, d, hR, e1, fun v H' s' i' => ?_⟩
  cases d <;> first | cases e | skip
  rw [Is.bl_iff] at i'
  exact ⟨_, i', q H' s'⟩
noncomputable def intsD : List D → Option (List Int)
  | [] => some []
  | .int i :: r => (intsD r).map (i :: ·)
  | _ => none
noncomputable def mMax (fs : ML) : ME := fun r => (fs r).bind fun l => match l with
  | [.int i, .int j] => some (.int (if j > i then j else i))
  | [.int i, .int j, .int k] => some (.int (if j > i then (if k > j then k else j) else (if k > i then k else i)))
  | _ => none
theorem call_max3 (hc : X.calm = true) : CallR X (.builtin "max") (fun xs H Q => ∃ i j k, xs = [.int i, .int j, .int k] ∧ Q (.int (if j > i then (if k > j then k else j) else (if k > i then k else i))) H) := by
  intro pins s σ H xs us Q I r hq
  obtain ⟨i, j, k, rfl, q⟩ := hq
  cases r with
  | cons r1 r =>
    obtain ⟨u2, u3, rfl, ⟨t2, rfl⟩, ⟨t3, rfl⟩⟩ := Vals.two r
    obtain ⟨t1, rfl⟩ := r1
    refine max_three_ints (I.ok.hd hc) fun h' tk kp => ⟨_, H, I.kept kp, ?_, q⟩
    split <;> split <;> exact ⟨_, rfl⟩
theorem de_max {p' : Pos} {es : List Expr} {fs : ML} (hc : X.calm = true) (hg : Gl X "max") (hm : X.mg "max" = none) (ha : DA X (a :: es) fs)
    (hs : starEach (a :: es) X.env = (false, eval a X.env) :: starEach es X.env := by rfl) (hpl : (backTo pos (starEach es X.env)).any (·.1) = false := by rfl) : DE X (.Call (.Name "max" p') (a :: es) [] pos) (mMax fs) := by
  refine PE.conseq (pe_callB ((call_max2 hc).or (call_max3 hc)) hg hm PyProof.Rows.boot_max ha (he := hs) (hpl := hpl)) fun σ H Q hq => ?_
  obtain ⟨O0, r, d, hR, e, q⟩ := hq
  obtain ⟨l, e1, e2⟩ := bind_some e
  refine ⟨O0, r, l, hR, e1, fun vs H1 s1 il => ?_⟩
  split at e2
  · cases e2
    obtain ⟨v, u, rfl, i1, i2⟩ := il.inv2
    rw [Is.int_iff] at i1 i2
    exact .inl ⟨_, _, by rw [i1, i2], q _ H1 s1 (by rw [Is.int_iff])⟩
  · cases e2
    obtain ⟨v, u, w, rfl, i1, i2, i3⟩ := il.inv3
    rw [Is.int_iff] at i1 i2 i3
    exact .inr ⟨_, _, _, by rw [i1, i2, i3], q _ H1 s1 (by rw [Is.int_iff])⟩
  · cases e2
noncomputable def mMaxL (fl : ML) : ME := fun r => (fl r).bind fun l => (intsD l).bind fun ns => match ns with
  | [] => none
  | i :: t => some (.int (t.foldl max i))
theorem intsD_ok {K : Fg} {O : Addr → Prop} {H : Hp} : ∀ {l : List D} {ns : List Int} {vs : List V}, intsD l = some ns → IsL K O H l vs → vs = ns.map V.int
  | [], ns, vs, e, il => by cases e; unfold IsL at il; subst il; rfl
  | d :: l, ns, vs, e, il => by
    unfold IsL at il
    obtain ⟨v, r, rfl, i1, i2⟩ := il
    cases d <;> first | (simp only [intsD, reduceCtorEq] at e; done) | skip
    simp only [intsD] at e
    obtain ⟨ms, e1, rfl⟩ := map_some e
    rw [Is.int_iff] at i1
    rw [i1, intsD_ok e1 i2]; rfl
theorem foldl_max : ∀ (t : List Int) (i : Int), t.foldl max i ∈ i :: t ∧ ∀ x ∈ i :: t, x ≤ t.foldl max i
  | [], i => ⟨List.mem_cons_self, fun x hx => by simp at hx; rw [hx]; exact Int.le_refl _⟩
  | j :: t, i => by
    obtain ⟨h1, h2⟩ := foldl_max t (max i j)
    refine ⟨?_, fun x hx => ?_⟩
    · rw [List.foldl_cons]
      rcases List.mem_cons.mp h1 with z | z
      · rw [z]
        rcases Int.le_total i j with y | y
        · rw [Int.max_eq_right y]; simp
        · rw [Int.max_eq_left y]; simp
      · exact List.mem_cons_of_mem _ (List.mem_cons_of_mem _ z)
    · rw [List.foldl_cons]
      have hm := h2 (max i j) List.mem_cons_self
      rcases List.mem_cons.mp hx with z | z
      · rw [z]; exact Int.le_trans (Int.le_max_left i j) hm
      · rcases List.mem_cons.mp z with z | z
        · rw [z]; exact Int.le_trans (Int.le_max_right i j) hm
        · exact h2 x (List.mem_cons_of_mem _ z)
theorem call_maxL (hc : X.calm = true) : CallR X (.builtin "max") (fun xs H Q => ∃ p i ns, xs = [.ref p] ∧ SqL X.K H p ((i :: ns).map V.int) ∧ Q (.int (ns.foldl max i)) H) := by
  intro pins s σ H xs us Q I r hq
  obtain ⟨p, i, ns, rfl, hS, q⟩ := hq
  obtain ⟨u, rfl, ru⟩ := Vals.one r
  cases ru
  obtain ⟨its, rv, pl, hz⟩ := I.list hS
  have hi : IntsAre its (i :: ns) := intsAre_of rv
  obtain ⟨xs, e⟩ := hi.allInts.items; have hns : (i :: ns) = xs.toList.map (·.1) := by rw [← hi.numsOf, ← nums_intItems, ← e]
  have hsz : 0 < xs.size := by
    have h3 := congrArg List.length hns
    have h4 : ns.length + 1 = xs.toList.length := by simpa using h3
    have h5 : xs.toList.length = xs.size := by simp
    omega
  have pl' := pl.isList
  rw [e] at pl'
  refine max_intList (I.ok.hd hc) pl' hsz fun v h' tk hv hk => ?_
  obtain ⟨t, rfl⟩ := intItems_at hv; obtain ⟨h1, h2⟩ := argBest_gt (numAt xs) (xs.size - 1)
  refine ⟨.int (ns.foldl max i), H, I.kept hk, ⟨t, ?_⟩, q⟩
  obtain ⟨m1, m2⟩ := foldl_max ns i
  congr 1
  refine Int.le_antisymm ?_ ?_
  · refine m2 _ ?_
    rw [hns, numAt_eq]; exact getD_mem (by rw [List.length_map, Array.length_toList]; omega)
  · rw [hns] at m1
    obtain ⟨k, hk', ek⟩ := mem_getD m1
    rw [← ek]
    rw [List.length_map, Array.length_toList] at hk'
    rw [← numAt_eq]; exact h2 k (by omega)
theorem de_maxL {p' : Pos} {fl : ML} (hc : X.calm = true) (hg : Gl X "max") (hm : X.mg "max" = none) (ha : DB X a fl)
    (hs : starEach [a] X.env = (false, eval a X.env) :: starEach [] X.env := by rfl) : DE X (.Call (.Name "max" p') [a] [] pos) (mMaxL fl) := by
  refine PE.conseq (pe_callB (call_maxL hc) hg hm PyProof.Rows.boot_max (pa_cons ha pa_nil hs) (he := hs)) fun σ H Q hq => ?_
  obtain ⟨O0, r, d, hR, e, q⟩ := hq
  obtain ⟨l, e1, e2⟩ := bind_some e
  obtain ⟨ns, e3, e4⟩ := bind_some e2
  refine ⟨O0, r, l, hR, e1, fun p xs H1 s1 sq il => ?_⟩
  cases ns with
  | nil => cases e4
  | cons i t =>
    cases e4
    have ex := intsD_ok e3 il
    subst ex
    exact ⟨p, i, t, rfl, sq, q _ H1 s1 (by rw [Is.int_iff])⟩
noncomputable def intC (i : Int) : List Nat := (Str.ofString (toString i)).cps.toList
noncomputable def strD : D → Option D
  | .int i => if i.natAbs.log2 < 1920 then some (.str (intC i)) else none
  | .str s => some (.str s)
  | _ => none
theorem call_strS : CallR X (.type "str") (fun xs H Q => ∃ x, xs = [.str x] ∧ Q (.str x) H) := by
  intro pins s σ H xs us Q I r hq
  obtain ⟨x, rfl, q⟩ := hq
  obtain ⟨u, rfl, t, rfl⟩ := Vals.one r
  exact PySem.P.str_of_str ⟨.str x, H, I, ⟨t, rfl⟩, q⟩
theorem de_strOf {p' : Pos} (hg : Gl X "str") (hm : X.mg "str" = none) (ha : DE X a f) (hs : starEach [a] X.env = (false, eval a X.env) :: starEach [] X.env := by rfl) : DE X (.Call (.Name "str" p') [a] [] pos) (mUn strD f) := by
  refine PE.conseq (pe_callTy (call_str_int.or call_strS) hg hm PyProof.Rows.boot_str (pa_cons ha pa_nil hs) (he := hs)) fun σ H Q hq => ?_
  obtain ⟨O0, r, d, hR, e, q⟩ := hq
  obtain ⟨x, e1, e2⟩ := bind_some e
  refine ⟨O0, r, x, hR, e1, fun v H1 s1 i1 => ?_⟩
  cases x <;> first | (simp only [strD, reduceCtorEq] at e2; done) | skip
  · simp only [strD] at e2
    split at e2
    · rename_i hl
      cases e2
      rw [Is.int_iff] at i1
      exact .inl ⟨_, by rw [i1], hl, q _ H1 s1 (by rw [Is.str_iff]; unfold intC; simp)⟩
    · cases e2
  · simp only [strD, Option.some.injEq] at e2
    subst e2
    have i1' := i1
    rw [Is.str_iff] at i1'
    exact .inr ⟨_, by rw [i1'], q _ H1 s1 (by rw [← i1']; exact i1)⟩
noncomputable def mTupOf (fl : ML) : ME := fun r => (fl r).map .tup
theorem de_tupleOf {p' : Pos} {fl : ML} (hg : Gl X "tuple") (hm : X.mg "tuple" = none) (ha : DB X a fl) (hs : starEach [a] X.env = (false, eval a X.env) :: starEach [] X.env := by rfl) : DE X (.Call (.Name "tuple" p') [a] [] pos) (mTupOf fl) := by
  refine PE.conseq (pe_callTy call_tuple_of hg hm PyProof.Rows.boot_tuple (pa_cons ha pa_nil hs) (he := hs)) fun σ H Q hq => ?_
  obtain ⟨O0, r, d, hR, e, q⟩ := hq
  obtain ⟨l, e1, rfl⟩ := map_some e
  refine ⟨O0, r, l, hR, e1, fun p xs H1 s1 sq il => ⟨p, xs, rfl, .inl ⟨sq, fun t ht => q _ _ (s1.trans (same_upd ht)) ?_⟩⟩⟩
  rw [Is.tup_iff]
  exact ⟨t, xs, rfl, SqT.of upd_same, il.same (same_upd ht) (hR.same s1).ol⟩
theorem db_f {fl : ML} (h : DF X a fl) : DB X a fl := by
  refine PE.conseq h fun σ H Q hq => ?_
  obtain ⟨O0, r, l, hR, e, q⟩ := hq
  refine ⟨O0, r, l, hR, e, fun p xs H1 s1 n1 e1 il => q p xs H1 s1 (SqL.of e1) ?_⟩
  have ol : OLst (fun b => Ow O0 r σ b ∨ b = p) H1 := fun b z => z.elim (fun z => (hR.same s1).ol b z) fun z => by subst z; exact ⟨xs, e1⟩
  exact IsL.mono (Same.kp (Same.refl H1) _) ol (fun a z _ => .inl z) l xs il
end
noncomputable def sAsg (f : ME) (bd : D → En → Option En) : MS := fun r => (f r).bind fun d => (bd d r).map .nx
theorem ds_asg {X : Cx} {pos : Pos} {tg e : Expr} {f : ME} {bd : D → En → Option En} (he : DE X e f) (hg : DG X tg bd) (hs : swapsWithSole [tg] e pos.line X.env = pure false := by rfl) (hw : swappedStores [tg] e X.env = pure none := by rfl)
    (h1 : (assignEach [tg] X.env).map (·.2) = [assign tg X.env] := by rfl) : DS X (.Assign [tg] e pos) (sAsg f bd) := by
  refine PS.conseq (ps_asg he hg hs hw h1) fun Dn σ H hq => ?_
  obtain ⟨O0, r, fl, hR, e, q⟩ := hq
  obtain ⟨d, e1, e2⟩ := bind_some e
  obtain ⟨r', e3, rfl⟩ := map_some e2
  refine ⟨O0, r, d, hR, e1, fun v H1 s1 i1 => ⟨O0, r, d, r', hR.same s1, i1, e3, fun σ' R' k' => q σ' H1 R' ((Kp.of_same r σ s1).trans k')⟩⟩
open PySem PySem.Spec PyProof.Rows L2 PySem.StrLaws
noncomputable def cutL {α : Type} (xs : List α) (lo hi : Option Int) : List α := (xs.drop (HT.sIx xs.length 0 lo)).take (HT.sIx xs.length xs.length hi - HT.sIx xs.length 0 lo)
theorem sIx_le' (n d : Nat) (hd : d ≤ n) (o : Option Int) : HT.sIx n d o ≤ n := HT.sIx_le n d hd o
theorem sliceIdx_eq (lo hi : Option Int) (n : Nat) : Builtin.Str.strSliceIndices lo hi 1 n = Builtin.Str.strSliceIndices (some ((HT.sIx n 0 lo : Nat) : Int)) (some ((HT.sIx n n hi : Nat) : Int)) 1 n := by
  have key : ∀ (v : Option Int) (d : Nat), d ≤ n → (match v with | none => (d : Int) | some i => max 0 (min (if i < 0 then i + (n : Int) else i) (n : Int))) = max 0 (min (if ((HT.sIx n d v : Nat) : Int) < 0 then ((HT.sIx n d v : Nat) : Int) + (n : Int) else ((HT.sIx n d v : Nat) : Int)) (n : Int)) := by
    intro v d hd
    have hle := sIx_le' n d hd v
    have h0 : ¬ (((HT.sIx n d v : Nat) : Int) < 0) := by omega
    rw [if_neg h0]
    cases v with
    | none =>
      have e : HT.sIx n d none = d := rfl
      rw [e]; show (d : Int) = _; omega
    | some i =>
      have e : HT.sIx n d (some i) = if i < 0 then (i + (n : Int)).toNat else min i.toNat n := rfl
      show max 0 (min (if i < 0 then i + (n : Int) else i) (n : Int)) = _
      rw [e] at hle ⊢
      split <;> split at hle <;> omega
  have e1 : (1 : Int) > 0 := by omega
  unfold PySem.Builtin.Str.strSliceIndices
  simp only [e1, if_true]
  have k1 := key lo 0 (Nat.zero_le _)
  have k2 := key hi n (Nat.le_refl _)
  cases lo <;> cases hi <;> simp only at k1 k2 ⊢ <;> rw [← k1, ← k2] <;> rfl
theorem sliceText_eq (x : Str) (lo hi : Option Int) : sliceText x lo hi = ⟨(cutL x.cps.toList lo hi).toArray⟩ := by
  have hl : x.cps.toList.length = x.length := by simp [Str.length]
  unfold cutL
  rw [hl]
  have ha := sIx_le' x.length 0 (Nat.zero_le _) lo
  have hb := sIx_le' x.length x.length (Nat.le_refl _) hi
  have e : sliceText x lo hi = sliceText x (some ((HT.sIx x.length 0 lo : Nat) : Int)) (some ((HT.sIx x.length x.length hi : Nat) : Int)) := by
    unfold sliceText
    rw [sliceIdx_eq lo hi x.length]
  rw [e]
  by_cases hab : HT.sIx x.length 0 lo ≤ HT.sIx x.length x.length hi
  · exact sliceText_nat x hab hb
  · have z : HT.sIx x.length x.length hi - HT.sIx x.length 0 lo = 0 := by omega
    rw [z, List.take_zero]
    have em : Builtin.Str.strSliceIndices (some ((HT.sIx x.length 0 lo : Nat) : Int)) (some ((HT.sIx x.length x.length hi : Nat) : Int)) 1 x.length = [] := by
      have e1 : (1 : Int) > 0 := by omega
      unfold PySem.Builtin.Str.strSliceIndices
      simp only [e1, if_true]
      have h0 : ¬ (((HT.sIx x.length 0 lo : Nat) : Int) < 0) := by omega
      have h1 : ¬ (((HT.sIx x.length x.length hi : Nat) : Int) < 0) := by omega
      rw [if_neg h0, if_neg h1]
      unfold PySem.sliceRange
      simp only [e1, if_true]
      split
      · omega
      · rfl
    unfold sliceText
    rw [em]
    split
    · rename_i q
      have q' : x.length = 0 := by have : 0 = x.length := by simpa using q
                                   exact this.symm
      apply Str.ext'
      have : x.cps.size = 0 := q'
      exact Array.eq_empty_of_size_eq_zero this
    · rfl
section
variable {X : Cx} {pos p2 : Pos} {a b : Expr} {f g : ME}
noncomputable def rSlS : V → Option Int → Option Int → Hp → VK → Prop := fun x lo hi H Q => ∃ z, x = .str z ∧ z.length ≤ sizeLine ∧ Q (.str ⟨(cutL z.cps.toList lo hi).toArray⟩) H
theorem cutL_len {α : Type} (xs : List α) (lo hi : Option Int) : (cutL xs lo hi).length ≤ xs.length := by
  unfold cutL
  rw [List.length_take, List.length_drop]
  omega
theorem sl_str : SlR X rSlS := by
  intro pins s σ H x v vl vu lo hi sl Q I rx hs pl pu hq
  obtain ⟨z, rfl, hz, q⟩ := hq
  obtain ⟨t, rfl⟩ := rx
  refine ⟨"str", _, PySem.F.slot_str_getitem.lookup, typeIs_str _ _ _, ?_⟩
  have main : ∀ (l u : Option (Int × Tok)), l.map (·.1) = lo → u.map (·.1) = hi → s.heap.IsSlice sl l u none → wpAny (model X.prog X.w) X.A (getItem (.str z t) (.ref sl)) (EP X pins σ Q) X.xe s := by
    intro l u hl hu hsl
    refine wpAny_getItem_str_slice hsl rfl ?_
    have e : ∀ t' k, EP X pins σ Q (.str (sliceText z lo hi) t') { s with toks := k } := fun t' k => ⟨.str _, H, I.tok k, ⟨t', rfl⟩, by rw [sliceText_eq]; exact q⟩
    have hle : (sliceText z lo hi).length ≤ sizeLine := by
      rw [sliceText_eq, str_len]
      have := cutL_len z.cps.toList lo hi
      have h2 : z.cps.toList.length = z.length := by simp [Str.length]
      omega
    unfold sliceMade slicePicked
    rw [hl, hu]
    exact post_val_or_str ⟨hle, e⟩
  obtain ⟨o, h1, h2, h3⟩ := hs
  cases pl with
  | none => cases pu with
    | none => exact main none none rfl rfl ⟨o, h1, h2, h3⟩
    | int j tj => exact main none (some (j, tj)) rfl rfl ⟨o, h1, h2, h3⟩
  | int i ti => cases pu with
    | none => exact main (some (i, ti)) none rfl rfl ⟨o, h1, h2, h3⟩
    | int j tj => exact main (some (i, ti)) (some (j, tj)) rfl rfl ⟨o, h1, h2, h3⟩
noncomputable abbrev MO := En → Option (Option Int)
noncomputable def oNone : MO := fun _ => some none
noncomputable def oSome (f : ME) : MO := fun r => (f r).bind fun d => (intD d).map some
noncomputable def lO (K : Fg) (f : MO) : TO := fun σ H Q => ∃ O0 r o, R K O0 H r σ ∧ f r = some o ∧ ∀ H', Same H H' → Q o H'
noncomputable def DO (X : Cx) (e : Option Expr) (f : MO) : Prop := PO X e (lO X.K f)
theorem PO.conseq {e : Option Expr} {t t' : TO} (h : PO X e t) (i : ∀ σ H Q, t' σ H Q → t σ H Q) : PO X e t' := fun pins s σ H Q I q => h pins s σ H Q I (i σ H Q q)
theorem do_none : DO X none oNone := PO.conseq po_none fun σ H Q ⟨O0, r, o, hR, e, q⟩ => by
  unfold oNone at e; cases e
  exact q H (Same.refl H)
theorem do_some (ha : DE X a f) : DO X (some a) (oSome f) := PO.conseq (po_some ha) fun σ H Q ⟨O0, r, o, hR, e, q⟩ => by
  obtain ⟨d, e1, e2⟩ := bind_some e
  obtain ⟨i, e3, rfl⟩ := map_some e2
  cases intD_some e3
  exact ⟨O0, r, _, hR, e1, fun v H1 s1 i1 => ⟨i, by rw [Is.int_iff] at i1; exact i1, q H1 s1⟩⟩
noncomputable def slD (d : D) (lo hi : Option Int) : Option D := match d with
  | .lst l => some (.lst (cutL l lo hi))
  | .tup l => if HT.sIx l.length 0 lo = 0 ∧ HT.sIx l.length l.length hi = l.length then none else some (.tup (cutL l lo hi))
  | .str s => if s.length ≤ sizeLine then some (.str (cutL s lo hi)) else none
  | _ => none
noncomputable def mSl (f : ME) (lo hi : MO) : ME := fun r => (f r).bind fun d => (lo r).bind fun i => (hi r).bind fun j => slD d i j
noncomputable def rSlA (K : Fg) : V → Option Int → Option Int → Hp → VK → Prop := fun x lo hi H Q => rSlL K x lo hi H Q ∨ rSlT K x lo hi H Q ∨ rSlS x lo hi H Q
theorem IsL.cut {K : Fg} {O : Addr → Prop} {H : Hp} {l : List D} {xs : List V} (h : IsL K O H l xs) (lo hi : Option Int) : IsL K O H (cutL l lo hi) (cutV xs lo hi) := by
  unfold cutL cutV
  rw [h.length]
  exact (h.drop _).take _
theorem de_sl {lo hi : Option Expr} {fl fh : MO} (ha : DE X a f) (hl : DO X lo fl) (hh : DO X hi fh) : DE X (.Subscript a (.Slice lo hi none p2) pos) (mSl f fl fh) := by
  refine PE.conseq (pe_slice (r := rSlA X.K) (sl_list.or (sl_tup.or sl_str)) ha hl hh) fun σ H Q hq => ?_
  obtain ⟨O0, r, d, hR, e, q⟩ := hq
  obtain ⟨x, e1, e⟩ := bind_some e
  obtain ⟨i, e2, e⟩ := bind_some e
  obtain ⟨j, e3, e⟩ := bind_some e
  refine ⟨O0, r, x, hR, e1, fun v H1 s1 i1 => ⟨O0, r, i, hR.same s1, e2, fun H2 s2 => ⟨O0, r, j, hR.same (s1.trans s2), e3, fun H3 s3 => ?_⟩⟩⟩
  have s13 := (s1.trans s2).trans s3
  have R3 := hR.same s13
  have i3 := i1.same (s2.trans s3) (hR.same s1).ol
  cases x <;> first | (simp only [slD, reduceCtorEq] at e; done) | skip
  · simp only [slD] at e
    split at e
    · rename_i hl'
      cases e
      rw [Is.str_iff] at i3
      refine .inr (.inr ⟨_, i3, by rw [str_len]; exact hl', q _ H3 s13 (by rw [Is.str_iff])⟩)
    · cases e
  · simp only [slD] at e
    split at e
    · cases e
    · rename_i hw
      cases e
      rw [Is.tup_iff] at i3
      obtain ⟨p, xs, rfl, hs, il⟩ := i3
      refine .inr (.inl ⟨p, xs, rfl, hs, by rw [← il.length]; exact hw, fun t ht => q _ _ (s13.trans (same_upd ht)) ?_⟩)
      rw [Is.tup_iff]
      exact ⟨t, _, rfl, SqT.of upd_same, (il.cut i j).same (same_upd ht) R3.ol⟩
  · simp only [slD, Option.some.injEq] at e
    subst e
    rw [Is.lst_iff] at i3
    obtain ⟨p, xs, rfl, hs, il⟩ := i3
    refine .inl ⟨p, xs, rfl, hs.sq, fun t ht => q _ _ (s13.trans (same_upd ht)) ?_⟩
    rw [Is.lst_iff]
    exact ⟨t, _, rfl, .inl ⟨R3.nofresh ht, .inl upd_same⟩, (il.cut i j).same (same_upd ht) R3.ol⟩
end
open PySem PySem.Spec PyProof.Rows L2 PySem.StrLaws
section
variable {prog : Program} {w : World} {A : Around} {E : Value → Shared → Prop} {s : Shared}
theorem rev_ad (n : Nat) : Builtin.Slice.sliceAdjust none none (-1) (n : Int) = ((n : Int) - 1, -1) := by
  unfold Builtin.Slice.sliceAdjust
  simp
theorem rev_pl (n : Nat) : Builtin.Slice.slicePlaces ((n : Int) - 1) (-1) (-1) = n := by
  unfold Builtin.Slice.slicePlaces
  have h1 : ¬ ((-1 : Int) > 0) := by omega
  simp only [h1, if_false]
  split
  · have : -(-1 : Int) = 1 := by omega
    rw [this, Int.ediv_one]; omega
  · omega
theorem rev_ap {sl : Addr} {t : Tok} {n : Nat} {Q : Int × Int × Nat → Shared → Prop} (hs : s.heap.IsSliceOf sl .none .none (.int (-1) t)) (h : Q ((n : Int) - 1, -1, n) s) : wpAny (model prog w) A (Builtin.Slice.sliceApplied (.ref sl) (pure (n : Int))) Q E s := by
  obtain ⟨os, ho, hc, hd⟩ := id hs
  unfold Builtin.Slice.sliceApplied Builtin.Slice.sliceFields
  refine wpAny_bind (wpAny_bind (wpAny_field ho hd (x := .none) rfl (wpAny_bind (wpAny_field ho hd (x := .none) rfl (wpAny_bind (wpAny_field ho hd (x := .int (-1) t) rfl (wpAny_pure (?_))))))))
  refine wpAny_bind (slicePart_int (?_)); show wpAny _ _ (if ((-1 : Int) == 0) = true then _ else _) _ _ s; rw [if_neg (by decide)]
  refine wpAny_bind (slicePart_none (wpAny_bind (slicePart_none (wpAny_bind (wpAny_pure (?_))))))
  show wpAny _ _ (match Builtin.Slice.sliceAdjust none none (-1) (n : Int) with | (lo, hi) => pure (lo, (-1 : Int), Builtin.Slice.slicePlaces lo hi (-1))) _ _ s
  rw [rev_ad n]; show wpAny _ _ (pure ((n : Int) - 1, (-1 : Int), Builtin.Slice.slicePlaces ((n : Int) - 1) (-1) (-1))) _ _ s; rw [rev_pl]
  exact wpAny_pure h
theorem fm_map {α β : Type} {F : α → Option β} {G : α → β} : ∀ (l : List α), (∀ m ∈ l, F m = some (G m)) → l.filterMap F = l.map G
  | [], _ => rfl
  | a :: l, h => by
    rw [List.filterMap_cons, h a List.mem_cons_self, List.map_cons, fm_map l fun m hm => h m (List.mem_cons_of_mem _ hm)]
theorem rev_pick (xs : Array Value) : ((List.range xs.size).filterMap fun (m : Nat) => xs[((xs.size : Int) - 1 + (m : Int) * (-1)).toNat]?).toArray = xs.toList.reverse.toArray := by
  congr 1
  apply List.ext_getElem?
  intro k
  have e : ∀ m, m < xs.size → xs[((xs.size : Int) - 1 + (m : Int) * (-1)).toNat]? = some (xs.toList.reverse.getD m .none) := by
    intro m hm
    have h1 : ((xs.size : Int) - 1 + (m : Int) * (-1)).toNat = xs.size - 1 - m := by omega
    rw [h1, List.getD_eq_getElem?_getD, List.getElem?_reverse (by simpa using hm)]
    have h2 : xs.size - 1 - m < xs.size := by omega
    simp [h2]
  have e2 : (List.range xs.size).filterMap (fun (m : Nat) => xs[((xs.size : Int) - 1 + (m : Int) * (-1)).toNat]?) = (List.range xs.size).map fun m => xs.toList.reverse.getD m .none := by
    exact fm_map _ fun m hm => e m (List.mem_range.mp hm)
  rw [e2, List.getElem?_map]
  by_cases hk : k < xs.size
  · rw [List.getElem?_range hk, List.getElem?_eq_getElem (by simpa using hk)]
    simp [List.getD_eq_getElem?_getD, hk]
  · rw [List.getElem?_eq_none (by simpa using hk), List.getElem?_eq_none (by simpa using hk)]; rfl
theorem rev_tup {t sl : Addr} {its : Array Value} {tk : Tok} {Q : Value → Shared → Prop} (ht : IsTup s.heap t its) (hs : s.heap.IsSliceOf sl .none .none (.int (-1) tk)) (hsz : its.size ≤ sizeLine)
    (h : Q (.ref s.heap.objs.size) { s with heap := s.heap.push { cls := .type "tuple", data := .seq its.toList.reverse.toArray } }) : wpAny (model prog w) A (getItem (.ref t) (.ref sl)) Q E s := by
  have hz : sizeOk (.seq its.toList.reverse.toArray) := by show its.toList.reverse.toArray.size ≤ sizeLine; simpa using hsz
  obtain ⟨os, ho, hc, hd⟩ := id hs
  have hT : s.TypeIs (.ref sl) "slice" := ⟨os, ho, hc⟩
  unfold getItem
  try with_reducible refine wpAny_holding ?_
  first | refine wpAny_bind (wpAny_pure ?_) | skip
  refine wpAny_bind (wpAny_sequenceKey ht.typeIs (by decide) ?_)
  refine wpAny_bind (wpAny_callSpecial?_slot (name := Str.ofString "__getitem__") ht.typeIs PyProof.Rows.slot_tuple_getitem (wpAny_call_entry PyProof.Rows.slot_tuple_getitem ht.typeIs entry_tuple_getitem (?_) (args_tuple_getitem _ _)))
  show wpAny _ _ (Builtin.Tuple.tupleItemsOf (.ref t) >>= _) _ _ s; refine wpAny_bind (tupleItemsOf_ ht (wpAny_bind (wpAny_typeOf hT (?_)))); rw [if_pos (by decide)]; refine wpAny_bind (rev_ap hs (?_))
  show wpAny _ _ (if (((its.size : Int) - 1) == 0 && (-1 : Int) == 1 && its.size == its.size) = true then _ else _) _ _ s
  rw [if_neg (by simp), rev_pick]
  first
    | exact wpAny_bind (m := Builtin.Tuple.tupleExact _) (wpAny_newObj_type (wpAny_pure ⟨_, rfl, wpAny_pure h⟩) hz)
    | exact wpAny_bind (m := Builtin.Tuple.tupleExact _) (wpAny_newObj_type (wpAny_bind (wpAny_pure (wpAny_pure ⟨_, rfl, wpAny_pure h⟩))) hz)
    | exact wpAny_bind (wpAny_bind (m := Builtin.Tuple.tupleExact _) (wpAny_newObj_type (wpAny_pure (wpAny_pure ⟨_, rfl, wpAny_pure h⟩)) hz))
    | exact wpAny_bind (wpAny_bind (m := Builtin.Tuple.tupleExact _) (wpAny_newObj_type (wpAny_pure ⟨_, rfl, wpAny_pure h⟩) hz))
end
section
variable {X : Cx} {pos p2 p3 : Pos} {a b : Expr} {f g : ME} {j : Nat}
noncomputable def tRev (K : Fg) (ta : TE) : TE := fun σ H Q => ta σ H fun x H1 => (∃ p xs, x = .ref p ∧ SqL K H1 p xs ∧ ∀ q, H1 q = none → Q (.ref q) (upd H1 q (.lst xs.reverse))) ∨ (∃ p xs, x = .ref p ∧ SqT K H1 p xs ∧ ∀ q, H1 q = none → Q (.ref q) (upd H1 q (.tup xs.reverse)))
theorem pe_rev {ta : TE} (he : PE X a ta) : PE X (.Subscript a (.Slice none none (some (.UnaryOp .USub (.Constant (.int 1) j p3) pos)) p2) pn) (tRev X.K ta) := by
  intro pins s σ H Q I h
  refine Subscript_ (thn (he pins s σ H _ I h) fun v s1 ⟨x, H1, I1, r1, q1⟩ => ?_)
  refine wpAny_Slice ?_
  rw [evalPart_none]
  refine wpAny_pure (wpAny_pure ?_); rw [evalPart_some]
  have hst : PE X (.UnaryOp .USub (.Constant (.int 1) j p3) pos) (tUn (rU fun i => .int (-i)) (tC (.int 1))) := pe_un un_neg pe_int
  refine thn (hst pins s1 σ H1 (fun w H' => w = .int (-1) ∧ H' = H1) I1 ⟨1, rfl, rfl, rfl⟩) fun u s2 ⟨y, H2, I2, r2, q2, eH⟩ => ?_
  subst eH q2
  obtain ⟨t, rfl⟩ := r2
  have I4 : Inv X pins σ H2 { s2 with heap := s2.heap.push { cls := .type "slice", data := .fields #[.none, .none, .int (-1) t] } } := I2.kept (t' := s2.toks) fun b ob q => Heap.get?_push_of_some _ q
  have hsl : ({ s2 with heap := s2.heap.push { cls := .type "slice", data := .fields #[.none, .none, .int (-1) t] } } : Shared).heap.IsSliceOf s2.heap.objs.size .none .none (.int (-1) t) := Heap.IsSliceOf.new ..
  rcases q1 with ⟨p, xs, rfl, hx, q⟩ | ⟨p, xs, rfl, hx, q⟩
  · cases r1
    obtain ⟨its, r, pl, hz⟩ := I4.list hx
    have hlen := r.length
    refine tail_any (ops := [.ref p, .ref s2.heap.objs.size]) pl.isList.typeIs slot_list_getitem.lookup (wpAny_getItem_list_slice pl.isList hsl .none .none (.int (-1) t) (by simp) ?_ (by simp only [List.size_toArray]; omega)) (by with_unfolding_all rfl)
    rw [PySem.W.krv_pick]
    exact ⟨.ref _, _, I4.lnew (t' := s2.toks) r.reverse (by rw [List.length_reverse]; exact hz), rfl, q _ I4.fresh⟩
  · cases r1
    obtain ⟨its, r, pl, hz⟩ := I4.tuple hx
    have hlen := r.length
    refine tail_any (ops := [.ref p, .ref s2.heap.objs.size]) pl.typeIs PyProof.Rows.slot_tuple_getitem.lookup (rev_tup pl hsl (by simp only [List.size_toArray]; omega) ?_) (by with_unfolding_all rfl)
    refine ⟨.ref _, _, I4.laid (t' := s2.toks) (o := .tup xs.reverse) (fun b ob q => Heap.get?_push_of_some _ q) (Nat.le_refl _) ?_, rfl, q _ (I4.hok.fresh (Nat.le_refl _))⟩
    exact ⟨by rw [List.length_reverse]; exact hz, _, r.reverse, IsTup.new _ _⟩
noncomputable def mRevF (fl : ML) : ML := fun r => (fl r).map List.reverse
theorem df_rev {fl : ML} (ha : DB X a fl) : DF X (.Subscript a (.Slice none none (some (.UnaryOp .USub (.Constant (.int 1) j p3) pos)) p2) pn) (mRevF fl) := by
  refine PE.conseq (pe_rev ha) fun σ H Q hq => ?_
  obtain ⟨O0, r, l', hR, e, q⟩ := hq
  obtain ⟨l, e1, rfl⟩ := map_some e
  refine ⟨O0, r, l, hR, e1, fun p xs H1 s1 sq il => .inl ⟨p, xs, rfl, sq, fun t ht => q t _ _ (s1.trans (same_upd ht)) (s1.free ht) upd_same ?_⟩⟩
  refine IsL.mono (Same.kp (same_upd ht) _) (hR.same s1).ol (fun b z n => ?_) _ _ il.reverse
  rcases z with z | z
  · exact z
  · subst z; exact absurd ht n
noncomputable def strsD : List D → Option (List (List Nat))
  | [] => some []
  | .str s :: r => (strsD r).map (s :: ·)
  | _ => none
noncomputable def joinC (sep : List Nat) : List (List Nat) → List Nat
  | [] => []
  | [s] => s
  | s :: r => s ++ sep ++ joinC sep r
theorem strsD_ok {K : Fg} {O : Addr → Prop} {H : Hp} : ∀ {l : List D} {ss : List (List Nat)} {vs : List V}, strsD l = some ss → IsL K O H l vs → vs = ss.map fun s => V.str ⟨s.toArray⟩
  | [], ss, vs, e, il => by cases e; unfold IsL at il; subst il; rfl
  | d :: l, ss, vs, e, il => by
    unfold IsL at il
    obtain ⟨v, r, rfl, i1, i2⟩ := il
    cases d <;> first | (simp only [strsD, reduceCtorEq] at e; done) | skip
    simp only [strsD] at e
    obtain ⟨ms, e1, rfl⟩ := map_some e
    rw [Is.str_iff] at i1
    rw [i1, strsD_ok e1 i2]; rfl
theorem strsAre_of : ∀ {ss : List (List Nat)} {us : List Value}, Vals (ss.map fun s => V.str ⟨s.toArray⟩) us → StrsAre us (ss.map fun s => (⟨s.toArray⟩ : Str))
  | [], us, r => by rw [List.map_nil] at r; cases r; exact .nil
  | s :: ss, us, r => by
    rw [List.map_cons] at r
    cases r with
    | cons r1 r2 =>
      obtain ⟨t, e⟩ := r1
      subst e
      exact .cons _ t (strsAre_of r2)
theorem join_eq (sep : List Nat) : ∀ ss : List (List Nat), Str.join (⟨sep.toArray⟩ : Str) (ss.map fun s => (⟨s.toArray⟩ : Str)) = ⟨(joinC sep ss).toArray⟩
  | [] => rfl
  | [s] => rfl
  | s :: t :: r => by
    have ih := join_eq sep (t :: r)
    show (⟨s.toArray⟩ : Str) ++ ⟨sep.toArray⟩ ++ Str.join _ ((t :: r).map fun s => (⟨s.toArray⟩ : Str)) = _
    rw [ih, str_app, str_app]
    rfl
noncomputable def rJoin (K : Fg) : V → List V → Hp → VK → Prop := fun x vs H Q => ∃ sep p ss, x = .str ⟨sep.toArray⟩ ∧ vs = [.ref p] ∧ SqL K H p (ss.map fun s => V.str ⟨s.toArray⟩) ∧ (ss.map List.length).sum + ss.length * sep.length ≤ 16777216 ∧ Q (.str ⟨(joinC sep ss).toArray⟩) H
theorem mt_join : MtR X "str.join" (rJoin X.K) := by
  intro pins s σ H x vs v us Q I rx rv hq
  obtain ⟨sep, p, ss, rfl, rfl, hs, hl, q⟩ := hq
  obtain ⟨t, rfl⟩ := rx
  obtain ⟨u, rfl, ru⟩ := Vals.one rv
  cases ru
  obtain ⟨its, r, pl, hz⟩ := I.list hs
  refine join_list pl.isList (ys := ss.map fun s => (⟨s.toArray⟩ : Str)) (by simpa using strsAre_of r) ?_ fun t' k => ⟨.str _, H, I.tok k, ⟨t', rfl⟩, ?_⟩
  · have e : (ss.map fun s => (⟨s.toArray⟩ : Str)).map (·.length) = ss.map List.length := by rw [List.map_map]; exact List.map_congr_left fun s _ => str_len s
    rw [e, List.length_map, str_len]; exact hl
  · show Q (.str (Txt.join _ _)) H
    unfold Txt.join
    rw [glued_eq_join, join_eq]; exact q
noncomputable def mJoin (f : ME) (fl : ML) : ME := fun r => (f r).bind fun d => match d with
  | .str sep => (fl r).bind fun l => (strsD l).bind fun ss => if (ss.map List.length).sum + ss.length * sep.length ≤ 16777216 then some (.str (joinC sep ss)) else none
  | _ => none
theorem de_join {fl : ML} {apos cpos : Pos} (ho : DE X a f) (ha : DB X b fl) (hbase : attributeBase a "join" X.env (eval a X.env) = eval a X.env := by rfl) (hline : (apos.endLine == cpos.line) = true := by rfl)
    (hfew : ((backTo cpos (starEach [b] X.env)).all (fun x => !x.1) && (backToKw cpos (keywordEach [] X.env)).all (fun x => x.1.isSome) && decide ([b].length + ([] : List Keyword).length + (if ([] : List Keyword).isEmpty then 0 else 1) < 30)) = true := by rfl)
    (hs : starEach [b] X.env = (false, eval b X.env) :: starEach [] X.env := by rfl) : DE X (.Call (.Attribute a "join" apos) [b] [] cpos) (mJoin f fl) := by
  refine PE.conseq (pe_bm PySem.F.plainAttrs_str PySem.F.slot_str_join PySem.F.type_str_join mt_join ho (pa_cons ha pa_nil hs) hbase hfew hline hs) fun σ H Q hq => ?_
  obtain ⟨O0, r, d, hR, e, q⟩ := hq
  obtain ⟨x, e1, e2⟩ := bind_some e
  refine ⟨O0, r, x, hR, e1, fun v H1 s1 i1 => ?_⟩
  cases x <;> first | (simp only [reduceCtorEq] at e2; done) | skip
  simp only at e2
  obtain ⟨l, e3, e4⟩ := bind_some e2
  obtain ⟨ss, e5, e6⟩ := bind_some e4
  rw [Is.str_iff] at i1
  subst i1
  split at e6
  · rename_i hl
    cases e6
    refine ⟨rfl, O0, r, l, hR.same s1, e3, fun p xs H2 s2 sq il => ?_⟩
    have ex := strsD_ok e5 il
    subst ex
    exact ⟨_, p, ss, rfl, rfl, sq, hl, q _ H2 (s1.trans s2) (by rw [Is.str_iff])⟩
  · cases e6
end
open PySem PySem.Spec PyProof.Rows L2 PySem.StrLaws PySem.Builtin.Str
section
variable {X : Cx} {pos : Pos} {a b : Expr} {f g : ME}
noncomputable def rSplit : V → List V → Hp → VK → Prop := fun x vs H Q => ∃ z y, x = .str z ∧ vs = [.str y] ∧ (y.length == 0) = false ∧ z.length ≤ sizeLine ∧ (partsBetween z (occurrences z y 0 z.length (z.length + 1)) y.length).length ≤ sizeLine ∧ ∀ p, H p = none → Q (.ref p) (upd H p (.lst ((Txt.split z y).map V.str)))
theorem vals_strs : ∀ (l : List (Str × Tok)), Vals ((l.map (·.1)).map V.str) (strValues l)
  | [] => .nil
  | (x, t) :: l => .cons ⟨t, rfl⟩ (vals_strs l)
theorem split_len (z y : Str) (h : (partsBetween z (occurrences z y 0 z.length (z.length + 1)) y.length).length ≤ sizeLine) : (Txt.split z y).length ≤ sizeLine := by
  unfold Txt.split
  have h1 : 1 ≤ sizeLine := by decide
  split
  · exact h1
  · split
    · exact h1
    · exact h
theorem mt_split : MtR X "str.split" rSplit := by
  intro pins s σ H x vs v us Q I rx rv hq
  obtain ⟨z, y, rfl, rfl, hy, hz, hn, q⟩ := hq
  obtain ⟨t, rfl⟩ := rx
  obtain ⟨uu, rfl, u, rfl⟩ := Vals.one rv
  have lay : ∀ (l : List (Str × Tok)) (tk : Nat), l.map (·.1) = Txt.split z y → EP X pins σ Q (.ref s.heap.objs.size) { s with heap := s.heap.push { cls := .type "list", data := .seq (strValues l).toArray }, toks := tk } := fun l tk e => by
    have hv := vals_strs l
    rw [e] at hv
    exact ⟨.ref _, _, I.lnew (t' := tk) hv (by rw [List.length_map]; exact split_len z y hn), rfl, q _ I.fresh⟩
  cases h1 : (decide (z.length < y.length) || decide (strKind z < strKind y)) with
  | true => exact call_meets F.slot_str_split (typeIs_str _ _ _) F.entry_str_split (F.args_str_split_2 _ _) (meets_str_split_cannot_occur z y t u h1) (lay [(z, t)] s.toks (by unfold Txt.split; rw [if_pos h1]; rfl))
  | false =>
    cases hf : (occurrences z y 0 z.length (z.length + 1)).isEmpty with
    | true => exact call_meets F.slot_str_split (typeIs_str _ _ _) F.entry_str_split (F.args_str_split_2 _ _) (meets_str_split_not_found z y t u h1 hy hf) (lay [(z, t)] s.toks (by unfold Txt.split; rw [if_neg (ne_true_of_eq_false h1), if_pos hf]; rfl))
    | false =>
      refine call_meets F.slot_str_split (typeIs_str _ _ _) F.entry_str_split (F.args_str_split_2 _ _) (meets_str_split_sep z y t u h1 hy hf hz hn) ?_
      show EP X pins σ Q _ { s with toks := _, heap := s.heap.push { cls := .type "list", data := .seq (strsFrom s.toks (partsBetween z (occurrences z y 0 z.length (z.length + 1)) y.length)).toArray } }
      rw [strsFrom_eq]
      exact lay (numbered s.toks _) _ ((numbered_texts _ _).trans (by unfold Txt.split; rw [if_neg (ne_true_of_eq_false h1), if_neg (ne_true_of_eq_false hf)]))
noncomputable def splitS (s sep : List Nat) : List (List Nat) := (Txt.split ⟨s.toArray⟩ ⟨sep.toArray⟩).map fun x => x.cps.toList
noncomputable def mSplit (f g : ME) : ML := fun r => (f r).bind fun d => (g r).bind fun e => match d, e with
  | .str s, .str sep => if sep.length ≠ 0 ∧ s.length < sizeLine then some ((splitS s sep).map .str) else none
  | _, _ => none
theorem chain_len {z y : Str} {n : Nat} (hy : 1 ≤ y.length) : ∀ (cuts : List Nat) (a f : Nat), ChainTo z y n a cuts f → a ≤ n → a + cuts.length ≤ n
  | [], a, f, _, h => h
  | c :: r, a, f, h, _ => by
    obtain ⟨h1, ⟨h2, _⟩, h3⟩ := h
    have := chain_len hy r (c + y.length) f h3 h2
    rw [List.length_cons]; omega
theorem occ_len (z y : Str) (hy : (y.length == 0) = false) : (partsBetween z (occurrences z y 0 z.length (z.length + 1)) y.length).length ≤ z.length + 1 := by
  rw [len_partsBetween]
  obtain ⟨e, hc⟩ := occ_chain z y (z.length + 1)
  have hy1 : 1 ≤ y.length := by
    have : y.length ≠ 0 := by simpa using hy
    omega
  have := chain_len hy1 _ 0 e hc (Nat.zero_le _)
  omega
theorem isL_strs {K : Fg} {O : Addr → Prop} {H : Hp} : ∀ (ts : List Str), IsL K O H ((ts.map fun x => x.cps.toList).map D.str) (ts.map V.str)
  | [] => .nil
  | t :: ts => .cons (by rw [Is.str_iff]) (isL_strs ts)
theorem df_split {apos cpos : Pos} (ho : DE X a f) (ha : DE X b g) (hbase : attributeBase a "split" X.env (eval a X.env) = eval a X.env := by rfl) (hline : (apos.endLine == cpos.line) = true := by rfl)
    (hfew : ((backTo cpos (starEach [b] X.env)).all (fun x => !x.1) && (backToKw cpos (keywordEach [] X.env)).all (fun x => x.1.isSome) && decide ([b].length + ([] : List Keyword).length + (if ([] : List Keyword).isEmpty then 0 else 1) < 30)) = true := by rfl)
    (hs : starEach [b] X.env = (false, eval b X.env) :: starEach [] X.env := by rfl) : DF X (.Call (.Attribute a "split" apos) [b] [] cpos) (mSplit f g) := by
  refine PE.conseq (pe_bm PySem.F.plainAttrs_str PySem.F.slot_str_split PySem.F.type_str_split mt_split ho (pa_cons ha pa_nil hs) hbase hfew hline hs) fun σ H Q hq => ?_
  obtain ⟨O0, r, l, hR, e, q⟩ := hq
  obtain ⟨x, e1, e2⟩ := bind_some e
  obtain ⟨y, e3, e4⟩ := bind_some e2
  refine ⟨O0, r, x, hR, e1, fun v H1 s1 i1 => ?_⟩
  cases x <;> first | (simp only [reduceCtorEq] at e4; done) | skip
  cases y <;> first | (simp only [reduceCtorEq] at e4; done) | skip
  rename_i s sep
  simp only at e4
  split at e4
  · rename_i hl
    have e5 : (splitS s sep).map D.str = l := Option.some.inj e4
    subst e5
    rw [Is.str_iff] at i1
    subst i1
    refine ⟨rfl, O0, r, _, hR.same s1, e3, fun v2 H2 s2 i2 => ?_⟩
    rw [Is.str_iff] at i2
    have hy : ((⟨sep.toArray⟩ : Str).length == 0) = false := by rw [str_len]; simpa using hl.1
    have h5 := occ_len (⟨s.toArray⟩ : Str) ⟨sep.toArray⟩ hy
    have h6 : (⟨s.toArray⟩ : Str).length = s.length := str_len s
    refine ⟨_, _, rfl, by rw [i2], hy, by rw [h6]; omega, by omega, fun p hp => q p _ _ ((s1.trans s2).trans (same_upd hp)) ((s1.trans s2).free hp) upd_same ?_⟩
    exact isL_strs _
  · cases e4
end
section
variable {X : Cx} {a b : Expr} {f g : ME} {p pos : Pos} {elts : List Expr} {k : Nat} {tp : Pos}
noncomputable def z1 (F : V → Hp → Prop) : List V → Hp → Prop
  | [x], H => F x H
  | _, _ => False
theorem z1_inv {F : V → Hp → Prop} : ∀ {vs : List V} {H : Hp}, z1 F vs H → ∃ x, vs = [x] ∧ F x H
  | [x], _, h => ⟨x, rfl, h⟩
  | [], _, h => h.elim
  | _ :: _ :: _, _, h => h.elim
theorem adn0 (n : Nat) {j : Nat} (h : 0 ≠ j) : @Ne Addr (n : Nat) (n + j : Nat) := fun e => h (Nat.add_left_cancel (show n + 0 = n + j from e))
theorem keepL {K : Fg} {O M : Addr → Prop} (mo : ∀ a, M a → O a) {H : Hp} {a : Addr} {xs : List V} (h : LsAt K O H a xs) : ∀ H1, Keep M H H1 → SqL K H1 a xs := fun H1 k => h.imp (fun z => Rd.keep k (fun y => z.1 (mo _ y)) z.2) id
theorem pi_enum {ta : TE} (hg : Gl X "enumerate") (hm : X.mg "enumerate" = none) (ha : PE X a ta) (hs : starEach [a] X.env = [(false, eval a X.env)] := by rfl) :
    PI X (.Tuple elts k tp) (.Call (.Name "enumerate" p) [a] [] pos) (fun σ H R => ta σ H fun x H1 => ∃ u, x = .ref u ∧ (∃ xs, SqL X.K H1 u xs) ∧ R (ItE X.K u) H1) := by
  intro pins s σ H R I h
  have hA : PA X [a] (tCons ta tNil) := pa_cons ha pa_nil (by rw [hs]; rfl)
  refine Call_ (ld_blt I hg hm PyProof.Rows.boot_enumerate (PyProof.Rows.callWith_type1 (thn (hA pos pins s σ H (z1 fun x H1 => ∃ u, x = .ref u ∧ (∃ xs, SqL X.K H1 u xs) ∧ R (ItE X.K u) H1) I h) fun us s1 ⟨vs, H1, I1, r1, q1⟩ => ?_) hs rfl))
  obtain ⟨_, rfl, u, rfl, ⟨xs, hx⟩, q⟩ := z1_inv q1
  obtain ⟨uu, rfl, ru⟩ := Vals.one r1
  cases ru
  obtain ⟨its, _, pl, _⟩ := I1.list hx
  refine call_enumerate_list pl.isList fun h' z1 z2 _ kp => wpAny_pyIter_enum z1 ?_
  refine ⟨_, [s1.heap.objs.size + 1, s1.heap.objs.size], _, _, H1, rfl, I1.kept (t' := s1.toks) kp, turn_enum u _ _ (adn0 _ (by decide)).symm, ⟨⟨_, z1⟩, z2⟩, fun b hb => ?_, q⟩
  have hle : s1.heap.objs.size ≤ b := by
    simp only [List.not_mem_nil, List.mem_cons, or_false] at hb
    rcases hb with h | h
    · rw [h]; exact Nat.le_add_right _ _
    · rw [h]; exact Nat.le_refl _
  exact I1.fpOk hle (I1.hok.fresh hle)
noncomputable def enumD (l : List D) : List D := l.zipIdx.map fun p => .tup [.int (p.2 : Nat), p.1]
noncomputable def mEnum (f : ME) : ML := fun r => (f r).bind fun d => match d with
  | .lst l => some (enumD l)
  | _ => none
theorem enum_get {l : List D} {i : Nat} {d : D} (h : (enumD l)[i]? = some d) : ∃ x, l[i]? = some x ∧ d = .tup [.int i, x] := by
  unfold enumD at h
  rw [List.getElem?_map, List.getElem?_zipIdx] at h
  cases e1 : l[i]? with
  | none => rw [e1] at h; cases h
  | some x => rw [e1] at h; simp at h; exact ⟨x, rfl, h.symm⟩
theorem di_enum (hg : Gl X "enumerate") (hm : X.mg "enumerate" = none) (ha : DE X a f) (hs : starEach [a] X.env = [(false, eval a X.env)] := by rfl) : DI X (.Tuple elts k tp) (.Call (.Name "enumerate" p) [a] [] pos) (mEnum f) := by
  refine PI.conseq (pi_enum hg hm ha hs) fun σ H Rr hq => ?_
  obtain ⟨O0, r, ds, hR, e, q⟩ := hq
  obtain ⟨x, e1, e⟩ := bind_some e
  refine ⟨O0, r, x, hR, e1, fun v1 H1 s1 i1 => ?_⟩
  have R1 := hR.same s1
  cases x <;> first | (simp only [reduceCtorEq] at e; done) | skip
  rename_i l
  simp only [Option.some.injEq] at e
  subst e
  rw [Is.lst_iff] at i1
  obtain ⟨u, xs, rfl, hx, il⟩ := i1
  refine ⟨u, rfl, ⟨xs, hx.sq⟩, q _ H1 s1 ?_⟩
  intro i H2 O' kp oo
  have kp' : Keep (Ow O0 r σ) H1 H2 := fun b o e n => kp b o e fun z => n (.inr z.own)
  have sq2 := keepL (M := MutAt r σ) (fun a z => .inr z.own) hx H2 kp
  have hlen : (enumD l).length = l.length := by simp [enumD]
  refine ⟨fun hi => ⟨?_, fun y H' yy => ?_⟩, fun hi => ⟨xs, sq2, by rw [← il.length, ← hlen]; exact hi.symm⟩⟩
  · obtain ⟨d, ed⟩ := get_of_lt hi
    obtain ⟨dx, ex, _⟩ := enum_get ed
    obtain ⟨vx, q1, _⟩ := il.get ex
    exact ⟨xs, vx, sq2, q1⟩
  · obtain ⟨T, w, rfl, nT, rfl, h1⟩ := yy
    refine ⟨same_upd nT, fun d ed => ?_⟩
    obtain ⟨dx, ex, rfl⟩ := enum_get ed
    obtain ⟨vx, q1, i1⟩ := il.get ex
    have p1 := h1 xs sq2
    rw [q1] at p1
    cases p1
    have kk : Keep (Ow O0 r σ) H1 (upd H2 T (.tup [.int i, w])) := fun b o e' n => by
      have := kp' b o e' n
      rw [upd_ne (ne_of_none this nT)]; exact this
    rw [Is.tup_iff]
    exact ⟨T, _, rfl, SqT.of upd_same, .cons (by rw [Is.int_iff]) (.cons (Is.mono kk R1.ol oo _ _ i1) .nil)⟩
end
section
variable {X : Cx} {a b : Expr} {f g : ME} {p pos : Pos} {elts : List Expr} {k : Nat} {tp : Pos}
theorem noF {H : Hp} : OLst (fun _ => False) H := fun _ z => z.elim
end
section
variable {w : World} {prog : Program} {E : Value → Shared → Prop} {A : Around}
theorem drawL {it l : Addr} {ys : Array Value} (hne : l ≠ it) : ∀ (n i : Nat) (s : Shared) (Q : List Value → Shared → Prop), s.heap.IsListIter it l i → s.heap.IsList l ys → i + n ≤ ys.size →
    (∀ g, g.IsListIter it l (i + n) → Heap.SameBut it s.heap g → Q ((ys.toList.drop i).take n) { s with heap := g }) → wpAny (model prog w) A (draw (.ref it) n) Q E s
  | 0, i, s, Q, h1, _, _, h => by
    show wpAny _ _ (pure []) Q E s; exact wpAny_pure (by simpa using h s.heap h1 (Heap.SameBut.refl ..))
  | n + 1, i, s, Q, h1, h2, h3, h => by
    have hl : i < ys.size := by omega
    show wpAny _ _ (pyNext (.ref it) >>= _) Q E s; refine wpAny_bind (wpAny_pyNext_list_item h1 h2 (x := ys[i]) (by simp [hl]) fun g1 k1 t1 => ?_)
    refine wpAny_bind (wpAny_holding (drawL hne n (i + 1) _ _ k1 (h2.extBut t1.extBut hne) (by omega) fun g2 k2 t2 => wpAny_pure (?_)))
    have hd : ys.toList.drop i = ys[i] :: ys.toList.drop (i + 1) := by simp [List.drop_eq_getElem_cons, hl]
    have := h g2 (by rw [show i + (n + 1) = i + 1 + n by omega]; exact k2) (t1.trans t2)
    rw [hd, List.take_succ_cons] at this; exact this
theorem unpackL {l : Addr} {ys : Array Value} {s : Shared} {Q : List Value → Shared → Prop} (hh : A.handled = none) (h2 : s.heap.IsList l ys) (h : ∀ g, Heap.ExtBut s.heap.objs.size s.heap g → Q ys.toList { s with heap := g }) : wpAny (model prog w) A (unpackItems (.ref l) ys.size none) Q E s := by
  have hlt : l ≠ s.heap.objs.size := by obtain ⟨o, e, _⟩ := h2; exact Nat.ne_of_lt (Heap.lt_size e)
  unfold unpackItems; refine wpAny_bind (?_); unfold notIterableAtAll
  refine wpAny_bind (wpAny_specialOf h2.typeIs F.slot_list_iter.lookup (wpAny_pure (?_))); simp only [Bool.false_eq_true, if_false]; refine wpAny_bind (wpAny_holding (wpAny_pyIter_list h2 (?_)))
  refine wpAny_bind (wpAny_holding (drawL hlt ys.size 0 _ _ ⟨_, Heap.get?_push_size _ rfl, rfl, rfl⟩ (h2.push _) (by omega) fun g1 k1 t1 => ?_))
  have ha : List.take ys.size (List.drop 0 ys.toList) = ys.toList := by rw [List.drop_zero]; exact List.take_of_length_le (by simp)
  rw [ha, if_neg (by simp)]
  refine wpAny_bind (wpAny_holding (wpAny_pyNext_list_end hh k1 ((h2.push _).extBut t1.extBut hlt) (by simp) fun g2 t2 => ?_)); simp only [Option.isSome_none, Bool.false_eq_true, if_false]
  exact wpAny_pure (h g2 fun b o hb e => t2 b o hb (t1.extBut b o hb (Heap.get?_push_of_some _ e)))
end
section
variable {X : Cx} {pos : Pos} {es : List Expr} {k n : Nat}
theorem pg_seq {t : TGs} (hc : X.calm = true) (h : PGs X es t) (hn : (assignEach es X.env).length = n := by rfl) (hst : (assignEach es X.env).findIdx? (·.1) = none := by rfl) :
    PG X (.Tuple es k pos) (fun v σ H Q => ∃ a xs, v = .ref a ∧ (SqT X.K H a xs ∨ SqL X.K H a xs) ∧ xs.length = n ∧ t xs σ H Q) := by
  intro pins s σ H v u Q I r hw
  obtain ⟨a, xs, e1, hq, hl, hw⟩ := hw
  subst e1
  cases r
  rcases hq with hq | hq
  · exact pg_tup hc h hn hst pins s σ H (.ref a) (.ref a) Q I rfl ⟨a, xs, rfl, hq, hl, hw⟩
  · obtain ⟨its, rv, pl, hz⟩ := I.list hq
    rw [assign_Tuple]
    refine wpAny_bind (wpAny_standAt ?_)
    unfold unpack
    rw [hst]
    have hsz : (assignEach es X.env).length = its.toArray.size := by rw [hn, List.size_toArray, ← rv.length]; exact hl.symm
    rw [hsz]
    refine wpAny_bind (wpAny_holding (unpackL (I.ok.hd hc) pl.isList fun g hx => ?_))
    have I1 : Inv X pins σ H { s with heap := g } := I.kept (t' := s.toks) fun b o e => hx b o (Nat.ne_of_lt (Heap.lt_size e)) e
    exact h pins _ σ H xs _ Q I1 (by simpa using rv) hw
noncomputable def bdSeq (n : Nat) (bs : List D → En → Option En) : D → En → Option En := fun d r => match d with
  | .tup l => if l.length = n then bs l r else none
  | .lst l => if l.length = n then bs l r else none
  | _ => none
theorem dg_seq {bs : List D → En → Option En} (hc : X.calm = true) (h : DGs X es bs) (hn : (assignEach es X.env).length = n := by rfl) (hst : (assignEach es X.env).findIdx? (·.1) = none := by rfl) : DG X (.Tuple es k pos) (bdSeq n bs) := by
  refine PG.conseq (pg_seq hc h hn hst) fun v σ H Q h => ?_
  obtain ⟨O0, r, d, r', hR, iv, e, q⟩ := h
  cases d <;> first | (simp only [bdSeq, reduceCtorEq] at e; done) | skip
  · rename_i l
    rw [Is.tup_iff] at iv
    obtain ⟨a, xs, rfl, hs, il⟩ := iv
    simp only [bdSeq] at e
    split at e
    · rename_i hl
      exact ⟨a, xs, rfl, .inl hs, by rw [← il.length]; exact hl, O0, r, l, r', hR, il, e, q⟩
    · cases e
  · rename_i l
    rw [Is.lst_iff] at iv
    obtain ⟨a, xs, rfl, hs, il⟩ := iv
    simp only [bdSeq] at e
    split at e
    · rename_i hl
      exact ⟨a, xs, rfl, .inr hs.sq, by rw [← il.length]; exact hl, O0, r, l, r', hR, il, e, q⟩
    · cases e
end
section
variable {X : Cx}
variable {apos cpos pn : Pos} {e : Expr} {f : ME}
end
noncomputable def eqLV : List V → List V → Bool
  | [], [] => true
  | x :: xs, y :: ys => eqV x y && eqLV xs ys
  | _, _ => false
noncomputable def eqLF : List D → List D → Bool
  | [], [] => true
  | x :: xs, y :: ys => eqF x y && eqLF xs ys
  | _, _ => false
noncomputable def eqAtJ (xs ys : List V) (j : Nat) : Bool := match xs[j]?, ys[j]? with
  | some x, some y => eqV x y
  | _, _ => false
theorem range_eqJ : ∀ (xs ys : List V), xs.length = ys.length → (List.range xs.length).all (eqAtJ xs ys) = eqLV xs ys
  | [], [], _ => rfl
  | x :: xs, y :: ys, h => by
    rw [List.length_cons, List.range_succ_eq_map, List.all_cons, List.all_map, eqLV, ← range_eqJ xs ys (by simpa using h)]
    rfl
  | [], y :: ys, h => by simp at h
  | x :: xs, [], h => by simp at h
theorem eqLV_len : ∀ (xs ys : List V), xs.length ≠ ys.length → eqLV xs ys = false
  | [], [], h => by simp at h
  | x :: xs, y :: ys, h => by rw [eqLV, eqLV_len xs ys (by simpa using h), Bool.and_false]
  | [], y :: ys, h => rfl
  | x :: xs, [], h => rfl
theorem eqLF_ok {K : Fg} {O : Addr → Prop} {H : Hp} : ∀ {l m : List D} {xs ys : List V}, IsL K O H l xs → IsL K O H m ys → l.all flatD = true → m.all flatD = true → xs.all flatV = true ∧ ys.all flatV = true ∧ eqLV xs ys = eqLF l m
  | [], [], xs, ys, h, h', _, _ => by unfold IsL at h h'; subst h h'; exact ⟨rfl, rfl, rfl⟩
  | [], e :: m, xs, ys, h, h', _, f' => by
    unfold IsL at h; subst h
    rw [List.all_cons, Bool.and_eq_true] at f'
    unfold IsL at h'; obtain ⟨v, r, rfl, h1, h2⟩ := h'
    exact ⟨rfl, by rw [List.all_cons, flat_ok h1 f'.1, (eqLF_ok (l := []) IsL.nil h2 rfl f'.2).2.1]; rfl, rfl⟩
  | d :: l, [], xs, ys, h, h', f, _ => by
    unfold IsL at h'; subst h'
    rw [List.all_cons, Bool.and_eq_true] at f
    unfold IsL at h; obtain ⟨v, r, rfl, h1, h2⟩ := h
    exact ⟨by rw [List.all_cons, flat_ok h1 f.1, (eqLF_ok (m := []) h2 IsL.nil f.2 rfl).1]; rfl, rfl, rfl⟩
  | d :: l, e :: m, xs, ys, h, h', f, f' => by
    rw [List.all_cons, Bool.and_eq_true] at f f'
    unfold IsL at h; obtain ⟨v, r, rfl, h1, h2⟩ := h
    unfold IsL at h'; obtain ⟨v', r', rfl, h1', h2'⟩ := h'
    obtain ⟨a, b, c⟩ := eqLF_ok h2 h2' f.2 f'.2
    exact ⟨by rw [List.all_cons, flat_ok h1 f.1, a]; rfl, by rw [List.all_cons, flat_ok h1' f'.1, b]; rfl, by rw [eqLV, eqLF, c, eqF_ok h1 f.1 h1' f'.1]⟩
section
variable {X : Cx}
noncomputable def rEqL (K : Fg) (neg : Bool) : R2 := fun x y H Q => ∃ p q xs ys, x = .ref p ∧ y = .ref q ∧ SqL K H p xs ∧ SqL K H q ys ∧ xs.all flatV = true ∧ ys.all flatV = true ∧ Q (.bl (if neg then !eqLV xs ys else eqLV xs ys)) H
theorem all_get {xs : List V} {j : Nat} {x : V} (h : xs.all flatV = true) (e : xs[j]? = some x) : flatV x = true := List.all_eq_true.mp h x (List.mem_of_getElem? e)
theorem vals_at {xs : List V} {its : List Value} (r : Vals xs its) {j : Nat} (h : j < its.toArray.size) : ∃ x, xs[j]? = some x ∧ RelV x its.toArray[j] := by
  have hj : j < xs.length := by rw [r.length]; simpa using h
  obtain ⟨u, e, q⟩ := r.get (i := j) (x := xs[j]) (by simp [hj])
  refine ⟨xs[j], by simp [hj], ?_⟩
  have : its.toArray[j] = u := by
    have h' : j < its.length := by simpa using h
    simp only [List.getElem_toArray]
    rw [List.getElem?_eq_getElem h'] at e
    exact Option.some.inj e
  rw [this]; exact q
theorem items_eq {A : Around} {s : Shared} {xs ys : List V} {its its2 : List Value} (r : Vals xs its) (r2 : Vals ys its2) (fx : xs.all flatV = true) (fy : ys.all flatV = true) : ∀ j (h1 : j < its.toArray.size) (h2 : j < its2.toArray.size), SeqAt.EqAt A s its.toArray[j] its2.toArray[j] (eqAtJ xs ys j) := by
  intro j h1 h2
  obtain ⟨x, e1, q1⟩ := vals_at r h1
  obtain ⟨y, e2, q2⟩ := vals_at r2 h2
  have : eqAtJ xs ys j = eqV x y := by unfold eqAtJ; rw [e1, e2]
  rw [this]
  exact eqAt_V q1 q2 (all_get fx e1) (all_get fy e2)
theorem op_eqL (hu : X.A.units < cLine) : OpR X (compareOp .Eq) (rEqL X.K false) := by
  intro pins s σ H x y v u Q I rx ry h
  obtain ⟨p, q', xs, ys, rfl, rfl, h1, h2, fx, fy, q⟩ := h
  cases rx; cases ry
  obtain ⟨its, r, pl, hz⟩ := I.list h1
  obtain ⟨its2, r2, pl2, hz2⟩ := I.list h2
  have n1 := r.length
  have n2 := r2.length
  by_cases hl : xs.length = ys.length
  · refine SeqAt.eq_listAt pl.isList pl2.isList (by simp only [List.size_toArray]; omega) hu (items_eq r r2 fx fy) (fin_bl I q ?_)
    rw [List.size_toArray, ← n1, range_eqJ xs ys hl]; rfl
  · refine SeqAt.eq_list_lengthsAt pl.isList pl2.isList (by simp only [List.size_toArray, bne_iff_ne]; omega) hu (fin_bl I q ?_)
    rw [eqLV_len xs ys hl]; rfl
theorem op_neL (hu : X.A.units < cLine) : OpR X (compareOp .NotEq) (rEqL X.K true) := by
  intro pins s σ H x y v u Q I rx ry h
  obtain ⟨p, q', xs, ys, rfl, rfl, h1, h2, fx, fy, q⟩ := h
  cases rx; cases ry
  obtain ⟨its, r, pl, hz⟩ := I.list h1
  obtain ⟨its2, r2, pl2, hz2⟩ := I.list h2
  have n1 := r.length
  have n2 := r2.length
  by_cases hl : xs.length = ys.length
  · refine SeqAt.RcNeAt.lists pl.isList pl2.isList (by simp only [List.size_toArray]; omega) hu (items_eq r r2 fx fy) _ _ _ _ (fin_bl I q ?_)
    rw [List.size_toArray, ← n1, range_eqJ xs ys hl]; rfl
  · refine SeqAt.RcNeAt.lists_lengths pl.isList pl2.isList (by simp only [List.size_toArray, bne_iff_ne]; omega) hu _ _ _ _ (fin_bl I q ?_)
    rw [eqLV_len xs ys hl]; rfl
noncomputable def eqA (x y : D) : Option D := match x, y with
  | .lst l, .lst m => if l.all flatD = true ∧ m.all flatD = true then some (.bl (eqLF l m)) else none
  | x, y => eqD x y
noncomputable def neA (x y : D) : Option D := match x, y with
  | .lst l, .lst m => if l.all flatD = true ∧ m.all flatD = true then some (.bl (!eqLF l m)) else none
  | x, y => neD x y
noncomputable def rEqA (K : Fg) : R2 := fun x y H Q => rEqL K false x y H Q ∨ rEq x y H Q
noncomputable def rNeA (K : Fg) : R2 := fun x y H Q => rEqL K true x y H Q ∨ rNe x y H Q
theorem op_eqA (hu : X.A.units < cLine) : OpR X (compareOp .Eq) (rEqA X.K) := (op_eqL hu).or op_eq
theorem op_neA (hu : X.A.units < cLine) : OpR X (compareOp .NotEq) (rNeA X.K) := (op_neL hu).or op_ne
theorem od_eqA {K : Fg} : OpD K (rEqA K) eqA := by
  intro O H dx dy d vx vy Q ol ix iy e q
  unfold eqA at e
  split at e
  · rename_i l m
    split at e
    · rename_i hf
      cases e
      rw [Is.lst_iff] at ix iy
      obtain ⟨a, xs, rfl, hs, il⟩ := ix
      obtain ⟨b, ys, rfl, hs', il'⟩ := iy
      obtain ⟨f1, f2, f3⟩ := eqLF_ok il il' hf.1 hf.2
      exact .inl ⟨a, b, xs, ys, rfl, rfl, hs.sq, hs'.sq, f1, f2, q _ H (Same.refl H) (by rw [Is.bl_iff, f3]; rfl)⟩
    · cases e
  · exact .inr (od_eq O H dx dy d vx vy Q ol ix iy e q)
theorem od_neA {K : Fg} : OpD K (rNeA K) neA := by
  intro O H dx dy d vx vy Q ol ix iy e q
  unfold neA at e
  split at e
  · rename_i l m
    split at e
    · rename_i hf
      cases e
      rw [Is.lst_iff] at ix iy
      obtain ⟨a, xs, rfl, hs, il⟩ := ix
      obtain ⟨b, ys, rfl, hs', il'⟩ := iy
      obtain ⟨f1, f2, f3⟩ := eqLF_ok il il' hf.1 hf.2
      exact .inl ⟨a, b, xs, ys, rfl, rfl, hs.sq, hs'.sq, f1, f2, q _ H (Same.refl H) (by rw [Is.bl_iff, f3]; rfl)⟩
    · cases e
  · exact .inr (od_ne O H dx dy d vx vy Q ol ix iy e q)
end
section
variable {X : Cx} {a : Expr} {es : List Expr} {f : ME} {fs : ML} {i : Nat} {pos p pn : Pos}
noncomputable abbrev MZ := En → Option (List D × List D)
noncomputable def zP (fs : ML) : MZ := fun r => (fs r).map fun es => ([], es)
noncomputable def lZ (K : Fg) (i : Nat) (f : MZ) : TA := fun σ H Q => ∃ O0 r l ds es, R K O0 H r σ ∧ mtOf r i = some l ∧ f r = some (ds, es) ∧ ∀ vs a us H', Same H H' → σ[i]? = some (some (.ref a)) → IsL K (Ow O0 r σ) H' ds vs → IsL K (Ow O0 r σ) H' es us → Q (vs ++ .ref a :: us) H'
noncomputable def DZ (X : Cx) (i : Nat) (es : List Expr) (f : MZ) : Prop := PA X es (lZ X.K i f)
theorem dz_p {x : Str} (h : PE X (.Name x pn) (tVar i)) (hr : DA X es fs) (hs : starEach (.Name x pn :: es) X.env = (false, eval (.Name x pn) X.env) :: starEach es X.env := by rfl) : DZ X i (.Name x pn :: es) (zP fs) := by
  refine PA.conseq (pa_cons h hr hs) fun σ H Q hq => ?_
  obtain ⟨O0, r, l, ds, us, hR, em, e, q⟩ := hq
  obtain ⟨us', e1, e2⟩ := map_some e
  cases e2
  obtain ⟨c, xs, q1, q2, q3⟩ := mt_at hR em
  exact ⟨.ref c, q1, O0, r, _, hR, e1, fun vs H1 s1 i1 => q [] c vs H1 s1 q1 .nil i1⟩
noncomputable def zArgs (ds : List D) (l : List D) (es : List D) : List Sl := ds.map .v ++ .p l :: es.map .v
theorem zArgs_get {ds l es : List D} {j : Nat} {x : Sl} (e : (zArgs ds l es)[j]? = some x) : (∃ d, x = .v d ∧ (ds ++ .non :: es)[j]? = some d ∧ j ≠ ds.length) ∨ (x = .p l ∧ j = ds.length) := by
  unfold zArgs at e
  by_cases h : j < ds.length
  · rw [List.getElem?_append_left (by simpa using h), List.getElem?_map] at e
    rw [List.getElem?_append_left h]
    cases e1 : ds[j]? with
    | none => rw [e1] at e; cases e
    | some d => rw [e1] at e; cases e; exact .inl ⟨d, rfl, rfl, by omega⟩
  · rw [List.getElem?_append_right (by simpa using h)] at e
    rw [List.getElem?_append_right (by omega)]
    simp only [List.length_map] at e
    cases e2 : j - ds.length with
    | zero => rw [e2] at e; cases e; exact .inr ⟨rfl, by omega⟩
    | succ k =>
      rw [e2, List.getElem?_cons_succ, List.getElem?_map] at e
      rw [List.getElem?_cons_succ]
      cases e1 : es[k]? with
      | none => rw [e1] at e; cases e
      | some d => rw [e1] at e; cases e; exact .inl ⟨d, rfl, rfl, by omega⟩
theorem zArgs_own {ds l es m : List D} {j : Nat} {q : Sl → Option (List D)} (hq : ∀ d, q (.v d) = none) (e : ((zArgs ds l es)[j]?).bind q = some m) : j = ds.length ∧ q (.p l) = some m := by
  obtain ⟨x, e1, e2⟩ := bind_some e
  rcases zArgs_get e1 with ⟨d, rfl, _⟩ | ⟨rfl, h⟩
  · rw [hq] at e2; cases e2
  · exact ⟨h, e2⟩
theorem zVs_get {vs us : List V} {c : Addr} : (vs ++ V.ref c :: us)[vs.length]? = some (.ref c) := by rw [List.getElem?_append_right (Nat.le_refl _), Nat.sub_self]; rfl
theorem zIs_get {K : Fg} {O : Addr → Prop} {H : Hp} {ds es : List D} {vs us : List V} {c : Addr} {j : Nat} {d : D} (h1 : IsL K O H ds vs) (h2 : IsL K O H es us) (e : (ds ++ .non :: es)[j]? = some d) (hj : j ≠ ds.length) : ∃ v, (vs ++ V.ref c :: us)[j]? = some v ∧ Is K O H d v := by
  have hl := h1.length
  by_cases h : j < ds.length
  · rw [List.getElem?_append_left h] at e
    obtain ⟨v, e1, i1⟩ := h1.get e
    exact ⟨v, by rw [List.getElem?_append_left (by omega)]; exact e1, i1⟩
  · rw [List.getElem?_append_right (by omega)] at e
    rw [List.getElem?_append_right (by omega)]
    obtain ⟨k, hk⟩ : ∃ k, j - ds.length = k + 1 := ⟨j - ds.length - 1, by omega⟩
    rw [hk, List.getElem?_cons_succ] at e
    rw [← hl, hk, List.getElem?_cons_succ]
    exact h2.get e
theorem R.zargs {K : Fg} {O : Addr → Prop} {H : Hp} {ds l es : List D} {vs us xs : List V} {c : Addr} (ol : OLst O H) (hc : O c) (ec : H c = some (.lst xs)) (il : IsL K O H l xs) (h1 : IsL K O H ds vs) (h2 : IsL K O H es us) : R K O H (zArgs ds l es) ((vs ++ V.ref c :: us).map some) := by
  have hl := h1.length
  have hl2 := h2.length
  have ow : ∀ b, Ow O (zArgs ds l es) ((vs ++ V.ref c :: us).map some) b → H b ≠ none → O b := fun b z _ => z.elim id fun ⟨j, m, ej, qj⟩ => by
    obtain ⟨rfl, _⟩ := zArgs_own (fun _ => rfl) ej
    rw [List.getElem?_map, hl, zVs_get] at qj
    cases qj; exact hc
  refine ⟨by simp [zArgs, hl, hl2], fun j d e => ?_, fun j m e => ?_, fun j k b m m' e1 e2 q1 q2 => ?_, ol, fun j m b e q => ?_, fun j m b e q => ?_⟩
  · rcases zArgs_get e with ⟨d', e', e2, e3⟩ | ⟨e', _⟩
    · cases e'
      obtain ⟨v, e4, i4⟩ := zIs_get (c := c) h1 h2 e2 e3
      exact ⟨v, by rw [List.getElem?_map, e4]; rfl, Is.mono (Same.kp (Same.refl H) _) ol ow _ _ i4⟩
    · cases e'
  · obtain ⟨rfl, e2⟩ := zArgs_own (fun _ => rfl) e
    cases e2
    exact ⟨c, xs, by rw [List.getElem?_map, hl, zVs_get]; rfl, ec, IsL.mono (Same.kp (Same.refl H) _) ol ow _ _ il⟩
  · rw [(zArgs_own (fun _ => rfl) e1).1, (zArgs_own (fun _ => rfl) e2).1]
  · exfalso
    rcases e with e | e <;> rcases zArgs_get e with ⟨d', e', _⟩ | ⟨e', _⟩ <;> cases e'
  · obtain ⟨rfl, _⟩ := zArgs_own (q := Sl.own) (fun _ => rfl) (m := m) (by rw [e]; rfl)
    rw [List.getElem?_map, hl, zVs_get] at q
    cases q; exact hc
noncomputable def mCallX (n : Nat) (m : MF) (i : Nat) (z : MZ) : En → Option (D × En) := fun r => (mtOf r i).bind fun l => (z r).bind fun q => if q.1.length + 1 + q.2.length = n then (m (zArgs q.1 l q.2)).bind fun p => match p.1 with
  | .v d => match p.2[q.1.length]? with
    | some (.p l') => (putO i l' r).map fun r' => (d, r')
    | _ => none
  | _ => none
  else none
theorem own_put {r r' : En} {σ : St} {l' : List D} {b : Addr} (e : putO i l' r = some r') (h : OwnAt r' σ b) : OwnAt r σ b := by
  obtain ⟨x, y, ex, rfl, yo, ym, ⟨l0, xm⟩, _⟩ := putO_some e
  obtain ⟨j, m, ej, qj⟩ := h
  by_cases hj : j = i
  · subst hj; exact ⟨j, l0, by rw [ex]; exact mt_own xm, qj⟩
  · rw [get_set_ne (fun z => hj z.symm)] at ej; exact ⟨j, m, ej, qj⟩
theorem dx_call {k n : Nat} {fa : Addr} {fd : FuncData} {ps : List Str} {m : MF} {x : Str} {z : MZ} (F : FnOk X.prog X.w X.K X.mg X.base CX0 k fa fd ps (spD X.K n m)) (hr : Room k X.A) (hg : Gl X x) (hm : X.mg x = some (.ref fa)) (hk : PySem.W.keepIn X.K (.ref fa) = true) (hb : Binds X.K fd ps []) (ha : DZ X i (a :: es) z)
    (hdb : (x == ("__debug__" : Str)) = false := by decide) (he : starEach (a :: es) X.env = (false, eval a X.env) :: starEach es X.env := by rfl) (hpl : (backTo pos (starEach es X.env)).any (·.1) = false := by rfl) :
    DX X (.Call (.Name x p) (a :: es) [] pos) (mCallX n m i z) := by
  refine PE.conseq (pe_call (E := fun _ _ _ => False) (dvs := []) F hr hg hm hk hb .nil pass0 ha hdb he hpl) fun σ H Q hq => ?_
  obtain ⟨O0, r, d, r', hR, e, q⟩ := hq
  obtain ⟨l, e1, e⟩ := bind_some e
  obtain ⟨⟨ds, us⟩, e2, e⟩ := bind_some e
  split at e
  · rename_i hn
    obtain ⟨⟨rs, as'⟩, e3, e⟩ := bind_some e
    refine ⟨O0, r, l, ds, us, hR, e1, e2, fun vs c ws H1 s1 hc i1 i2 => ?_⟩
    show spD X.K n m ((vs ++ .ref c :: ws) ++ []) H1 Q _
    rw [List.append_nil]
    have R1 := hR.same s1
    obtain ⟨c', xs, p1, p2, p3⟩ := mt_at R1 e1
    rw [hc] at p1; cases p1
    have hoc : Ow O0 r σ c := by
      obtain ⟨y, z1, z2⟩ := bind_some e1
      exact .inr ⟨i, l, by rw [z1]; exact mt_own z2, hc⟩
    refine ⟨Ow O0 r σ, zArgs ds l us, rs, as', by simp [zArgs]; simp only at hn; omega, R.zargs R1.ol hoc p2 p3 i1 i2, fun j m' => ⟨fun e => ?_, fun e => ?_⟩, e3, ?_⟩
    · rcases zArgs_get e with ⟨d', e', _⟩ | ⟨e', _⟩ <;> cases e'
    · rcases zArgs_get e with ⟨d', e', _⟩ | ⟨e', _⟩ <;> cases e'
    · cases rs with
      | f l => cases e
      | v d' =>
        simp only at e
        split at e
        · rename_i l' ek
          obtain ⟨r2, e5, e6⟩ := map_some e
          have hd1 : d' = d := congrArg Prod.fst e6
          have hr1 : r2 = r' := congrArg Prod.snd e6
          subst hd1 hr1
          refine fun v H2 pf iv => ?_
          have hkk : (zArgs ds l us)[ds.length]? = some (.p l) := by unfold zArgs; rw [List.getElem?_append_right (by simp)]; simp
          obtain ⟨l2, c2, xs2, f1, f2, f3, f4⟩ := pf.par ds.length l hkk
          rw [ek] at f1; cases f1
          rw [i1.length, zVs_get] at f2; cases f2
          have mutc : ∀ b, MutAt (zArgs ds l us) ((vs ++ V.ref c :: ws).map some) b → b = c := fun b ⟨j, m', ej, qj⟩ => by
            obtain ⟨rfl, _⟩ := zArgs_own (fun _ => rfl) ej
            rw [List.getElem?_map, i1.length, zVs_get] at qj
            cases qj; rfl
          obtain ⟨R2, k2⟩ := R1.put e5 hc (fun b o hb eb => pf.keep b o eb fun z => hb (mutc b z)) (fun b hb eb => pf.live b eb) f3 f4
          exact q v H2 R2 ((Kp.of_same r σ s1).trans k2) (Is.mono (Same.kp (Same.refl H2) _) (fun b zb => zb.elim (R2.o0 b) fun zb => by
            obtain ⟨ys, ey⟩ := R1.ol b (.inr zb); exact pf.lst b ys ey) (fun b zb _ => zb.imp id (own_put e5)) _ _ iv)
        · cases e
  · cases e
end
section
variable {es : List Expr} {env : Env} {p : Pos}
theorem stConst {c k} : starEach (.Constant c k p :: es) env = (false, eval (.Constant c k p) env) :: starEach es env := rfl
theorem stName {x} : starEach (.Name x p :: es) env = (false, eval (.Name x p) env) :: starEach es env := rfl
theorem stTuple {l k} : starEach (.Tuple l k p :: es) env = (false, eval (.Tuple l k p) env) :: starEach es env := rfl
theorem stCall {f l k} : starEach (.Call f l k p :: es) env = (false, eval (.Call f l k p) env) :: starEach es env := rfl
theorem stList {l} : starEach (.List l p :: es) env = (false, eval (.List l p) env) :: starEach es env := rfl
theorem stSub {a b} : starEach (.Subscript a b p :: es) env = (false, eval (.Subscript a b p) env) :: starEach es env := rfl
theorem stBin {a o b} : starEach (.BinOp a o b p :: es) env = (false, eval (.BinOp a o b p) env) :: starEach es env := rfl
end
noncomputable def litS : List Expr → Option (List (List Nat))
  | [] => some []
  | .Constant (.str x) _ _ :: es => (litS es).map (x.cps.toList :: ·)
  | _ => none
noncomputable def mLit (ss : List (List Nat)) : ML := fun _ => some (ss.map D.str)
theorem da_strs {X : Cx} : ∀ {es : List Expr} {ss : List (List Nat)}, litS es = some ss → DA X es (mLit ss)
  | [], ss, h => by
    cases h; exact da_nil
  | e :: es, ss, h => by
    cases e <;> first | (simp only [litS, reduceCtorEq] at h; done) | skip
    rename_i c j p
    cases c <;> first | (simp only [litS, reduceCtorEq] at h; done) | skip
    rename_i x
    simp only [litS] at h
    obtain ⟨ss', e1, rfl⟩ := map_some h
    exact da_cons (f := mC (.str x.cps.toList)) (fs := mLit ss') (de_str rfl) (da_strs e1) (hs := stConst)
section
variable {X : Cx} {pos : Pos} {a b tg : Expr} {f g : ME}
noncomputable def sNever : MS := fun _ => none
theorem ds_never {st : Stmt} : DS X st sNever := fun _ _ _ _ _ _ q => by
  obtain ⟨O0, r, fl, hR, e, q⟩ := q
  cases e
noncomputable def Its (x : Str) : It := ⟨fun i _ => i < x.cps.size, fun i H v H' => H' = H ∧ ∃ c, x.cps[i]? = some c ∧ v = .str ⟨#[c]⟩, fun i _ => x.cps.size ≤ i⟩
theorem turn_str {P : Program} {w : World} {K : Fg} (x : Str) (t : Tok) (it : Addr) : Turn P w K tg (Its x) [it] it (fun i h => h.IsStrIter it (strIterType x) x t i) where
  mem := by simp
  obj := fun i h st b hb => by
    obtain rfl : b = it := by simpa using hb
    obtain ⟨o, e, c, d⟩ := st
    exact ⟨o, e, fun v z => by rw [d] at z; cases z⟩
  keep := fun i h h' st k => by
    obtain ⟨o, e, c, d⟩ := st
    exact ⟨o, k it (by simp) o e, c, d⟩
  item := by
    intro X hP hw hK hc i pins s σ H E I hf st hg
    subst hP hw hK
    obtain ⟨f0, f1, f2, f3, f4, f5⟩ := hf it (by simp)
    have hg : i < x.cps.size := hg
    have hx : x.cps[i]? = some (x.cps[i]'hg) := Array.getElem?_eq_getElem hg
    have fin : ∀ h', h'.IsStrIter it (strIterType x) x t (i + 1) → Heap.SameBut it s.heap h' → ∃ u, some (Value.str ⟨#[x.cps[i]'hg]⟩ s.toks) = some u ∧
        wpAny (model X.prog X.w) X.A (letOwnedTupleGo tg (.ref it) u) (fun _ s2 => ∃ x' H', Inv X pins σ H' s2 ∧ RelV x' u ∧ (Its x).yld i H x' H' ∧ s2.heap.IsStrIter it (strIterType x) x t (i + 1) ∧ ∀ b ∈ [it], H' b = none) E { s with heap := h', toks := s.toks + 1 } := fun h' st' sb => by
      have I1 : Inv X pins σ H { s with heap := h', toks := s.toks + 1 } := I.turned (t' := s.toks + 1) (fun b o hb e => (sb.2 b hb).trans e) f0 f1 f3 f4 f5
      obtain ⟨o, e, c, d⟩ := id st'
      refine ⟨_, rfl, go_of (s := { s with heap := h', toks := s.toks + 1 }) e c d ?_ ⟨.str ⟨#[x.cps[i]'hg]⟩, H, I1, ⟨_, rfl⟩, ⟨rfl, _, hx, rfl⟩, st', fun b hb => (hf b hb).1⟩⟩
      unfold strIterType
      split <;> decide
    rcases ha : x.cps.all (· < 128) with _ | _
    · have ht : strIterType x = "str_iterator" := by unfold strIterType; rw [ha]; rfl
      rw [ht] at st
      exact wpAny_pyNext_wide_item st hx fun h' st' sb => fin h' (by rw [ht]; exact st') sb
    · have ht : strIterType x = "str_ascii_iterator" := by unfold strIterType; rw [ha]; rfl
      rw [ht] at st
      exact wpAny_pyNext_ascii_item st hx fun h' st' sb => fin h' (by rw [ht]; exact st') sb
  done := by
    intro X hP hw hK hc i pins s σ H E I hf st hg
    subst hP hw hK
    obtain ⟨f0, f1, f2, f3, f4, f5⟩ := hf it (by simp)
    have hx : x.cps[i]? = none := by
      have : x.cps.size ≤ i := hg
      simp [this]
    rcases ha : x.cps.all (· < 128) with _ | _
    · have ht : strIterType x = "str_iterator" := by unfold strIterType; rw [ha]; rfl
      rw [ht] at st
      exact wpAny_pyNext_wide_end (I.ok.hd hc) st hx fun h' eb => ⟨rfl, I.turned (t' := s.toks) (fun b o hb e => eb b o hb e) f0 f1 f3 f4 f5⟩
    · have ht : strIterType x = "str_ascii_iterator" := by unfold strIterType; rw [ha]; rfl
      rw [ht] at st
      exact wpAny_pyNext_ascii_end (I.ok.hd hc) st hx fun h' eb => ⟨rfl, I.turned (t' := s.toks) (fun b o hb e => eb b o hb e) f0 f1 f3 f4 f5⟩
  self := fun A i s Q E st h => by
    rcases ha : x.cps.all (· < 128) with _ | _
    · have ht : strIterType x = "str_iterator" := by unfold strIterType; rw [ha]; rfl
      rw [ht] at st
      exact wpAny_pyIter_striter_wide st h
    · have ht : strIterType x = "str_ascii_iterator" := by unfold strIterType; rw [ha]; rfl
      rw [ht] at st
      exact wpAny_pyIter_striter_ascii st h
noncomputable def signsD : D → Option (List D)
  | .str s => some (s.map fun c => .str [c])
  | _ => none
noncomputable def mItS (f : ME) : ML := fun r => (f r).bind signsD
theorem yl_str {K : Fg} {O M : Addr → Prop} {H : Hp} (s : List Nat) : Ylds K O M H (Its ⟨s.toArray⟩) (s.map fun c => .str [c]) := by
  intro i H1 O' kp oo
  refine ⟨fun hi => ⟨by rw [List.length_map] at hi; show i < s.toArray.size; simpa using hi, fun x H' y => ?_⟩, fun hi => by rw [List.length_map] at hi; show s.toArray.size ≤ i; simp; omega⟩
  obtain ⟨rfl, c, ec, rfl⟩ := y
  refine ⟨Same.refl _, fun d e => ?_⟩
  rw [List.getElem?_map] at e
  have ec' : s[i]? = some c := by simpa using ec
  rw [ec'] at e
  cases e
  rw [Is.str_iff]
theorem di_str (hl : DE X a f) : DI X tg a (mItS f) := by
  intro pins s σ H Rr I h
  obtain ⟨O0, r, ds, hR, e, q⟩ := h
  obtain ⟨d, e1, e2⟩ := bind_some e
  cases d <;> first | (cases e2; done) | skip
  rename_i y
  cases e2
  refine thn (hl pins s σ H (fun v H1 => Same H H1 ∧ v = .str ⟨y.toArray⟩) I ⟨O0, r, _, hR, e1, fun v H1 s1 i1 => ⟨s1, by rw [Is.str_iff] at i1; exact i1⟩⟩) fun v s1 ⟨x, H1, I1, r1, s1', ex⟩ => ?_
  subst ex
  obtain ⟨t, rfl⟩ := r1
  refine wpAny_pyIter_strU ?_
  refine ⟨s1.heap.objs.size, [s1.heap.objs.size], _, _, H1, rfl, I1.kept (t' := s1.toks) fun b o e => Heap.get?_push_of_some _ e, turn_str _ t _, ⟨_, Heap.get?_push_size _ rfl, rfl, rfl⟩, fun b hb => ?_, q _ H1 s1' (yl_str y)⟩
  obtain rfl : b = s1.heap.objs.size := by simpa using hb
  exact I1.fpOk (Nat.le_refl _) (I1.hok.fresh (Nat.le_refl _))
noncomputable def blsD : List D → Option (List Bool)
  | [] => some []
  | .bl i :: r => (blsD r).map (i :: ·)
  | _ => none
noncomputable def mAll (fl : ML) : ME := fun r => (fl r).bind fun l => (blsD l).map fun bs => .bl (bs.all id)
theorem blsD_ok {K : Fg} {O : Addr → Prop} {H : Hp} : ∀ {l : List D} {ns : List Bool} {vs : List V}, blsD l = some ns → IsL K O H l vs → vs = ns.map V.bl
  | [], ns, vs, e, il => by cases e; unfold IsL at il; subst il; rfl
  | d :: l, ns, vs, e, il => by
    unfold IsL at il
    obtain ⟨v, r, rfl, i1, i2⟩ := il
    cases d <;> first | (simp only [blsD, reduceCtorEq] at e; done) | skip
    simp only [blsD] at e
    obtain ⟨ms, e1, rfl⟩ := map_some e
    rw [Is.bl_iff] at i1
    rw [i1, blsD_ok e1 i2]; rfl
theorem call_allB (hc : X.calm = true) : CallR X (.builtin "all") (fun xs H Q => ∃ (p : Addr) (bs : List Bool), xs = [.ref p] ∧ SqL X.K H p (bs.map V.bl) ∧ Q (.bl (bs.all id)) H) := by
  intro pins s σ H xs us Q I r hq
  obtain ⟨p, bs, rfl, hS, q⟩ := hq
  obtain ⟨u, rfl, ru⟩ := Vals.one r
  cases ru
  obtain ⟨its, rv, pl, hz⟩ := I.list hS
  have hl := pl.isList
  have hlt : p < s.heap.objs.size := by obtain ⟨_, e, _⟩ := hl; exact Heap.lt_size e
  have ln : its.length = bs.length := by have := rv.length; rw [List.length_map] at this; exact this.symm
  refine call_all_walk (wpAny_pyIter_list hl ?_); refine ⟨s.heap.objs.size, [s.heap.objs.size, p], [s.heap.objs.size], its.toArray.size, _, _, fun i => (bs[i]?).getD true, rfl, Walks.list (A := X.A.in1) (I.ok.hd hc) _ p (Nat.ne_of_lt hlt) its.toArray, ⟨⟨_, Heap.get?_push_size _ rfl, rfl, rfl⟩, hl.push _⟩, fun i v s' Q' E' hP hQ => ?_, fun h' tk hk => ?_⟩
  · have hv : its[i]? = some v := by simpa using hP
    have hi : i < bs.length := by have := (List.getElem?_eq_some_iff.mp hv).1; omega
    have e : bs[i]? = some (bs[i]'hi) := List.getElem?_eq_getElem hi
    obtain ⟨w', e1, e2⟩ := rv.get (i := i) (x := .bl (bs[i]'hi)) (by rw [List.getElem?_map, e]; rfl)
    rw [hv] at e1
    cases e1
    obtain rfl : v = .bool (bs[i]'hi) := e2
    simp only [Option.getD_some, e] at hQ
    exact wpAny_truthy_bool hQ
  · have e : ((List.range its.toArray.size).all fun i => (bs[i]?).getD true) = bs.all id := by
      rw [List.size_toArray, ln]; exact LSm.range_all bs
    rw [e]
    exact ⟨.bl _, H, I.kept (LSm.kept_iter hk), rfl, q⟩
theorem de_all {p' : Pos} {fl : ML} (hg : Gl X "all") (hm : X.mg "all" = none) (ha : DB X a fl) (hc : X.calm = true := by rfl)
    (hs : starEach [a] X.env = (false, eval a X.env) :: starEach [] X.env := by rfl) : DE X (.Call (.Name "all" p') [a] [] pos) (mAll fl) := by
  refine PE.conseq (pe_callB (call_allB hc) hg hm PyProof.Rows.boot_all (pa_cons ha pa_nil hs) (he := hs)) fun σ H Q hq => ?_
  obtain ⟨O0, r, d, hR, e, q⟩ := hq
  obtain ⟨l, e1, e2⟩ := bind_some e
  obtain ⟨bs, e3, rfl⟩ := map_some e2
  refine ⟨O0, r, l, hR, e1, fun p xs H1 s1 sq il => ?_⟩
  have ex := blsD_ok e3 il
  subst ex
  exact ⟨p, bs, rfl, sq, q _ H1 s1 (by rw [Is.bl_iff])⟩
noncomputable def intOfD : D → Option D
  | .str s => if s ≠ [] ∧ s.length ≤ 600 ∧ (s.all fun c => decide (48 ≤ c) && decide (c ≤ 57)) = true then some (.int (PySem.NumText.digitsVal s : Nat)) else none
  | _ => none
theorem call_intS : CallR X (.type "int") (fun xs H Q => ∃ s : List Nat, xs = [.str ⟨s.toArray⟩] ∧ s ≠ [] ∧ s.length ≤ 600 ∧ (s.all fun c => decide (48 ≤ c) && decide (c ≤ 57)) = true ∧ Q (.int (PySem.NumText.digitsVal s : Nat)) H) := by
  intro pins s σ H xs us Q I r hq
  obtain ⟨y, rfl, y0, y1, y2, q⟩ := hq
  obtain ⟨u, rfl, t, rfl⟩ := Vals.one r
  have hd : PySem.NumText.AllDigits y := fun c hc => by
    have := List.all_eq_true.mp y2 c hc
    simpa using this
  refine PySem.W.KIN.call_text (n := (PySem.NumText.digitsVal y : Nat)) ?_ ?_ ⟨.int _, H, I.tok _, ⟨_, rfl⟩, q⟩
  · have := PySem.intText_digits (x := ⟨y.toArray⟩) (by simpa using hd) (by simpa using y0) (by rw [str_len]; omega)
    simpa using this
  · rw [str_len]; omega
theorem de_intOf {p' : Pos} (hg : Gl X "int") (hm : X.mg "int" = none) (ha : DE X a f) (hs : starEach [a] X.env = (false, eval a X.env) :: starEach [] X.env := by rfl) : DE X (.Call (.Name "int" p') [a] [] pos) (mUn intOfD f) := by
  refine PE.conseq (pe_callTy call_intS hg hm PyProof.Rows.boot_int (pa_cons ha pa_nil hs) (he := hs)) fun σ H Q hq => ?_
  obtain ⟨O0, r, d, hR, e, q⟩ := hq
  obtain ⟨x, e1, e2⟩ := bind_some e
  refine ⟨O0, r, x, hR, e1, fun v H1 s1 i1 => ?_⟩
  cases x <;> first | (simp only [intOfD, reduceCtorEq] at e2; done) | skip
  simp only [intOfD] at e2
  split at e2
  · rename_i hl
    cases e2
    rw [Is.str_iff] at i1
    exact ⟨_, by rw [i1], hl.1, hl.2.1, hl.2.2, q _ H1 s1 (by rw [Is.int_iff])⟩
  · cases e2
theorem de_gint {x : Str} {i : Int} (h : ∃ t, X.mg x = some (.int i t)) (hg : Gl X x) (hd : (x == ("__debug__" : Str)) = false := by decide) : DE X (.Name x pos) (mC (.int i)) := by
  obtain ⟨t, h⟩ := h
  exact de_con (pe_glob (v := .int i) hg h ⟨t, rfl⟩ hd) fun O H => by rw [Is.int_iff]
noncomputable def GTup (mg : Str → Option Value) (K : Fg) (x : Str) (ss : List (List Nat)) : Prop := ∃ (p : Addr) (o : Obj) (its : Array Value) (n : Nat), mg x = some (.ref p) ∧ K.lookup p = some o ∧ o.cls = .type "tuple" ∧ o.data = .seq its n ∧ its.size ≤ sizeLine ∧ Vals (ss.map fun s => V.str ⟨s.toArray⟩) its.toList
theorem isl_strs {K : Fg} {O : Addr → Prop} {H : Hp} : ∀ ss : List (List Nat), IsL K O H (ss.map D.str) (ss.map fun s => V.str ⟨s.toArray⟩)
  | [] => IsL.nil
  | s :: ss => .cons (by rw [Is.str_iff]) (isl_strs ss)
theorem de_gtup {x : Str} {ss : List (List Nat)} (h : GTup X.mg X.K x ss) (hg : Gl X x) (hd : (x == ("__debug__" : Str)) = false := by decide) : DE X (.Name x pos) (mC (.tup (ss.map D.str))) := by
  obtain ⟨p, o, its, n, h1, h2, h3, h4, h5, h6⟩ := h
  refine de_con (pe_glob (v := .ref p) hg h1 rfl hd) fun O H => ?_
  rw [Is.tup_iff]
  exact ⟨p, _, rfl, .inr ⟨o, its, n, h2, h3, h4, h5, h6⟩, isl_strs ss⟩
noncomputable def Ent (e : DictEntry) (q : List Nat × List Nat) : Prop := ∃ t u, e.key = .str ⟨q.1.toArray⟩ t ∧ e.val = .str ⟨q.2.toArray⟩ u
noncomputable def Ents : List DictEntry → List (List Nat × List Nat) → Prop
  | [], l => l = []
  | e :: es, l => ∃ q r, l = q :: r ∧ Ent e q ∧ Ents es r
noncomputable def GDict (mg : Str → Option Value) (K : Fg) (Ps : Params) (x : Str) (tbl : List (List Nat × List Nat)) : Prop := ∃ (p : Addr) (es : Array DictEntry) (n : Nat), mg x = some (.ref p) ∧ (p == sysModules) = false ∧ K.lookup p = some ⟨.type "dict", none, .dict es n, #[]⟩ ∧ PySem.W.KeysLit Ps es.toList ∧ Ents es.toList tbl
noncomputable def look (tbl : List (List Nat × List Nat)) (s : List Nat) : Option (List Nat) := (tbl.find? fun q => decide (q.1 = s)).map (·.2)
theorem ents_find : ∀ {es : List DictEntry} {tbl : List (List Nat × List Nat)} (s : List Nat), Ents es tbl → match look tbl s with
    | some v => ∃ u, (es.find? fun d => Value.isStrOf ⟨s.toArray⟩ d.key).map (·.val) = some (.str ⟨v.toArray⟩ u)
    | none => (es.find? fun d => Value.isStrOf ⟨s.toArray⟩ d.key).map (·.val) = none
  | [], tbl, s, h => by unfold Ents at h; subst h; rfl
  | e :: es, tbl, s, h => by
    unfold Ents at h
    obtain ⟨q, r, rfl, ⟨t, u, h1, h2⟩, h3⟩ := h
    have ih := ents_find s h3
    have k : Value.isStrOf (⟨s.toArray⟩ : Str) e.key = decide (q.1 = s) := by
      rw [h1]
      show ((⟨q.1.toArray⟩ : Str) == ⟨s.toArray⟩) = _
      by_cases c : q.1 = s
      · rw [decide_eq_true c, c]; simp
      · rw [decide_eq_false c]
        refine beq_eq_false_iff_ne.mpr fun z => c ?_
        have z2 := congrArg (fun x : Str => x.cps.toList) z
        simpa using z2
    unfold look at ih ⊢
    rw [List.find?_cons, List.find?_cons, k]
    cases hc : decide (q.1 = s)
    · exact ih
    · exact ⟨u, by rw [Option.map_some, h2]⟩
theorem gd_map {Ps : Params} {x : Str} {tbl : List (List Nat × List Nat)} {pins : List (Addr × Obj)} {σ : St} {H : Hp} {s : Shared} {p : Addr} {es : Array DictEntry} {n : Nat} (I : Inv X pins σ H s) (hl : X.K.lookup p = some ⟨.type "dict", none, .dict es n, #[]⟩) (hk : PySem.W.KeysLit X.w.params es.toList) : s.heap.MapOf (strKind X.prog X.w) p (fun k => findBy Value.isStrOf es k) := PySem.W.mapOf_K (I.mod.kin.keeps I.bk) hl hk
noncomputable def rHas (p : Addr) (tbl : List (List Nat × List Nat)) (neg : Bool) : R2 := fun x y H Q => ∃ s : List Nat, x = .str ⟨s.toArray⟩ ∧ y = .ref p ∧ Q (.bl (if neg then !(look tbl s).isSome else (look tbl s).isSome)) H
theorem find_toArr (es : Array DictEntry) (k : Str) : findBy Value.isStrOf es k = (es.toList.find? fun d => Value.isStrOf k d.key).map (·.val) := by
  obtain ⟨l⟩ := es
  unfold findBy
  rw [List.find?_toArray]
theorem has_look {es : Array DictEntry} {tbl : List (List Nat × List Nat)} (s : List Nat) (h : Ents es.toList tbl) : (findBy Value.isStrOf es ⟨s.toArray⟩).isSome = (look tbl s).isSome := by
  have q := ents_find s h
  rw [find_toArr]
  cases e : look tbl s with
  | none => rw [e] at q; rw [q]; rfl
  | some v => rw [e] at q; obtain ⟨u, q⟩ := q; rw [q]; rfl
theorem op_notHas {p : Addr} {tbl : List (List Nat × List Nat)} {es : Array DictEntry} {n : Nat} (hp : (p == sysModules) = false) (hl : X.K.lookup p = some ⟨.type "dict", none, .dict es n, #[]⟩) (hk : PySem.W.KeysLit X.w.params es.toList) (he : Ents es.toList tbl) : OpR X (compareOp .NotIn) (rHas p tbl true) := by
  intro pins s σ H x y v u Q I rx ry h
  obtain ⟨z, rfl, rfl, q⟩ := h
  obtain ⟨t, rfl⟩ := rx
  cases ry
  refine wpAny_notIn_of (strKind_is _ _ _ t) hp (gd_map (tbl := tbl) (Ps := X.w.params) (x := "") I hl hk) ⟨.bl _, H, I.tok _, rfl, ?_⟩
  simp only [has_look z he]
  exact q
noncomputable def hasT (tbl : List (List Nat × List Nat)) (neg : Bool) : D → Option D
  | .str s => some (.bl (if neg then !(look tbl s).isSome else (look tbl s).isSome))
  | _ => none
noncomputable def hasB (p : Addr) (tbl : List (List Nat × List Nat)) (neg : Bool) (x y : D) : Option D := match y with
  | .ref b => if b = p then hasT tbl neg x else none
  | _ => none
theorem od_has (p : Addr) (tbl : List (List Nat × List Nat)) (neg : Bool) : OpD X.K (rHas p tbl neg) (hasB p tbl neg) := by
  intro O H dx dy d vx vy Q ol ix iy e q
  cases dy <;> first | (simp only [hasB, reduceCtorEq] at e; done) | skip
  simp only [hasB] at e
  split at e
  · rename_i hb
    subst hb
    cases dx <;> first | (simp only [hasT, reduceCtorEq] at e; done) | skip
    simp only [hasT, Option.some.injEq] at e
    subst e
    rw [Is.str_iff] at ix
    rw [Is.ref_iff] at iy
    exact ⟨_, ix, iy, q _ H (Same.refl H) (by rw [Is.bl_iff])⟩
  · cases e
theorem de_gref {x : Str} {p : Addr} (h : X.mg x = some (.ref p)) (hg : Gl X x) (hd : (x == ("__debug__" : Str)) = false := by decide) : DE X (.Name x pos) (mC (.ref p)) :=
  de_con (pe_glob (v := .ref p) hg h rfl hd) fun O H => by rw [Is.ref_iff]
theorem mB_has {p : Addr} {tbl : List (List Nat × List Nat)} {neg : Bool} : mBin (hasB p tbl neg) f (mC (.ref p)) = mUn (hasT tbl neg) f := by
  funext r
  unfold mBin mUn mC
  cases f r with
  | none => rfl
  | some x => exact if_pos rfl
theorem dt_notHas {x : Str} {tbl : List (List Nat × List Nat)} {p' : Pos} (h : GDict X.mg X.K X.w.params x tbl) (hg : Gl X x) (ha : DE X a f) (hm : behindInMarks .NotIn (.Name x p') = false := by rfl) (hd : (x == ("__debug__" : Str)) = false := by decide) : DT X (.Compare a [.NotIn] [.Name x p'] pos) (mBl (mUn (hasT tbl true) f)) := by
  obtain ⟨p, es, n, h1, h2, h3, h4, h5⟩ := h
  rw [← mB_has (p := p)]
  exact dt_cmp (op_notHas h2 h3 h4 h5) (od_has p tbl true) ha (de_gref h1 hg hd) hm
noncomputable def rAt (p : Addr) (tbl : List (List Nat × List Nat)) : R2 := fun x y H Q => ∃ s v : List Nat, x = .ref p ∧ y = .str ⟨s.toArray⟩ ∧ look tbl s = some v ∧ Q (.str ⟨v.toArray⟩) H
theorem ix_gd {p : Addr} {tbl : List (List Nat × List Nat)} {es : Array DictEntry} {n : Nat} (hl : X.K.lookup p = some ⟨.type "dict", none, .dict es n, #[]⟩) (hk : PySem.W.KeysLit X.w.params es.toList) (he : Ents es.toList tbl) : IxR X (rAt p tbl) := by
  intro value slice pins s σ H x y v u Q I rx ry h hs
  obtain ⟨z, c, rfl, rfl, e, q⟩ := h
  cases rx
  obtain ⟨t, rfl⟩ := ry
  have hmap := gd_map (tbl := tbl) (Ps := X.w.params) (x := "") I hl hk
  have fnd := ents_find z he
  rw [e] at fnd
  obtain ⟨u', fnd⟩ := fnd
  rw [← find_toArr] at fnd
  exact subscriptTail_builtinR (x := .str ⟨c.toArray⟩ u') hmap.typeIs slot_dict_getitem.lookup (wpAny_getItem_of (Q := fun r s' => r = Value.str ⟨c.toArray⟩ u' ∧ EP X pins σ Q r s') (strKind_is _ _ _ t) hmap fnd ⟨rfl, .str ⟨c.toArray⟩, H, I.tok _, ⟨u', rfl⟩, q⟩) hs
noncomputable def atT (tbl : List (List Nat × List Nat)) : D → Option D
  | .str s => (look tbl s).map .str
  | _ => none
theorem de_gat {x : Str} {tbl : List (List Nat × List Nat)} {p' : Pos} (h : GDict X.mg X.K X.w.params x tbl) (hg : Gl X x) (hb : DE X b f) (hs : PlainIx b := by intro _ _; rfl) (hd : (x == ("__debug__" : Str)) = false := by decide) : DE X (.Subscript (.Name x p') b pos) (mUn (atT tbl) f) := by
  obtain ⟨p, es, n, h1, h2, h3, h4, h5⟩ := h
  refine PE.conseq (pe_ix (ix_gd h3 h4 h5) (de_gref (p := p) h1 hg hd) hb hs) fun σ H Q hq => ?_
  obtain ⟨O0, r, d, hR, e, q⟩ := hq
  obtain ⟨k, e1, e2⟩ := bind_some e
  cases k <;> first | (simp only [atT, reduceCtorEq] at e2; done) | skip
  simp only [atT] at e2
  obtain ⟨v, e3, rfl⟩ := map_some e2
  refine ⟨O0, r, _, hR, rfl, fun v1 H1 s1 i1 => ⟨O0, r, _, hR.same s1, e1, fun v2 H2 s2 i2 => ?_⟩⟩
  rw [Is.ref_iff] at i1
  rw [Is.str_iff] at i2
  exact ⟨_, v, i1, i2, e3, q _ H2 (s1.trans s2) (by rw [Is.str_iff])⟩
end
open Builtin.Str
section
variable {X : Cx} {pos pn apos cpos : Pos} {a b e : Expr} {f g : ME}
noncomputable def intBD : D → Option D
  | .bl b => some (.int (if b then 1 else 0))
  | _ => none
theorem call_intB : CallR X (.type "int") (fun xs H Q => ∃ b : Bool, xs = [.bl b] ∧ Q (.int (if b then 1 else 0)) H) := by
  intro pins s σ H xs us Q I r hq
  obtain ⟨y, rfl, q⟩ := hq
  obtain ⟨u, rfl, ru⟩ := Vals.one r
  obtain rfl : u = .bool y := ru
  exact call_int_bool ⟨.int _, H, I.tok _, ⟨_, rfl⟩, q⟩
theorem de_intB {p' : Pos} (hg : Gl X "int") (hm : X.mg "int" = none) (ha : DE X a f) (hs : starEach [a] X.env = (false, eval a X.env) :: starEach [] X.env := by rfl) : DE X (.Call (.Name "int" p') [a] [] pos) (mUn intBD f) := by
  refine PE.conseq (pe_callTy call_intB hg hm PyProof.Rows.boot_int (pa_cons ha pa_nil hs) (he := hs)) fun σ H Q hq => ?_
  obtain ⟨O0, r, d, hR, e, q⟩ := hq
  obtain ⟨x, e1, e2⟩ := bind_some e
  refine ⟨O0, r, x, hR, e1, fun v H1 s1 i1 => ?_⟩
  cases x <;> first | (simp only [intBD, reduceCtorEq] at e2; done) | skip
  cases e2
  rw [Is.bl_iff] at i1
  exact ⟨_, by rw [i1], q _ H1 s1 (by rw [Is.int_iff])⟩
noncomputable abbrev MJ := En → Option (List (List Nat))
noncomputable def jNil : MJ := fun _ => some []
noncomputable def jE (f : ME) (g : MJ) : MJ := fun r => (f r).bind fun d => match d with
  | .str s => (g r).map (s :: ·)
  | _ => none
noncomputable def lJ (K : Fg) (f : MJ) (out : Str) : TE := fun σ H Q => ∃ O0 r l, R K O0 H r σ ∧ f r = some l ∧ out.length + (l.map List.length).sum ≤ sizeLine ∧ ∀ H', Same H H' → Q (.str (out ++ ⟨l.flatten.toArray⟩)) H'
noncomputable def DJ (X : Cx) (es : List Expr) (f : MJ) : Prop := ∀ (pins : List (Addr × Obj)) (s : Shared) (σ : St) (H : Hp) (Q : VK) (out : Str), Inv X pins σ H s → lJ X.K f out σ H Q → wpAny (model X.prog X.w) X.A (joinParts out (evalEach es X.env)) (EP X pins σ Q) X.xe s
theorem str_app0 (x : Str) : x ++ (⟨([] : List Nat).toArray⟩ : Str) = x := by
  show (⟨x.cps ++ #[]⟩ : Str) = x
  simp
theorem dj_nil : DJ X [] jNil := by
  intro pins s σ H Q out I h
  obtain ⟨O0, r, l, hR, e, hl, q⟩ := h
  cases e
  have q' := q H (Same.refl H)
  rw [List.flatten_nil, str_app0] at q'
  exact joinParts_nil ⟨.str out, H, I.tok _, ⟨_, rfl⟩, q'⟩ (by simpa using hl)
theorem app_cons (x : Str) (y z : List Nat) : (x ++ (⟨y.toArray⟩ : Str)) ++ (⟨z.toArray⟩ : Str) = x ++ (⟨(y ++ z).toArray⟩ : Str) := by
  show (⟨(x.cps ++ y.toArray) ++ z.toArray⟩ : Str) = ⟨x.cps ++ (y ++ z).toArray⟩
  simp
theorem app_len (x : Str) (y : List Nat) : (x ++ (⟨y.toArray⟩ : Str)).length = x.length + y.length := by
  show (x.cps ++ y.toArray).size = x.cps.size + y.length
  simp
theorem dj_of {es : List Expr} {gj : MJ} (heval : ∀ (pins : List (Addr × Obj)) (s : Shared) (σ : St) (H : Hp) (Q : VK), Inv X pins σ H s → lE X.K f σ H (fun v H1 => ∃ x : Str, v = .str x ∧ x.length ≤ sizeLine ∧ Q v H1) → wpAny (model X.prog X.w) X.A (eval a X.env) (EP X pins σ Q) X.xe s) (h2 : DJ X es gj) : DJ X (a :: es) (jE f gj) := by
  intro pins s σ H Q out I h
  obtain ⟨O0, r, l, hR, e, hl, q⟩ := h
  obtain ⟨d, e1, e2⟩ := bind_some e
  cases d <;> first | (cases e2; done) | skip
  rename_i y
  simp only at e2
  obtain ⟨t, e3, rfl⟩ := map_some e2
  rw [List.map_cons, List.sum_cons] at hl
  refine joinParts_cons (wpAny_mono (heval pins s σ H (fun v H1 => Same H H1 ∧ v = .str ⟨y.toArray⟩) I ⟨O0, r, _, hR, e1, fun v H1 s1 i1 => ?_⟩) (fun v s1 ⟨x, H1, I1, r1, sm, ex⟩ => ?_) fun _ _ z => z)
  · rw [Is.str_iff] at i1
    exact ⟨_, i1, by rw [str_len]; omega, s1, i1⟩
  · subst ex
    obtain ⟨tk, rfl⟩ := r1
    refine ⟨by rw [app_len]; omega, h2 pins s1 σ H1 Q _ I1 ⟨O0, r, t, hR.same sm, e3, by rw [app_len]; omega, fun H' s' => ?_⟩⟩
    rw [app_cons]
    exact q H' (sm.trans s')
theorem dj_c {es : List Expr} {gj : MJ} (h : DE X a f) (h2 : DJ X es gj) : DJ X (a :: es) (jE f gj) := dj_of (fun pins s σ H Q I ⟨O0, r, d, hR, e, q⟩ => h pins s σ H Q I ⟨O0, r, d, hR, e, fun v H1 s1 i1 => (q v H1 s1 i1).elim fun _ z => z.2.2⟩) h2
noncomputable def mFstr (g : MJ) : ME := fun r => (g r).bind fun l => if (l.map List.length).sum ≤ sizeLine then some (.str l.flatten) else none
theorem de_fstr {v1 v2 : Expr} {rest : List Expr} {gj : MJ} (h : DJ X (v1 :: v2 :: rest) gj) : DE X (.JoinedStr (v1 :: v2 :: rest) pos) (mFstr gj) := by
  intro pins s σ H Q I hq
  obtain ⟨O0, r, d, hR, e, q⟩ := hq
  obtain ⟨l, e1, e2⟩ := bind_some e
  split at e2
  · rename_i hl
    cases e2
    refine JoinedStr_many (h pins s σ H Q Str.empty I ⟨O0, r, l, hR, e1, by show 0 + _ ≤ _; omega, fun H' s' => ?_⟩)
    have e0 : (Str.empty ++ (⟨l.flatten.toArray⟩ : Str)) = ⟨l.flatten.toArray⟩ := by
      show (⟨#[] ++ l.flatten.toArray⟩ : Str) = _
      simp
    rw [e0]
    exact q _ H' s' (by rw [Is.str_iff])
  · cases e2
end
end DD
namespace TS
open PySem PyProof.Rows
open PySem PyProof.Rows
open PySem PyProof.Rows
open PySem PyProof.Rows
open PySem PyProof.Rows
open PySem PyProof.Rows
open PySem PyProof.Rows
open PySem PyProof.Rows
open PySem PyProof.Rows
open PySem PyProof.Rows PySem.W
end TS
namespace DD
open PySem PySem.Spec PyProof.Rows L2
noncomputable def ltA : D → D → Option D
  | .int i, .int j => some (.bl (decide (i < j)))
  | .str s, .str t => some (.bl (decide (s < t)))
  | _, _ => none
section
variable {X : Cx}
theorem op_ltS : OpR X (compareOp .Lt) (fun x y H Q => ∃ i j, x = .str i ∧ y = .str j ∧ Q (.bl (decide (i.cps.toList < j.cps.toList))) H) := by
  intro pins s σ H x y v u Q I rx ry hq
  obtain ⟨i, j, rfl, rfl, q⟩ := hq
  obtain ⟨t, rfl⟩ := rx
  obtain ⟨t', rfl⟩ := ry
  exact PySem.P.lt_str ⟨.bl _, H, I, rfl, q⟩
noncomputable def rLtA : R2 := fun x y H Q => rI0 (fun i j => .bl (decide (i < j))) x y H Q ∨ ∃ i j, x = .str i ∧ y = .str j ∧ Q (.bl (decide (i.cps.toList < j.cps.toList))) H
theorem op_ltA : OpR X (compareOp .Lt) rLtA := op_lt.or op_ltS
theorem od_ltA {K : Fg} : OpD K rLtA ltA := by
  intro O H dx dy d vx vy Q ol ix iy e q
  cases dx <;> cases dy <;> first | (simp only [ltA, reduceCtorEq] at e; done) | skip
  · simp only [ltA, Option.some.injEq] at e
    subst e
    rw [Is.int_iff] at ix iy
    exact .inl ⟨_, _, ix, iy, q _ H (Same.refl H) (by rw [Is.bl_iff])⟩
  · simp only [ltA, Option.some.injEq] at e
    subst e
    rw [Is.str_iff] at ix iy
    exact .inr ⟨_, _, ix, iy, q _ H (Same.refl H) (by rw [Is.bl_iff])⟩
end
noncomputable def fre : Sl → Prop
  | .un => True
  | .v _ => True
  | _ => False
theorem setV_fre {i : Nat} {d : D} {r : En} {x : Sl} (e : r[i]? = some x) (h : fre x) : setV i d r = some (r.set i (.v d)) := by
  unfold setV
  rw [e]
  cases x <;> first | rfl | cases h
theorem app_of {i : Nat} {f : ME} {r : En} {S : List D} {d : D} (e : r[i]? = some (.o S)) (e2 : f r = some d) (h : S.length < sizeLine) : mApp i f r = some (.non, r.set i (.o (S ++ [d]))) := by
  simp [mApp, mtOf, e, Sl.mt, putO, e2, h]
theorem var_of {i : Nat} {r : En} {d : D} (e : r[i]? = some (.v d)) : mVar i r = some d := by
  unfold mVar; rw [e]
theorem seq_of {g h : MS} {r r' : En} (e : g r = some (.nx r')) : sSeq g h r = h r' := by
  unfold sSeq; rw [e]; rfl
theorem seq_rt {g h : MS} {r r' : En} {d : D} (e : g r = some (.rt d r')) : sSeq g h r = some (.rt d r') := by
  unfold sSeq; rw [e]; rfl
theorem sX_of {f : En → Option (D × En)} {r r' : En} {d : D} (e : f r = some (d, r')) : sX f r = some (.nx r') := by
  unfold sX; rw [e]; rfl
theorem sSet_of {i : Nat} {f : ME} {r r2 : En} {d : D} (e : f r = some d) (e2 : setV i d r = some r2) : sSet i f r = some (.nx r2) := by
  unfold sSet; rw [e]; show (setV i d r).map Fl.nx = _; rw [e2]; rfl
theorem sIf_t {c : MB} {g h : MS} {r : En} (e : c r = some true) : sIf c g h r = g r := by
  unfold sIf; rw [e]; rfl
theorem sIf_f {c : MB} {g h : MS} {r : En} (e : c r = some false) : sIf c g h r = h r := by
  unfold sIf; rw [e]; rfl
theorem at_zero {α : Type} (x : α) (l : List α) : atI (x :: l) 0 = some x := atI_nat (j := 0) rfl
theorem for_go {bd : D → En → Option En} {g : MS} {d : D} {l : List D} {r r1 r' : En} (h : bd d r = some r1) (e : g r1 = some (.nx r')) : forL bd g (d :: l) r = forL bd g l r' := by
  show (bd d r).bind _ = _
  rw [h, Option.bind_some, e, Option.bind_some]
section
variable {f g : ME} {fl gl : ML} {r : En} {x y d : D} {i j : Int}
theorem bin_of {m : D → D → Option D} (e1 : f r = some x) (e2 : g r = some y) (e : m x y = some d) : mBin m f g r = some d := by
  unfold mBin; rw [e1, Option.bind_some, e2]; exact e
theorem un_of {m : D → Option D} (e1 : f r = some x) (e : m x = some d) : mUn m f r = some d := by
  unfold mUn; rw [e1]; exact e
theorem add_of (e1 : f r = some (.int i)) (e2 : g r = some (.int j)) : mBin addD f g r = some (.int (i + j)) := bin_of e1 e2 rfl
theorem mod_of (e1 : f r = some (.int i)) (e2 : g r = some (.int j)) (h : 0 < j) : mBin modD f g r = some (.int (i % j)) := bin_of e1 e2 (if_pos h)
theorem mul_of (e1 : f r = some (.int i)) (e2 : g r = some (.int j)) (h : -(2 ^ 64) < i ∧ i < 2 ^ 64) : mBin mulD f g r = some (.int (i * j)) := bin_of e1 e2 (if_pos (.inl h))
theorem fdiv_of (e1 : f r = some (.int i)) (e2 : g r = some (.int j)) (h : 0 < j ∧ j < 1073741824) : mBin fdivD f g r = some (.int (i / j)) := bin_of e1 e2 (if_pos h)
theorem con_of : mC d r = some d := rfl
theorem cons_of {l : List D} (e1 : f r = some x) (e2 : fl r = some l) : mCons f fl r = some (x :: l) := by
  unfold mCons; rw [e1, Option.bind_some, e2]; rfl
theorem nil_of : mNil r = some [] := rfl
theorem lstF_of {l : List D} (e : fl r = some l) (h : l.length ≤ 100) : mOfF (mLstF fl) r = some (.lst l) := by
  unfold mOfF mLstF; rw [e, Option.bind_some, if_pos (Nat.le_trans h (by decide))]; rfl
theorem tup_of {l : List D} (e : fl r = some l) (h : l.length ≤ 100) : mTup fl r = some (.tup l) := by
  unfold mTup; rw [e, Option.bind_some, if_pos (Nat.le_trans h (by decide))]
theorem call_of {n : Nat} {m : MF} {l : List D} {p : Rs} (e : fl r = some l) (hl : l.length = n) (h : ∃ as, m (l.map .v) = some (p, as)) : mCall n m fl r = some (rsD p) := by
  obtain ⟨as, h⟩ := h
  unfold mCall; rw [e, Option.bind_some, if_pos hl, h]; rfl
theorem bl_of {b : Bool} (e : f r = some (.bl b)) : mBl f r = some b := by
  unfold mBl; rw [e]; rfl
theorem ret_of (e : f r = some d) : sRet f r = some (.rt d r) := by
  unfold sRet; rw [e]; rfl
theorem seq_set {k : Nat} {h : MS} {r2 : En} {z : Option Fl} (d : D) (e : f r = some d) (e2 : setV k d r = some r2) (q : h r2 = z) : sSeq (sSet k f) h r = z := by
  rw [seq_of (sSet_of e e2)]; exact q
theorem seq_ff {c : MB} {a h : MS} {z : Option Fl} (e : c r = some false) (q : h r = z) : sSeq (sIf c a sSkip) h r = z := by
  rw [seq_of (r' := r) (by rw [sIf_f e]; rfl)]; exact q
theorem seq_tt {c : MB} {a h : MS} {r' : En} (e : c r = some true) (q : a r = some (.rt d r')) : sSeq (sIf c a sSkip) h r = some (.rt d r') := seq_rt (by rw [sIf_t e]; exact q)
theorem mk_rt {n N : Nat} {s : MS} {as : List Sl} {r' : En} (e : s (as ++ List.replicate (N - n) .un) = some (.rt d r')) : ∃ bs, mkF n N s as = some (.v d, bs) := by
  unfold mkF; rw [e]; exact ⟨_, rfl⟩
end
theorem str_add {s t : List Nat} (h : s.length + t.length ≤ 100) : addD (.str s) (.str t) = some (.str (s ++ t)) := if_pos (Nat.le_trans h (by decide))
theorem sl_of {f : ME} {lo hi : MO} {r : En} {x d : D} {a b : Option Int} (e1 : f r = some x) (e2 : lo r = some a) (e3 : hi r = some b) (e : slD x a b = some d) : mSl f lo hi r = some d := by
  unfold mSl; rw [e1, Option.bind_some, e2, Option.bind_some, e3]; exact e
theorem neg_of {g : ME} {r : En} {i : Int} (e : g r = some (.int i)) : mUn negD g r = some (.int (-i)) := un_of e rfl
theorem osome_of {g : ME} {r : En} {i : Int} (e : g r = some (.int i)) : oSome g r = some (some i) := by
  unfold oSome; rw [e]; rfl
theorem gt_of {f g : ME} {r : En} {i j : Int} (e1 : f r = some (.int i)) (e2 : g r = some (.int j)) : mBl (mBin gtD f g) r = some (decide (j < i)) := bl_of (bin_of e1 e2 rfl)
theorem lst_add {l m : List D} (h : l.length + m.length ≤ 100000) : addD (.lst l) (.lst m) = some (.lst (l ++ m)) := if_pos (Nat.le_trans h (by decide))
theorem cut_to {α : Type} (s : List α) (k : Nat) : cutL s none (some (k : Int)) = s.take k := by
  unfold cutL
  rw [HT.sIx_nat, HT.sIx_none, List.drop_zero, Nat.sub_zero, List.take_eq_take_iff]
  omega
theorem cut_mid {α : Type} (s : List α) (i k : Nat) : cutL s (some (i : Int)) (some (k : Int)) = (s.take k).drop i := by
  unfold cutL
  rw [HT.sIx_nat, HT.sIx_nat, List.drop_take]
  by_cases h : i ≤ s.length
  · rw [Nat.min_eq_left h, List.take_eq_take_iff, List.length_drop]
    rw [Nat.sub_min_sub_right, Nat.sub_min_sub_right, Nat.min_assoc, Nat.min_self]
  · have e1 : s.drop (min i s.length) = [] := List.drop_of_length_le (by omega)
    have e2 : s.drop i = [] := List.drop_of_length_le (by omega)
    rw [e1, e2]; simp
theorem rng_of {f : ME} {r : En} {n : Nat} (e : f r = some (.int (n : Int))) (h : n < 1000) : mRng1 f r = some ((List.range n).map fun k => .int ((0 : Int) + (k : Nat))) := by
  have h1 : -(2 ^ 62 : Int) ≤ (n : Int) ∧ (n : Int) < 2 ^ 62 := by constructor <;> omega
  have h2 : DD.intD (.int (n : Int)) = some (n : Int) := by unfold DD.intD; rfl
  unfold mRng1
  rw [e, Option.bind_some, h2, Option.bind_some, if_pos h1, Int.toNat_natCast]
  unfold rngD; rfl
theorem ladd {f g : ME} {r : En} {l m : List D} (e1 : f r = some (.lst l)) (e2 : g r = some (.lst m)) (h : l.length + m.length ≤ 100000) : mBin addD f g r = some (.lst (l ++ m)) := bin_of e1 e2 (lst_add h)
theorem for_rt {bd : D → En → Option En} {g : MS} {x d : D} {l : List D} {r r1 r' : En} (h : bd x r = some r1) (e : g r1 = some (.rt d r')) : forL bd g (x :: l) r = some (.rt d r') := by
  unfold forL; rw [h, Option.bind_some, e]; rfl
theorem bdP {i j : Nat} {a b : D} {r r1 r2 : En} (h1 : setV i a r = some r1) (h2 : setV j b r1 = some r2) : bdSeq 2 (bdCons (setV i) (bdCons (setV j) bdNil)) (.tup [a, b]) r = some r2 := by
  show ((setV i a r).bind fun z => (setV j b z).bind fun y => some y) = _
  rw [h1, Option.bind_some, h2]; rfl
noncomputable def ItB (K : Fg) (a : Addr) (n : Nat) : It :=
  ⟨fun i H => ∃ xs x, SqL K H a xs ∧ xs.length = n ∧ i < n ∧ xs[n - 1 - i]? = some x, fun i H x H' => H' = H ∧ ∀ xs, SqL K H a xs → xs[n - 1 - i]? = some x, fun i _ => i = n⟩
theorem turn_back {P : Program} {w : World} {K : Fg} {tg : Expr} (a it : Addr) (n : Nat) : Turn P w K tg (ItB K a n) [it] it (fun i h => h.IsRevIter it a ((n : Int) - 1 - (i : Int))) where
  mem := by simp
  obj := fun i h st b hb => by
    have e : b = it := by simpa using hb
    subst e
    obtain ⟨o, e, c, d⟩ := st
    exact ⟨o, e, fun v z => by rw [d] at z; cases z⟩
  keep := fun i h h' st k => st.at fun o e => k it (by simp) o e
  item := by
    intro X hP hw hK hc i pins s σ H E I hf st hg
    subst hP hw hK
    obtain ⟨xs, x, hq, hn, hi, hx⟩ := hg
    obtain ⟨its, rv, p, hz⟩ := I.list hq
    obtain ⟨u, hu, ru⟩ := rv.get hx
    obtain ⟨f0, f1, f2, f3, f4, f5⟩ := hf it (by simp)
    have e1 : (n : Int) - 1 - (i : Int) = ((n - 1 - i : Nat) : Int) := by clear st hu hx hq hn rv p; omega
    rw [e1] at st
    refine wpAny_pyNext_rev_item st p.isList (x := u) (by simpa using hu) fun h' st' sb => ?_
    have e2 : ((n - 1 - i : Nat) : Int) - 1 = (n : Int) - 1 - ((i + 1 : Nat) : Int) := by clear st st' hu hx hq hn rv p; omega
    rw [e2] at st'
    have I1 : Inv X pins σ H { s with heap := h' } := I.turned (t' := s.toks) (fun b o hb e => (sb.2 b hb).trans e) f0 f1 f3 f4 f5
    obtain ⟨o, e, c, d⟩ := id st'
    exact ⟨u, rfl, go_of (s := { s with heap := h' }) e c d (by decide) ⟨x, H, I1, ru, ⟨rfl, fun ys hy => by rw [I.list_inj hy hq]; exact hx⟩, st', fun b hb => (hf b hb).1⟩⟩
  done := by
    intro X hP hw hK hc i pins s σ H E I hf st hg
    subst hP hw hK
    obtain rfl : i = n := hg
    obtain ⟨f0, f1, f2, f3, f4, f5⟩ := hf it (by simp)
    have e1 : (i : Int) - 1 - (i : Int) = -1 := by clear st; omega
    rw [e1] at st
    exact wpAny_pyNext_rev_end (I.ok.hd hc) st fun h' eb => ⟨rfl, I.turned (t' := s.toks) (fun b o hb e => eb b o hb e) f0 f1 f3 f4 f5⟩
  self := fun _ _ _ _ _ st h => wpAny_pyIter_revIter st h
section
variable {X : Cx} {a tg : Expr} {f : ME} {p pos : Pos}
theorem yl_back {K : Fg} {O M : Addr → Prop} (mo : ∀ a, M a → O a) {H : Hp} {a : Addr} {xs : List V} {ds : List D} (ol : OLst O H) (rd : ∀ H1, Keep M H H1 → SqL K H1 a xs) (il : IsL K O H ds xs) : Ylds K O M H (ItB K a xs.length) ds.reverse := by
  intro i H1 O' kp oo
  have kp' : Keep O H H1 := fun b o e n => kp b o e fun z => n (mo b z)
  have rd1 : SqL K H1 a xs := rd H1 kp
  have ll := il.length
  have bk : ∀ d, ds.reverse[i]? = some d → i < xs.length ∧ ds[xs.length - 1 - i]? = some d := fun d e => by
    have hi : i < ds.length := by
      obtain ⟨h, _⟩ := List.getElem?_eq_some_iff.mp e
      rw [List.length_reverse] at h; exact h
    rw [List.getElem?_reverse hi, ll] at e
    exact ⟨ll ▸ hi, e⟩
  refine ⟨fun hi => ⟨?_, fun x H' y => ?_⟩, fun hi => by rw [List.length_reverse, ll] at hi; exact hi⟩
  · obtain ⟨d, e⟩ := get_of_lt hi
    obtain ⟨hi', e'⟩ := bk d e
    obtain ⟨v, e1, _⟩ := il.get e'
    exact ⟨xs, v, rd1, rfl, hi', e1⟩
  · obtain ⟨rfl, y⟩ := y
    refine ⟨Same.refl _, fun d e => ?_⟩
    obtain ⟨hi', e'⟩ := bk d e
    obtain ⟨v, e1, q⟩ := il.get e'
    have := y xs rd1
    rw [e1] at this; cases this
    exact Is.mono kp' ol oo _ _ q
theorem pi_back {ta : TE} (hg : Gl X "reversed") (hm : X.mg "reversed" = none) (ha : PE X a ta) (hs : starEach [a] X.env = [(false, eval a X.env)] := by rfl) :
    PI X tg (.Call (.Name "reversed" p) [a] [] pos) (fun σ H R => ta σ H fun x H1 => ∃ u xs, x = .ref u ∧ SqL X.K H1 u xs ∧ R (ItB X.K u xs.length) H1) := by
  intro pins s σ H R I h
  have hA : PA X [a] (tCons ta tNil) := pa_cons ha pa_nil (by rw [hs]; rfl)
  refine Call_ (ld_blt I hg hm PyProof.Rows.boot_reversed (PyProof.Rows.callWith_type1 (thn (hA pos pins s σ H (z1 fun x H1 => ∃ u xs, x = .ref u ∧ SqL X.K H1 u xs ∧ R (ItB X.K u xs.length) H1) I h) fun us s1 ⟨vs, H1, I1, r1, q1⟩ => ?_) hs rfl))
  obtain ⟨_, rfl, u, xs, rfl, hx, q⟩ := z1_inv q1
  obtain ⟨uu, rfl, ru⟩ := Vals.one r1
  cases ru
  obtain ⟨its, rv, pl, _⟩ := I1.list hx
  have hl : its.toArray.size = xs.length := by rw [List.size_toArray]; exact rv.length.symm
  have z1 : (s1.heap.push (revObj u ((its.toArray.size : Int) - 1))).IsRevIter s1.heap.objs.size u ((its.toArray.size : Int) - 1) := ⟨_, Heap.get?_push_size _ rfl, rfl, rfl⟩
  refine call_reversed_list pl.isList (wpAny_pyIter_revIter z1 ?_)
  refine ⟨_, [s1.heap.objs.size], _, _, H1, rfl, I1.kept (t' := s1.toks) (fun b o e => Heap.get?_push_of_some _ e), turn_back u _ xs.length, ?_, fun b hb => ?_, q⟩
  · rw [hl] at z1 ⊢
    rw [show ((xs.length : Int) - 1 - ((0 : Nat) : Int)) = (xs.length : Int) - 1 from Int.sub_zero _]
    exact z1
  · have e : b = s1.heap.objs.size := by simpa using hb
    subst e
    exact I1.fpOk (Nat.le_refl _) (I1.hok.fresh (Nat.le_refl _))
noncomputable def mBack (f : ME) : ML := fun r => (f r).bind fun d => match d with
  | .lst l => some l.reverse
  | _ => none
theorem di_back (hg : Gl X "reversed") (hm : X.mg "reversed" = none) (ha : DE X a f) (hs : starEach [a] X.env = [(false, eval a X.env)] := by rfl) : DI X tg (.Call (.Name "reversed" p) [a] [] pos) (mBack f) := by
  refine PI.conseq (pi_back hg hm ha hs) fun σ H Rr hq => ?_
  obtain ⟨O0, r, ds, hR, e, q⟩ := hq
  obtain ⟨x, e1, e⟩ := bind_some e
  refine ⟨O0, r, x, hR, e1, fun v1 H1 s1 i1 => ?_⟩
  have ol := (hR.same s1).ol
  cases x <;> first | (simp only [reduceCtorEq] at e; done) | skip
  rename_i l
  simp only [Option.some.injEq] at e
  subst e
  rw [Is.lst_iff] at i1
  obtain ⟨u, xs, rfl, hx, il⟩ := i1
  exact ⟨u, xs, rfl, hx.sq, q _ H1 s1 (yl_back (fun a z => .inr z.own) ol (fun H2 k2 => hx.imp (fun z => Rd.keep k2 (fun y => z.1 (.inr y.own)) z.2) id) il)⟩
end
end DD
namespace ZZ
open PySem
end ZZ
namespace DD
open PySem PySem.Spec PyProof.Rows L2
open PySem PySem.Spec PyProof.Rows L2 PySem.W
noncomputable def Land (P : Program) (w : World) (fs : List Addr) (H H' : Hp) (h0 B h1 : Heap) : Prop := ∀ h : Heap, B.StaysIn h → h1.UpToSlots h → Un fs [] H H' h0 h ∧ HOk P w H' h
noncomputable def CX1 (P : Program) (w : World) : CXT := fun outer H s E e s' => ∃ (a C : Addr) (B : Heap) (a0 : Value) (H' : Hp), e = .ref a ∧ s'.os = s.os ∧ AllBare s'.gens ∧ Heap.FlyingW B outer a (.ref C) a0 s'.heap ∧ H' a = none ∧ E (.ref C) none H' ∧ Land P w (frs outer) H H' s.heap B s'.heap
theorem ObjOk.there {P : Program} {w : World} {H : Hp} {h : Heap} {a : Addr} {o : HO} (x : ObjOk P w H h a o) : ∃ ob, h.get? a = some ob := by
  cases o with
  | lst xs => obtain ⟨_, _, _, _, e⟩ := x; exact ⟨_, e⟩
  | tup xs => obtain ⟨_, _, _, ob, e, _⟩ := x; exact ⟨_, e⟩
  | dK kvs => obtain ⟨_, _, _, _, o, _, _, e, _⟩ := x; exact ⟨_, e⟩
  | dT kvs => obtain ⟨_, _, _, _, o, _, _, e, _⟩ := x; exact ⟨_, e⟩
  | set S n => obtain ⟨o, _, _, _, e, _⟩ := x; exact ⟨_, e⟩
  | ins C dx fs => obtain ⟨_, _, _, e, _⟩ := x; exact ⟨_, e⟩
  | own y => obtain ⟨_, e⟩ := x; exact ⟨_, e⟩
  | xd fs => obtain ⟨_, ⟨_, _, _, e, _⟩, _⟩ := x; exact ⟨_, e⟩
  | rng lo hi => obtain ⟨_, _, _, e⟩ := x; exact ⟨_, e⟩
  | frz ob u => obtain ⟨e, _⟩ := x; exact ⟨_, e⟩
  | tbl ps => exact ⟨_, (show h.get? a = some _ from x)⟩
  | met f y => exact ⟨_, (show h.get? a = some _ from x)⟩
  | ext φ => obtain ⟨_, ⟨_, e⟩, _⟩ := x; exact ⟨_, e⟩
theorem hok_none {P : Program} {w : World} {H : Hp} {h : Heap} {a : Addr} (x : HOk P w H h) (n : h.get? a = none) : H a = none := by
  cases e : H a with
  | none => rfl
  | some o => obtain ⟨ob, q⟩ := ObjOk.there (x a o e); rw [n] at q; cases q
section
variable {P : Program} {w : World} {K : Fg} {mg : Str → Option Value} {base : Heap} {N : List Str} {qual : Str} {scope : Scope} {f : Addr} {cd : Value} {A : Around} {outer : List Env} {s : Shared} {H : Hp} {E : XK}
theorem land_made {X : Cx} {pins : List (Addr × Obj)} {σ : St} {H1 : Hp} {s2 : Shared} {h3 h4 : Heap} (I : Inv X pins σ H1 s2) (hex : X.ex = []) (k3 : ∀ b o, s2.heap.get? b = some o → h3.get? b = some o) (u4 : h3.UpToSlots h4) :
    Land X.prog X.w X.fs X.H₀ H1 X.s₀.heap (hideAll s2.heap (frs X.stack)) h4 := by
  intro h hB hu
  have inF : ∀ b ∈ frs X.stack, ∃ o, s2.heap.get? b = some o ∧ ∀ vs, o.data ≠ .fields vs := fun b hb => (I.stack.mem hb).2
  have put : ∀ b o, s2.heap.get? b = some o → b ∉ frs X.stack → h.get? b = some o := fun b o e n => hB b o (hideAll_get _ e n)
  have slo : ∀ b o, s2.heap.get? b = some o → b ∈ frs X.stack → ∃ sl, h.get? b = some { o with slots := sl } := fun b o e hb => by
    obtain ⟨o', e', d'⟩ := inF b hb
    rw [e] at e'; cases e'
    obtain ⟨s1, e1⟩ := u4 b o (k3 b o e) d'
    obtain ⟨s2', e2⟩ := hu b _ e1 d'
    exact ⟨s2', e2⟩
  have bs := I.base
  rw [hex] at bs
  refine ⟨⟨fun b o e n hb hx => ?_, fun b o e n hb hx => ?_, fun b o e n hx => bs.free b o e n hx, fun b o e hx => ?_, bs.tups, bs.frzs, bs.tbls⟩, fun b u e => ?_⟩
  · refine put b o (bs.keep b o e n hb hx) fun z => ?_
    rcases List.mem_cons.mp (I.stkSub b z) with q | q
    · exact absurd (Nat.lt_of_lt_of_le (Heap.lt_size e) (by rw [q]; exact I.ok.above)) (Nat.lt_irrefl _)
    · exact hb q
  · obtain ⟨sl, e1⟩ := bs.slot b o e n hb hx
    by_cases z : b ∈ frs X.stack
    · obtain ⟨sl2, e2⟩ := slo b _ e1 z
      exact ⟨sl2, e2⟩
    · exact ⟨sl, put b _ e1 z⟩
  · obtain ⟨o', e1⟩ := bs.there b o e hx
    by_cases z : b ∈ frs X.stack
    · obtain ⟨sl2, e2⟩ := slo b _ e1 z
      exact ⟨_, e2⟩
    · exact ⟨o', put b _ e1 z⟩
  · have nf : ∀ c v, H1 c = some v → c ∉ frs X.stack := fun c v q z => by rw [I.stkFree c z] at q; cases q
    refine (I.hok b u e).stay (fun c v hc q => put c v q ?_) (fun _ q => q) fun _ _ q => q
    rcases hc with z | z
    · rw [z]; exact nf b u e
    · exact nf c _ z
theorem xe_made {pins : List (Addr × Obj)} {σ : St} {H1 : Hp} {s2 : Shared} {h3 : Heap} {e C : Addr} {args : List Value} (I : Inv (cxOf (CX1 P w) P w K mg base N qual scope f cd A outer s H E) pins σ H1 s2) (hx : Heap.MadeExcOf s2.heap h3 e (.ref C) args) (q : E (.ref C) none H1) :
    (cxOf (CX1 P w) P w K mg base N qual scope f cd A outer s H E).xe (.ref e) { s2 with heap := h3 } := by
  let X := cxOf (CX1 P w) P w K mg base N qual scope f cd A outer s H E
  have hin : ∀ env ∈ X.stack, ∀ b, env.frame = some b → b ∈ frs X.stack := fun env he b hb => List.mem_filterMap.mpr ⟨env, he, hb⟩
  refine wpAny_leaves_madeW (base := hideAll s2.heap (frs X.stack)) (h := s2.heap) I.ok.frames rfl (fun b o z => of_hideAll _ z) (funFrames_hide I.stack hin) hx fun h' t x1 x2 x3 x4 => ?_
  exact ⟨e, C, _, _, H1, rfl, I.os, I.bare, x1, hok_none I.hok hx.new, q, land_made I rfl hx.keeps x4⟩
end
open PySem PySem.Spec PyProof.Rows L2 PySem.W
section
variable {X : Cx} {a : Expr} {f : ME}
noncomputable def mRepr (f : ME) : ME := fun r => (f r).bind fun d => match d with
  | .str s => if (reprText ⟨s.toArray⟩).length ≤ sizeLine then some (.str (reprText ⟨s.toArray⟩).cps.toList) else none
  | _ => none
theorem dj_r {es : List Expr} {gj : MJ} {fp : Pos} (h : DE X a f) (h2 : DJ X es gj) : DJ X (.FormattedValue a 114 none fp :: es) (jE (mRepr f) gj) := dj_of (fun pins s σ H Q I hq => by
  obtain ⟨O0, r, d, hR, e, q⟩ := hq
  obtain ⟨d', e1, e2⟩ := bind_some e
  cases d' <;> first | (cases e2; done) | skip
  rename_i t
  simp only at e2
  split at e2
  · rename_i hl
    cases e2
    refine wpAny_FormattedValue_repr (wpAny_mono (h pins s σ H (fun v H1 => v = .str ⟨t.toArray⟩ ∧ Same H H1) I ⟨O0, r, _, hR, e1, fun v H1 s1 i1 => ⟨by rw [Is.str_iff] at i1; exact i1, s1⟩⟩) (fun v s1 ⟨x, H1, I1, r1, ex, sm⟩ => ?_) fun _ _ z => z)
    subst ex
    obtain ⟨tk, rfl⟩ := r1
    refine wpAny_pyReprObj_str ?_ hl
    have q1 := q (.str (reprText ⟨t.toArray⟩)) H1 sm (by rw [Is.str_iff, Array.toArray_toList])
    obtain ⟨y, ey, hy, q2⟩ := q1
    cases ey
    exact formatField_str (fun t' tk' => ⟨.str (reprText ⟨t.toArray⟩), H1, (I1.tok _).tok _, ⟨_, rfl⟩, q2⟩) hy
  · cases e2) h2
end
noncomputable abbrev MX := En → Option Str
noncomputable def lXS (K : Fg) (mg : Str → Option Value) (E : XK) (x : MX) : TS := fun _ σ H => ∃ O0 r n, R K O0 H r σ ∧ x r = some n ∧ ∀ C H' r' σ', mg n = some (.ref C) → R K O0 H' r' σ' → Kp H r σ H' r' σ' → E (.ref C) none H'
noncomputable def XS (X : Cx) (E : XK) (st : Stmt) (x : MX) : Prop := PS X st (lXS X.K X.mg E x)
section
variable {X : Cx} {E : XK} {st : Stmt} {rest : List Stmt} {x y : MX} {g : MS} {pos : Pos}
theorem pss_none : PSs X rest (fun _ _ _ => False) := fun pins s σ H D I h => h.elim
noncomputable def xThen (g : MS) (x : MX) : MX := fun r => (g r).bind fun fl => match fl with
  | .nx r1 => x r1
  | _ => none
noncomputable def xIf (c : MB) (x y : MX) : MX := fun r => (c r).bind fun b => if b = true then x r else y r
noncomputable def xNone : MX := fun _ => none
end
section
variable {P : Program} {w : World} {K : Fg} {mg : Str → Option Value} {base : Heap} {N : List Str} {qual : Str} {scope : Scope} {f : Addr} {cd : Value} {A : Around} {outer : List Env} {s : Shared} {H : Hp} {E : XK}
noncomputable def xRaise (n : Str) (g : ME) : MX := fun r => (g r).map fun _ => n
theorem xs_raise {x : Str} {C : Addr} {bm : List Value} {B newId initId : String} {a : Expr} {g : ME} {np cpos pos : Pos} (O : OwnCls x C bm newId mg base) (FB : ExcBaseFacts B newId initId bm) (hg : Gl (cxOf (CX1 P w) P w K mg base N qual scope f cd A outer s H E) x)
    (ha : DE (cxOf (CX1 P w) P w K mg base N qual scope f cd A outer s H E) a g)
    (hs : starEach [a] (cxOf (CX1 P w) P w K mg base N qual scope f cd A outer s H E).env = (false, eval a (cxOf (CX1 P w) P w K mg base N qual scope f cd A outer s H E).env) :: starEach [] (cxOf (CX1 P w) P w K mg base N qual scope f cd A outer s H E).env := by rfl)
    (hdb : (x == ("__debug__" : Str)) = false := by decide) :
    XS (cxOf (CX1 P w) P w K mg base N qual scope f cd A outer s H E) E (.Raise (some (.Call (.Name x np) [a] [] cpos)) none pos) (xRaise x g) := by
  intro pins s1 σ H1 D I h
  obtain ⟨O0, r, n, hR, e, q⟩ := h
  obtain ⟨d, e1, e2⟩ := map_some e
  cases e2
  obtain ⟨tl, N', nm, q', bs, hdct, sn, sub, ab, col, dd, k0, k1, k2, k3, k5, mN, hC, hN, hni, T⟩ := O.obj
  refine wpAny_Raise_call_subT (C := C) (nm := nm) (q := q') (N := N') (bs := bs) (bm := tl) (hdct := hdct) (sn := sn) (sub := sub) (ab := ab) (col := col) (dd := dd) (k0 := k0) (k1 := k1) (k2 := k2) (k3 := k3) (k5 := k5)
    FB (mN := mN) (T.hasType FB.hasBase) (I.ok.hd rfl) (by rw [hs]; rfl) hni (ld_glob I hg O.bound ⟨rfl, ?_⟩ hdb)
  have hA := (pa_cons ha pa_nil hs) cpos pins s1 σ H1 (fun vs H2 => vs.length = 1 ∧ E (.ref C) none H2) I ⟨O0, r, d, hR, e1, fun v H2 s2 i2 => ⟨rfl, q C H2 r σ O.bound (hR.same s2) (Kp.of_same r σ s2)⟩⟩
  rw [hs] at hA ⊢
  refine Calls.evalArgs_plain (wpAny_mono hA (fun vs s2 h2 => ?_) fun _ _ y => y)
  obtain ⟨vs', H2, I2, rv, hl, hE⟩ := h2
  exact ⟨rfl, by rw [← rv.length, hl]; decide, I2.bk _ _ hC, hN.keeps I2.bk, T.keeps I2.bk, fun h' e' hm => xe_made I2 hm hE⟩
end
open PySem PySem.Spec PyProof.Rows L2 PySem.W
noncomputable def spX (K : Fg) (mg : Str → Option Value) (n : Nat) (m : List D → Option Str) : Sp := fun vs H _ E => ∃ O ds nm, ds.length = n ∧ OLst O H ∧ IsL K O H ds vs ∧ m ds = some nm ∧ ∀ C H', mg nm = some (.ref C) → Same H H' → E (.ref C) none H'
noncomputable abbrev MR := En → Option D
noncomputable def lR (K : Fg) (ρ : MR) : TS := fun Dn σ H => ∃ O0 r d, R K O0 H r σ ∧ ρ r = some d ∧ ∀ v σ' H' r', R K O0 H' r' σ' → Kp H r σ H' r' σ' → Is K O0 H' d v → Dn.rt v H'
noncomputable def DRs (X : Cx) (st : List Stmt) (ρ : MR) : Prop := PSs X st (lR X.K ρ)
section
variable {X : Cx} {st : Stmt} {rest : List Stmt} {ρ : MR} {g : MS}
noncomputable def rThen (g : MS) (ρ : MR) : MR := fun r => (g r).bind fun fl => match fl with
  | .nx r1 => ρ r1
  | .rt d _ => some d
  | _ => none
theorem dr_cons (h : DS X st g) (h2 : DRs X rest ρ) : DRs X (st :: rest) (rThen g ρ) := by
  refine PSs.conseq (pss_cons h h2) fun Dn σ H hq => ?_
  obtain ⟨O0, r, d, hR, e, q⟩ := hq
  obtain ⟨fl, e1, e2⟩ := bind_some e
  cases fl <;> first | (cases e2; done) | skip
  · rename_i r1
    exact ⟨O0, r, .nx r1, hR, e1, fun σ1 H1 R1 k1 => ⟨O0, r1, d, R1, e2, fun v σ2 H2 r2 R2 k2 i2 => q v σ2 H2 r2 R2 (k1.trans k2) i2⟩⟩
  · rename_i d' r1
    cases e2
    exact ⟨O0, r, .rt d r1, hR, e1, fun v σ1 H1 R1 k1 i1 => q v σ1 H1 r1 R1 k1 i1⟩
noncomputable def rD (g : MS) : MR := fun r => (g r).bind fun fl => match fl with
  | .rt d _ => some d
  | _ => none
theorem dr_d (h : DSs X rest g) : DRs X rest (rD g) := by
  refine PSs.conseq h fun Dn σ H hq => ?_
  obtain ⟨O0, r, d, hR, e, q⟩ := hq
  obtain ⟨fl, e1, e2⟩ := bind_some e
  cases fl <;> first | (cases e2; done) | skip
  rename_i d' r1
  cases e2
  exact ⟨O0, r, .rt d r1, hR, e1, fun v σ1 H1 R1 k1 i1 => q v σ1 H1 r1 R1 k1 i1⟩
end
noncomputable def isV : Sl → Bool
  | .v _ => true
  | _ => false
noncomputable def mkR (n N : Nat) (ρ : MR) : MF := fun as => if as.all isV = true then (ρ (as ++ List.replicate (N - n) .un)).map fun d => (.v d, as) else none
section
variable {P : Program} {w : World} {K : Fg} {mg : Str → Option Value} {base : Heap}
theorem fn_r {x qual : Str} {st : Stmt} {f : Addr} {fd : FuncData} {N ps : List Str} {k : Nat} {ρ : MR} (F : Fun K x qual st f fd) (S : FnScope N ps (defScope st)) (n : Nat) (nN : Nat) (hn : ps.length = n := by rfl) (hN : N.length = nN := by rfl)
    (hb : ∀ (cdv : Value) (A : Around) (outer : List Env) (s : Shared) (H : Hp) (E : XK), Room k (A.deeper (envOfC qual (defScope st) s.heap.objs.size f cdv)) →
      DRs (cxOf CX0 P w K mg base N qual (defScope st) f cdv A outer s H E).nox (defBody st) ρ) : FnOk P w K mg base CX0 (k + 1) f fd ps (spD K n (mkR n nN ρ)) := by
  subst hn hN
  refine F.ok S (fun vs H Q E h => ?_) (fun cdv A outer s H vs Q E hr h => ?_)
  · obtain ⟨O0, as, rs, as', hl, hR, _⟩ := h
    have := hR.len
    simp at this; omega
  · obtain ⟨O0, as, rs, as', hl, hR, no, e, q⟩ := h
    have hlv : as.length = vs.length := by simpa using hR.len
    refine ⟨_, hb cdv A outer s H E hr, ?_⟩
    unfold mkR at e
    split at e
    · rename_i hv
      obtain ⟨d, e1, e2⟩ := map_some e
      cases e2
      have hst : L2.start N vs = vs.map some ++ List.replicate (N.length - ps.length) none := by unfold L2.start; rw [← hlv, hl]
      rw [hst]
      have R0 := R.start (k := N.length - ps.length) hR
      refine ⟨O0, _, d, R0, e1, fun v σ' H' r' R' k' i' => q v H' ⟨fun b o eb nb => k'.keep b o eb fun z => nb ((own_start rfl hlv).mp z), k'.live, k'.lst, fun i l ei => ?_⟩ i'⟩
      have := List.all_eq_true.mp hv _ (List.mem_of_getElem? ei)
      cases this
    · cases e
end
open PySem PySem.Spec PyProof.Rows L2 PySem.W
section
variable {X : Cx} {k n : Nat} {fa : Addr} {fd : FuncData} {ps : List Str} {m : List D → Option Str} {x : Str} {a : Expr} {es : List Expr} {fs : ML} {p pos : Pos}
theorem call_raised {pins : List (Addr × Obj)} {s : Shared} {σ : St} {H : Hp} {O0 : Addr → Prop} {r : En} {ds : List D} {nm : Str} {Q : Value → Shared → Prop} (F : FnOk X.prog X.w X.K X.mg X.base (CX1 X.prog X.w) k fa fd ps (spX X.K X.mg n m)) (hr : Room k X.A) (hg : Gl X x) (hm : X.mg x = some (.ref fa)) (hk : PySem.W.keepIn X.K (.ref fa) = true) (hb : Binds X.K fd ps [])
    (ha : DA X (a :: es) fs) (I : Inv X pins σ H s) (hR : R X.K O0 H r σ) (e1 : fs r = some ds) (hl : ds.length = n) (e2 : m ds = some nm)
    (hc : ∀ s1 H1 s' e C B a0 H', Inv X pins σ H1 s1 → Same H H' → s'.os = s1.os → AllBare s'.gens → X.mg nm = some (.ref C) → Heap.FlyingW B X.stack e (.ref C) a0 s'.heap → H' e = none → Land X.prog X.w (frs X.stack) H1 H' s1.heap B s'.heap → X.xe (.ref e) s')
    (hC : ∃ C, X.mg nm = some (.ref C))
    (hdb : (x == ("__debug__" : Str)) = false := by decide) (he : starEach (a :: es) X.env = (false, eval a X.env) :: starEach es X.env := by rfl) (hpl : (backTo pos (starEach es X.env)).any (·.1) = false := by rfl) :
    wpAny (model X.prog X.w) X.A (eval (.Call (.Name x p) (a :: es) [] pos) X.env) Q X.xe s := by
  obtain ⟨C, hC⟩ := hC
  refine wpAny_Call_Name_kw (ld_glob I hg hm ?_ hdb)
  refine PySem.W.callWith_K (h₀ := X.base) I.ok.mod.kin hk (thn (ha pos pins s σ H (fun vs H1 => Same H H1 ∧ IsL X.K (Ow O0 r σ) H1 ds vs) I ⟨O0, r, ds, hR, e1, fun vs H1 s1 il => ⟨s1, il⟩⟩) fun us s1 ⟨vs, H1, I1, rv, sm, il⟩ => ⟨I1.kIn, ?_⟩) he hpl
  have hsp : spX X.K X.mg n m vs H1 (fun _ _ => False) (fun c _ H' => c = .ref C ∧ Same H1 H') := ⟨Ow O0 r σ, ds, nm, hl, (hR.same sm).ol, il, e2, fun C' H' hm' s' => by rw [hC] at hm'; cases hm'; exact ⟨rfl, s'⟩⟩
  have hlen : us.length = ps.length := by rw [← rv.length]; exact F.len _ _ _ _ hsp
  refine wpAny_call (codeAny_mono (F.run X.A X.stack s1 H1 ⟨us, []⟩ us vs _ _ hr I1.env0 (by have := hb s1 us I1.kIn (by rw [List.append_nil]; exact hlen); rw [List.append_nil] at this; exact this) rv hsp) fun res s' hq => ?_)
  cases res with
  | error e =>
    obtain ⟨ea, C', B, a0, H', rfl, ho, hg', hfl, hn, ⟨hcc, sm'⟩, hland⟩ := hq
    cases hcc
    exact hc s1 H1 s' ea C B a0 H' I1 (sm.trans sm') ho hg' hC hfl hn hland
  | ok fl =>
    cases fl with
    | ret u => obtain ⟨v, H', _, _, _, _, _, q⟩ := hq; exact q.elim
    | next => exact False.elim hq
    | brk => exact False.elim hq
    | cont => exact False.elim hq
end
noncomputable abbrev Cx.held (X : Cx) (e : Addr) (E : Value → Shared → Prop) : Cx := { X with A := X.A.mark (some (.ref e)), calm := false, xe := E }
theorem Inv.held {X : Cx} {pins : List (Addr × Obj)} {σ : St} {H : Hp} {s : Shared} (I : Inv X pins σ H s) (e : Addr) (E : Value → Shared → Prop) : Inv (Cx.held X e E) pins σ H s :=
  ⟨⟨I.ok.mod, I.ok.kind, I.ok.glob, I.ok.blt, I.ok.above, I.ok.inj, I.ok.has, I.ok.cab, (fun z => by cases z), I.ok.frames, I.ok.stk, I.ok.exf, I.ok.bs, I.ok.bsz, I.ok.noex, I.ok.exfs, I.ok.funs, I.ok.frf⟩, I.os, I.bare, I.base, I.loc, I.cell, I.free, I.freeC, I.pin, I.hok, I.len⟩
theorem Inv.unheld {X : Cx} {pins : List (Addr × Obj)} {σ : St} {H : Hp} {s : Shared} {e : Addr} {E : Value → Shared → Prop} (ok : X.Ok) (I : Inv (Cx.held X e E) pins σ H s) : Inv X pins σ H s := ⟨ok, I.os, I.bare, I.base, I.loc, I.cell, I.free, I.freeC, I.pin, I.hok, I.len⟩
noncomputable abbrev Cx.pinned (X : Cx) (p : Addr × Obj) : Cx := { X with pn := p :: X.pn }
theorem Inv.pinned {X : Cx} {pins : List (Addr × Obj)} {σ : St} {H : Hp} {s : Shared} {p : Addr × Obj} (I : Inv X (p :: pins) σ H s) : Inv (Cx.pinned X p) pins σ H s :=
  ⟨⟨I.ok.mod, I.ok.kind, I.ok.glob, I.ok.blt, I.ok.above, I.ok.inj, I.ok.has, I.ok.cab, I.ok.hd, I.ok.frames, I.ok.stk, I.ok.exf, I.ok.bs, I.ok.bsz, I.ok.noex, I.ok.exfs, I.ok.funs, I.ok.frf⟩, I.os, I.bare, I.base, I.loc, I.cell, I.free, I.freeC, (fun q hq => I.pin q (by
    have hq' : q ∈ p :: X.pn ++ pins := hq
    simp only [List.cons_append, List.mem_cons, List.mem_append] at hq' ⊢
    rcases hq' with h | h | h
    · exact .inr (.inl h)
    · exact .inl h
    · exact .inr (.inr h))), I.hok, I.len⟩
theorem Inv.unpinned {X : Cx} {pins : List (Addr × Obj)} {σ : St} {H : Hp} {s : Shared} {p : Addr × Obj} (I : Inv (Cx.pinned X p) pins σ H s) : Inv X pins σ H s :=
  ⟨⟨I.ok.mod, I.ok.kind, I.ok.glob, I.ok.blt, I.ok.above, I.ok.inj, I.ok.has, I.ok.cab, I.ok.hd, I.ok.frames, I.ok.stk, I.ok.exf, I.ok.bs, I.ok.bsz, I.ok.noex, I.ok.exfs, I.ok.funs, I.ok.frf⟩, I.os, I.bare, I.base, I.loc, I.cell, I.free, I.freeC, (fun q hq => I.pin q (List.mem_cons_of_mem _ hq)), I.hok, I.len⟩
theorem SP.unpinned {X : Cx} {pins : List (Addr × Obj)} {p : Addr × Obj} {D : Ends} {f : Flow} {s' : Shared} (h : SP (Cx.pinned X p) pins D f s') : SP X pins D f s' := by
  cases f with
  | next => obtain ⟨σ', H', I', q⟩ := h; exact ⟨σ', H', Inv.unpinned I', q⟩
  | brk => obtain ⟨σ', H', I', q⟩ := h; exact ⟨σ', H', Inv.unpinned I', q⟩
  | cont => obtain ⟨σ', H', I', q⟩ := h; exact ⟨σ', H', Inv.unpinned I', q⟩
  | ret u => obtain ⟨v, σ', H', I', r, q⟩ := h; exact ⟨v, σ', H', Inv.unpinned I', r, q⟩
theorem goes_ok {X : Cx} {pins : List (Addr × Obj)} {σ : St} {H : Hp} {s : Shared} {M : Model} {A : Around} {E : Value → Shared → Prop} {i : Nat} {x : Str} {pos : Pos} {Q : Unit → Shared → Prop} (I : Inv X pins σ H s) (hN : X.N.Nodup) (hi : X.N[i]? = some x) (hx : X.env.scope.names.lookup x = some .local) (hk : X.env.kindOf x = some .local)
    (h : ∀ s', Inv X pins (σ.set i none) H s' → Q () s') : wpAny M A (do bindName X.env x .none; unbindBehindTheSuite X.env x pos) Q E s := by
  obtain ⟨m, hn, hl⟩ := id I.loc
  have hcls : (X.env.scope.kind == .class || (X.env.scope.kind == .module && X.env.locals != X.env.globals)) = false := by rw [I.ok.kind]; rfl
  have hiσ : i < σ.length := by rw [I.len]; exact (List.getElem?_eq_some_iff.mp hi).1
  have cne := I.cne
  refine wpAny_nameGoes_keeps hk hn hcls fun h' v hn' hs => h _ ?_
  obtain ⟨oL, _, _, hoL, _⟩ := id hn
  refine ⟨I.ok, I.os, I.bare, ⟨fun b o e n hb hx => ?_, fun b o e n hb hx => ?_, I.base.free, fun b o e hx => ?_, I.base.tups, I.base.frzs, I.base.tbls⟩, ⟨_, hn', fun j y v' e1 e2 e3 => ?_⟩, fun y c e => ?_, I.free, I.freeC, fun p hp => ?_, fun b ob e => ?_, by simpa using I.len⟩
  · exact (hs.2 b (Nat.ne_of_lt (Nat.lt_of_lt_of_le (Heap.lt_size e) I.ok.above))).trans (I.base.keep b o e n hb hx)
  · obtain ⟨sl, e1⟩ := I.base.slot b o e n hb hx
    exact ⟨sl, (hs.2 b (Nat.ne_of_lt (Nat.lt_of_lt_of_le (Heap.lt_size e) I.ok.above))).trans e1⟩
  · obtain ⟨o', e1⟩ := I.base.there b o e hx
    exact ⟨o', (hs.2 b (Nat.ne_of_lt (Nat.lt_of_lt_of_le (Heap.lt_size e) I.ok.above))).trans e1⟩
  · by_cases hj : j = i
    · subst hj
      rw [List.getElem?_set_self hiσ] at e2
      cases e2
    · rw [List.getElem?_set_ne (Ne.symm hj)] at e2
      obtain ⟨u', r', q⟩ := hl j y v' e1 e2 e3
      refine ⟨u', r', ?_⟩
      rcases q with ⟨k, e⟩ | ⟨k, c, e, z⟩
      · refine .inl ⟨k, ?_⟩
        have : y ≠ x := fun e => hj (nodup_ix hN e1 (e ▸ hi))
        simp [this, e]
      · exact .inr ⟨k, c, e, z.sameBut hs (cne y c e)⟩
  · obtain ⟨w', z⟩ := I.cell y c e
    exact ⟨w', z.sameBut hs (cne y c e)⟩
  · obtain ⟨e, n, ne, nf, d⟩ := I.pin p hp
    exact ⟨(hs.2 p.1 ne).trans e, n, ne, nf, d⟩
  · refine (I.hok b ob e).stay (fun c w' hc q => (hs.2 c ?_).trans q) (fun _ q => q) fun _ _ q => q
    rintro rfl
    rcases hc with rfl | hc
    · rw [I.free] at e; cases e
    · rw [I.free] at hc; cases hc
theorem R.unset {K : Fg} {O0 : Addr → Prop} {H : Hp} {r : En} {σ : St} {j : Nat} {y : Sl} (h : R K O0 H r σ) (e : r[j]? = some y) (hy : fre y) : R K O0 H (r.set j .un) (σ.set j none) ∧ Kp H r σ H (r.set j .un) (σ.set j none) := by
  have hj : j < r.length := (List.getElem?_eq_some_iff.mp e).1
  have hjσ : j < σ.length := by rw [← h.len]; exact hj
  have ne : ∀ (q : Sl → Option (List D)), q .un = none → ∀ (i : Nat) (l : List D), ((r.set j .un)[i]?).bind q = some l → i ≠ j ∧ (r[i]?).bind q = some l := fun q hq i l ei => by
    by_cases hi : i = j
    · subst hi; rw [get_set_eq hj] at ei; rw [Option.bind_some, hq] at ei; cases ei
    · rw [get_set_ne (Ne.symm hi)] at ei; exact ⟨hi, ei⟩
  have at' : ∀ (q : Sl → Option (List D)), q .un = none → ∀ b, AtS q (r.set j .un) (σ.set j none) b → AtS q r σ b := fun q hq b ⟨i, l, ei, qi⟩ => by
    obtain ⟨hi, e'⟩ := ne q hq i l ei
    rw [get_set_ne (Ne.symm hi)] at qi
    exact ⟨i, l, e', qi⟩
  have ow : ∀ b, Ow O0 (r.set j .un) (σ.set j none) b → H b ≠ none → Ow O0 r σ b := fun b z _ => z.imp id (at' _ rfl b)
  have nep : ∀ (i : Nat) (x : Sl), (r.set j .un)[i]? = some x → x ≠ .un → i ≠ j ∧ r[i]? = some x := fun i x ei nx => by
    by_cases hi : i = j
    · subst hi; rw [get_set_eq hj] at ei; cases ei; exact absurd rfl nx
    · rw [get_set_ne (Ne.symm hi)] at ei; exact ⟨hi, ei⟩
  refine ⟨⟨by simpa using h.len, fun i d ei => ?_, fun i l ei => ?_, fun i i' b l l' e1 e2 q1 q2 => ?_, h.o0, fun i l b ei qi => ?_, fun i l b ei qi => ?_⟩, ⟨fun b o eb _ => eb, fun b eb => eb, fun b xs eb => ⟨xs, eb⟩, fun b z => .inl (at' _ rfl b z), fun b z => .inl (at' _ rfl b z), fun i l ei => ?_, fun i l ei => ?_⟩⟩
  · obtain ⟨hi, e'⟩ := nep i _ ei (by intro z; cases z)
    obtain ⟨v, q1, q2⟩ := h.val i d e'
    exact ⟨v, by rw [get_set_ne (Ne.symm hi)]; exact q1, Is.mono (Same.kp (Same.refl H) _) h.ol ow _ _ q2⟩
  · obtain ⟨hi, e'⟩ := ne _ rfl i l ei
    obtain ⟨b, xs, q1, q2, q3⟩ := h.own i l e'
    exact ⟨b, xs, by rw [get_set_ne (Ne.symm hi)]; exact q1, q2, IsL.mono (Same.kp (Same.refl H) _) h.ol ow _ _ q3⟩
  · obtain ⟨h1, e1'⟩ := ne _ rfl i l e1
    obtain ⟨h2, e2'⟩ := ne _ rfl i' l' e2
    rw [get_set_ne (Ne.symm h1)] at q1
    rw [get_set_ne (Ne.symm h2)] at q2
    exact h.apart i i' b l l' e1' e2' q1 q2
  · rcases ei with ei | ei
    · obtain ⟨hi, e'⟩ := nep i _ ei (by intro z; cases z)
      rw [get_set_ne (Ne.symm hi)] at qi
      exact h.loc i l b (.inl e') qi
    · obtain ⟨hi, e'⟩ := nep i _ ei (by intro z; cases z)
      rw [get_set_ne (Ne.symm hi)] at qi
      exact h.loc i l b (.inr e') qi
  · obtain ⟨hi, e'⟩ := nep i _ ei (by intro z; cases z)
    rw [get_set_ne (Ne.symm hi)] at qi
    exact h.par i l b e' qi
  · have hi : i ≠ j := fun z => by subst z; rw [e] at ei; cases ei; cases hy
    exact ⟨⟨l, by rw [get_set_ne (Ne.symm hi)]; exact ei⟩, get_set_ne (Ne.symm hi)⟩
  · have hi : i ≠ j := fun z => by subst z; rw [e] at ei; cases ei; cases hy
    exact ⟨by rw [get_set_ne (Ne.symm hi)]; exact ei, get_set_ne (Ne.symm hi)⟩
open PySem PySem.Spec PyProof.Rows L2 PySem.W
noncomputable def mTry (fs : ML) (n : Nat) (m : List D → Option Str) (nm : Str) (ρ : MR) : MR := fun r => (fs r).bind fun ds => if ds.length = n ∧ m ds = some nm then ρ r else none
section
variable {X : Cx} {k n : Nat} {fa : Addr} {fd : FuncData} {ps : List Str} {m : List D → Option Str} {x : Str} {a : Expr} {es : List Expr} {fs : ML} {p cpos epos pos yp cp ep ap hpos : Pos} {y en c nm : Str} {CB C : Addr} {i j : Nat} {ρ0 : MR} {ρ : Addr → MR} {rest : List Stmt}
theorem dr_try (hN : X.N.Nodup) (hstk : X.stack = X.env :: X.outer) (hfr : X.env.frame = some X.env.locals)
    (F : FnOk X.prog X.w X.K X.mg X.base (CX1 X.prog X.w) k fa fd ps (spX X.K X.mg n m)) (hr : Room k X.A) (hg : Gl X x) (hm : X.mg x = some (.ref fa)) (hk : PySem.W.keepIn X.K (.ref fa) = true) (hb : Binds X.K fd ps [])
    (ha : ∀ E, DA (X.wish E) (a :: es) fs) (hgy : Gl X y) (hmy : X.mg y = some (.ref CB)) (hnm : X.mg nm = some (.ref C)) (hx : exmOne X.K (.ref C) (.ref CB) = some true)
    (hi : X.N[i]? = some c) (hj : X.N[j]? = some en) (hci : Loc X.env.scope c) (hcf : X.fn c = true ∨ X.env.scope.names.lookup c = some .local) (hen : X.env.scope.names.lookup en = some .local) (hek : X.env.kindOf en = some .local) (hij : i ≠ j)
    (hfre : ∀ r d, ρ0 r = some d → (∃ z, r[i]? = some z ∧ fre z) ∧ ∃ z, r[j]? = some z ∧ fre z) (hρ : ∀ e r d, ρ0 r = some d → ρ e ((r.set i (.v (.ref e))).set j .un) = some d)
    (hrest : ∀ e oe, oe.cls = .ref C → DRs (Cx.pinned X (e, oe)) rest (ρ e))
    (hdb : (x == ("__debug__" : Str)) = false := by decide) (hdy : (y == ("__debug__" : Str)) = false := by decide) (he : starEach (a :: es) X.env = (false, eval a X.env) :: starEach es X.env := by rfl) (hpl : (backTo cpos (starEach es X.env)).any (·.1) = false := by rfl)
    (hsw : swapsWith (.Call (.Name x p) (a :: es) [] cpos) none epos.line X.env = pure false := by rfl) (hsw2 : swapsWith (.Name en ep) (some (.Name c cp)) ap.line X.env = pure false := by rfl) (hde : (en == ("__debug__" : Str)) = false := by decide) (hcd : (en == ("__classdict__" : Str)) = false := by decide) :
    DRs X (.Try [.Expr (.Call (.Name x p) (a :: es) [] cpos) epos] [.ExceptHandler (some (.Name y yp)) (some en) [.Assign [.Name c cp] (.Name en ep) ap] hpos] [] [] pos :: rest) (mTry fs n m nm ρ0) := by
  intro pins s σ H D I hq
  obtain ⟨O0, r, d, hR, e0, q⟩ := hq
  obtain ⟨ds, e1, e2⟩ := bind_some e0
  split at e2
  · rename_i hmm
    obtain ⟨⟨z1, hz1, fz1⟩, ⟨z2, hz2, fz2⟩⟩ := hfre r d e2
    refine wpAny_execs_cons (wpAny_Try_except ?_)
    refine wpAny_execs_cons ?_
    let Ex : Value → Shared → Prop := fun e s₁ => wpAny (model X.prog X.w) X.A (noteFrame e X.env) (fun _ s₂ => wpAny (model X.prog X.w) X.A (setFlight e none) (fun _ s₃ => wpAny (model X.prog X.w) X.A (handleBy e X.env [.ExceptHandler (some (.Name y yp)) (some en) [.Assign [.Name c cp] (.Name en ep) ap] hpos])
      (fun f s₁ => match f with | .next => wpAny (model X.prog X.w) X.A (execs rest X.env) (SP X pins D) X.xe s₁ | f => SP X pins D f s₁) X.xe s₃) X.xe s₂) X.xe s₁
    refine wpAny_Expr_any (call_raised (X := X.wish Ex) F hr hg hm hk hb (ha Ex) (I.wish Ex) hR e1 hmm.1 hmm.2 ?_ ⟨C, hnm⟩ hdb he hpl) I.quiet hsw
    intro s1 H1 s' e C' B a0 H' I1 sm ho hg' hC' hfl hn hland
    have I1' := I1.unwish
    rw [hnm] at hC'; cases hC'
    have inv : ∀ (h : Heap) (t : Nat) , B.StaysIn h → s'.heap.UpToSlots h → Inv X pins σ H' { s' with heap := h, toks := t } := fun h t b1 b2 => by
      obtain ⟨u, ok⟩ := hland h b1 b2
      exact I1'.call' (s' := { s' with heap := h, toks := t }) (ch := []) ho u ok hg' fun b z => absurd z (by simp)
    have hfrs : X.A.frames = some (X.env :: X.outer) := by rw [← hstk]; exact I.ok.frames
    have hfl' : Heap.FlyingW B (X.env :: X.outer) e (.ref C) a0 s'.heap := by rw [← hstk]; exact hfl
    show wpAny (model X.prog X.w) X.A (noteFrame (.ref e) X.env) _ X.xe s'
    refine wpAny_looks_onW hfrs hfr hfl' fun h4 held4 u4 => ?_
    refine wpAny_landsW held4 fun h5 fly5 u5 => ?_
    have I5 := inv h5 s'.toks fly5.1 (u4.trans u5)
    let Ey := notedBy (model X.prog X.w) (X.A.mark (some (.ref e))) X.env (cameBackBy (model X.prog X.w) X.A X.env X.xe)
    refine wpAny_handleBy_cons (codeAny_handlers_test (ld_glob (X := Cx.held X e Ey) (Inv.held I5 e Ey) hgy hmy ?_ hdy)) (by intro z; cases z)
    have lt : Looks (model X.prog X.w) h5 (typeOf (.ref e)) (.ref C) := by
      obtain ⟨ob, hob, hc⟩ := fly5.there
      rw [← hc]
      exact Looks.andThen (Looks.ld hob) .now
    refine (exm_one I5.kIn lt hx).here ?_
    rw [if_pos rfl]
    refine codeAny_handlers_suite_as (lands_againW fly5 fun h6 fly6 u6 => ?_)
    have I6 := inv h6 s'.toks fly6.1 ((u4.trans u5).trans u6)
    obtain ⟨oe, vs, he6, hcls, hdat, _⟩ := fly6.first
    have hne : e ≠ X.env.locals := fun z => by
      obtain ⟨m', ⟨oL, _, _, hoL, hdL, _⟩, _⟩ := I6.loc
      rw [← z, he6] at hoL; cases hoL
      rw [hdat] at hdL; cases hdL
    have hnf : e ∉ X.fs := fun z => by
      obtain ⟨_, o, ho', hd'⟩ := I6.funs.mem z
      rw [he6] at ho'; cases ho'
      exact hd' vs hdat
    have I7 : Inv X ((e, oe) :: pins) σ H' _ := I6.pins_of fun p hp => by
      rcases List.mem_cons.mp hp with rfl | hp
      · exact ⟨he6, hn, hne, hnf, fun v z => by rw [hdat] at z; cases z⟩
      · exact I6.pin p (List.mem_append_right _ hp)
    refine store_ok (X := Cx.held X e fun _ _ => False) (v := .ref e) (Inv.held I7 e _) hN hj (.inl hen) (show L2.RelV (V.ref e) (Value.ref e) from rfl) (fun s8 I8 => ?_) (.inr hen)
    obtain ⟨hj1, hj2⟩ := List.getElem?_eq_some_iff.mp hz2
    obtain ⟨hi1, hi2⟩ := List.getElem?_eq_some_iff.mp hz1
    refine wpAny_mono (pss_one (ps_set (X := Cx.held X e _) hN hi hci (pe_var hj (.inl hen) hde hcd) hsw2 hcf) ((e, oe) :: pins) s8 (σ.set j (some (.ref e))) H' ⟨fun σ' H2 => σ' = (σ.set j (some (.ref e))).set i (some (.ref e)) ∧ H2 = H', fun _ _ => False, fun _ _ => False, fun _ _ => False⟩ I8 ⟨.ref e, by rw [List.getElem?_set_self (by rw [← hR.len]; exact hj1)], rfl, rfl⟩) (fun f s9 h9 => ?_) fun _ _ z => False.elim z
    cases f with
    | brk => obtain ⟨_, _, _, z⟩ := h9; exact z.elim
    | cont => obtain ⟨_, _, _, z⟩ := h9; exact z.elim
    | ret u => obtain ⟨_, _, _, _, _, z⟩ := h9; exact z.elim
    | next =>
      obtain ⟨σ9, H9, I9, rfl, rfl⟩ := h9
      have I9' := Inv.unheld I.ok I9
      refine goes_ok I9' hN hj hen hek fun s10 I10 => ?_
      have R1 := ((hR.same sm).setv hj1 (fun l => ⟨fun z => by rw [hz2] at z; cases z; exact fz2, fun z => by rw [hz2] at z; cases z; exact fz2⟩) (d := .ref e) (v := .ref e) (by rw [Is.ref_iff]))
      have nei : (r.set j (.v (.ref e)))[i]? = some z1 := by rw [get_set_ne (Ne.symm hij)]; exact hz1
      have R2 := R1.1.setv (i := i) (by simpa using hi1) (fun l => ⟨fun z => by rw [nei] at z; cases z; exact fz1, fun z => by rw [nei] at z; cases z; exact fz1⟩) (d := .ref e) (v := .ref e) (by rw [Is.ref_iff])
      have R3 := R2.1.unset (j := j) (y := .v (.ref e)) (by rw [get_set_ne hij, get_set_eq hj1]) trivial
      have er : ((r.set j (.v (.ref e))).set i (.v (.ref e))).set j .un = (r.set i (.v (.ref e))).set j .un := by
        rw [List.set_comm _ _ (Ne.symm hij), List.set_set]
      rw [er] at R3
      have kk := (((Kp.of_same r σ sm).trans R1.2).trans R2.2).trans R3.2
      exact wpAny_mono (hrest e oe hcls pins s10 _ H9 D (Inv.pinned I10) ⟨O0, _, d, R3.1, hρ e r d e2, fun v σ' H2 r' R' k' i' => q v σ' H2 r' R' (kk.trans k') i'⟩) (fun f s' z => SP.unpinned z) fun _ _ z => z
  · cases e2
end
open PySem PySem.Spec PyProof.Rows L2 PySem.W PySem.Calls Builtin Builtin.ObjectAttr Builtin.Getset_descriptor
structure ExcK (K : Fg) (C : Addr) : Prop where
  cls : (clsIn K C).isSome = true
  ga : findIn K (.ref C) "__getattribute__" = some (some (.builtin "BaseException.__getattribute__"))
  gt : findIn K (.ref C) "__getattr__" = some none
  ca : findIn K (.ref C) "__class__" = some (some (.builtin "object.__class__"))
  sub : subIn K (.ref C) (.type "BaseException") = some true
  sbo : mroIn K C (.type "object") = some true
section
variable {prog : Program} {w : World} {A : Around} {E : Value → Shared → Prop} {h : Heap} {g : Array GenState} {d : Drawn} {t : Nat} {os : OsState} {a C : Addr} {o : Obj} {K : Fg}
theorem xc_ty {M : Model} (hx : h.get? a = some o) (hc : o.cls = .ref C) : Looks M h (typeOf (.ref a)) (.ref C) := hc ▸ (Looks.ld hx).andThen .now
theorem xc_get {tp : Value} {R : Result → Shared → Prop} (X : K.In h) (Z : ExcK K C) (hx : h.get? a = some o) (hc : o.cls = .ref C) (hq : R (.ok (.ret (.ref C))) ⟨h, g, d, t, os⟩) :
    codeAny (model prog w) A (.call (.builtin "getset_descriptor.__get__") ⟨[.builtin "object.__class__", .ref a, tp], []⟩) R ⟨h, g, d, t, os⟩ := by
  have LT := xc_ty (M := model prog w) hx hc
  have LM := looks_mroIn (M := model prog w) X Z.sbo
  have tc : (⟨h, g, d, t, os⟩ : Shared).TypeIs (.builtin "object.__class__") "getset_descriptor" := KF.type_class
  refine codeAny_call_builtin KF.slot_gs.plain KF.entry_gs ?_
  refine KF.slot_gs.check _ _ _ _ _ _ _ _ tc (KF.args_gs _ _ _) ?_
  unfold Builtin.«getset_descriptor.__get__»
  unfold descrGet
  rw [dga_obj]
  refine wpAny_bind ?_
  refine wpAny_pure ?_
  unfold descrGetter descrCheckInstance
  unfold descrNameAndClass isInstance
  simp only [KF.owner_class]
  repeat lk
  refine And.intro (Code.quiet_builtin _ (by decide +kernel)) ?_
  refine codeAny_builtin KF.entry_class ?_
  unfold Builtin.«object.__class__»
  unfold shownTypeOf
  repeat lk
  exact hq
theorem xc_entry {tk : Tok} {Q : Fin → Shared → Prop} (X : K.In h) (Z : ExcK K C) (hx : h.get? a = some o) (hc : o.cls = .ref C) (hq : Q (.done (.ret (.ref C))) ⟨h, g, d, t, os⟩) : wpAny (model prog w) A (Builtin.«object.__getattribute__» ⟨[.ref a, .str "__class__" tk], []⟩) Q E ⟨h, g, d, t, os⟩ := by
  have y0 : (⟨h, g, d, t, os⟩ : Shared).TypeIs (.builtin "object.__class__") "getset_descriptor" := F.typeOf_object_class
  have LT := xc_ty (M := model prog w) hx hc
  have LC := looks_findIn (M := model prog w) X Z.ca
  have y1 := F.typeOf_object_class; have y2 := F.slot_gs_get.lookup; have y3 := F.slot_gs_set.lookup
  repeat (any_goals (first | assumption | (with_reducible refine wpAny_loadPart_at hx ?_; rw [hc]) | (with_reducible refine LC.at ?_) | wp_step))
  refine xc_get X Z hx hc ?_; repeat (any_goals (first | assumption | wp_step))
theorem xc_check {M : Model} {nameV : Value} {Q : Unit → Shared → Prop} (X : K.In h) (Z : ExcK K C) (hx : h.get? a = some o) (hc : o.cls = .ref C) (hq : Q () ⟨h, g, d, t, os⟩) :
    wpAny M A (checkBuiltinCall "BaseException.__getattribute__" ⟨[.ref a, nameV], []⟩) Q E ⟨h, g, d, t, os⟩ := by
  have hkd : builtinKind "BaseException.__getattribute__" = some .slot := by decide +kernel
  have hsp : splitId "BaseException.__getattribute__" = some ("BaseException", "__getattribute__") := by decide +kernel
  have LS := looks_subIn (M := M) X Z.sub
  have har := F.args_bexc_ga (.ref a) nameV
  simp only [checkBuiltinCall, hkd, hsp]
  refine wpAny_bind ?_
  · unfold isInstance
    repeat (first | (with_reducible refine wpAny_loadPart_at hx ?_; rw [hc]) | (with_reducible refine LS.at ?_) | wp_step)
    exact hq
theorem xc_call {tk : Tok} {R : Result → Shared → Prop} (X : K.In h) (Z : ExcK K C) (hx : h.get? a = some o) (hc : o.cls = .ref C) (hq : R (.ok (.ret (.ref C))) ⟨h, g, d, t, os⟩) :
    codeAny (model prog w) A (.call (.builtin "BaseException.__getattribute__") ⟨[.ref a, .str "__class__" tk], []⟩) R ⟨h, g, d, t, os⟩ :=
  codeAny_call_builtin F.attr_ValueError.ga.plain F.entry_bexc_ga (xc_check X Z hx hc (xc_entry X Z hx hc hq))
theorem xc_by {tk : Tok} {fill expr : Bool} {Q : Value → Shared → Prop} (X : K.In h) (Z : ExcK K C) (hx : h.get? a = some o) (hc : o.cls = .ref C) (hq : Q (.ref C) ⟨h, g, d, t, os⟩) :
    wpAny (model prog w) A (getAttrBy (.ref a) (.str "__class__" tk) fill expr) Q E ⟨h, g, d, t, os⟩ := by
  have bd := F.attr_ValueError.ga.bind (.ref a)
  have y0 : (expr && onTheHeap (Value.builtin "BaseException.__getattribute__")) = false := by cases expr <;> rfl
  have y2 : (Value.builtin "BaseException.__getattribute__" == Value.builtin "object.__getattribute__") = false := by decide +kernel
  have y1 : (onTheHeap (Value.ref C) && Value.builtin "BaseException.__getattribute__" == Value.builtin "object.__getattribute__") = false := by rw [y2]; rfl
  have LA := looks_findIn (M := model prog w) X Z.ga
  have LB := looks_findIn (M := model prog w) X Z.gt
  repeat (any_goals (first | assumption | (with_reducible refine wpAny_loadPart_at hx ?_; rw [hc]) | with_reducible refine LA.at ?_ | with_reducible refine LB.at ?_ | wp_step))
  refine xc_call X Z hx hc ?_; repeat (any_goals (first | assumption | wp_step))
theorem xc_attr {Q : Option Value → Shared → Prop} (X : K.In h) (Z : ExcK K C) (hx : h.get? a = some o) (hc : o.cls = .ref C) (hq : Q (some (.ref C)) ⟨h, g, d, t + 1, os⟩) :
    wpAny (model prog w) A (getAttr? (.ref a) "__class__") Q E ⟨h, g, d, t, os⟩ := by
  unfold getAttr? getAttrBy?
  repeat (any_goals (first | assumption | with_reducible apply xc_by X Z hx hc | wp_step))
theorem kitx_exc (Z : ExcK K C) : KitX K (.ref a) (.ref C) (fun h => ∃ o, h.get? a = some o ∧ o.cls = .ref C) where
  ty := fun _ _ _ ⟨_, hx, hc⟩ => xc_ty hx hc
  it := fun _ _ X _ => by
    obtain ⟨cd, hcd⟩ := Option.isSome_iff_exists.mp Z.cls
    unfold clsIn at hcd
    split at hcd
    · rename_i lk
      intro A1 Q1 E1 s1 k q
      unfold isType loadHead
      exact wpAny_bind (wpAny_loadPart (k _ _ (X _ _ lk)) (wpAny_pure q))
    · cases hcd
  ne := fun _ _ _ _ _ _ X htp => by
    obtain ⟨cd, hcd⟩ := Option.isSome_iff_exists.mp Z.cls
    rw [Bool.eq_false_iff]; intro q
    cases Value.ref.inj (beq_iff_eq.mp q)
    unfold clsIn at hcd
    split at hcd
    · rename_i lk
      cases (X _ _ lk).symm.trans htp
    · cases hcd
  ca := fun {_ _ _ _ _ s} X ⟨_, hx, hc⟩ k => by obtain ⟨h, g, d, t, os⟩ := s; exact xc_attr X Z hx hc k
end
open PySem PySem.Spec PyProof.Rows L2 PySem.W
noncomputable def excB (K : Fg) (C : Addr) : Bool := (clsIn K C).isSome && (findIn K (.ref C) "__getattribute__" == some (some (.builtin "BaseException.__getattribute__"))) && (findIn K (.ref C) "__getattr__" == some none)
  && (findIn K (.ref C) "__class__" == some (some (.builtin "object.__class__"))) && (subIn K (.ref C) (.type "BaseException") == some true) && (mroIn K C (.type "object") == some true)
theorem excB_ok {K : Fg} {C : Addr} (e : excB K C = true) : ExcK K C := by
  unfold excB at e
  simp only [Bool.and_eq_true, beq_iff_eq] at e
  obtain ⟨⟨⟨⟨⟨a, b⟩, c⟩, d⟩, f⟩, g⟩ := e
  exact ⟨a, b, c, d, f, g⟩
noncomputable def VEm : List Value := [.type "ValueError", .type "Exception", .type "BaseException", .type "object"]
noncomputable def errB (K : Fg) (fe C : Addr) (yes no : List Value) : Bool := excIn K C VEm "ValueError.__new__" && excB K C && (exmOne K (.ref C) (.ref fe) == some true) && yes.all (fun v => kitOne K (.ref C) v == some true) && no.all (fun v => kitOne K (.ref C) v == some false)
structure ErrK (K : Fg) (fe C : Addr) (yes no : List Value) : Prop where
  exc : excIn K C VEm "ValueError.__new__" = true
  k : ExcK K C
  mt : exmOne K (.ref C) (.ref fe) = some true
  ys : ∀ v ∈ yes, kitOne K (.ref C) v = some true
  ns : ∀ v ∈ no, kitOne K (.ref C) v = some false
theorem errB_ok {K : Fg} {fe C : Addr} {yes no : List Value} (e : errB K fe C yes no = true) : ErrK K fe C yes no := by
  unfold errB at e
  simp only [Bool.and_eq_true, beq_iff_eq, List.all_eq_true] at e
  obtain ⟨⟨⟨⟨a, b⟩, c⟩, d⟩, f⟩ := e
  exact ⟨a, excB_ok b, c, d, f⟩
theorem own_ofK {K : Fg} {base : Heap} {mg : Str → Option Value} {x : Str} {C : Addr} {l : List Value} {id : String} (X : K.In base) (hm : mg x = some (.ref C)) (q : excIn K C l id = true) : OwnCls x C l id mg base := by
  constructor
  · exact hm
  · unfold excIn at q
    split at q
    next dd cd sl lk =>
      split at q
      next C1 bm k0 k1 k2 k3 n k5 em es =>
        simp only [Bool.not_eq_true', beq_iff_eq, Bool.and_eq_true] at q
        obtain ⟨⟨⟨⟨⟨rfl, rfl⟩, q1⟩, q2⟩, q3⟩, q4⟩ := q
        obtain ⟨c1, c2, c3, c4, c5, c6, c7, c8, c9, cA, cB⟩ := cd
        dsimp only at em q1 q3 q4
        subst em q1
        obtain ⟨sll⟩ := sl
        simp only at es
        subst es
        exact ⟨bm, c4, c1, c5, c2, c6, c7, c8, c9, cA, dd, k0, k1, k2, k3, k5, _, X _ _ lk, .of_isNs (isNs_of_in X q3), nsMap_none_of_in X q3 q4, tail_of_in X q2⟩
      next => cases q
    next => cases q
noncomputable def isX (e : Addr) (b : Bool) (d : D) : Option D := match d with
  | .ref a => if a = e then some (.bl b) else none
  | _ => none
section
variable {X : Cx} {a : Expr} {f : ME} {pos : Pos}
theorem call_isx {e C : Addr} {oe : Obj} {v : V} {u : Value} {b : Bool} (hp : (e, oe) ∈ X.pn) (hc : oe.cls = .ref C) (Z : ExcK X.K C) (hv : ∀ u', RelV v u' → u' = u) (hk : kitOne X.K (.ref C) u = some b) : CallR X (.builtin "isinstance") (fun xs H Q => xs = [.ref e, v] ∧ Q (.bl b) H) := by
  intro pins s σ H xs us Q I r h
  obtain ⟨rfl, q⟩ := h
  obtain ⟨x, y, rfl, r1, r2⟩ := Vals.two r
  cases (show x = Value.ref e from r1)
  cases hv y r2
  exact kia_one (kitx_exc (a := e) Z) I.kIn ⟨oe, (I.pin _ (List.mem_append_left _ hp)).1, hc⟩ hk (fun z => nomatch z) fun tk => ⟨.bl b, H, I.tok tk, rfl, q⟩
theorem de_isx {e C : Addr} {oe : Obj} {v : V} {u : Value} {b : Bool} {p' pt : Pos} {x : Str} (hp : (e, oe) ∈ X.pn) (hc : oe.cls = .ref C) (Z : ExcK X.K C) (hv : ∀ u', RelV v u' → u' = u) (hk : kitOne X.K (.ref C) u = some b)
    (hg : Gl X "isinstance") (hm : X.mg "isinstance" = none) (ha : DE X a f) (hT : PE X (.Name x pt) (tC v)) (hs : starEach [a, .Name x pt] X.env = (false, eval a X.env) :: starEach [.Name x pt] X.env := by rfl) (hs2 : starEach [.Name x pt] X.env = (false, eval (.Name x pt) X.env) :: starEach [] X.env := by rfl) :
    DE X (.Call (.Name "isinstance" p') [a, .Name x pt] [] pos) (mUn (isX e b) f) := by
  refine PE.conseq (pe_callB (call_isx hp hc Z hv hk) hg hm PyProof.Rows.boot_isinstance (pa_cons ha (pa_cons hT pa_nil hs2) hs) (he := hs)) fun σ H Q h => ?_
  obtain ⟨O0, r, d, hR, e0, q⟩ := h
  obtain ⟨y, e1, e2⟩ := bind_some e0
  cases y <;> first | (cases e2; done) | skip
  rename_i c
  simp only [isX] at e2
  split at e2
  · rename_i hce
    subst hce
    cases e2
    exact ⟨O0, r, _, hR, e1, fun v' H1 s1 i1 => ⟨by rw [Is.ref_iff] at i1; rw [i1], q _ H1 s1 (by rw [Is.bl_iff])⟩⟩
  · cases e2
theorem de_isxC {e C D : Addr} {oe : Obj} {b : Bool} {p' pt : Pos} {x : Str} (hp : (e, oe) ∈ X.pn) (hc : oe.cls = .ref C) (Z : ExcK X.K C) (hk : kitOne X.K (.ref C) (.ref D) = some b) (hgx : Gl X x) (hmx : X.mg x = some (.ref D))
    (hg : Gl X "isinstance") (hm : X.mg "isinstance" = none) (ha : DE X a f) (hd : (x == ("__debug__" : Str)) = false := by decide) (hs : starEach [a, .Name x pt] X.env = (false, eval a X.env) :: starEach [.Name x pt] X.env := by rfl) (hs2 : starEach [.Name x pt] X.env = (false, eval (.Name x pt) X.env) :: starEach [] X.env := by rfl) :
    DE X (.Call (.Name "isinstance" p') [a, .Name x pt] [] pos) (mUn (isX e b) f) :=
  de_isx hp hc Z (v := .ref D) (u := .ref D) (fun _ z => z) hk hg hm ha (pe_glob hgx hmx rfl hd) hs hs2
end
open PySem PySem.Spec PyProof.Rows L2 PySem.W
theorem boot_VE : bootBuiltins "ValueError" = some (.type "ValueError") := by decide +kernel
section
variable {X : Cx} {E : XK} {st : List Stmt} {x y : MX}
noncomputable def xOr (x y : MX) : MX := fun r => match x r with
  | some n => some n
  | none => y r
noncomputable def rOr (p q : MR) : MR := fun r => match p r with
  | some d => some d
  | none => q r
theorem dr_or {p q : MR} (h1 : DRs X st p) (h2 : DRs X st q) : DRs X st (rOr p q) := fun pins s σ H D I ⟨O0, r, n, hR, e, z⟩ => by
  unfold rOr at e
  split at e
  · rename_i m hx
    cases e
    exact h1 pins s σ H D I ⟨O0, r, n, hR, hx, z⟩
  · exact h2 pins s σ H D I ⟨O0, r, n, hR, e, z⟩
end
section
variable {P : Program} {w : World} {K : Fg} {mg : Str → Option Value} {base : Heap} {N : List Str} {qual : Str} {scope : Scope} {f : Addr} {cd : Value} {A : Around} {outer : List Env} {s : Shared} {H : Hp} {E : XK}
theorem xs_raiseK {x : Str} {C : Addr} {a : Expr} {g : ME} {np cpos pos : Pos} (hmx : mg x = some (.ref C)) (hex : excIn K C VEm "ValueError.__new__" = true) (hg : Gl (cxOf (CX1 P w) P w K mg base N qual scope f cd A outer s H E) x)
    (ha : DE (cxOf (CX1 P w) P w K mg base N qual scope f cd A outer s H E) a g)
    (hs : starEach [a] (cxOf (CX1 P w) P w K mg base N qual scope f cd A outer s H E).env = (false, eval a (cxOf (CX1 P w) P w K mg base N qual scope f cd A outer s H E).env) :: starEach [] (cxOf (CX1 P w) P w K mg base N qual scope f cd A outer s H E).env := by rfl)
    (hdb : (x == ("__debug__" : Str)) = false := by decide) :
    XS (cxOf (CX1 P w) P w K mg base N qual scope f cd A outer s H E) E (.Raise (some (.Call (.Name x np) [a] [] cpos)) none pos) (xRaise x g) := fun pins s1 σ H1 D I h =>
  xs_raise (own_ofK (K := K) (l := VEm) (id := "ValueError.__new__") I.ok.mod.kin hmx hex) PySem.F.excBase_ValueError hg ha hs hdb pins s1 σ H1 D I h
end
noncomputable def freB : Sl → Bool
  | .un => true
  | .v _ => true
  | _ => false
noncomputable def rho0 (n i j : Nat) (d : D) : MR := fun r => if r.length = n ∧ (r[i]?).any freB = true ∧ (r[j]?).any freB = true then some d else none
theorem rho0_some {n i j : Nat} {d d' : D} {r : En} (h : rho0 n i j d r = some d') : r.length = n ∧ (r[i]?).any freB = true ∧ (r[j]?).any freB = true ∧ d = d' := by
  unfold rho0 at h
  split at h
  · rename_i hh; cases h; exact ⟨hh.1, hh.2.1, hh.2.2, rfl⟩
  · cases h
theorem rho0_fre (n i j : Nat) (d : D) : ∀ r d', rho0 n i j d r = some d' → (∃ z, r[i]? = some z ∧ fre z) ∧ ∃ z, r[j]? = some z ∧ fre z := by
  intro r d' h
  obtain ⟨_, h1, h2, _⟩ := rho0_some h
  have go : ∀ (o : Option Sl), o.any freB = true → ∃ z, o = some z ∧ fre z := fun o ho => by
    cases o with
    | none => cases ho
    | some z => cases z <;> first | exact ⟨_, rfl, trivial⟩ | cases ho
  exact ⟨go _ h1, go _ h2⟩
open PySem PySem.Spec PyProof.Rows L2 PySem.W
noncomputable def inS (neg : Bool) (x y : D) : Option D := match x, y with
  | .str [c], .str s => some (.bl (if neg then !decide (c ∈ s) else decide (c ∈ s)))
  | _, _ => none
noncomputable def rInS (neg : Bool) : R2 := fun x y H Q => ∃ (c : Nat) (s : List Nat), x = .str ⟨#[c]⟩ ∧ y = .str ⟨s.toArray⟩ ∧ Q (.bl (if neg then !decide (c ∈ s) else decide (c ∈ s))) H
section
variable {X : Cx}
theorem op_notInS : OpR X (compareOp .NotIn) (rInS true) := by
  intro pins s σ H x y v u Q I rx ry hq
  obtain ⟨c, t, rfl, rfl, q⟩ := hq
  obtain ⟨k, rfl⟩ := rx
  obtain ⟨k', rfl⟩ := ry
  refine PySem.P.notIn_str ?_
  rw [PySem.StrLaws.found_one]
  exact ⟨.bl _, H, I, rfl, q⟩
end
theorem od_inS {K : Fg} (neg : Bool) : OpD K (rInS neg) (inS neg) := by
  intro O H dx dy d vx vy Q ol ix iy e q
  unfold inS at e
  split at e
  · rename_i c s
    cases e
    rw [Is.str_iff] at ix iy
    exact ⟨c, s, ix, iy, q _ H (Same.refl H) (by rw [Is.bl_iff])⟩
  · cases e
open PySem PySem.Spec PyProof.Rows L2 PySem.W
open PySem PySem.Spec PyProof.Rows L2 PySem.W
structure LeftX (H : Hp) (r : En) (σ : St) (H' : Hp) : Prop where
  keep : Keep (MutAt r σ) H H'
  live : ∀ b, H' b = none → H b = none
  lst : ∀ b xs, H b = some (.lst xs) → ∃ ys, H' b = some (.lst ys)
theorem Kp.left {H H' : Hp} {r r' : En} {σ σ' : St} (k : Kp H r σ H' r' σ') : LeftX H r σ H' := ⟨k.keep, k.live, k.lst⟩
theorem LeftX.behind {H H1 H2 : Hp} {r r1 : En} {σ σ1 : St} (k : Kp H r σ H1 r1 σ1) (l : LeftX H1 r1 σ1 H2) : LeftX H r σ H2 :=
  ⟨fun c o e n => l.keep c o (k.keep c o e n) fun z => (k.mnew c z).elim n fun q => (by rw [e] at q; cases q), fun b e => k.live b (l.live b e), fun b xs e => (by obtain ⟨ys, q⟩ := k.lst b xs e; exact l.lst b ys q)⟩
theorem LeftX.after {H H1 H2 : Hp} {r : En} {σ : St} (s : Same H H1) (l : LeftX H1 r σ H2) : LeftX H r σ H2 := l.behind (Kp.of_same r σ s)
noncomputable def lY (K : Fg) (mg : Str → Option Value) (E : XK) (x : MX) (σ : St) (H : Hp) : Prop := ∃ O0 r n, R K O0 H r σ ∧ x r = some n ∧ ∀ C H', mg n = some (.ref C) → LeftX H r σ H' → E (.ref C) none H'
noncomputable def YE (X : Cx) (E : XK) (e : Expr) (x : MX) : Prop := PE X e (fun σ H _ => lY X.K X.mg E x σ H)
noncomputable def YA (X : Cx) (E : XK) (es : List Expr) (x : MX) : Prop := PA X es (fun σ H _ => lY X.K X.mg E x σ H)
noncomputable def YS (X : Cx) (E : XK) (st : Stmt) (x : MX) : Prop := PS X st (fun _ σ H => lY X.K X.mg E x σ H)
noncomputable def YSs (X : Cx) (E : XK) (st : List Stmt) (x : MX) : Prop := PSs X st (fun _ σ H => lY X.K X.mg E x σ H)
theorem lY.pre {K : Fg} {mg : Str → Option Value} {E : XK} {x : MX} {σ : St} {H H1 : Hp} {O0 : Addr → Prop} {r : En} {n : Str} (hR : R K O0 H r σ) (s : Same H H1) (e : x r = some n) (q : ∀ C H', mg n = some (.ref C) → LeftX H r σ H' → E (.ref C) none H') : lY K mg E x σ H1 :=
  ⟨O0, r, n, hR.same s, e, fun C H' hm l => q C H' hm (l.after s)⟩
section
variable {X : Cx} {E : XK} {st : Stmt} {rest : List Stmt} {x y : MX} {g : MS} {pos : Pos} {a : Expr} {es : List Expr} {f : ME}
theorem YS.of (h : XS X E st x) : YS X E st x := PS.conseq h fun D σ H ⟨O0, r, n, hR, e, q⟩ => ⟨O0, r, n, hR, e, fun C H' r' σ' hm R' k' => q C H' hm k'.left⟩
theorem yss_no : YSs X E rest xNone := fun pins s σ H D I ⟨O0, r, n, hR, e, _⟩ => by cases e
theorem yss_or (h1 : YSs X E rest x) (h2 : YSs X E rest y) : YSs X E rest (xOr x y) := fun pins s σ H D I ⟨O0, r, n, hR, e, q⟩ => by
  unfold xOr at e
  split at e
  · rename_i m hx
    cases e
    exact h1 pins s σ H D I ⟨O0, r, n, hR, hx, q⟩
  · exact h2 pins s σ H D I ⟨O0, r, n, hR, e, q⟩
theorem yss_here (h : YS X E st x) : YSs X E (st :: rest) x := PSs.conseq (pss_cons h (pss_none (rest := rest))) fun D σ H q => q
theorem yss_later (h : DS X st g) (h2 : YSs X E rest x) : YSs X E (st :: rest) (xThen g x) := by
  refine PSs.conseq (pss_cons h h2) fun Dn σ H hq => ?_
  obtain ⟨O0, r, n, hR, e, q⟩ := hq
  obtain ⟨fl, e1, e2⟩ := bind_some e
  cases fl <;> first | (cases e2; done) | skip
  rename_i r1
  exact ⟨O0, r, .nx r1, hR, e1, fun σ1 H1 R1 k1 => ⟨O0, r1, n, R1, e2, fun C H2 hm l2 => q C H2 hm (l2.behind k1)⟩⟩
theorem ys_if {c : Expr} {sa sb : List Stmt} {tc : MB} (hc : DT X c tc) (ha : YSs X E sa x) (hb : YSs X E sb y) : YS X E (.If c sa sb pos) (xIf tc x y) := by
  refine PS.conseq (ps_if hc ha hb) fun Dn σ H hq => ?_
  obtain ⟨O0, r, n, hR, e, q⟩ := hq
  obtain ⟨b, e1, e2⟩ := bind_some e
  refine ⟨O0, r, b, hR, e1, fun H1 s1 => ?_⟩
  cases b with
  | true => rw [if_pos rfl] at e2; exact iteT (lY.pre hR s1 e2 q)
  | false => rw [if_neg Bool.false_ne_true] at e2; exact iteF (lY.pre hR s1 e2 q)
theorem ys_expr (he : YE X E a x) (hs : swapsWith a none pos.line X.env = pure false := by rfl) : YS X E (.Expr a pos) x := PS.conseq (ps_expr he hs) fun _ _ _ h => h
theorem ys_ret (he : YE X E a x) : YS X E (.Return (some a) pos) x := PS.conseq (ps_ret he) fun _ _ _ h => h
theorem ys_set (i : Nat) {v : Str} {pos' : Pos} (he : YE X E a x) (hN : X.N.Nodup) (hi : X.N[i]? = some v := by rfl) (hx : Loc X.env.scope v := by first | exact Or.inl rfl | exact Or.inr rfl) (hs : swapsWith a (some (.Name v pos')) pos.line X.env = pure false := by rfl) (hf : X.fn v = true ∨ X.env.scope.names.lookup v = some .local := by first | exact .inl rfl | exact .inr rfl) :
    YS X E (.Assign [.Name v pos'] a pos) x := PS.conseq (ps_set hN hi hx he hs hf) fun _ _ _ h => h
theorem pa_none : PA X es (fun _ _ _ => False) := fun _ _ _ _ _ _ _ h => h.elim
theorem ya_here (he : YE X E a x) (hs : starEach (a :: es) X.env = (false, eval a X.env) :: starEach es X.env := by rfl) : YA X E (a :: es) x := PA.conseq (pa_cons he (pa_none (es := es)) hs) fun _ _ _ h => h
noncomputable def yPre (f : ME) (x : MX) : MX := fun r => (f r).bind fun _ => x r
theorem ya_later (ha : DE X a f) (hr : YA X E es x) (hs : starEach (a :: es) X.env = (false, eval a X.env) :: starEach es X.env := by rfl) : YA X E (a :: es) (yPre f x) := by
  refine PA.conseq (pa_cons ha hr hs) fun σ H Q hq => ?_
  obtain ⟨O0, r, n, hR, e, q⟩ := hq
  obtain ⟨d, e1, e2⟩ := bind_some e
  exact ⟨O0, r, d, hR, e1, fun v H1 s1 i1 => lY.pre hR s1 e2 q⟩
theorem ye_tup {k : Nat} (h : YA X E es x) : YE X E (.Tuple es k pos) x := PE.conseq (pe_tup h) fun _ _ _ h => h
noncomputable def yOwn (i : Nat) (x : MX) : MX := fun r => (mtOf r i).bind fun _ => x r
theorem ye_append (i : Nat) {v : Str} {pn apos cpos : Pos} (h : PE X (.Name v pn) (tVar i)) (he : YE X E a x)
    (hline : (apos.endLine == cpos.line) = true := by rfl) (hbase : attributeBase (.Name v pn) "append" X.env (eval (.Name v pn) X.env) = eval (.Name v pn) X.env := by rfl)
    (hfew : ((backTo cpos (starEach [a] X.env)).all (fun x => !x.1) && (backToKw cpos (keywordEach [] X.env)).all (fun x => x.1.isSome) && decide ([a].length + ([] : List Keyword).length + (if ([] : List Keyword).isEmpty then 0 else 1) < 30)) = true := by rfl)
    (hs : starEach [a] X.env = (false, eval a X.env) :: starEach [] X.env := by rfl) :
    YE X E (.Call (.Attribute (.Name v pn) "append" apos) [a] [] cpos) (yOwn i x) := by
  refine PE.conseq (pe_bm PySem.F.plainAttrs_list PySem.F.slot_list_append PySem.F.type_list_append mt_append h (ya_here he hs) hbase hfew hline hs) fun σ H Q hq => ?_
  obtain ⟨O0, r, n, hR, e, q⟩ := hq
  obtain ⟨l, e1, e2⟩ := bind_some e
  obtain ⟨b, xs, q1, q2, q3⟩ := mt_at hR e1
  exact ⟨.ref b, q1, .inl ⟨rfl, xs, SqL.of q2⟩, O0, r, n, hR, e2, q⟩
end
noncomputable def spY (K : Fg) (mg : Str → Option Value) (n : Nat) (m : List Sl → Option Str) : Sp := fun vs H _ E => ∃ O0 as nm, as.length = n ∧ R K O0 H as (vs.map some) ∧ m as = some nm ∧ ∀ C H', mg nm = some (.ref C) → LeftX H as (vs.map some) H' → E (.ref C) none H'
noncomputable def mkY (n N : Nat) (x : MX) : List Sl → Option Str := fun as => x (as ++ List.replicate (N - n) .un)
section
variable {P : Program} {w : World} {K : Fg} {mg : Str → Option Value} {base : Heap}
theorem fn_y {x qual : Str} {st : Stmt} {f : Addr} {fd : FuncData} {N ps : List Str} {k : Nat} {m : MX} (F : Fun K x qual st f fd) (S : FnScope N ps (defScope st)) (n : Nat) (nN : Nat) (hn : ps.length = n := by rfl) (hN : N.length = nN := by rfl)
    (hb : ∀ (cdv : Value) (A : Around) (outer : List Env) (s : Shared) (H : Hp) (E : XK), Room k (A.deeper (envOfC qual (defScope st) s.heap.objs.size f cdv)) →
      YSs (cxOf (CX1 P w) P w K mg base N qual (defScope st) f cdv A outer s H E) E (defBody st) m) : FnOk P w K mg base (CX1 P w) (k + 1) f fd ps (spY K mg n (mkY n nN m)) := by
  subst hn hN
  obtain ⟨oc, od, kV, doc, pm, an, cdv, ct, osl, rfl, lk, hcd⟩ := F.ex
  refine fn_of lk hcd S (fun vs H Q E h => ?_) fun A outer s H vs Q E hr h => ?_
  · obtain ⟨O, as, nm, hl, hR, _⟩ := h
    have := hR.len
    simp at this; omega
  · obtain ⟨O, as, nm, hl, hR, e, q⟩ := h
    have hlv : as.length = vs.length := by simpa using hR.len
    refine ⟨_, hb cdv A outer s H E hr, ?_⟩
    have hst : L2.start N vs = vs.map some ++ List.replicate (N.length - ps.length) none := by unfold L2.start; rw [← hlv, hl]
    rw [hst]
    refine ⟨O, _, nm, R.start (k := N.length - ps.length) hR, e, fun C H' hm l => q C H' hm ⟨fun b o eb nb => l.keep b o eb fun z => nb ((own_start rfl hlv).mp z), l.live, l.lst⟩⟩
theorem fn_y0 {f : Addr} {fd : FuncData} {ps : List Str} {k : Nat} (n : Nat) : FnOk P w K mg base (CX1 P w) k f fd ps (spY K mg n fun _ => none) :=
  ⟨(fun vs H Q E h => by obtain ⟨_, _, _, _, _, e, _⟩ := h; cases e), (fun A outer s H args us vs Q E _ _ _ _ h => by obtain ⟨_, _, _, _, _, e, _⟩ := h; cases e)⟩
theorem spY_X {k n : Nat} {f : Addr} {fd : FuncData} {ps : List Str} {m : List Sl → Option Str} (F : FnOk P w K mg base (CX1 P w) k f fd ps (spY K mg n m)) : FnOk P w K mg base (CX1 P w) k f fd ps (spX K mg n fun ds => m (ds.map .v)) :=
  F.imp fun vs H Q E ⟨O, ds, nm, hl, ol, il, e, q⟩ => ⟨O, ds.map .v, nm, by simpa using hl, R.args ol il, e, fun C H' hm l => q C H' hm fun b o eb => l.keep b o eb own_none⟩
end
section
variable {P : Program} {w : World} {K : Fg} {mg : Str → Option Value} {base : Heap} {N : List Str} {qual : Str} {scope : Scope} {f : Addr} {cd : Value} {A : Around} {outer : List Env} {s : Shared} {H : Hp} {E : XK}
theorem pass1 : Passes (CX1 P w) (cxOf (CX1 P w) P w K mg base N qual scope f cd A outer s H E) E := by
  intro pins σ H1 s1 e s' I ⟨ea, C, B, a0, H2, he, ho, hg, hfl, hn, hE, hland⟩
  subst he
  let X := cxOf (CX1 P w) P w K mg base N qual scope f cd A outer s H E
  show wpAny _ _ (leaving X.env (.ref ea)) _ _ s'
  refine wpAny_leaves_onW (env := X.env) (outer := outer) I.ok.frames rfl hfl fun h' fl' u' => ?_
  refine ⟨ea, C, B, a0, H2, rfl, ?_, hg, fl', hn, hE, fun h hB hu => ?_⟩
  · exact ho.trans I.os
  · obtain ⟨u, ok⟩ := hland h hB (u'.trans hu)
    have I' := I.call' (s' := { s' with heap := h }) (ch := []) ho u ok hg fun b z => absurd z (by simp)
    exact ⟨I'.base, I'.hok⟩
end
open PySem PySem.Spec PyProof.Rows L2 PySem.W
noncomputable def yCall (n : Nat) (m : List Sl → Option Str) (fs : ML) : MX := fun r => (fs r).bind fun ds => if ds.length = n then m (ds.map .v) else none
noncomputable def yCallX (n : Nat) (m : List Sl → Option Str) (i : Nat) (z : MZ) : MX := fun r => (mtOf r i).bind fun l => (z r).bind fun q => if q.1.length + 1 + q.2.length = n then m (zArgs q.1 l q.2) else none
section
variable {P : Program} {w : World} {K : Fg} {mg : Str → Option Value} {base : Heap} {N : List Str} {qual : Str} {scope : Scope} {f0 : Addr} {cd : Value} {A : Around} {outer : List Env} {s : Shared} {H : Hp} {E : XK}
variable {k n : Nat} {fa : Addr} {fd : FuncData} {ps : List Str} {m : List Sl → Option Str} {x : Str} {p pos : Pos} {a : Expr} {es : List Expr} {fs : ML}
theorem ye_call (F : FnOk P w K mg base (CX1 P w) k fa fd ps (spY K mg n m)) (hr : Room k (cxOf (CX1 P w) P w K mg base N qual scope f0 cd A outer s H E).A) (hg : Gl (cxOf (CX1 P w) P w K mg base N qual scope f0 cd A outer s H E) x) (hm : mg x = some (.ref fa)) (hk : PySem.W.keepIn K (.ref fa) = true) (hb : Binds K fd ps []) (ha : DA (cxOf (CX1 P w) P w K mg base N qual scope f0 cd A outer s H E) (a :: es) fs)
    (hdb : (x == ("__debug__" : Str)) = false := by decide) (he : starEach (a :: es) (cxOf (CX1 P w) P w K mg base N qual scope f0 cd A outer s H E).env = (false, eval a (cxOf (CX1 P w) P w K mg base N qual scope f0 cd A outer s H E).env) :: starEach es (cxOf (CX1 P w) P w K mg base N qual scope f0 cd A outer s H E).env := by rfl) (hpl : (backTo pos (starEach es (cxOf (CX1 P w) P w K mg base N qual scope f0 cd A outer s H E).env)).any (·.1) = false := by rfl) :
    YE (cxOf (CX1 P w) P w K mg base N qual scope f0 cd A outer s H E) E (.Call (.Name x p) (a :: es) [] pos) (yCall n m fs) := by
  refine PE.conseq (pe_call (E := E) (dvs := []) F hr hg hm hk hb .nil pass1 ha hdb he hpl) fun σ H Q h => ?_
  obtain ⟨O0, r, nm, hR, e, q⟩ := h
  obtain ⟨ds, e1, e2⟩ := bind_some e
  split at e2
  · rename_i hl
    refine ⟨O0, r, ds, hR, e1, fun vs H1 s1 il => ?_⟩
    show spY K mg n m (vs ++ []) H1 Q E
    rw [List.append_nil]
    exact ⟨Ow O0 r σ, ds.map .v, nm, by simpa using hl, R.args (hR.same s1).ol il, e2, fun C H' hm l => q C H' hm ⟨fun b o eb _ => l.keep b o (s1 b o eb) own_none, fun b eb => s1.free (l.live b eb), fun b xs eb => l.lst b xs (s1 b _ eb)⟩⟩
  · cases e2
theorem ye_callX {i : Nat} {z : MZ} (F : FnOk P w K mg base (CX1 P w) k fa fd ps (spY K mg n m)) (hr : Room k (cxOf (CX1 P w) P w K mg base N qual scope f0 cd A outer s H E).A) (hg : Gl (cxOf (CX1 P w) P w K mg base N qual scope f0 cd A outer s H E) x) (hm : mg x = some (.ref fa)) (hk : PySem.W.keepIn K (.ref fa) = true) (hb : Binds K fd ps []) (ha : DZ (cxOf (CX1 P w) P w K mg base N qual scope f0 cd A outer s H E) i (a :: es) z)
    (hdb : (x == ("__debug__" : Str)) = false := by decide) (he : starEach (a :: es) (cxOf (CX1 P w) P w K mg base N qual scope f0 cd A outer s H E).env = (false, eval a (cxOf (CX1 P w) P w K mg base N qual scope f0 cd A outer s H E).env) :: starEach es (cxOf (CX1 P w) P w K mg base N qual scope f0 cd A outer s H E).env := by rfl) (hpl : (backTo pos (starEach es (cxOf (CX1 P w) P w K mg base N qual scope f0 cd A outer s H E).env)).any (·.1) = false := by rfl) :
    YE (cxOf (CX1 P w) P w K mg base N qual scope f0 cd A outer s H E) E (.Call (.Name x p) (a :: es) [] pos) (yCallX n m i z) := by
  refine PE.conseq (pe_call (E := E) (dvs := []) F hr hg hm hk hb .nil pass1 ha hdb he hpl) fun σ H Q h => ?_
  obtain ⟨O0, r, nm, hR, e, q⟩ := h
  obtain ⟨l, e1, e⟩ := bind_some e
  obtain ⟨⟨ds, us⟩, e2, e⟩ := bind_some e
  split at e
  · rename_i hn
    refine ⟨O0, r, l, ds, us, hR, e1, e2, fun vs c ws H1 s1 hc i1 i2 => ?_⟩
    show spY K mg n m ((vs ++ .ref c :: ws) ++ []) H1 Q E
    rw [List.append_nil]
    have R1 := hR.same s1
    obtain ⟨c', xs, p1, p2, p3⟩ := mt_at R1 e1
    rw [hc] at p1; cases p1
    obtain ⟨y, z1, z2⟩ := bind_some e1
    have hoc : Ow O0 r σ c := .inr ⟨i, l, by rw [z1]; exact mt_own z2, hc⟩
    have hmc : MutAt r σ c := ⟨i, l, by rw [z1]; exact z2, hc⟩
    refine ⟨Ow O0 r σ, zArgs ds l us, nm, by simp [zArgs]; simp only at hn; omega, R.zargs R1.ol hoc p2 p3 i1 i2, e, fun C H' hm lx => q C H' hm ⟨fun b o eb nb => lx.keep b o (s1 b o eb) fun zb => ?_, fun b eb => s1.free (lx.live b eb), fun b xs eb => lx.lst b xs (s1 b _ eb)⟩⟩
    obtain ⟨j, m', ej, qj⟩ := zb
    obtain ⟨rfl, _⟩ := zArgs_own (fun _ => rfl) ej
    rw [List.getElem?_map, i1.length, zVs_get] at qj
    cases qj
    exact nb hmc
  · cases e
end
theorem pss_both {X : Cx} {st : List Stmt} {t u : TS} (h1 : PSs X st t) (h2 : PSs X st u) : PSs X st (fun D σ H => t D σ H ∨ u D σ H) := fun pins s σ H D I h => h.elim (h1 pins s σ H D I) (h2 pins s σ H D I)
noncomputable def yForL (bd : D → En → Option En) (g : MS) (x : MX) : List D → MX
  | [], _ => none
  | d :: l, r => (bd d r).bind fun r1 => match x r1 with
    | some n => some n
    | none => (g r1).bind fun fl => match fl with
      | .nx r' => yForL bd g x l r'
      | .ct r' => yForL bd g x l r'
      | _ => none
noncomputable def yFor (bd : D → En → Option En) (it : ML) (g : MS) (x : MX) : MX := fun r => (it r).bind fun l => yForL bd g x l r
section
variable {X : Cx} {E : XK} {pos : Pos} {tg iter : Expr} {bd : D → En → Option En} {it : ML} {g : MS} {x : MX} {body : List Stmt}
theorem ys_for (hp : PassesOwn (model X.prog X.w) X.A X.env X.xe) (hc : X.calm = true) (hi : DI X tg iter it) (hg : DG X tg bd) (hb : DSs X body g) (hx : YSs X E body x) (hs : ∀ x, foldedSetIterable iter X.env x = pure x := by intro _; rfl) :
    YS X E (.For tg iter body [] pos) (yFor bd it g x) := by
  refine PS.conseq (ps_for hp hc hi hg (pss_both hb hx) hs) fun Dn σ H hq => ?_
  obtain ⟨O0, r, nm, hR, e, q⟩ := hq
  obtain ⟨l, e1, e2⟩ := bind_some e
  refine ⟨O0, r, l, hR, e1, fun J H0 s0 yl => ?_⟩
  have R0 := hR.same s0
  refine ⟨fun i m σ1 H1 => m = l.length - i ∧ i ≤ l.length ∧ ∃ r1, R X.K O0 H1 r1 σ1 ∧ Kp H0 r σ H1 r1 σ1 ∧ yForL bd g x (l.drop i) r1 = some nm, ⟨l.length, by simp, Nat.zero_le _, r, R0, Kp.refl H0 r σ, by simpa using e2⟩, ?_⟩
  rintro i m σ1 H1 ⟨rfl, hil, r1, R1, k1, e3⟩
  have k0 := (Kp.of_same r σ s0).trans k1
  obtain ⟨y1, y2⟩ := yl i H1 (Ow O0 r1 σ1) k1.keep fun a z n => z.elim .inl fun z => (k1.new a z).elim .inr fun z => absurd z n
  by_cases hlt : i < l.length
  · obtain ⟨go, yd⟩ := y1 hlt
    have hd : l[i]? = some l[i] := by simp [hlt]
    rw [drop_cons hd] at e3
    obtain ⟨r2, e4, e5⟩ := bind_some e3
    refine .inr ⟨go, fun σ3 H3 => ∃ r3, R X.K O0 H3 r3 σ3 ∧ Kp H0 r σ H3 r3 σ3 ∧ yForL bd g x (l.drop (i + 1)) r3 = some nm, fun σ3 H3 z => ⟨l.length - (i + 1), by omega, rfl, hlt, z⟩, fun v H2 yx => ?_⟩
    obtain ⟨s2, ix⟩ := yd v H2 yx
    have R2 := R1.same s2
    refine ⟨O0, r1, l[i], r2, R2, ix _ hd, e4, fun σ2 R2' k2 => ?_⟩
    have k3 := (k1.trans (Kp.of_same r1 σ1 s2)).trans k2
    have k4 := (k0.trans (Kp.of_same r1 σ1 s2)).trans k2
    cases hxr : x r2 with
    | some n' =>
      rw [hxr] at e5
      cases e5
      exact .inr ⟨O0, r2, nm, R2', hxr, fun C H' hm lx => q C H' hm (lx.behind k4)⟩
    | none =>
      rw [hxr] at e5
      obtain ⟨f1, e6, e7⟩ := bind_some e5
      refine .inl ⟨O0, r2, f1, R2', e6, ?_⟩
      cases f1 with
      | nx r3 => exact fun σ3 H3 R3 kk => ⟨r3, R3, k3.trans kk, e7⟩
      | ct r3 => exact fun σ3 H3 R3 kk => ⟨r3, R3, k3.trans kk, e7⟩
      | bk r3 => cases e7
      | rt d r3 => cases e7
      | rf l' r3 => cases e7
  · have hl : l.drop i = [] := List.drop_eq_nil_of_le (by omega)
    rw [hl] at e3
    cases e3
end
section
variable {X : Cx} {a : Expr} {fs : ME} {ρ : MR} {rest : List Stmt} {epos pos : Pos} {h0 : ExceptHandler} {hs : List ExceptHandler}
noncomputable def mTryOk (fe : ME) (ρ : MR) : MR := fun r => (fe r).bind fun _ => ρ r
theorem dr_tryOk (he : ∀ E, DE (X.wish E) a fs) (hr : DRs X rest ρ) (hsw : swapsWith a none epos.line X.env = pure false := by rfl) : DRs X (.Try [.Expr a epos] (h0 :: hs) [] [] pos :: rest) (mTryOk fs ρ) := by
  intro pins s σ H D I hq
  obtain ⟨O0, r, d, hR, e0, q⟩ := hq
  obtain ⟨v, e1, e2⟩ := bind_some e0
  refine wpAny_execs_cons (wpAny_Try_except ?_)
  refine wpAny_execs_cons ?_
  refine wpAny_Expr_any (wpAny_mono (he (fun _ _ => False) pins s σ H (fun v H1 => Same H H1) (I.wish _) ⟨O0, r, v, hR, e1, fun v H1 s1 _ => s1⟩) (fun u s1 ⟨y, H1, I1, r1, sm⟩ => ?_) fun _ _ z => False.elim z) I.quiet hsw
  refine wpAny_execs_nil (wpAny_execs_nil ?_)
  exact hr pins s1 σ H1 D I1.unwish ⟨O0, r, d, hR.same sm, e2, fun v σ' H' r' R' k' i' => q v σ' H' r' R' ((Kp.of_same r σ sm).trans k') i'⟩
end
open PySem PySem.Spec PyProof.Rows L2 PySem.W
theorem lri_nolen : typeLookup (.type "list_reverseiterator") "__len__" = pure none := by rw [typeLookup_type, builtinLookup_eq_fast]; kernel_rfl
theorem lri_hint : typeLookup (.type "list_reverseiterator") "__length_hint__" = pure (some (.builtin "list_reverseiterator.__length_hint__")) := by rw [typeLookup_type, builtinLookup_eq_fast]; kernel_rfl
section
variable {prog : Program} {w : World} {A : Around} {s : Shared} {Rr : Result → Shared → Prop} {I : Addr} {fp wr : List Addr} {G : Array GenState → Array GenState → Prop} {n : Nat} {P : Nat → Value → Prop} {St : Nat → Shared → Prop}
theorem lri_ext (W : WalksS prog w A.in1 I fp wr G n P St) (hT : ∀ i s, St i s → s.TypeIs (.ref I) "list_reverseiterator") (S : Addr) (res : Value) (c0 : Nat) (st0 : St 0 s) (nS : S ∉ fp) (iI : I ∈ fp) (oS : s.heap.get? S = some { cls := .type "list", data := .seq #[] c0 }) (hn : n ≤ sizeLine)
    (fin : ∀ s' acc' c', Moved (S :: wr) G s s' → s'.heap.get? S = some { cls := .type "list", dict := none, data := .seq acc' c', slots := #[] } → ItemsOf P acc' n → Rr (.ok (.ret res)) s') :
    wpAny (model prog w) A.in1 (Builtin.List.listExtendWith (.ref S) (.ref I) res) (fun fin s' => match fin with | .done f => Rr (.ok f) s' | .again c' => c'.quiet = true ∧ codeAny (model prog w) A c' Rr s') (fun e s' => Rr (.error e) s') s := by
  have nI : S ≠ I := fun e => nS (e ▸ iI)
  have k1 : Builtin.List.listSameRef (.ref S) (.ref I) = false := by simp [Builtin.List.listSameRef, nI]
  rw [Builtin.List.listExtendWith]
  refine wpAny_bind (wpAny_typeOf (hT 0 _ st0) ?_)
  rw [if_neg (by rw [k1]; decide)]
  refine wpAny_bind (W.self 0 _ _ _ st0 ?_)
  refine wpAny_bind (wpAny_holding (?_))
  rw [Builtin.List.listLengthHint]
  refine wpAny_bind (wpAny_specialOf (hT 0 _ st0) lri_nolen ?_)
  show wpAny _ A.in1 ((specialOf (.ref I) (Str.ofString "__length_hint__")) >>= _) _ _ _
  refine wpAny_bind (wpAny_specialOf (hT 0 _ st0) lri_hint ?_)
  generalize hid : ("list_reverseiterator.__length_hint__" : String) = id0
  wp_delta
  rw [show splitId id0 = some ("list_reverseiterator", "__length_hint__") from by subst hid; decide +kernel]
  subst hid
  refine wpAny_bind (wpAny_isInstance (b := true) (hT 0 _ st0) (by rw [isSubtype_type]; kernel_rfl) ?_)
  refine wpAny_pure ?_
  rw [if_neg (by decide)]
  exact wpAny_pure ⟨plainId_quiet F.plain_extend_loop _, codeAny_extend_loopS W hn S nS res n 0 _ _ _ rfl (Nat.zero_le _) st0 oS (ItemsOf.nil P) fin⟩
theorem lri_init (W : WalksS prog w A.in1 I fp wr G n P St) (hT : ∀ i s, St i s → s.TypeIs (.ref I) "list_reverseiterator") (S : Addr) (st0 : St 0 s) (nS : S ∉ fp) (iI : I ∈ fp) (oS : s.heap.get? S = some { cls := .type "list", data := .seq #[] }) (hn : n ≤ sizeLine)
    (fin : ∀ s' acc' c', Moved (S :: wr) G s s' → s'.heap.get? S = some { cls := .type "list", dict := none, data := .seq acc' c', slots := #[] } → ItemsOf P acc' n → Rr (.ok (.ret .none)) s') :
    wpAny (model prog w) A.in1 (Builtin.«list.__init__» ⟨[.ref S, .ref I], []⟩) (fun fin s' => match fin with | .done f => Rr (.ok f) s' | .again c' => c'.quiet = true ∧ codeAny (model prog w) A c' Rr s') (fun e s' => Rr (.error e) s') s := by
  show wpAny _ A.in1 (Builtin.List.listItems (.ref S) >>= fun old => Builtin.List.listUpdate (.ref S) (fun _ => #[]) >>= fun _ => letGo old.toList.reverse >>= fun _ => Builtin.List.listExtendWith (.ref S) (.ref I) .none) _ _ s
  refine wpAny_bind ?_
  unfold Builtin.List.listItems
  refine wpAny_bind (wpAny_seqItems oS rfl (wpAny_pure ?_))
  refine wpAny_bind (m := updateSeq S (fun _ => #[])) (wpAny_updateSeq oS rfl ?_)
  have oS2 := Heap.get?_update_self (Obj.mapSeq (fun _ => (#[] : Array Value))) oS rfl
  have els : ∀ b o, b ≠ S → s.heap.get? b = some o → (s.heap.update S (Obj.mapSeq (fun _ => (#[] : Array Value)))).get? b = some o := fun b o hb e => (Heap.get?_update_other _ _ (Ne.symm hb)).trans e
  refine wpAny_bind (wpAny_letGo ?_)
  refine lri_ext W hT S .none _ (W.frame 0 s _ s.toks st0 (Nat.le_refl _) fun b hb o e => els b o (fun h => nS (h ▸ hb)) e) nS iI oS2 hn fun s' acc' c' hm hS' hacc => ?_
  exact fin s' acc' c' (Moved.trans W.gtrans ((Moved.refl W.grefl).then_heap (Nat.le_refl _) fun b o hb e => els b o (fun h => hb (h ▸ List.mem_cons_self)) e) hm) hS' hacc
end
section
variable {prog : Program} {w : World} {A : Around} {E : Value → Shared → Prop} {s : Shared}
theorem call_list_back {l it : Addr} {items : Array Value} {Q : Value → Shared → Prop} (hh : A.handled = none) (hit : s.heap.IsRevIter it l ((items.size : Int) - 1)) (hl : s.heap.IsList l items) (hne : l ≠ it) (hz : items.size ≤ sizeLine)
    (fin : ∀ s' c', (∀ b o, b ≠ it → s.heap.get? b = some o → s'.heap.get? b = some o) → s'.gens = s.gens → s'.os = s.os → s'.drawn = s.drawn → s'.heap.get? s.heap.objs.size = some { cls := .type "list", dict := none, data := .seq items.reverse c', slots := #[] } → Q (.ref s.heap.objs.size) s') :
    wpAny (model prog w) A (call (.type "list") [Value.ref it]) Q E s := by
  have lt1 : it < s.heap.objs.size := by obtain ⟨o, ho, _⟩ := hit; exact Heap.lt_size ho
  have lt2 : l < s.heap.objs.size := by obtain ⟨o, ho, _⟩ := hl; exact Heap.lt_size ho
  have W := (Walks.listRev (prog := prog) (w := w) (A := A.in1.in1) hh it l hne items).toS
  have nS : s.heap.objs.size ∉ [it, l] := fun z => by
    simp only [List.mem_cons, List.not_mem_nil, or_false] at z
    rcases z with z | z
    · exact absurd lt1 (by rw [← z]; exact Nat.lt_irrefl _)
    · exact absurd lt2 (by rw [← z]; exact Nat.lt_irrefl _)
  have st0 : (fun (i : Nat) (s : Shared) => i ≤ items.size ∧ s.heap.IsRevIter it l ((items.size : Int) - 1 - (i : Int)) ∧ s.heap.IsList l items) 0 s := ⟨Nat.zero_le _, by rw [show ((items.size : Int) - 1 - ((0 : Nat) : Int)) = (items.size : Int) - 1 from Int.sub_zero _]; exact hit, hl⟩
  refine callType_codes (Q₁ := fun obj s1 => obj = .ref s.heap.objs.size ∧ s1 = { s with heap := s.heap.push { cls := .type "list", data := .seq #[] } }) F.called_list (F.typeCall_list_1 _) F.entry_list_init (code_list_new _ ⟨rfl, rfl⟩) fun obj s1 h1 => ?_
  obtain ⟨rfl, rfl⟩ := h1
  have oS : (s.heap.push { cls := .type "list", data := .seq #[] }).get? s.heap.objs.size = some { cls := .type "list", data := .seq #[] } := Heap.get?_push_size _ rfl
  refine ⟨⟨_, oS, rfl⟩, F.args_list_init_2 _ _, lri_init W (fun i s st => st.2.1.typeIs) _ (W.frame 0 s _ s.toks st0 (Nat.le_refl _) fun b _ o e => Heap.get?_push_of_some _ e) nS (by simp) oS hz fun s' acc' c' hm hS' hacc => ⟨rfl, ?_⟩⟩
  have ea : acc' = items.reverse := by
    apply Array.ext
    · rw [hacc.1, Array.size_reverse]
    · intro j h1 h2
      have q : items[items.size - 1 - j]? = some acc'[j] := hacc.2 j acc'[j] (Array.getElem?_eq_getElem h1)
      rw [Array.getElem_reverse]
      rw [Array.getElem?_eq_getElem (by rw [hacc.1] at h1; omega)] at q
      exact (Option.some.inj q).symm
  subst ea
  refine fin s' c' (fun b o hb e => hm.heap b o (fun z => ?_) (Heap.get?_push_of_some _ e)) hm.gens hm.os hm.drawn hS'
  rcases List.mem_cons.mp z with z | z
  · exact absurd (Heap.lt_size e) (by rw [z]; exact Nat.lt_irrefl _)
  · exact hb (List.mem_singleton.mp z)
end
open PySem PySem.Spec PyProof.Rows L2 PySem.W
noncomputable def mRevL (fl : ML) : ML := fun r => (fl r).map List.reverse
section
variable {X : Cx} {a : Expr} {fl : ML} {p1 p2 pos pos2 : Pos}
theorem df_listRev (hc : X.calm = true) (hg1 : Gl X "list") (hm1 : X.mg "list" = none) (hg2 : Gl X "reversed") (hm2 : X.mg "reversed" = none) (ha : DB X a fl) (hs : starEach [a] X.env = [(false, eval a X.env)] := by rfl)
    (hs2 : starEach [.Call (.Name "reversed" p2) [a] [] pos2] X.env = [(false, eval (.Call (.Name "reversed" p2) [a] [] pos2) X.env)] := by rfl) : DF X (.Call (.Name "list" p1) [.Call (.Name "reversed" p2) [a] [] pos2] [] pos) (mRevL fl) := by
  intro pins s σ H Q I hq
  obtain ⟨O0, r, l', hR, e, q⟩ := hq
  obtain ⟨l, e1, rfl⟩ := map_some e
  have hA : PA X [a] (tCons (lB X.K fl) tNil) := pa_cons ha pa_nil (by rw [hs]; rfl)
  have inner : wpAny (model X.prog X.w) X.A (eval (.Call (.Name "reversed" p2) [a] [] pos2) X.env) (fun v s1 => wpAny (model X.prog X.w) X.A (call (.type "list") [v]) (EP X pins σ Q) X.xe s1) X.xe s := by
    refine Call_ (ld_blt I hg2 hm2 PyProof.Rows.boot_reversed (PyProof.Rows.callWith_type1 (thn (hA pos2 pins s σ H (z1 fun x H1 => ∃ u xs, x = .ref u ∧ Same H H1 ∧ SqL X.K H1 u xs ∧ IsL X.K (Ow O0 r σ) H1 l xs) I ⟨O0, r, l, hR, e1, fun u xs H1 s1 sq il => ⟨u, xs, rfl, s1, sq, il⟩⟩) fun us s1 ⟨vs, H1, I1, r1, q1⟩ => ?_) hs rfl))
    obtain ⟨_, rfl, u, xs, rfl, s1', hx, il⟩ := z1_inv q1
    obtain ⟨uu, rfl, ru⟩ := Vals.one r1
    cases ru
    obtain ⟨its, rv, pl, hz⟩ := I1.list hx
    have hl : its.toArray.size = xs.length := by rw [List.size_toArray]; exact rv.length.symm
    have it1 : (s1.heap.push (revObj u ((its.toArray.size : Int) - 1))).IsRevIter s1.heap.objs.size u ((its.toArray.size : Int) - 1) := ⟨_, Heap.get?_push_size _ rfl, rfl, rfl⟩
    have ltu : u < s1.heap.objs.size := by obtain ⟨o, ho, _⟩ := pl.isList; exact Heap.lt_size ho
    refine call_reversed_list pl.isList ?_
    have pl2 : (s1.heap.push (revObj u ((its.toArray.size : Int) - 1))).IsList u its.toArray := pl.isList.at fun o e => Heap.get?_push_of_some _ e
    refine call_list_back (s := { s1 with heap := s1.heap.push (revObj u ((its.toArray.size : Int) - 1)) }) (I.ok.hd hc) it1 pl2 (Nat.ne_of_lt ltu) (by rw [hl]; exact hz) fun s' c' kp hg ho hd hS => ?_
    obtain ⟨h', g', d', t', os'⟩ := s'
    dsimp only at kp hg ho hd hS
    subst hg ho hd
    have sz : (s1.heap.push (revObj u ((its.toArray.size : Int) - 1))).objs.size = s1.heap.objs.size + 1 := by simp [Heap.push]
    have ht : H1 (s1.heap.push (revObj u ((its.toArray.size : Int) - 1))).objs.size = none := I1.hok.fresh (by rw [sz]; exact Nat.le_succ _)
    refine ⟨.ref (s1.heap.push (revObj u ((its.toArray.size : Int) - 1))).objs.size, upd H1 (s1.heap.push (revObj u ((its.toArray.size : Int) - 1))).objs.size (.lst xs.reverse), I1.laid (t' := t') (fun b o e => kp b o (Nat.ne_of_lt (Heap.lt_size e)) (Heap.get?_push_of_some _ e)) (by rw [sz]; exact Nat.le_succ _) ⟨by rw [List.length_reverse]; exact hz, its.reverse, c', rv.reverse, by rw [hS, List.reverse_toArray]⟩, rfl, ?_⟩
    refine q _ _ _ (s1'.trans (same_upd ht)) (s1'.free ht) upd_same ?_
    refine IsL.mono (Same.kp (same_upd ht) _) (hR.same s1').ol (fun b z n => ?_) _ _ il.reverse
    rcases z with z | z
    · exact z
    · subst z; exact absurd ht n
  refine Call_ (ld_blt I hg1 hm1 PyProof.Rows.boot_list (PyProof.Rows.callWith_type1 ?_ hs2 rfl))
  rw [hs2]
  show wpAny _ _ (spliced ((false, eval (.Call (.Name "reversed" p2) [a] [] pos2) X.env) :: backTo pos [])) _ _ s
  exact Calls.spliced_cons (thn inner fun v s1 h1 => Calls.spliced_nil h1)
end
open PySem PySem.Spec PyProof.Rows L2 PySem.W
section
variable {X : Cx} {pos : Pos} {a b : Expr} {f g : ME}
noncomputable def mEqNil (f g : ML) : MB := fun r => (f r).bind fun l => (g r).bind fun m => if m.isEmpty then some l.isEmpty else none
noncomputable def rEqNil (K : Fg) : R2 := fun x y H Q => ∃ p q xs, x = .ref p ∧ y = .ref q ∧ SqL K H p xs ∧ SqL K H q [] ∧ Q (.bl xs.isEmpty) H
theorem op_eqNil (hu : X.A.units < cLine) : OpR X (compareOp .Eq) (rEqNil X.K) := by
  intro pins s σ H x y v u Q I rx ry h
  obtain ⟨p, q', xs, hx, hy, h1, h2, q⟩ := h
  cases xs with
  | nil => exact op_eqL hu pins s σ H x y v u Q I rx ry ⟨p, q', [], [], hx, hy, h1, h2, rfl, rfl, q⟩
  | cons z zs =>
    subst hx hy
    cases rx; cases ry
    obtain ⟨its, r, pl, _⟩ := I.list h1
    obtain ⟨its2, r2, pl2, _⟩ := I.list h2
    have n1 := r.length
    have n2 := r2.length
    simp only [List.length_cons, List.length_nil] at n1 n2
    exact SeqAt.eq_list_lengthsAt pl.isList pl2.isList (by simp only [List.size_toArray, bne_iff_ne]; omega) hu (fin_bl I q rfl)
theorem dt_eqNil {fl gl : ML} (hu : X.A.units < cLine) (ha : DB X a fl) (hb : DB X b gl) (hm : behindInMarks .Eq b = false := by rfl) : DT X (.Compare a [.Eq] [b] pos) (mEqNil fl gl) := by
  refine PT.conseq (pt_cmpR (op_eqNil hu) ha hb hm) fun σ H Q h => ?_
  obtain ⟨O0, r, d, hR, e, q⟩ := h
  obtain ⟨l, e1, e⟩ := bind_some e
  obtain ⟨m, e2, e⟩ := bind_some e
  split at e
  · rename_i hz
    cases e
    refine ⟨O0, r, l, hR, e1, fun p xs H1 s1 sq il => ⟨O0, r, m, hR.same s1, e2, fun p' ys H2 s2 sq' il' => ?_⟩⟩
    have hm : m = [] := by simpa using hz
    subst hm
    unfold IsL at il'
    subst il'
    have hb : l.isEmpty = xs.isEmpty := by
      have := il.length
      cases l <;> cases xs <;> simp_all
    exact ⟨p, p', xs, rfl, rfl, s2.seq sq, sq', _, rfl, by rw [← hb]; exact q H2 (s1.trans s2)⟩
  · cases e
noncomputable def sAsgX (fx : En → Option (D × En)) (bd : D → En → Option En) : MS := fun r => (fx r).bind fun p => (bd p.1 p.2).map .nx
theorem ds_asgX {tg e : Expr} {fx : En → Option (D × En)} {bd : D → En → Option En} (he : DX X e fx) (hg : DG X tg bd) (hs : swapsWithSole [tg] e pos.line X.env = pure false := by rfl) (hw : swappedStores [tg] e X.env = pure none := by rfl)
    (h1 : (assignEach [tg] X.env).map (·.2) = [assign tg X.env] := by rfl) : DS X (.Assign [tg] e pos) (sAsgX fx bd) := by
  refine PS.conseq (ps_asg he hg hs hw h1) fun Dn σ H hq => ?_
  obtain ⟨O0, r, fl, hR, e, q⟩ := hq
  obtain ⟨⟨d, r1⟩, e1, e2⟩ := bind_some e
  obtain ⟨r', e3, rfl⟩ := map_some e2
  exact ⟨O0, r, d, r1, hR, e1, fun v H1 R1 k1 i1 => ⟨O0, r1, d, r', R1, i1, e3, fun σ' R' k' => q σ' H1 R' (k1.trans k')⟩⟩
noncomputable def repL {α : Type} (n : Nat) (l : List α) : List α := (List.replicate n l).flatten
noncomputable def mMulL (fl : ML) (g : ME) : ML := fun r => (fl r).bind fun l => (g r).bind fun d => match d with
  | .int n => if 0 ≤ n ∧ n ≤ 1000 ∧ l.length ≤ 1000 then some (repL n.toNat l) else none
  | _ => none
noncomputable def rMulL : R2 := fun x y H Q => ∃ p xs n, x = .ref p ∧ y = .int n ∧ H p = some (.lst xs) ∧ 0 ≤ n ∧ n ≤ 1000 ∧ xs.length ≤ 1000 ∧ ∀ q, H q = none → Q (.ref q) (upd H q (.lst (repL n.toNat xs)))
theorem repL_vals {xs : List V} {us : List Value} (h : Vals xs us) : ∀ n : Nat, Vals (repL n xs) (repL n us)
  | 0 => .nil
  | n + 1 => by
    unfold repL
    rw [List.replicate_succ, List.replicate_succ, List.flatten_cons, List.flatten_cons]
    exact h.append (repL_vals h n)
theorem repL_len {α : Type} (l : List α) : ∀ n : Nat, (repL n l).length = n * l.length
  | 0 => by simp [repL]
  | n + 1 => by
    have ih := repL_len l n
    unfold repL at ih ⊢
    rw [List.replicate_succ, List.flatten_cons, List.length_append, ih, Nat.succ_mul, Nat.add_comm]
theorem repL_arr (l : List Value) : ∀ (n : Nat) (acc : Array Value), (List.replicate n l.toArray).foldl (fun x1 x2 => x1 ++ x2) acc = acc ++ (repL n l).toArray
  | 0, acc => by simp [repL]
  | n + 1, acc => by
    rw [List.replicate_succ, List.foldl_cons, repL_arr l n]
    unfold repL
    rw [List.replicate_succ (n := n), List.flatten_cons]
    apply Array.toList_inj.mp
    simp
theorem op_mulL : OpR X (binaryOp .Mult) rMulL := by
  intro pins s σ H x y v u Q I rx ry hq
  obtain ⟨p, xs, n, rfl, rfl, hp, h0, h1, h2, q⟩ := hq
  cases rx
  obtain ⟨t, rfl⟩ := ry
  obtain ⟨z, its, k, r, hl, e⟩ := I.lstM hp
  have hb : its.length * n.toNat ≤ 1000 * 1000 := Nat.mul_le_mul (by omega) (by omega)
  refine wpAny_binaryOp_repeat_ref (T := "list") (U := "int") (by decide) ⟨_, e, rfl⟩ (fun s' => typeIs_int s' n t) noFill_list_mul F.fills_int_mul F.slot_int_rmul repeat_list F.slot_int_index.lookup ?_
  refine call_meets F.slot_int_rmul (typeIs_int s n t) F.entry_int_rmul (F.args_int_rmul_2 _ _) (int___rmul___int_list n t p its.toArray k) ⟨e, rfl, ⟨_, e, rfl⟩, ?_⟩
  refine call_meets F.slot_list_mul ⟨_, e, rfl⟩ F.entry_list_mul (F.args_list_mul_2 _ _) (AutoListH.list___mul___list_int_3 p its.toArray k n t (by simp [Builtin.List.listFitsIndex]; omega) (by rw [List.size_toArray]; omega) (by rw [List.size_toArray]; simp [Builtin.List.listTooLong, sizeLine]; omega)) ⟨e, ?_⟩
  have en : List.foldl (fun x1 x2 => x1 ++ x2) #[] (List.replicate (if its.toArray.isEmpty = true then 0 else n.toNat) its.toArray) = (repL n.toNat its).toArray := by
    rw [repL_arr]
    cases its with
    | nil => simp [repL]
    | cons c cs => simp
  rw [en]
  refine ⟨.ref _, _, I.lnew (t' := s.toks) (repL_vals r n.toNat) ?_, rfl, q _ I.fresh⟩
  rw [repL_len, hl, Nat.mul_comm]
  exact Nat.le_trans hb (by decide)
theorem isL_rep {K : Fg} {O : Addr → Prop} {H : Hp} {l : List D} {xs : List V} (h : IsL K O H l xs) : ∀ n : Nat, IsL K O H (repL n l) (repL n xs)
  | 0 => .nil
  | n + 1 => by
    unfold repL
    rw [List.replicate_succ, List.replicate_succ, List.flatten_cons, List.flatten_cons]
    exact h.append (isL_rep h n)
theorem df_mulL {fl : ML} (ha : DF X a fl) (hb : DE X b g) : DF X (.BinOp a .Mult b pos) (mMulL fl g) := by
  refine PE.conseq (pe_op op_mulL ha hb) fun σ H Q hq => ?_
  obtain ⟨O0, r, l', hR, e, q⟩ := hq
  obtain ⟨l, e1, e⟩ := bind_some e
  obtain ⟨d, e2, e⟩ := bind_some e
  cases d <;> first | (cases e; done) | skip
  rename_i n
  simp only at e
  split at e
  · rename_i hz
    cases e
    refine ⟨O0, r, l, hR, e1, fun p xs H1 s1 hp ep il => ⟨O0, r, .int n, hR.same s1, e2, fun v H2 s2 iv => ?_⟩⟩
    rw [Is.int_iff] at iv
    have olp : OLst (fun b => Ow O0 r σ b ∨ b = p) H2 := fun c zc => zc.elim (fun zc => (hR.same (s1.trans s2)).ol c zc) fun zc => by subst zc; exact ⟨xs, s2 _ _ ep⟩
    have il2 := IsL.mono (Same.kp s2 _) (fun c zc => zc.elim (fun zc => (hR.same s1).ol c zc) fun zc => by subst zc; exact ⟨xs, ep⟩) (fun _ zc _ => zc) _ _ il
    refine ⟨p, xs, n, rfl, iv, s2 _ _ ep, hz.1, hz.2.1, by rw [← il.length]; exact hz.2.2, fun t ht => q t _ _ ((s1.trans s2).trans (same_upd ht)) ((s1.trans s2).free ht) upd_same ?_⟩
    exact isL_rep (IsL.mono (Same.kp (same_upd ht) _) olp (fun c zc nc => zc.elim .inl fun zc => by subst zc; exact absurd ht nc) _ _ il2) n.toNat
  · cases e
noncomputable def mIdx (f g : ME) : ME := fun r => (f r).bind fun d => match d with
  | .lst l => (g r).bind fun e => match e with
    | .str t => (strsD l).bind fun ss => if t ∈ ss ∧ ss.length ≤ 1000 then some (.int (ss.idxOf t : Nat)) else none
    | _ => none
  | _ => none
noncomputable def rIdx (K : Fg) : V → List V → Hp → VK → Prop := fun x vs H Q => ∃ (p : Addr) (ss : List (List Nat)) (t : List Nat), x = .ref p ∧ vs = [.str ⟨t.toArray⟩] ∧ SqL K H p (ss.map fun s => V.str ⟨s.toArray⟩) ∧ t ∈ ss ∧ ss.length ≤ 1000 ∧ Q (.int (ss.idxOf t : Nat)) H
theorem vals_strsJ : ∀ {ss : List (List Nat)} {us : List Value}, Vals (ss.map fun s => V.str ⟨s.toArray⟩) us → us.length = ss.length ∧ ∀ (j : Nat) (s : List Nat), ss[j]? = some s → ∃ k, us[j]? = some (.str ⟨s.toArray⟩ k)
  | [], _, .nil => ⟨rfl, fun j s e => by simp at e⟩
  | s :: ss, _, .cons r t => by
    obtain ⟨h1, h2⟩ := vals_strsJ t
    refine ⟨by simp [h1], fun j s' e => ?_⟩
    cases j with
    | zero => simp at e; subst e; obtain ⟨k, rfl⟩ := r; exact ⟨k, rfl⟩
    | succ j => exact h2 j s' (by simpa using e)
noncomputable def eqT0 (t : Str) : Value → Bool
  | .str x _ => x == t
  | _ => false
theorem idx_ne : ∀ (l : List (List Nat)) (t : List Nat) (m : Nat), m < l.idxOf t → l[m]? ≠ some t
  | [], t, m, h => by simp
  | x :: l, t, m, h => by
    rw [List.idxOf_cons] at h
    by_cases hx : x = t
    · subst hx; simp at h
    · have : (x == t) = false := by simpa using hx
      rw [this] at h
      cases m with
      | zero => simpa using hx
      | succ m =>
        rw [List.getElem?_cons_succ]
        exact idx_ne l t m (by simpa using h)
theorem mt_index : MtR X "list.index" (rIdx X.K) := by
  intro pins s σ H x vs v us Q I rx rv h
  obtain ⟨p, ss, t, rfl, rfl, hp, ht, hz, q⟩ := h
  cases rx
  obtain ⟨u, rfl, k, rfl⟩ := Vals.one rv
  obtain ⟨its, r, pl, _⟩ := I.list hp
  obtain ⟨l1, l2⟩ := vals_strsJ r
  obtain ⟨⟨oc, od, oda, osl⟩, n, e, c1, c2, c3⟩ := id pl
  dsimp only at c1 c2 c3
  subst c1 c2 c3
  have hj : ss.idxOf t < ss.length := List.idxOf_lt_length_of_mem ht
  have get : ∀ (m : Nat) (hm : m < its.toArray.size), ∃ s' k', ss[m]? = some s' ∧ its.toArray[m] = .str ⟨s'.toArray⟩ k' := fun m hm => by
    have hm' : m < its.length := by simpa using hm
    have e1 : ss[m]? = some ss[m] := List.getElem?_eq_getElem (by omega)
    obtain ⟨k', q'⟩ := l2 m _ e1
    rw [List.getElem?_eq_getElem hm'] at q'
    exact ⟨_, k', e1, by simpa using q'⟩
  refine call_meets F.slot_list_index ⟨_, e, rfl⟩ F.entry_list_index (F.args_list_index_2 _ _) (SeqAt.list_indexAt p its.toArray n none osl (.str ⟨t.toArray⟩ k) (eqT0 ⟨t.toArray⟩) (ss.idxOf t) (by rw [List.size_toArray]; omega) (by omega) ?_ ?_) ⟨e, fun y hy => ?_, ⟨.int (ss.idxOf t : Nat), H, I.tok _, ⟨_, rfl⟩, q⟩⟩
  · obtain ⟨s', k', e1, e2⟩ := get (ss.idxOf t) (by rw [List.size_toArray]; omega)
    rw [e2]
    rw [List.getElem?_eq_getElem hj, List.getElem_idxOf hj] at e1
    cases e1
    simp [eqT0]
  · intro m hm hmj
    obtain ⟨s', k', e1, e2⟩ := get m hm
    rw [e2]
    have ne : s' ≠ t := fun z => by
      subst z
      exact idx_ne ss s' m hmj e1
    simp only [eqT0, beq_eq_false_iff_ne]
    intro z
    have z' : s'.toArray = t.toArray := by injection z
    exact ne (by simpa using z')
  · obtain ⟨m, hm, rfl⟩ := Array.mem_iff_getElem.mp hy
    obtain ⟨s', k', e1, e2⟩ := get m hm
    rw [e2]
    exact SeqAt.EqAt.str_str _ _ _ _
theorem de_index {apos cpos : Pos} (ho : DE X a f) (hb : DE X b g) (hbase : attributeBase a "index" X.env (eval a X.env) = eval a X.env := by rfl) (hline : (apos.endLine == cpos.line) = true := by rfl)
    (hfew : ((backTo cpos (starEach [b] X.env)).all (fun x => !x.1) && (backToKw cpos (keywordEach [] X.env)).all (fun x => x.1.isSome) && decide ([b].length + ([] : List Keyword).length + (if ([] : List Keyword).isEmpty then 0 else 1) < 30)) = true := by rfl)
    (hs : starEach [b] X.env = (false, eval b X.env) :: starEach [] X.env := by rfl) : DE X (.Call (.Attribute a "index" apos) [b] [] cpos) (mIdx f g) := by
  refine PE.conseq (pe_bm PySem.F.plainAttrs_list PySem.F.slot_list_index PySem.F.type_list_index mt_index ho (pa_cons hb pa_nil hs) hbase hfew hline hs) fun σ H Q hq => ?_
  obtain ⟨O0, r, d, hR, e, q⟩ := hq
  obtain ⟨x, e1, e⟩ := bind_some e
  cases x <;> first | (cases e; done) | skip
  rename_i l
  simp only at e
  obtain ⟨y, e2, e⟩ := bind_some e
  cases y <;> first | (cases e; done) | skip
  rename_i t
  simp only at e
  obtain ⟨ss, e3, e⟩ := bind_some e
  split at e
  · rename_i hz
    cases e
    refine ⟨O0, r, .lst l, hR, e1, fun v H1 s1 i1 => ?_⟩
    rw [Is.lst_iff] at i1
    obtain ⟨p, xs, rfl, hp, il⟩ := i1
    refine ⟨.inl ⟨rfl, xs, hp.sq⟩, O0, r, .str t, hR.same s1, e2, fun u H2 s2 i2 => ?_⟩
    rw [Is.str_iff] at i2
    subst i2
    have exs := strsD_ok e3 il
    subst exs
    exact ⟨p, ss, t, rfl, rfl, s2.seq hp.sq, hz.1, hz.2, q _ H2 (s1.trans s2) (by rw [Is.int_iff])⟩
  · cases e
end
open PySem PySem.Spec PyProof.Rows L2 PySem.W
noncomputable def sNone : MS := fun _ => none
theorem dss_none {X : Cx} {st : List Stmt} : DSs X st sNone := fun pins s σ H D I ⟨O0, r, fl, hR, e, _⟩ => by cases e
end DD
namespace K03
open PySem PySem.Spec PyProof.Rows L2 DD
noncomputable def top (i : Nat) : Stmt := PySem.Challenge.pw_fieldrows_k03_expressions_refused.main.body.getD i (.Pass ⟨0, 0, 0, 0⟩)
noncomputable def RF : Nat := 40
noncomputable def C_KEPT_WORDS : List (List Nat) := [[100, 101, 102], [102, 110], [100, 111], [101, 109, 112, 116, 121], [103, 101, 116], [119, 105, 116, 104], [112, 117, 116], [108, 101, 115, 115], [116, 97, 103], [119, 105, 100, 101], [99, 97, 115, 101], [110, 101, 118, 101, 114], [105, 102]]
noncomputable def C_FORMS : List (List Nat × List Nat) := [([102, 110], [110, 69]), ([100, 111], [69, 69]), ([101, 109, 112, 116, 121], []), ([103, 101, 116], [110, 69]), ([119, 105, 116, 104], [110, 69, 69]), ([112, 117, 116], [110, 69, 69]), ([108, 101, 115, 115], [110, 69]), ([116, 97, 103], [110, 69]), ([119, 105, 100, 101], [110, 69]), ([99, 97, 115, 101], [69, 110, 110, 69, 110, 69]), ([110, 101, 118, 101, 114], [69]), ([105, 102], [69, 69, 69]), ([43], [69, 69]), ([45], [69, 69]), ([42], [69, 69]), ([60], [69, 69])]
noncomputable def g_all_between : MS := (sRet (mAll (mComp [1, 2] 3 (mItS (mVar 0)) (setV 2) (mChain leA leA (mVar 0) (mVar 2) (mVar 1)))))
noncomputable def F_all_between : MF := mkF 3 3 g_all_between
noncomputable def g_is_name : MS := (sRet (mAnd (mChain leA leA (mC (.int 1)) (mUn lenD (mVar 0)) (mC (.int 8))) (mAnd (mCall 3 F_all_between (mCons (mVar 0) (mCons (mC (.str [97])) (mCons (mC (.str [122])) mNil)))) (mBin (inD true) (mVar 0) (mC (.tup (C_KEPT_WORDS.map D.str)))))))
noncomputable def F_is_name : MF := mkF 1 1 g_is_name
noncomputable def g_is_number : MS := (sSeq (sIf (mOrT (mNotT (mBl (mChain leA leA (mC (.int 1)) (mUn lenD (mVar 0)) (mC (.int 6))))) (mNotT (mTru (mCall 3 F_all_between (mCons (mVar 0) (mCons (mC (.str [48])) (mCons (mC (.str [57])) mNil)))))))
 (sRet (mC (.bl false)))
 sSkip)
 (sRet (mOr (mBin eqA (mVar 0) (mC (.str [48]))) (mBin neA (mBin ixD (mVar 0) (mC (.int 0))) (mC (.str [48]))))))
noncomputable def F_is_number : MF := mkF 1 1 g_is_number
noncomputable def g_read_number : MS := (sSeq (sIf (mNotT (mTru (mCall 1 F_is_number (mCons (mVar 0) mNil))))
 sNever
 sSkip)
 (sRet (mUn intOfD (mVar 0))))
noncomputable def F_read_number : MF := mkF 1 1 g_read_number
noncomputable def x_read_number_NoLine : MX := (xIf (mNotT (mTru (mCall 1 F_is_number (mCons (mVar 0) mNil))))
 (xRaise "NoLine" (mFstr (jE (mRepr (mVar 0)) (jE (mC (.str [32, 105, 115, 32, 110, 111, 32, 110, 117, 109, 98, 101, 114])) jNil))))
 xNone)
noncomputable def M_read_number_NoLine : List Sl → Option Str := mkY 1 1 x_read_number_NoLine
noncomputable def g_take_word : MS := (sSeq (sIf (mNotT (mTruB (mOwn 0)))
 sNever
 sSkip)
 (sRetX (mPop 0)))
noncomputable def F_take_word : MF := mkF 1 1 g_take_word
noncomputable def x_take_word_NoLine : MX := (xIf (mNotT (mTruB (mOwn 0)))
 (xRaise "NoLine" (mC (.str [97, 32, 119, 111, 114, 100, 32, 105, 115, 32, 119, 97, 110, 116, 105, 110, 103])))
 xNone)
noncomputable def M_take_word_NoLine : List Sl → Option Str := mkY 1 1 x_take_word_NoLine
noncomputable def g_take_name : MS := (sSeq (sSetX 1 (mCallX 1 F_take_word 0 (zP mNil)))
 (sSeq (sIf (mNotT (mTru (mCall 1 F_is_name (mCons (mVar 1) mNil))))
 sNever
 sSkip)
 (sRet (mVar 1))))
noncomputable def F_take_name : MF := mkF 1 2 g_take_name
noncomputable def x_take_name_NoLine : MX := (xOr (yCallX 1 M_take_word_NoLine 0 (zP mNil))
 (xThen (sSetX 1 (mCallX 1 F_take_word 0 (zP mNil)))
 (xIf (mNotT (mTru (mCall 1 F_is_name (mCons (mVar 1) mNil))))
 (xRaise "NoLine" (mFstr (jE (mRepr (mVar 1)) (jE (mC (.str [32, 105, 115, 32, 110, 111, 32, 110, 97, 109, 101])) jNil))))
 xNone)))
noncomputable def M_take_name_NoLine : List Sl → Option Str := mkY 1 2 x_take_name_NoLine
noncomputable def g_read_leaf : MS := (sSeq (sIf (mTru (mCall 1 F_is_name (mCons (mVar 0) mNil)))
 (sRet (mTup (mCons (mC (.str [110, 97, 109, 101])) (mCons (mVar 0) mNil))))
 sSkip)
 (sRet (mTup (mCons (mC (.str [110, 117, 109])) (mCons (mCall 1 F_read_number (mCons (mVar 0) mNil)) mNil)))))
noncomputable def F_read_leaf : MF := mkF 1 1 g_read_leaf
noncomputable def x_read_leaf_NoLine : MX := (xThen (sIf (mTru (mCall 1 F_is_name (mCons (mVar 0) mNil)))
 (sRet (mTup (mCons (mC (.str [110, 97, 109, 101])) (mCons (mVar 0) mNil))))
 sSkip)
 (yPre (mC (.str [110, 117, 109])) (yCall 1 M_read_number_NoLine (mCons (mVar 0) mNil))))
noncomputable def M_read_leaf_NoLine : List Sl → Option Str := mkY 1 1 x_read_leaf_NoLine
noncomputable def g_take_expression (m : MF) : MS := (sSeq (sIf (mBl (mBin gtD (mVar 1) (mC (.int 30))))
 sNever
 sSkip)
 (sSeq (sSetX 2 (mCallX 1 F_take_word 0 (zP mNil)))
 (sSeq (sIf (mBl (mUn (hasT C_FORMS true) (mVar 2)))
 (sRet (mCall 1 F_read_leaf (mCons (mVar 2) mNil)))
 sSkip)
 (sSeq (sOwn 3 (mLstF (mCons (mVar 2) mNil)))
 (sSeq (sFor (setV 4) (mItS (mUn (atT C_FORMS) (mVar 2)))
 (sIf (mBl (mBin eqA (mVar 4) (mC (.str [110]))))
 (sX (mAppX 3 (mCallX 1 F_take_name 0 (zP mNil))))
 (sX (mAppX 3 (mCallX 2 m 0 (zP (mCons (mBin addD (mVar 1) (mC (.int 1))) mNil)))))))
 (sRet (mTupOf (mOwn 3))))))))
noncomputable def F_take_expression : Nat → MF
  | 0 => fun _ => none
  | k + 1 => mkF 2 5 (g_take_expression (F_take_expression k))
noncomputable def x_take_expression_NoLine (m : MF) (mx : List Sl → Option Str) : MX := (xOr (xIf (mBl (mBin gtD (mVar 1) (mC (.int 30))))
 (xRaise "NoLine" (mC (.str [116, 104, 101, 32, 101, 120, 112, 114, 101, 115, 115, 105, 111, 110, 32, 105, 115, 32, 116, 111, 111, 32, 100, 101, 101, 112])))
 xNone)
 (xThen (sIf (mBl (mBin gtD (mVar 1) (mC (.int 30))))
 sNever
 sSkip)
 (xOr (yCallX 1 M_take_word_NoLine 0 (zP mNil))
 (xThen (sSetX 2 (mCallX 1 F_take_word 0 (zP mNil)))
 (xOr (xIf (mBl (mUn (hasT C_FORMS true) (mVar 2)))
 (yCall 1 M_read_leaf_NoLine (mCons (mVar 2) mNil))
 xNone)
 (xThen (sIf (mBl (mUn (hasT C_FORMS true) (mVar 2)))
 (sRet (mCall 1 F_read_leaf (mCons (mVar 2) mNil)))
 sSkip)
 (xThen (sOwn 3 (mLstF (mCons (mVar 2) mNil)))
 (yFor (setV 4) (mItS (mUn (atT C_FORMS) (mVar 2)))
 (sIf (mBl (mBin eqA (mVar 4) (mC (.str [110]))))
 (sX (mAppX 3 (mCallX 1 F_take_name 0 (zP mNil))))
 (sX (mAppX 3 (mCallX 2 m 0 (zP (mCons (mBin addD (mVar 1) (mC (.int 1))) mNil))))))
 (xIf (mBl (mBin eqA (mVar 4) (mC (.str [110]))))
 (yOwn 3 (yCallX 1 M_take_name_NoLine 0 (zP mNil)))
 (yOwn 3 (yCallX 2 mx 0 (zP (mCons (mBin addD (mVar 1) (mC (.int 1))) mNil)))))))))))))
noncomputable def M_take_expression_NoLine : Nat → List Sl → Option Str
  | 0 => fun _ => none
  | k + 1 => mkY 2 5 (x_take_expression_NoLine (F_take_expression k) (M_take_expression_NoLine k))
noncomputable def g_read_expression : MS := (sSeq (sOwn 1 (mRevF (mSplit (mVar 0) (mC (.str [32])))))
 (sSeq (sSetX 2 (mCallX 2 (F_take_expression RF) 1 (zP (mCons (mC (.int 0)) mNil))))
 (sSeq (sIf (mTruB (mOwn 1))
 sNever
 sSkip)
 (sRet (mVar 2)))))
noncomputable def F_read_expression : MF := mkF 1 3 g_read_expression
noncomputable def x_read_expression_NoLine : MX := (xThen (sOwn 1 (mRevF (mSplit (mVar 0) (mC (.str [32])))))
 (xOr (yCallX 2 (M_take_expression_NoLine RF) 1 (zP (mCons (mC (.int 0)) mNil)))
 (xThen (sSetX 2 (mCallX 2 (F_take_expression RF) 1 (zP (mCons (mC (.int 0)) mNil))))
 (xIf (mTruB (mOwn 1))
 (xRaise "NoLine" (mC (.str [119, 111, 114, 100, 115, 32, 115, 116, 97, 110, 100, 32, 98, 101, 104, 105, 110, 100, 32, 116, 104, 101, 32, 101, 120, 112, 114, 101, 115, 115, 105, 111, 110])))
 xNone))))
noncomputable def M_read_expression_NoLine : List Sl → Option Str := mkY 1 3 x_read_expression_NoLine
noncomputable def g__law_cell : MS := (sSeq (sIf (mBl (mBin ltA (mVar 1) (mUn lenD (mVar 0))))
 (sRet (mBin ixD (mVar 0) (mVar 1)))
 sSkip)
 (sRet (mC (.int 0))))
noncomputable def F__law_cell : MF := mkF 2 2 g__law_cell
noncomputable def g__law_mixed : MS := (sSeq (sSet 2 (mBin modD (mBin addD (mBin addD (mBin modD (mVar 0) (mC (.int 2147483647))) (mBin mulD (mC (.int 16807)) (mVar 1))) (mC (.int 7))) (mC (.int 2147483629))))
 (sSeq (sSet 2 (mBin modD (mBin mulD (mVar 2) (mVar 2)) (mC (.int 2147483587))))
 (sRet (mBin fdivD (mBin modD (mBin mulD (mVar 2) (mBin addD (mVar 2) (mC (.int 48271)))) (mC (.int 2147483579))) (mC (.int 5))))))
noncomputable def F__law_mixed : MF := mkF 2 3 g__law_mixed
noncomputable def g__law_kept : MS := (sRet (mOfF (mLstF (mLit [[100, 101, 102], [102, 110], [100, 111], [101, 109, 112, 116, 121], [103, 101, 116], [119, 105, 116, 104], [112, 117, 116], [108, 101, 115, 115], [116, 97, 103], [119, 105, 100, 101], [99, 97, 115, 101], [110, 101, 118, 101, 114], [105, 102]]))))
noncomputable def F__law_kept : MF := mkF 0 0 g__law_kept
noncomputable def g__law_name : MS := (sSeq (sSet 1 (mC (.str [])))
 (sSeq (sFor (setV 2) (mRng1 (mBin addD (mC (.int 1)) (mBin modD (mVar 0) (mC (.int 8)))))
 (sSet 1 (mBin addD (mVar 1) (mBin ixD (mC (.str [97, 98, 99, 100, 101, 102, 103, 104, 105, 106, 107, 108, 109, 110, 111, 112, 113, 114, 115, 116, 117, 118, 119, 120, 121, 122])) (mBin modD (mCall 2 F__law_mixed (mCons (mVar 0) (mCons (mBin addD (mC (.int 30)) (mVar 2)) mNil))) (mC (.int 26)))))))
 (sSeq (sIf (mBl (mBin (inD false) (mVar 1) (mCall 0 F__law_kept mNil)))
 (sRet (mBin addD (mC (.str [113])) (mSl (mVar 1) (oSome (mC (.int 1))) oNone)))
 sSkip)
 (sRet (mVar 1)))))
noncomputable def F__law_name : MF := mkF 1 3 g__law_name
noncomputable def g__law_names : MS := (sSeq (sSet 1 (mSl (mCall 1 F__law_name (mCons (mCall 2 F__law_mixed (mCons (mVar 0) (mCons (mC (.int 3)) mNil))) mNil)) oNone (oSome (mC (.int 7)))))
 (sSeq (sSet 2 (mOfF (mLstF (mCons (mVar 1) (mCons (mBin addD (mVar 1) (mC (.str [113]))) (mCons (mBin addD (mSl (mVar 1) oNone (oSome (mUn negD (mC (.int 1))))) (mC (.str [122]))) (mCons (mBin addD (mC (.str [122])) (mSl (mVar 1) (oSome (mC (.int 1))) oNone)) mNil)))))))
 (sRet (mBin addD (mVar 2) (mOfF (mLstF (mCons (mCall 1 F__law_name (mCons (mCall 2 F__law_mixed (mCons (mVar 0) (mCons (mC (.int 4)) mNil))) mNil)) (mCons (mCall 1 F__law_name (mCons (mCall 2 F__law_mixed (mCons (mVar 0) (mCons (mC (.int 5)) mNil))) mNil)) mNil))))))))
noncomputable def F__law_names : MF := mkF 1 3 g__law_names
noncomputable def g__law_leaf : MS := (sSeq (sIf (mBl (mBin eqA (mBin modD (mVar 1) (mC (.int 5))) (mC (.int 0))))
 (sRet (mTup (mCons (mTup (mCons (mC (.str [101, 109, 112, 116, 121])) mNil)) (mCons (mOfF (mLstF (mCons (mC (.str [101, 109, 112, 116, 121])) mNil))) (mCons (mC (.int 0)) mNil)))))
 sSkip)
 (sSeq (sIf (mBl (mBin ltA (mBin modD (mVar 1) (mC (.int 5))) (mC (.int 3))))
 (sSeq (sSet 3 (mBin ixD (mVar 2) (mBin modD (mBin fdivD (mVar 1) (mC (.int 5))) (mC (.int 6)))))
 (sRet (mTup (mCons (mTup (mCons (mC (.str [110, 97, 109, 101])) (mCons (mVar 3) mNil))) (mCons (mOfF (mLstF (mCons (mVar 3) mNil))) (mCons (mC (.int 0)) mNil))))))
 sSkip)
 (sSeq (sSet 4 (mBin modD (mBin addD (mVar 0) (mVar 1)) (mBin powD (mC (.int 10)) (mC (.int 6)))))
 (sSeq (sIf (mBl (mBin eqA (mBin modD (mBin fdivD (mVar 1) (mC (.int 5))) (mC (.int 2))) (mC (.int 0))))
 (sSet 4 (mBin modD (mBin fdivD (mVar 1) (mC (.int 10))) (mC (.int 12))))
 sSkip)
 (sRet (mTup (mCons (mTup (mCons (mC (.str [110, 117, 109])) (mCons (mVar 4) mNil))) (mCons (mOfF (mLstF (mCons (mUn strD (mVar 4)) mNil))) (mCons (mC (.int 0)) mNil)))))))))
noncomputable def F__law_leaf : MF := mkF 3 5 g__law_leaf
noncomputable def g__law_one : MS := (sSeq (sSet 3 (mBin ixD (mOfF (mLstF (mLit [[102, 110], [103, 101, 116], [108, 101, 115, 115], [116, 97, 103], [119, 105, 100, 101], [110, 101, 118, 101, 114]]))) (mBin modD (mVar 0) (mC (.int 6)))))
 (sSeq (sSet 4 (mBin ixD (mVar 1) (mBin modD (mBin fdivD (mVar 0) (mC (.int 6))) (mC (.int 6)))))
 (sSeq (sIf (mBl (mBin eqA (mVar 3) (mC (.str [110, 101, 118, 101, 114]))))
 (sRet (mTup (mCons (mTup (mCons (mC (.str [110, 101, 118, 101, 114])) (mCons (mBin ixD (mVar 2) (mC (.int 0))) mNil))) (mCons (mBin addD (mOfF (mLstF (mCons (mC (.str [110, 101, 118, 101, 114])) mNil))) (mBin ixD (mVar 2) (mC (.int 1)))) (mCons (mBin addD (mBin ixD (mVar 2) (mC (.int 2))) (mC (.int 1))) mNil)))))
 sSkip)
 (sRet (mTup (mCons (mTup (mCons (mVar 3) (mCons (mVar 4) (mCons (mBin ixD (mVar 2) (mC (.int 0))) mNil)))) (mCons (mBin addD (mOfF (mLstF (mCons (mVar 3) (mCons (mVar 4) mNil)))) (mBin ixD (mVar 2) (mC (.int 1)))) (mCons (mBin addD (mBin ixD (mVar 2) (mC (.int 2))) (mC (.int 1))) mNil))))))))
noncomputable def F__law_one : MF := mkF 3 5 g__law_one
noncomputable def g__law_two : MS := (sSeq (sSet 4 (mBin ixD (mOfF (mLstF (mLit [[100, 111], [43], [45], [42], [60], [119, 105, 116, 104], [112, 117, 116]]))) (mBin modD (mVar 0) (mC (.int 7)))))
 (sSeq (sSet 5 (mBin ixD (mVar 1) (mBin modD (mBin fdivD (mVar 0) (mC (.int 7))) (mC (.int 6)))))
 (sSeq (sSet 6 (mBin addD (mC (.int 1)) (mMax (mCons (mBin ixD (mVar 2) (mC (.int 2))) (mCons (mBin ixD (mVar 3) (mC (.int 2))) mNil)))))
 (sSeq (sIf (mBl (mBin ltA (mBin modD (mVar 0) (mC (.int 7))) (mC (.int 5))))
 (sRet (mTup (mCons (mTup (mCons (mVar 4) (mCons (mBin ixD (mVar 2) (mC (.int 0))) (mCons (mBin ixD (mVar 3) (mC (.int 0))) mNil)))) (mCons (mBin addD (mBin addD (mOfF (mLstF (mCons (mVar 4) mNil))) (mBin ixD (mVar 2) (mC (.int 1)))) (mBin ixD (mVar 3) (mC (.int 1)))) (mCons (mVar 6) mNil)))))
 sSkip)
 (sRet (mTup (mCons (mTup (mCons (mVar 4) (mCons (mVar 5) (mCons (mBin ixD (mVar 2) (mC (.int 0))) (mCons (mBin ixD (mVar 3) (mC (.int 0))) mNil))))) (mCons (mBin addD (mBin addD (mOfF (mLstF (mCons (mVar 4) (mCons (mVar 5) mNil)))) (mBin ixD (mVar 2) (mC (.int 1)))) (mBin ixD (mVar 3) (mC (.int 1)))) (mCons (mVar 6) mNil)))))))))
noncomputable def F__law_two : MF := mkF 4 7 g__law_two
noncomputable def g__law_three : MS := (sSeq (sAsg (mVar 2) (bdSeq 3 (bdCons (setV 3) (bdCons (setV 4) (bdCons (setV 5) bdNil)))))
 (sSeq (sSet 6 (mBin addD (mC (.int 1)) (mMax (mCons (mBin ixD (mVar 3) (mC (.int 2))) (mCons (mBin ixD (mVar 4) (mC (.int 2))) (mCons (mBin ixD (mVar 5) (mC (.int 2))) mNil))))))
 (sSeq (sSet 7 (mBin ixD (mVar 1) (mBin modD (mBin fdivD (mVar 0) (mC (.int 2))) (mC (.int 6)))))
 (sSeq (sSet 8 (mBin ixD (mVar 1) (mBin modD (mBin fdivD (mVar 0) (mC (.int 12))) (mC (.int 6)))))
 (sSeq (sSet 9 (mBin ixD (mVar 1) (mBin modD (mBin fdivD (mVar 0) (mC (.int 72))) (mC (.int 6)))))
 (sSeq (sIf (mBl (mBin eqA (mBin modD (mVar 0) (mC (.int 2))) (mC (.int 0))))
 (sRet (mTup (mCons (mTup (mCons (mC (.str [105, 102])) (mCons (mBin ixD (mVar 3) (mC (.int 0))) (mCons (mBin ixD (mVar 4) (mC (.int 0))) (mCons (mBin ixD (mVar 5) (mC (.int 0))) mNil))))) (mCons (mBin addD (mBin addD (mBin addD (mOfF (mLstF (mCons (mC (.str [105, 102])) mNil))) (mBin ixD (mVar 3) (mC (.int 1)))) (mBin ixD (mVar 4) (mC (.int 1)))) (mBin ixD (mVar 5) (mC (.int 1)))) (mCons (mVar 6) mNil)))))
 sSkip)
 (sSeq (sSet 10 (mTup (mCons (mC (.str [99, 97, 115, 101])) (mCons (mBin ixD (mVar 3) (mC (.int 0))) (mCons (mVar 7) (mCons (mVar 8) (mCons (mBin ixD (mVar 4) (mC (.int 0))) (mCons (mVar 9) (mCons (mBin ixD (mVar 5) (mC (.int 0))) mNil)))))))))
 (sRet (mTup (mCons (mVar 10) (mCons (mBin addD (mBin addD (mBin addD (mBin addD (mBin addD (mOfF (mLstF (mCons (mC (.str [99, 97, 115, 101])) mNil))) (mBin ixD (mVar 3) (mC (.int 1)))) (mOfF (mLstF (mCons (mVar 7) (mCons (mVar 8) mNil))))) (mBin ixD (mVar 4) (mC (.int 1)))) (mOfF (mLstF (mCons (mVar 9) mNil)))) (mBin ixD (mVar 5) (mC (.int 1)))) (mCons (mVar 6) mNil))))))))))))
noncomputable def F__law_three : MF := mkF 3 11 g__law_three
noncomputable def g__law_grown : MS := (sSeq (sSet 4 (mCall 2 F__law_mixed (mCons (mVar 1) (mCons (mBin addD (mC (.int 50)) (mVar 2)) mNil))))
 (sSeq (sSet 5 (mBin modD (mCall 2 F__law_mixed (mCons (mVar 1) (mCons (mBin addD (mC (.int 250)) (mVar 2)) mNil))) (mC (.int 9))))
 (sSeq (sIf (mAndT (mBl (mBin gtD (mVar 5) (mC (.int 6)))) (mAndT (mBl (mBin gtD (mUn lenD (mVar 0)) (mC (.int 2)))) (mBl (mBin ltA (mMaxL (mComp [] 1 (mIt (mSl (mVar 0) (oSome (mUn negD (mC (.int 3)))) oNone)) (setV 0) (mBin ixD (mVar 0) (mC (.int 2))))) (mC (.int 30))))))
 (sRet (mBin addD (mSl (mVar 0) oNone (oSome (mUn negD (mC (.int 3))))) (mOfF (mLstF (mCons (mCall 3 F__law_three (mCons (mVar 4) (mCons (mVar 3) (mCons (mSl (mVar 0) (oSome (mUn negD (mC (.int 3)))) oNone) mNil)))) mNil)))))
 sSkip)
 (sSeq (sIf (mAndT (mBl (mBin gtD (mVar 5) (mC (.int 4)))) (mAndT (mBl (mBin gtD (mUn lenD (mVar 0)) (mC (.int 1)))) (mBl (mBin ltA (mMaxL (mComp [] 1 (mIt (mSl (mVar 0) (oSome (mUn negD (mC (.int 2)))) oNone)) (setV 0) (mBin ixD (mVar 0) (mC (.int 2))))) (mC (.int 30))))))
 (sRet (mBin addD (mSl (mVar 0) oNone (oSome (mUn negD (mC (.int 2))))) (mOfF (mLstF (mCons (mCall 4 F__law_two (mCons (mVar 4) (mCons (mVar 3) (mCons (mBin ixD (mVar 0) (mUn negD (mC (.int 2)))) (mCons (mBin ixD (mVar 0) (mUn negD (mC (.int 1)))) mNil))))) mNil)))))
 sSkip)
 (sSeq (sIf (mAndT (mBl (mBin gtD (mVar 5) (mC (.int 2)))) (mAndT (mBl (mBin gtD (mUn lenD (mVar 0)) (mC (.int 0)))) (mBl (mBin ltA (mBin ixD (mBin ixD (mVar 0) (mUn negD (mC (.int 1)))) (mC (.int 2))) (mC (.int 30))))))
 (sRet (mBin addD (mSl (mVar 0) oNone (oSome (mUn negD (mC (.int 1))))) (mOfF (mLstF (mCons (mCall 3 F__law_one (mCons (mVar 4) (mCons (mVar 3) (mCons (mBin ixD (mVar 0) (mUn negD (mC (.int 1)))) mNil)))) mNil)))))
 sSkip)
 (sRet (mBin addD (mVar 0) (mOfF (mLstF (mCons (mCall 3 F__law_leaf (mCons (mVar 1) (mCons (mVar 4) (mCons (mVar 3) mNil)))) mNil))))))))))
noncomputable def F__law_grown : MF := mkF 4 6 g__law_grown
noncomputable def g__law_shape : MS := (sSeq (sSet 1 (mOfF (mLstF (mLit [[101, 109, 112, 116, 121], [102, 110], [100, 111], [103, 101, 116], [119, 105, 116, 104], [112, 117, 116], [108, 101, 115, 115], [116, 97, 103], [119, 105, 100, 101], [99, 97, 115, 101], [110, 101, 118, 101, 114], [105, 102], [43], [45], [42]]))))
 (sSeq (sSet 2 (mOfF (mLstF (mLit [[], [110, 101], [101, 101], [110, 101], [110, 101, 101], [110, 101, 101], [110, 101], [110, 101], [110, 101], [101, 110, 110, 101, 110, 101], [101], [101, 101, 101], [101, 101], [101, 101], [101, 101]]))))
 (sSeq (sIf (mBl (mBin eqA (mVar 0) (mC (.str [60]))))
 (sRet (mC (.str [101, 101])))
 sSkip)
 (sSeq (sIf (mBl (mBin (inD false) (mVar 0) (mVar 1)))
 (sRet (mBin ixD (mVar 2) (mIdx (mVar 1) (mVar 0))))
 sSkip)
 (sRet (mC .non))))))
noncomputable def F__law_shape : MF := mkF 1 3 g__law_shape
noncomputable def g__law_all_in : MS := (sSeq (sFor (setV 2) (mItS (mVar 0))
 (sIf (mBl (mBin (inS true) (mVar 2) (mVar 1)))
 (sRet (mC (.bl false)))
 sSkip))
 (sRet (mBin neA (mVar 0) (mC (.str [])))))
noncomputable def F__law_all_in : MF := mkF 2 3 g__law_all_in
noncomputable def g__law_is_name : MS := (sSeq (sIf (mOrT (mBl (mBin gtD (mUn lenD (mVar 0)) (mC (.int 8)))) (mOrT (mBl (mBin eqA (mVar 0) (mC (.str [100, 101, 102])))) (mBl (mBin notND (mCall 1 F__law_shape (mCons (mVar 0) mNil)) (mC .non)))))
 (sRet (mC (.bl false)))
 sSkip)
 (sRet (mCall 2 F__law_all_in (mCons (mVar 0) (mCons (mC (.str [97, 98, 99, 100, 101, 102, 103, 104, 105, 106, 107, 108, 109, 110, 111, 112, 113, 114, 115, 116, 117, 118, 119, 120, 121, 122])) mNil)))))
noncomputable def F__law_is_name : MF := mkF 1 1 g__law_is_name
noncomputable def g__law_is_number : MS := (sSeq (sIf (mOrT (mBl (mBin gtD (mUn lenD (mVar 0)) (mC (.int 6)))) (mNotT (mTru (mCall 2 F__law_all_in (mCons (mVar 0) (mCons (mC (.str [48, 49, 50, 51, 52, 53, 54, 55, 56, 57])) mNil))))))
 (sRet (mC (.bl false)))
 sSkip)
 (sRet (mOr (mBin eqA (mVar 0) (mC (.str [48]))) (mBin neA (mBin ixD (mVar 0) (mC (.int 0))) (mC (.str [48]))))))
noncomputable def F__law_is_number : MF := mkF 1 1 g__law_is_number
noncomputable def g__law_taken : MS := (sSeq (sSet 2 (mC (.int 0)))
 (sSeq (sFor (setV 3) (mItS (mVar 1))
 (sSeq (sIf (mEqNil (mOwn 0) (mLstF mNil))
 (sRet (mC .non))
 sSkip)
 (sSeq (sAsgX (mPop 0) (bdSeq 2 (bdCons (setV 4) (bdCons (setV 5) bdNil))))
 (sSeq (sIf (mAndT (mBl (mBin eqA (mVar 3) (mC (.str [110])))) (mNotT (mTru (mVar 4))))
 (sRet (mC .non))
 sSkip)
 (sIf (mBl (mBin eqA (mVar 3) (mC (.str [101]))))
 (sSet 2 (mMax (mCons (mVar 2) (mCons (mBin addD (mVar 5) (mC (.int 1))) mNil))))
 sSkip)))))
 (sSeq (sIf (mBl (mBin gtD (mVar 2) (mC (.int 30))))
 (sRet (mC .non))
 sSkip)
 (sRet (mTup (mCons (mC (.bl false)) (mCons (mVar 2) mNil)))))))
noncomputable def F__law_taken : MF := mkF 2 6 g__law_taken
noncomputable def g__law_good : MS := (sSeq (sOwn 1 (mLstF mNil))
 (sSeq (sFor (setV 2) (mBack (mVar 0))
 (sSeq (sSet 3 (mCall 1 F__law_shape (mCons (mVar 2) mNil)))
 (sSeq (sIf (mBl (mBin notND (mVar 3) (mC .non)))
 (sSetX 4 (mCallX 2 F__law_taken 1 (zP (mCons (mVar 3) mNil))))
 (sIf (mTru (mCall 1 F__law_is_name (mCons (mVar 2) mNil)))
 (sSet 4 (mTup (mCons (mC (.bl true)) (mCons (mC (.int 0)) mNil))))
 (sIf (mTru (mCall 1 F__law_is_number (mCons (mVar 2) mNil)))
 (sSet 4 (mTup (mCons (mC (.bl false)) (mCons (mC (.int 0)) mNil))))
 (sSet 4 (mC .non)))))
 (sSeq (sIf (mBl (mBin isND (mVar 4) (mC .non)))
 (sRet (mC (.bl false)))
 sSkip)
 (sX (mApp 1 (mVar 4)))))))
 (sRet (mBin eqA (mLenB (mOwn 1)) (mC (.int 1))))))
noncomputable def F__law_good : MF := mkF 1 5 g__law_good
noncomputable def g__law_odd : MS := (sSeq (sSet 2 (mOfF (mLstF (mLit [[100, 101, 102], [102, 110], [100, 111], [101, 109, 112, 116, 121], [103, 101, 116], [119, 105, 116, 104], [112, 117, 116], [108, 101, 115, 115], [116, 97, 103], [119, 105, 100, 101], [99, 97, 115, 101], [110, 101, 118, 101, 114], [105, 102], [43], [45]]))))
 (sSeq (sSet 2 (mBin addD (mVar 2) (mOfF (mLstF (mLit [[42], [60], [], [48], [48, 48], [48, 55], [45, 49], [57, 57, 57, 57, 57, 57], [49, 48, 48, 48, 48, 48, 48], [97], [97, 98, 99, 100, 101, 102, 103, 104], [97, 98, 99, 100, 101, 102, 103, 104, 105], [65], [97, 66]])))))
 (sSeq (sSet 2 (mBin addD (mVar 2) (mOfF (mLstF (mLit [[97, 49], [49, 97], [70, 110], [70, 78], [101, 109, 112, 116], [101, 109, 112, 116, 121, 115], [10], [97, 10], [9], [61], [43, 43]])))))
 (sRet (mBin ixD (mBin addD (mVar 2) (mVar 1)) (mBin modD (mVar 0) (mBin addD (mUn lenD (mVar 2)) (mC (.int 6)))))))))
noncomputable def F__law_odd : MF := mkF 2 3 g__law_odd
noncomputable def g__law_changed : MS := (sSeq (sSet 3 (mBin modD (mBin fdivD (mVar 1) (mC (.int 4))) (mBin addD (mUn lenD (mVar 0)) (mC (.int 1)))))
 (sSeq (sSet 4 (mCall 2 F__law_odd (mCons (mBin fdivD (mVar 1) (mC (.int 2400))) (mCons (mVar 2) mNil))))
 (sSeq (sIf (mBl (mBin eqA (mBin modD (mVar 1) (mC (.int 4))) (mC (.int 0))))
 (sRet (mBin addD (mSl (mVar 0) oNone (oSome (mVar 3))) (mSl (mVar 0) (oSome (mBin addD (mVar 3) (mC (.int 1)))) oNone)))
 sSkip)
 (sSeq (sIf (mBl (mBin eqA (mBin modD (mVar 1) (mC (.int 4))) (mC (.int 1))))
 (sRet (mBin addD (mBin addD (mSl (mVar 0) oNone (oSome (mVar 3))) (mOfF (mLstF (mCons (mVar 4) mNil)))) (mSl (mVar 0) (oSome (mVar 3)) oNone)))
 sSkip)
 (sSeq (sIf (mBl (mBin eqA (mBin modD (mVar 1) (mC (.int 4))) (mC (.int 2))))
 (sRet (mBin addD (mBin addD (mSl (mVar 0) oNone (oSome (mVar 3))) (mOfF (mLstF (mCons (mVar 4) mNil)))) (mSl (mVar 0) (oSome (mBin addD (mVar 3) (mC (.int 1)))) oNone)))
 sSkip)
 (sRet (mBin addD (mBin addD (mSl (mVar 0) oNone (oSome (mVar 3))) (mOfF (mRevL (mAsL (mSl (mVar 0) (oSome (mVar 3)) (oSome (mBin addD (mVar 3) (mC (.int 2))))))))) (mSl (mVar 0) (oSome (mBin addD (mVar 3) (mC (.int 2)))) oNone))))))))
noncomputable def F__law_changed : MF := mkF 3 5 g__law_changed
noncomputable def gx__law_refused_NoLine (e : Addr) : MS := (sSeq (sIf (mBl (mBin isND (mVar 1) (mC .non)))
 (sRet (mC (.str [114, 101, 97, 100])))
 sSkip)
 (sSeq (sIf (mOrT (mNotT (mTru (mUn (isX e true) (mVar 1)))) (mNotT (mTru (mUn (isX e true) (mVar 1)))))
 (sRet (mC (.str [111, 116, 104, 101, 114])))
 sSkip)
 (sSeq (sIf (mOrT (mTru (mUn (isX e false) (mVar 1))) (mOrT (mTru (mUn (isX e false) (mVar 1))) (mTru (mUn (isX e false) (mVar 1)))))
 (sRet (mC (.str [111, 116, 104, 101, 114])))
 sSkip)
 (sRet (mC (.str [114, 101, 102, 117, 115, 101, 100]))))))
theorem rho__law_refused_NoLine : ∀ (e : Addr) (r : En) (d : D), rho0 3 1 2 (.str [114, 101, 102, 117, 115, 101, 100]) r = some d → rD (gx__law_refused_NoLine e) ((r.set 1 (.v (.ref e))).set 2 .un) = some d := by
  intro e r d h
  obtain ⟨hl, _, _, rfl⟩ := rho0_some h
  match r, hl with
  | [a0, a1, a2], _ =>
    show rD (gx__law_refused_NoLine e) [a0, .v (.ref e), .un] = _
    simp [rD, gx__law_refused_NoLine, sSeq, sIf, sRet, sSkip, mOrT, mAndT, mNotT, mTru, mBl, mUn, mBin, mVar, mC, isX, isND, notD, mAnd, mOr, truD, blD]
noncomputable def r__law_refused : MR := (rThen (sSet 1 (mC .non))
 (rOr (mTry (mCons (mVar 0) mNil) 1 (fun ds => M_read_expression_NoLine (ds.map .v)) "NoLine" (rho0 3 1 2 (.str [114, 101, 102, 117, 115, 101, 100])))
 (mTryOk (mCall 1 F_read_expression (mCons (mVar 0) mNil)) (rD (sSeq (sIf (mBl (mBin isND (mVar 1) (mC .non)))
 (sRet (mC (.str [114, 101, 97, 100])))
 sSkip) sNone)))))
noncomputable def F__law_refused : MF := mkR 1 3 r__law_refused
noncomputable def g_law : MS := (sSeq (sSet 1 (mCall 2 F__law_mixed (mCons (mCall 2 F__law_cell (mCons (mVar 0) (mCons (mC (.int 0)) mNil))) (mCons (mC (.int 900)) mNil))))
 (sSeq (sSet 2 (mCall 1 F__law_names (mCons (mCall 2 F__law_cell (mCons (mVar 0) (mCons (mC (.int 1)) mNil))) mNil)))
 (sSeq (sSet 3 (mOfF (mLstF (mCons (mCall 3 F__law_leaf (mCons (mVar 1) (mCons (mCall 2 F__law_mixed (mCons (mVar 1) (mCons (mC (.int 1)) mNil))) (mCons (mVar 2) mNil)))) mNil))))
 (sSeq (sFor (bdSeq 2 (bdCons (setV 4) (bdCons (setV 5) bdNil))) (mEnum (mSl (mVar 0) (oSome (mC (.int 3))) (oSome (mC (.int 203)))))
 (sSet 3 (mCall 4 F__law_grown (mCons (mVar 3) (mCons (mVar 5) (mCons (mVar 4) (mCons (mVar 2) mNil)))))))
 (sSeq (sSet 6 (mBin ixD (mBin ixD (mVar 3) (mUn negD (mC (.int 1)))) (mC (.int 1))))
 (sSeq (sIf (mBl (mBin eqA (mBin modD (mVar 1) (mC (.int 3))) (mC (.int 0))))
 (sSet 6 (mBin addD (mBin addD (mBin addD (mOfF (mMulL (mLstF (mCons (mC (.str [110, 101, 118, 101, 114])) mNil)) (mBin addD (mBin modD (mBin fdivD (mVar 1) (mC (.int 3))) (mC (.int 4))) (mC (.int 1))))) (mOfF (mMulL (mLstF (mLit [[110, 101, 118, 101, 114], [116, 97, 103], [97]])) (mC (.int 13))))) (mOfF (mLstF (mCons (mC (.str [110, 101, 118, 101, 114])) mNil)))) (mVar 6)))
 sSkip)
 (sSeq (sFor (setV 4) (mRng1 (mBin modD (mBin fdivD (mVar 1) (mC (.int 12))) (mC (.int 4))))
 (sSet 6 (mCall 3 F__law_changed (mCons (mVar 6) (mCons (mCall 2 F__law_mixed (mCons (mCall 2 F__law_cell (mCons (mVar 0) (mCons (mC (.int 2)) mNil))) (mCons (mBin addD (mC (.int 910)) (mVar 4)) mNil))) (mCons (mVar 2) mNil))))))
 (sSeq (sSet 7 (mJoin (mC (.str [32])) (mAsL (mVar 6))))
 (sSeq (sIf (mBl (mBin eqA (mBin modD (mBin fdivD (mVar 1) (mC (.int 48))) (mC (.int 8))) (mC (.int 0))))
 (sSeq (sSet 8 (mBin modD (mBin fdivD (mVar 1) (mC (.int 400))) (mBin addD (mUn lenD (mVar 7)) (mC (.int 1)))))
 (sSet 7 (mBin addD (mBin addD (mSl (mVar 7) oNone (oSome (mVar 8))) (mC (.str [32]))) (mSl (mVar 7) (oSome (mVar 8)) oNone))))
 sSkip)
 (sSeq (sSet 9 (mBin ixD (mOfF (mLstF (mCons (mC (.str [114, 101, 102, 117, 115, 101, 100])) (mCons (mC (.str [114, 101, 97, 100])) mNil)))) (mUn intBD (mCall 1 F__law_good (mCons (mOfF (mSplit (mVar 7) (mC (.str [32])))) mNil)))))
 (sRet (mAnd (mBin eqA (mCall 1 F__law_refused (mCons (mVar 7) mNil)) (mVar 9)) (mBin eqA (mCall 1 F__law_refused (mCons (mVar 7) mNil)) (mVar 9))))))))))))))
noncomputable def F_law : MF := mkF 1 10 g_law
structure De (K : Fg) (mg : Str → Option Value) (n : Str) (i : Nat) (ps : List Str) where
  a : Addr
  d : FuncData
  F : Fun K n n (top i) a d
  m : mg n = some (.ref a)
  b : Binds K d ps []
noncomputable abbrev Ok (P : Program) (w : World) {K : Fg} {mg : Str → Option Value} (base : Heap) {n : Str} {i : Nat} {ps : List Str} (D : De K mg n i ps) (k m : Nat) (F : MF) : Prop := FnOk P w K mg base CX0 k D.a D.d ps (spD K m F)
set_option genInjectivity false in
set_option genSizeOf false in
structure Txt (K : Fg) (mg : Str → Option Value) (Ps : Params) where
  d_all_between : De K mg "all_between" 12 ["text", "least", "greatest"]
  d_is_name : De K mg "is_name" 13 ["text"]
  d_is_number : De K mg "is_number" 14 ["text"]
  d_read_number : De K mg "read_number" 15 ["text"]
  d_take_word : De K mg "take_word" 17 ["waiting"]
  d_take_name : De K mg "take_name" 18 ["waiting"]
  d_read_leaf : De K mg "read_leaf" 20 ["word"]
  d_take_expression : De K mg "take_expression" 19 ["waiting", "around"]
  d_read_expression : De K mg "read_expression" 16 ["text"]
  d__law_cell : De K mg "_law_cell" 22 ["_law_script", "_law_k"]
  d__law_mixed : De K mg "_law_mixed" 23 ["_law_cell_here", "_law_k"]
  d__law_kept : De K mg "_law_kept" 24 []
  d__law_name : De K mg "_law_name" 25 ["_law_number"]
  d__law_names : De K mg "_law_names" 26 ["_law_cell_here"]
  d__law_leaf : De K mg "_law_leaf" 27 ["_law_cell_here", "_law_number", "_law_names_here"]
  d__law_one : De K mg "_law_one" 28 ["_law_number", "_law_names_here", "_law_one_here"]
  d__law_two : De K mg "_law_two" 29 ["_law_number", "_law_names_here", "_law_one_here", "_law_other"]
  d__law_three : De K mg "_law_three" 30 ["_law_number", "_law_names_here", "_law_parts_here"]
  d__law_grown : De K mg "_law_grown" 31 ["_law_pile", "_law_cell_here", "_law_k", "_law_names_here"]
  d__law_shape : De K mg "_law_shape" 32 ["_law_word"]
  d__law_all_in : De K mg "_law_all_in" 33 ["_law_word", "_law_signs"]
  d__law_is_name : De K mg "_law_is_name" 34 ["_law_word"]
  d__law_is_number : De K mg "_law_is_number" 35 ["_law_word"]
  d__law_taken : De K mg "_law_taken" 36 ["_law_pile", "_law_shape_here"]
  d__law_good : De K mg "_law_good" 37 ["_law_words"]
  d__law_odd : De K mg "_law_odd" 38 ["_law_number", "_law_names_here"]
  d__law_changed : De K mg "_law_changed" 39 ["_law_words", "_law_number", "_law_names_here"]
  d__law_refused : De K mg "_law_refused" 40 ["_law_text"]
  d_law : De K mg "law" 41 ["_law_script"]
  z_ValueError : mg "ValueError" = none
  z_all : mg "all" = none
  z_enumerate : mg "enumerate" = none
  z_int : mg "int" = none
  z_isinstance : mg "isinstance" = none
  z_len : mg "len" = none
  z_list : mg "list" = none
  z_max : mg "max" = none
  z_range : mg "range" = none
  z_reversed : mg "reversed" = none
  z_str : mg "str" = none
  z_tuple : mg "tuple" = none
  a_FieldError : Addr
  m_FieldError : mg "FieldError" = some (.ref a_FieldError)
  a_TooMuch : Addr
  m_TooMuch : mg "TooMuch" = some (.ref a_TooMuch)
  a_NoLine : Addr
  m_NoLine : mg "NoLine" = some (.ref a_NoLine)
  a_NoName : Addr
  m_NoName : mg "NoName" = some (.ref a_NoName)
  a_NoKind : Addr
  m_NoKind : mg "NoKind" = some (.ref a_NoKind)
  y_NoLine : ErrK K a_FieldError a_NoLine [.ref a_NoLine, .type "ValueError"] [.ref a_TooMuch, .ref a_NoName, .ref a_NoKind]
  c_LONGEST_NAME : ∃ t, mg "LONGEST_NAME" = some (.int 8 t)
  c_MOST_FIGURES : ∃ t, mg "MOST_FIGURES" = some (.int 6 t)
  c_DEEPEST : ∃ t, mg "DEEPEST" = some (.int 30 t)
  c_KEPT_WORDS : GTup mg K "KEPT_WORDS" C_KEPT_WORDS
  c_FORMS : GDict mg K Ps "FORMS" C_FORMS
section
variable {P : Program} {w : World} {K : Fg} {mg : Str → Option Value} {base : Heap}
theorem sc_all_between : FnScope ["text", "least", "greatest"] ["text", "least", "greatest"] (defScope (top 12)) := ⟨rfl, rfl, rfl, by decide +kernel, rfl, by decide +kernel, by decide +kernel⟩
theorem ok_all_between (T : Txt K mg w.params) : Ok P w base T.d_all_between 1 3 F_all_between := by
  refine fn_d T.d_all_between.F sc_all_between 3 3 rfl rfl (g := g_all_between) (fun cdv A outer s H E hr => ?_)
  unfold g_all_between
  exact (by refine ds_one ?_; exact (by refine ds_ret ?_; exact (de_all (by rfl) T.z_all (by refine db_f ?_; exact (df_comp (N' := ["least", "greatest", "sign"]) (cap := [1, 2]) rfl cmp_mk (di_str (de_var 0 (pv 0))) (fun _ _ _ _ => (dg_name 2 (show (["least", "greatest", "sign"] : List Str).Nodup by decide +kernel))) (fun _ _ _ _ => by exact (de_chain op_leA od_leA op_leA od_leA (de_var 0 (pv 0)) (de_var 2 (pv 2)) (de_var 1 (pv 1)))) 3)))))
theorem sc_is_name : FnScope ["text"] ["text"] (defScope (top 13)) := ⟨rfl, rfl, rfl, by decide +kernel, rfl, by decide +kernel, by decide +kernel⟩
theorem ok_is_name (T : Txt K mg w.params) : Ok P w base T.d_is_name 2 1 F_is_name := by
  refine fn_d T.d_is_name.F sc_is_name 1 1 rfl rfl (g := g_is_name) (fun cdv A outer s H E hr => ?_)
  unfold g_is_name
  exact (by refine ds_one ?_; exact (by refine ds_ret ?_; exact (de_and (de_chain op_leA od_leA op_leA od_leA de_int (de_len (by rfl) T.z_len (de_var 0 (pv 0))) (de_gint T.c_LONGEST_NAME (by rfl))) (de_and (de_call (ok_all_between T) (hr.mono (by decide)) (by rfl) T.d_all_between.m T.d_all_between.F.kp T.d_all_between.b (by refine da_cons (de_var 0 (pv 0)) ?_ (hs := stName); refine da_cons (de_str (s := [97]) (by rfl)) ?_ (hs := stConst); refine da_cons (de_str (s := [122]) (by rfl)) ?_ (hs := stConst); exact da_nil)) (de_one (de_cmp op_notIn_seq (od_in true) (de_var 0 (pv 0)) (de_gtup T.c_KEPT_WORDS (by rfl)) rfl))))))
theorem sc_is_number : FnScope ["text"] ["text"] (defScope (top 14)) := ⟨rfl, rfl, rfl, by decide +kernel, rfl, by decide +kernel, by decide +kernel⟩
theorem ok_is_number (T : Txt K mg w.params) : Ok P w base T.d_is_number 2 1 F_is_number := by
  refine fn_d T.d_is_number.F sc_is_number 1 1 rfl rfl (g := g_is_number) (fun cdv A outer s H E hr => ?_)
  unfold g_is_number
  exact (by refine ds_cons ?_ ?_; exact (ds_if (dt_w (dw_or (dt_not (dt_chain op_leA od_leA op_leA od_leA de_int (de_len (by rfl) T.z_len (de_var 0 (pv 0))) (de_gint T.c_MOST_FIGURES (by rfl)))) (dw_or1 (dt_not (dt_tru (de_call (ok_all_between T) (hr.mono (by decide)) (by rfl) T.d_all_between.m T.d_all_between.F.kp T.d_all_between.b (by refine da_cons (de_var 0 (pv 0)) ?_ (hs := stName); refine da_cons (de_str (s := [48]) (by rfl)) ?_ (hs := stConst); refine da_cons (de_str (s := [57]) (by rfl)) ?_ (hs := stConst); exact da_nil))))))) (by refine ds_one ?_; exact (by refine ds_ret ?_; exact de_bl)) ds_nil); exact (by refine ds_one ?_; exact (by refine ds_ret ?_; exact (de_or (de_cmp (op_eqA hr.units0) od_eqA (de_var 0 (pv 0)) (de_str (s := [48]) (by rfl)) (nomark _)) (de_one (de_cmp (op_neA hr.units0) od_neA (de_ix (de_var 0 (pv 0)) de_int) (de_str (s := [48]) (by rfl)) (nomark _)))))))
theorem sc_read_number : FnScope ["text"] ["text"] (defScope (top 15)) := ⟨rfl, rfl, rfl, by decide +kernel, rfl, by decide +kernel, by decide +kernel⟩
theorem ok_read_number (T : Txt K mg w.params) : Ok P w base T.d_read_number 3 1 F_read_number := by
  refine fn_d T.d_read_number.F sc_read_number 1 1 rfl rfl (g := g_read_number) (fun cdv A outer s H E hr => ?_)
  unfold g_read_number
  exact (by refine ds_cons ?_ ?_; exact (ds_if (dt_not (dt_tru (de_call (ok_is_number T) (hr.mono (by decide)) (by rfl) T.d_is_number.m T.d_is_number.F.kp T.d_is_number.b (da_cons (de_var 0 (pv 0)) da_nil (hs := stName))))) (by refine ds_one ?_; exact ds_never) ds_nil); exact (by refine ds_one ?_; exact (by refine ds_ret ?_; exact (de_intOf (by rfl) T.z_int (de_var 0 (pv 0))))))
theorem okx_read_number_NoLine (T : Txt K mg w.params) : FnOk P w K mg base (CX1 P w) 3 T.d_read_number.a T.d_read_number.d ["text"] (spY K mg 1 M_read_number_NoLine) := by
  refine fn_y T.d_read_number.F sc_read_number 1 1 rfl rfl (m := x_read_number_NoLine) (fun cdv A outer s H E hr => ?_)
  unfold x_read_number_NoLine
  exact (by refine yss_here ?_; exact (ys_if (dt_not (dt_tru (de_call (ok_is_number T) (hr.mono (by decide)) (by rfl) T.d_is_number.m T.d_is_number.F.kp T.d_is_number.b (da_cons (de_var 0 (pv 0)) da_nil (hs := stName))))) (by refine yss_here ?_; exact (YS.of (xs_raiseK T.m_NoLine T.y_NoLine.exc (by rfl) (de_fstr (dj_r (de_var 0 (pv 0)) (dj_c (de_str (s := [32, 105, 115, 32, 110, 111, 32, 110, 117, 109, 98, 101, 114]) (by rfl)) dj_nil)))))) yss_no))
theorem sc_take_word : FnScope ["waiting"] ["waiting"] (defScope (top 17)) := ⟨rfl, rfl, rfl, by decide +kernel, rfl, by decide +kernel, by decide +kernel⟩
theorem ok_take_word (T : Txt K mg w.params) : Ok P w base T.d_take_word 1 1 F_take_word := by
  refine fn_d T.d_take_word.F sc_take_word 1 1 rfl rfl (g := g_take_word) (fun cdv A outer s H E hr => ?_)
  unfold g_take_word
  exact (by refine ds_cons ?_ ?_; exact (ds_if (dt_not (dt_truB (db_own 0 (pv 0)))) (by refine ds_one ?_; exact ds_never) ds_nil); exact (by refine ds_one ?_; exact (ds_retX (dx_pop 0 (pv 0)))))
theorem okx_take_word_NoLine (T : Txt K mg w.params) : FnOk P w K mg base (CX1 P w) 1 T.d_take_word.a T.d_take_word.d ["waiting"] (spY K mg 1 M_take_word_NoLine) := by
  refine fn_y T.d_take_word.F sc_take_word 1 1 rfl rfl (m := x_take_word_NoLine) (fun cdv A outer s H E hr => ?_)
  unfold x_take_word_NoLine
  exact (by refine yss_here ?_; exact (ys_if (dt_not (dt_truB (db_own 0 (pv 0)))) (by refine yss_here ?_; exact (YS.of (xs_raiseK T.m_NoLine T.y_NoLine.exc (by rfl) (de_str (s := [97, 32, 119, 111, 114, 100, 32, 105, 115, 32, 119, 97, 110, 116, 105, 110, 103]) (by rfl))))) yss_no))
theorem sc_take_name : FnScope ["waiting", "word"] ["waiting"] (defScope (top 18)) := ⟨rfl, rfl, rfl, by decide +kernel, rfl, by decide +kernel, by decide +kernel⟩
theorem ok_take_name (T : Txt K mg w.params) : Ok P w base T.d_take_name 3 1 F_take_name := by
  refine fn_d T.d_take_name.F sc_take_name 1 2 rfl rfl (g := g_take_name) (fun cdv A outer s H E hr => ?_)
  unfold g_take_name
  exact (by refine ds_cons ?_ ?_; exact (ds_setX 1 (dx_call (ok_take_word T) (hr.mono (by decide)) (by rfl) T.d_take_word.m T.d_take_word.F.kp T.d_take_word.b (dz_p (pv 0) da_nil)) sc_take_name.nd); exact (by refine ds_cons ?_ ?_; exact (ds_if (dt_not (dt_tru (de_call (ok_is_name T) (hr.mono (by decide)) (by rfl) T.d_is_name.m T.d_is_name.F.kp T.d_is_name.b (da_cons (de_var 1 (pv 1)) da_nil (hs := stName))))) (by refine ds_one ?_; exact ds_never) ds_nil); exact (by refine ds_one ?_; exact (by refine ds_ret ?_; exact (de_var 1 (pv 1))))))
theorem okx_take_name_NoLine (T : Txt K mg w.params) : FnOk P w K mg base (CX1 P w) 3 T.d_take_name.a T.d_take_name.d ["waiting"] (spY K mg 1 M_take_name_NoLine) := by
  refine fn_y T.d_take_name.F sc_take_name 1 2 rfl rfl (m := x_take_name_NoLine) (fun cdv A outer s H E hr => ?_)
  unfold x_take_name_NoLine
  exact (by refine yss_or ?_ ?_; exact (by refine yss_here ?_; exact (ys_set 1 (ye_callX (okx_take_word_NoLine T) (hr.mono (by decide)) (by rfl) T.d_take_word.m T.d_take_word.F.kp T.d_take_word.b (dz_p (pv 0) da_nil)) sc_take_name.nd)); exact (by refine yss_later ?_ ?_; exact (ds_setX 1 (dx_call (ok_take_word T) (hr.mono (by decide)) (by rfl) T.d_take_word.m T.d_take_word.F.kp T.d_take_word.b (dz_p (pv 0) da_nil)) sc_take_name.nd); exact (by refine yss_here ?_; exact (ys_if (dt_not (dt_tru (de_call (ok_is_name T) (hr.mono (by decide)) (by rfl) T.d_is_name.m T.d_is_name.F.kp T.d_is_name.b (da_cons (de_var 1 (pv 1)) da_nil (hs := stName))))) (by refine yss_here ?_; exact (YS.of (xs_raiseK T.m_NoLine T.y_NoLine.exc (by rfl) (de_fstr (dj_r (de_var 1 (pv 1)) (dj_c (de_str (s := [32, 105, 115, 32, 110, 111, 32, 110, 97, 109, 101]) (by rfl)) dj_nil)))))) yss_no))))
theorem sc_read_leaf : FnScope ["word"] ["word"] (defScope (top 20)) := ⟨rfl, rfl, rfl, by decide +kernel, rfl, by decide +kernel, by decide +kernel⟩
theorem ok_read_leaf (T : Txt K mg w.params) : Ok P w base T.d_read_leaf 4 1 F_read_leaf := by
  refine fn_d T.d_read_leaf.F sc_read_leaf 1 1 rfl rfl (g := g_read_leaf) (fun cdv A outer s H E hr => ?_)
  unfold g_read_leaf
  exact (by refine ds_cons ?_ ?_; exact (ds_if (dt_tru (de_call (ok_is_name T) (hr.mono (by decide)) (by rfl) T.d_is_name.m T.d_is_name.F.kp T.d_is_name.b (da_cons (de_var 0 (pv 0)) da_nil (hs := stName)))) (by refine ds_one ?_; exact (by refine ds_ret ?_; exact (by refine de_tup ?_; exact (by refine da_cons (de_str (s := [110, 97, 109, 101]) (by rfl)) ?_ (hs := stConst); refine da_cons (de_var 0 (pv 0)) ?_ (hs := stName); exact da_nil)))) ds_nil); exact (by refine ds_one ?_; exact (by refine ds_ret ?_; exact (by refine de_tup ?_; exact (by refine da_cons (de_str (s := [110, 117, 109]) (by rfl)) ?_ (hs := stConst); refine da_cons (de_call (ok_read_number T) (hr.mono (by decide)) (by rfl) T.d_read_number.m T.d_read_number.F.kp T.d_read_number.b (da_cons (de_var 0 (pv 0)) da_nil (hs := stName))) ?_ (hs := stCall); exact da_nil)))))
theorem okx_read_leaf_NoLine (T : Txt K mg w.params) : FnOk P w K mg base (CX1 P w) 4 T.d_read_leaf.a T.d_read_leaf.d ["word"] (spY K mg 1 M_read_leaf_NoLine) := by
  refine fn_y T.d_read_leaf.F sc_read_leaf 1 1 rfl rfl (m := x_read_leaf_NoLine) (fun cdv A outer s H E hr => ?_)
  unfold x_read_leaf_NoLine
  exact (by refine yss_later ?_ ?_; exact (ds_if (dt_tru (de_call (ok_is_name T) (hr.mono (by decide)) (by rfl) T.d_is_name.m T.d_is_name.F.kp T.d_is_name.b (da_cons (de_var 0 (pv 0)) da_nil (hs := stName)))) (by refine ds_one ?_; exact (by refine ds_ret ?_; exact (by refine de_tup ?_; exact (by refine da_cons (de_str (s := [110, 97, 109, 101]) (by rfl)) ?_ (hs := stConst); refine da_cons (de_var 0 (pv 0)) ?_ (hs := stName); exact da_nil)))) ds_nil); exact (by refine yss_here ?_; exact (ys_ret (ye_tup (ya_later (de_str (s := [110, 117, 109]) (by rfl)) (ya_here (ye_call (okx_read_number_NoLine T) (hr.mono (by decide)) (by rfl) T.d_read_number.m T.d_read_number.F.kp T.d_read_number.b (da_cons (de_var 0 (pv 0)) da_nil (hs := stName)))))))))
theorem sc_take_expression : FnScope ["waiting", "around", "word", "taken", "part"] ["waiting", "around"] (defScope (top 19)) := ⟨rfl, rfl, rfl, by decide +kernel, rfl, by decide +kernel, by decide +kernel⟩
theorem ok_take_expression : ∀ (k : Nat) (T : Txt K mg w.params), Ok P w base T.d_take_expression (k + 4) 2 (F_take_expression k)
  | 0, T => fn_0 2
  | k + 1, T => by
    have G := ok_take_expression k T
    rw [show k + 1 + 4 = (k + 4) + 1 by omega]
    refine fn_d T.d_take_expression.F sc_take_expression 2 5 rfl rfl (g := g_take_expression (F_take_expression k)) (fun cdv A outer s H E hr => ?_)
    unfold g_take_expression
    exact (by refine ds_cons ?_ ?_; exact (ds_if (dt_cmp op_gt od_gt (de_var 1 (pv 1)) (de_gint T.c_DEEPEST (by rfl)) (nomark _)) (by refine ds_one ?_; exact ds_never) ds_nil); exact (by refine ds_cons ?_ ?_; exact (ds_setX 2 (dx_call (ok_take_word T) (hr.mono (by omega)) (by rfl) T.d_take_word.m T.d_take_word.F.kp T.d_take_word.b (dz_p (pv 0) da_nil)) sc_take_expression.nd); exact (by refine ds_cons ?_ ?_; exact (ds_if (dt_notHas T.c_FORMS (by rfl) (de_var 2 (pv 2))) (by refine ds_one ?_; exact (by refine ds_ret ?_; exact (de_call (ok_read_leaf T) (hr.mono (by omega)) (by rfl) T.d_read_leaf.m T.d_read_leaf.F.kp T.d_read_leaf.b (da_cons (de_var 2 (pv 2)) da_nil (hs := stName))))) ds_nil); exact (by refine ds_cons ?_ ?_; exact (ds_own 3 (by refine df_lst ?_; exact (da_cons (de_var 2 (pv 2)) da_nil (hs := stName))) sc_take_expression.nd); exact (by refine ds_cons ?_ ?_; exact (ds_for PassesOwn.never rfl (di_str (de_gat T.c_FORMS (by rfl) (de_var 2 (pv 2)))) (dg_name 4 sc_take_expression.nd) (by refine ds_one ?_; exact (ds_if (dt_cmp (op_eqA hr.units0) od_eqA (de_var 4 (pv 4)) (de_str (s := [110]) (by rfl)) (nomark _)) (by refine ds_one ?_; exact (ds_x (dx_appendX 3 (pv 3) (dx_call (ok_take_name T) (hr.mono (by omega)) (by rfl) T.d_take_name.m T.d_take_name.F.kp T.d_take_name.b (dz_p (pv 0) da_nil))))) (by refine ds_one ?_; exact (ds_x (dx_appendX 3 (pv 3) (dx_call G (hr.mono (by omega)) (by rfl) T.d_take_expression.m T.d_take_expression.F.kp T.d_take_expression.b (dz_p (pv 0) (da_cons (de_bin op_plus od_plus (de_var 1 (pv 1)) de_int) da_nil (hs := stBin)))))))))); exact (by refine ds_one ?_; exact (by refine ds_ret ?_; exact (de_tupleOf (by rfl) T.z_tuple (db_own 3 (pv 3))))))))))
theorem okx_take_expression_NoLine : ∀ (k : Nat) (T : Txt K mg w.params), FnOk P w K mg base (CX1 P w) (k + 4) T.d_take_expression.a T.d_take_expression.d ["waiting", "around"] (spY K mg 2 (M_take_expression_NoLine k))
  | 0, T => fn_y0 2
  | k + 1, T => by
    have G := ok_take_expression (P := P) (w := w) (base := base) k T
    have GX := okx_take_expression_NoLine k T
    rw [show k + 1 + 4 = (k + 4) + 1 by omega]
    refine fn_y T.d_take_expression.F sc_take_expression 2 5 rfl rfl (m := x_take_expression_NoLine (F_take_expression k) (M_take_expression_NoLine k)) (fun cdv A outer s H E hr => ?_)
    unfold x_take_expression_NoLine
    exact (by refine yss_or ?_ ?_; exact (by refine yss_here ?_; exact (ys_if (dt_cmp op_gt od_gt (de_var 1 (pv 1)) (de_gint T.c_DEEPEST (by rfl)) (nomark _)) (by refine yss_here ?_; exact (YS.of (xs_raiseK T.m_NoLine T.y_NoLine.exc (by rfl) (de_str (s := [116, 104, 101, 32, 101, 120, 112, 114, 101, 115, 115, 105, 111, 110, 32, 105, 115, 32, 116, 111, 111, 32, 100, 101, 101, 112]) (by rfl))))) yss_no)); exact (by refine yss_later ?_ ?_; exact (ds_if (dt_cmp op_gt od_gt (de_var 1 (pv 1)) (de_gint T.c_DEEPEST (by rfl)) (nomark _)) (by refine ds_one ?_; exact ds_never) ds_nil); exact (by refine yss_or ?_ ?_; exact (by refine yss_here ?_; exact (ys_set 2 (ye_callX (okx_take_word_NoLine T) (hr.mono (by omega)) (by rfl) T.d_take_word.m T.d_take_word.F.kp T.d_take_word.b (dz_p (pv 0) da_nil)) sc_take_expression.nd)); exact (by refine yss_later ?_ ?_; exact (ds_setX 2 (dx_call (ok_take_word T) (hr.mono (by omega)) (by rfl) T.d_take_word.m T.d_take_word.F.kp T.d_take_word.b (dz_p (pv 0) da_nil)) sc_take_expression.nd); exact (by refine yss_or ?_ ?_; exact (by refine yss_here ?_; exact (ys_if (dt_notHas T.c_FORMS (by rfl) (de_var 2 (pv 2))) (by refine yss_here ?_; exact (ys_ret (ye_call (okx_read_leaf_NoLine T) (hr.mono (by omega)) (by rfl) T.d_read_leaf.m T.d_read_leaf.F.kp T.d_read_leaf.b (da_cons (de_var 2 (pv 2)) da_nil (hs := stName))))) yss_no)); exact (by refine yss_later ?_ ?_; exact (ds_if (dt_notHas T.c_FORMS (by rfl) (de_var 2 (pv 2))) (by refine ds_one ?_; exact (by refine ds_ret ?_; exact (de_call (ok_read_leaf T) (hr.mono (by omega)) (by rfl) T.d_read_leaf.m T.d_read_leaf.F.kp T.d_read_leaf.b (da_cons (de_var 2 (pv 2)) da_nil (hs := stName))))) ds_nil); exact (by refine yss_later ?_ ?_; exact (ds_own 3 (by refine df_lst ?_; exact (da_cons (de_var 2 (pv 2)) da_nil (hs := stName))) sc_take_expression.nd); exact (by refine yss_here ?_; exact (ys_for PassesOwn.leaving rfl (di_str (de_gat T.c_FORMS (by rfl) (de_var 2 (pv 2)))) (dg_name 4 sc_take_expression.nd) (by refine ds_one ?_; exact (ds_if (dt_cmp (op_eqA hr.units0) od_eqA (de_var 4 (pv 4)) (de_str (s := [110]) (by rfl)) (nomark _)) (by refine ds_one ?_; exact (ds_x (dx_appendX 3 (pv 3) (dx_call (ok_take_name T) (hr.mono (by omega)) (by rfl) T.d_take_name.m T.d_take_name.F.kp T.d_take_name.b (dz_p (pv 0) da_nil))))) (by refine ds_one ?_; exact (ds_x (dx_appendX 3 (pv 3) (dx_call G (hr.mono (by omega)) (by rfl) T.d_take_expression.m T.d_take_expression.F.kp T.d_take_expression.b (dz_p (pv 0) (da_cons (de_bin op_plus od_plus (de_var 1 (pv 1)) de_int) da_nil (hs := stBin))))))))) (by refine yss_here ?_; exact (ys_if (dt_cmp (op_eqA hr.units0) od_eqA (de_var 4 (pv 4)) (de_str (s := [110]) (by rfl)) (nomark _)) (by refine yss_here ?_; exact (ys_expr (ye_append 3 (pv 3) (ye_callX (okx_take_name_NoLine T) (hr.mono (by omega)) (by rfl) T.d_take_name.m T.d_take_name.F.kp T.d_take_name.b (dz_p (pv 0) da_nil))))) (by refine yss_here ?_; exact (ys_expr (ye_append 3 (pv 3) (ye_callX GX (hr.mono (by omega)) (by rfl) T.d_take_expression.m T.d_take_expression.F.kp T.d_take_expression.b (dz_p (pv 0) (da_cons (de_bin op_plus od_plus (de_var 1 (pv 1)) de_int) da_nil (hs := stBin))))))))))))))))))
theorem sc_read_expression : FnScope ["text", "waiting", "expression"] ["text"] (defScope (top 16)) := ⟨rfl, rfl, rfl, by decide +kernel, rfl, by decide +kernel, by decide +kernel⟩
theorem ok_read_expression (T : Txt K mg w.params) : Ok P w base T.d_read_expression 45 1 F_read_expression := by
  refine fn_d T.d_read_expression.F sc_read_expression 1 3 rfl rfl (g := g_read_expression) (fun cdv A outer s H E hr => ?_)
  unfold g_read_expression
  exact (by refine ds_cons ?_ ?_; exact (ds_own 1 (df_rev (db_f (df_split (de_var 0 (pv 0)) (de_str (s := [32]) (by rfl))))) sc_read_expression.nd); exact (by refine ds_cons ?_ ?_; exact (ds_setX 2 (dx_call (ok_take_expression RF T) (hr.mono (by decide)) (by rfl) T.d_take_expression.m T.d_take_expression.F.kp T.d_take_expression.b (dz_p (pv 1) (da_cons de_int da_nil (hs := stConst)))) sc_read_expression.nd); exact (by refine ds_cons ?_ ?_; exact (ds_if (dt_truB (db_own 1 (pv 1))) (by refine ds_one ?_; exact ds_never) ds_nil); exact (by refine ds_one ?_; exact (by refine ds_ret ?_; exact (de_var 2 (pv 2)))))))
theorem okx_read_expression_NoLine (T : Txt K mg w.params) : FnOk P w K mg base (CX1 P w) 45 T.d_read_expression.a T.d_read_expression.d ["text"] (spY K mg 1 M_read_expression_NoLine) := by
  refine fn_y T.d_read_expression.F sc_read_expression 1 3 rfl rfl (m := x_read_expression_NoLine) (fun cdv A outer s H E hr => ?_)
  unfold x_read_expression_NoLine
  exact (by refine yss_later ?_ ?_; exact (ds_own 1 (df_rev (db_f (df_split (de_var 0 (pv 0)) (de_str (s := [32]) (by rfl))))) sc_read_expression.nd); exact (by refine yss_or ?_ ?_; exact (by refine yss_here ?_; exact (ys_set 2 (ye_callX (okx_take_expression_NoLine RF T) (hr.mono (by decide)) (by rfl) T.d_take_expression.m T.d_take_expression.F.kp T.d_take_expression.b (dz_p (pv 1) (da_cons de_int da_nil (hs := stConst)))) sc_read_expression.nd)); exact (by refine yss_later ?_ ?_; exact (ds_setX 2 (dx_call (ok_take_expression RF T) (hr.mono (by decide)) (by rfl) T.d_take_expression.m T.d_take_expression.F.kp T.d_take_expression.b (dz_p (pv 1) (da_cons de_int da_nil (hs := stConst)))) sc_read_expression.nd); exact (by refine yss_here ?_; exact (ys_if (dt_truB (db_own 1 (pv 1))) (by refine yss_here ?_; exact (YS.of (xs_raiseK T.m_NoLine T.y_NoLine.exc (by rfl) (de_str (s := [119, 111, 114, 100, 115, 32, 115, 116, 97, 110, 100, 32, 98, 101, 104, 105, 110, 100, 32, 116, 104, 101, 32, 101, 120, 112, 114, 101, 115, 115, 105, 111, 110]) (by rfl))))) yss_no)))))
theorem sc__law_cell : FnScope ["_law_script", "_law_k"] ["_law_script", "_law_k"] (defScope (top 22)) := ⟨rfl, rfl, rfl, by decide +kernel, rfl, by decide +kernel, by decide +kernel⟩
theorem ok__law_cell (T : Txt K mg w.params) : Ok P w base T.d__law_cell 1 2 F__law_cell := by
  refine fn_d T.d__law_cell.F sc__law_cell 2 2 rfl rfl (g := g__law_cell) (fun cdv A outer s H E hr => ?_)
  unfold g__law_cell
  exact (by refine ds_cons ?_ ?_; exact (ds_if (dt_cmp op_ltA od_ltA (de_var 1 (pv 1)) (de_len (by rfl) T.z_len (de_var 0 (pv 0))) (nomark _)) (by refine ds_one ?_; exact (by refine ds_ret ?_; exact (de_ix (de_var 0 (pv 0)) (de_var 1 (pv 1))))) ds_nil); exact (by refine ds_one ?_; exact (by refine ds_ret ?_; exact de_int)))
theorem sc__law_mixed : FnScope ["_law_cell_here", "_law_k", "_law_number"] ["_law_cell_here", "_law_k"] (defScope (top 23)) := ⟨rfl, rfl, rfl, by decide +kernel, rfl, by decide +kernel, by decide +kernel⟩
theorem ok__law_mixed (T : Txt K mg w.params) : Ok P w base T.d__law_mixed 1 2 F__law_mixed := by
  refine fn_d T.d__law_mixed.F sc__law_mixed 2 3 rfl rfl (g := g__law_mixed) (fun cdv A outer s H E hr => ?_)
  unfold g__law_mixed
  exact (by refine ds_cons ?_ ?_; exact (ds_set 2 (de_bin op_mod od_mod (de_bin op_plus od_plus (de_bin op_plus od_plus (de_bin op_mod od_mod (de_var 0 (pv 0)) de_int) (de_bin op_mul od_mul de_int (de_var 1 (pv 1)))) de_int) de_int) sc__law_mixed.nd); exact (by refine ds_cons ?_ ?_; exact (ds_set 2 (de_bin op_mod od_mod (de_bin op_mul od_mul (de_var 2 (pv 2)) (de_var 2 (pv 2))) de_int) sc__law_mixed.nd); exact (by refine ds_one ?_; exact (by refine ds_ret ?_; exact (de_bin op_fdiv od_fdiv (de_bin op_mod od_mod (de_bin op_mul od_mul (de_var 2 (pv 2)) (de_bin op_plus od_plus (de_var 2 (pv 2)) de_int)) de_int) de_int)))))
theorem sc__law_kept : FnScope [] [] (defScope (top 24)) := ⟨rfl, rfl, rfl, by decide +kernel, rfl, by decide +kernel, by decide +kernel⟩
theorem ok__law_kept (T : Txt K mg w.params) : Ok P w base T.d__law_kept 1 0 F__law_kept := by
  refine fn_d T.d__law_kept.F sc__law_kept 0 0 rfl rfl (g := g__law_kept) (fun cdv A outer s H E hr => ?_)
  unfold g__law_kept
  exact (by refine ds_one ?_; exact (by refine ds_ret ?_; exact (by refine de_f ?_; exact (by refine df_lst ?_; exact (by refine da_strs (ss := [[100, 101, 102], [102, 110], [100, 111], [101, 109, 112, 116, 121], [103, 101, 116], [119, 105, 116, 104], [112, 117, 116], [108, 101, 115, 115], [116, 97, 103], [119, 105, 100, 101], [99, 97, 115, 101], [110, 101, 118, 101, 114], [105, 102]]) ?_; rfl)))))
theorem sc__law_name : FnScope ["_law_number", "_law_word", "_law_k"] ["_law_number"] (defScope (top 25)) := ⟨rfl, rfl, rfl, by decide +kernel, rfl, by decide +kernel, by decide +kernel⟩
theorem ok__law_name (T : Txt K mg w.params) : Ok P w base T.d__law_name 2 1 F__law_name := by
  refine fn_d T.d__law_name.F sc__law_name 1 3 rfl rfl (g := g__law_name) (fun cdv A outer s H E hr => ?_)
  unfold g__law_name
  exact (by refine ds_cons ?_ ?_; exact (ds_set 1 (de_str (s := []) (by rfl)) sc__law_name.nd); exact (by refine ds_cons ?_ ?_; exact (ds_for PassesOwn.never rfl (di_rng1 (by rfl) T.z_range (de_bin op_plus od_plus de_int (de_bin op_mod od_mod (de_var 0 (pv 0)) de_int))) (dg_name 2 sc__law_name.nd) (by refine ds_one ?_; exact (ds_set 1 (de_bin op_plus od_plus (de_var 1 (pv 1)) (de_ix (de_str (s := [97, 98, 99, 100, 101, 102, 103, 104, 105, 106, 107, 108, 109, 110, 111, 112, 113, 114, 115, 116, 117, 118, 119, 120, 121, 122]) (by rfl)) (de_bin op_mod od_mod (de_call (ok__law_mixed T) (hr.mono (by decide)) (by rfl) T.d__law_mixed.m T.d__law_mixed.F.kp T.d__law_mixed.b (by refine da_cons (de_var 0 (pv 0)) ?_ (hs := stName); refine da_cons (de_bin op_plus od_plus de_int (de_var 2 (pv 2))) ?_ (hs := stBin); exact da_nil)) de_int))) sc__law_name.nd))); exact (by refine ds_cons ?_ ?_; exact (ds_if (dt_cmp op_in_seq (od_in false) (de_var 1 (pv 1)) (de_call0 (ok__law_kept T) (hr.mono (by decide)) (by rfl) T.d__law_kept.m T.d__law_kept.F.kp T.d__law_kept.b) rfl) (by refine ds_one ?_; exact (by refine ds_ret ?_; exact (de_bin op_plus od_plus (de_str (s := [113]) (by rfl)) (de_sl (de_var 1 (pv 1)) (do_some de_int) do_none)))) ds_nil); exact (by refine ds_one ?_; exact (by refine ds_ret ?_; exact (de_var 1 (pv 1)))))))
theorem sc__law_names : FnScope ["_law_cell_here", "_law_near", "_law_words"] ["_law_cell_here"] (defScope (top 26)) := ⟨rfl, rfl, rfl, by decide +kernel, rfl, by decide +kernel, by decide +kernel⟩
theorem ok__law_names (T : Txt K mg w.params) : Ok P w base T.d__law_names 3 1 F__law_names := by
  refine fn_d T.d__law_names.F sc__law_names 1 3 rfl rfl (g := g__law_names) (fun cdv A outer s H E hr => ?_)
  unfold g__law_names
  exact (by refine ds_cons ?_ ?_; exact (ds_set 1 (de_sl (de_call (ok__law_name T) (hr.mono (by decide)) (by rfl) T.d__law_name.m T.d__law_name.F.kp T.d__law_name.b (da_cons (de_call (ok__law_mixed T) (hr.mono (by decide)) (by rfl) T.d__law_mixed.m T.d__law_mixed.F.kp T.d__law_mixed.b (by refine da_cons (de_var 0 (pv 0)) ?_ (hs := stName); refine da_cons de_int ?_ (hs := stConst); exact da_nil)) da_nil (hs := stCall))) do_none (do_some de_int)) sc__law_names.nd); exact (by refine ds_cons ?_ ?_; exact (ds_set 2 (by refine de_f ?_; exact (by refine df_lst ?_; exact (by refine da_cons (de_var 1 (pv 1)) ?_ (hs := stName); refine da_cons (de_bin op_plus od_plus (de_var 1 (pv 1)) (de_str (s := [113]) (by rfl))) ?_ (hs := stBin); refine da_cons (de_bin op_plus od_plus (de_sl (de_var 1 (pv 1)) do_none (do_some (de_neg de_int))) (de_str (s := [122]) (by rfl))) ?_ (hs := stBin); refine da_cons (de_bin op_plus od_plus (de_str (s := [122]) (by rfl)) (de_sl (de_var 1 (pv 1)) (do_some de_int) do_none)) ?_ (hs := stBin); exact da_nil))) sc__law_names.nd); exact (by refine ds_one ?_; exact (by refine ds_ret ?_; exact (de_bin op_plus od_plus (de_var 2 (pv 2)) (by refine de_f ?_; exact (by refine df_lst ?_; exact (by refine da_cons (de_call (ok__law_name T) (hr.mono (by decide)) (by rfl) T.d__law_name.m T.d__law_name.F.kp T.d__law_name.b (da_cons (de_call (ok__law_mixed T) (hr.mono (by decide)) (by rfl) T.d__law_mixed.m T.d__law_mixed.F.kp T.d__law_mixed.b (by refine da_cons (de_var 0 (pv 0)) ?_ (hs := stName); refine da_cons de_int ?_ (hs := stConst); exact da_nil)) da_nil (hs := stCall))) ?_ (hs := stCall); refine da_cons (de_call (ok__law_name T) (hr.mono (by decide)) (by rfl) T.d__law_name.m T.d__law_name.F.kp T.d__law_name.b (da_cons (de_call (ok__law_mixed T) (hr.mono (by decide)) (by rfl) T.d__law_mixed.m T.d__law_mixed.F.kp T.d__law_mixed.b (by refine da_cons (de_var 0 (pv 0)) ?_ (hs := stName); refine da_cons de_int ?_ (hs := stConst); exact da_nil)) da_nil (hs := stCall))) ?_ (hs := stCall); exact da_nil))))))))
theorem sc__law_leaf : FnScope ["_law_cell_here", "_law_number", "_law_names_here", "_law_name_here", "_law_found"] ["_law_cell_here", "_law_number", "_law_names_here"] (defScope (top 27)) := ⟨rfl, rfl, rfl, by decide +kernel, rfl, by decide +kernel, by decide +kernel⟩
theorem ok__law_leaf (T : Txt K mg w.params) : Ok P w base T.d__law_leaf 1 3 F__law_leaf := by
  refine fn_d T.d__law_leaf.F sc__law_leaf 3 5 rfl rfl (g := g__law_leaf) (fun cdv A outer s H E hr => ?_)
  unfold g__law_leaf
  exact (by refine ds_cons ?_ ?_; exact (ds_if (dt_cmp (op_eqA hr.units0) od_eqA (de_bin op_mod od_mod (de_var 1 (pv 1)) de_int) de_int (nomark _)) (by refine ds_one ?_; exact (by refine ds_ret ?_; exact (by refine de_tup ?_; exact (by refine da_cons (by refine de_tup ?_; exact (da_cons (de_str (s := [101, 109, 112, 116, 121]) (by rfl)) da_nil (hs := stConst))) ?_ (hs := stTuple); refine da_cons (by refine de_f ?_; exact (by refine df_lst ?_; exact (da_cons (de_str (s := [101, 109, 112, 116, 121]) (by rfl)) da_nil (hs := stConst)))) ?_ (hs := stList); refine da_cons de_int ?_ (hs := stConst); exact da_nil)))) ds_nil); exact (by refine ds_cons ?_ ?_; exact (ds_if (dt_cmp op_ltA od_ltA (de_bin op_mod od_mod (de_var 1 (pv 1)) de_int) de_int (nomark _)) (by refine ds_cons ?_ ?_; exact (ds_set 3 (de_ix (de_var 2 (pv 2)) (de_bin op_mod od_mod (de_bin op_fdiv od_fdiv (de_var 1 (pv 1)) de_int) de_int)) sc__law_leaf.nd); exact (by refine ds_one ?_; exact (by refine ds_ret ?_; exact (by refine de_tup ?_; exact (by refine da_cons (by refine de_tup ?_; exact (by refine da_cons (de_str (s := [110, 97, 109, 101]) (by rfl)) ?_ (hs := stConst); refine da_cons (de_var 3 (pv 3)) ?_ (hs := stName); exact da_nil)) ?_ (hs := stTuple); refine da_cons (by refine de_f ?_; exact (by refine df_lst ?_; exact (da_cons (de_var 3 (pv 3)) da_nil (hs := stName)))) ?_ (hs := stList); refine da_cons de_int ?_ (hs := stConst); exact da_nil))))) ds_nil); exact (by refine ds_cons ?_ ?_; exact (ds_set 4 (de_bin op_mod od_mod (de_bin op_plus od_plus (de_var 0 (pv 0)) (de_var 1 (pv 1))) (de_bin op_pow od_pow de_int de_int)) sc__law_leaf.nd); exact (by refine ds_cons ?_ ?_; exact (ds_if (dt_cmp (op_eqA hr.units0) od_eqA (de_bin op_mod od_mod (de_bin op_fdiv od_fdiv (de_var 1 (pv 1)) de_int) de_int) de_int (nomark _)) (by refine ds_one ?_; exact (ds_set 4 (de_bin op_mod od_mod (de_bin op_fdiv od_fdiv (de_var 1 (pv 1)) de_int) de_int) sc__law_leaf.nd)) ds_nil); exact (by refine ds_one ?_; exact (by refine ds_ret ?_; exact (by refine de_tup ?_; exact (by refine da_cons (by refine de_tup ?_; exact (by refine da_cons (de_str (s := [110, 117, 109]) (by rfl)) ?_ (hs := stConst); refine da_cons (de_var 4 (pv 4)) ?_ (hs := stName); exact da_nil)) ?_ (hs := stTuple); refine da_cons (by refine de_f ?_; exact (by refine df_lst ?_; exact (da_cons (de_strOf (by rfl) T.z_str (de_var 4 (pv 4))) da_nil (hs := stCall)))) ?_ (hs := stList); refine da_cons de_int ?_ (hs := stConst); exact da_nil))))))))
theorem sc__law_one : FnScope ["_law_number", "_law_names_here", "_law_one_here", "_law_word", "_law_name_here"] ["_law_number", "_law_names_here", "_law_one_here"] (defScope (top 28)) := ⟨rfl, rfl, rfl, by decide +kernel, rfl, by decide +kernel, by decide +kernel⟩
theorem ok__law_one (T : Txt K mg w.params) : Ok P w base T.d__law_one 1 3 F__law_one := by
  refine fn_d T.d__law_one.F sc__law_one 3 5 rfl rfl (g := g__law_one) (fun cdv A outer s H E hr => ?_)
  unfold g__law_one
  exact (by refine ds_cons ?_ ?_; exact (by refine ds_set 3 ?_ ?_ ?_ ?_ ?_ ?_; exact (by refine de_ix ?_ ?_; exact (by refine de_f ?_; exact (by refine df_lst ?_; exact (by refine da_strs (ss := [[102, 110], [103, 101, 116], [108, 101, 115, 115], [116, 97, 103], [119, 105, 100, 101], [110, 101, 118, 101, 114]]) ?_; rfl))); exact (de_bin op_mod od_mod (de_var 0 (pv 0)) de_int)); exact (id sc__law_one.nd); rfl; (first | exact Or.inl rfl | exact Or.inr rfl); rfl; (first | exact Or.inl rfl | exact Or.inr rfl)); exact (by refine ds_cons ?_ ?_; exact (ds_set 4 (de_ix (de_var 1 (pv 1)) (de_bin op_mod od_mod (de_bin op_fdiv od_fdiv (de_var 0 (pv 0)) de_int) de_int)) sc__law_one.nd); exact (by refine ds_cons ?_ ?_; exact (ds_if (dt_cmp (op_eqA hr.units0) od_eqA (de_var 3 (pv 3)) (de_str (s := [110, 101, 118, 101, 114]) (by rfl)) (nomark _)) (by refine ds_one ?_; exact (by refine ds_ret ?_; exact (by refine de_tup ?_; exact (by refine da_cons (by refine de_tup ?_; exact (by refine da_cons (de_str (s := [110, 101, 118, 101, 114]) (by rfl)) ?_ (hs := stConst); refine da_cons (de_ix (de_var 2 (pv 2)) de_int) ?_ (hs := stSub); exact da_nil)) ?_ (hs := stTuple); refine da_cons (de_bin op_plus od_plus (by refine de_f ?_; exact (by refine df_lst ?_; exact (da_cons (de_str (s := [110, 101, 118, 101, 114]) (by rfl)) da_nil (hs := stConst)))) (de_ix (de_var 2 (pv 2)) de_int)) ?_ (hs := stBin); refine da_cons (de_bin op_plus od_plus (de_ix (de_var 2 (pv 2)) de_int) de_int) ?_ (hs := stBin); exact da_nil)))) ds_nil); exact (by refine ds_one ?_; exact (by refine ds_ret ?_; exact (by refine de_tup ?_; exact (by refine da_cons (by refine de_tup ?_; exact (by refine da_cons (de_var 3 (pv 3)) ?_ (hs := stName); refine da_cons (de_var 4 (pv 4)) ?_ (hs := stName); refine da_cons (de_ix (de_var 2 (pv 2)) de_int) ?_ (hs := stSub); exact da_nil)) ?_ (hs := stTuple); refine da_cons (de_bin op_plus od_plus (by refine de_f ?_; exact (by refine df_lst ?_; exact (by refine da_cons (de_var 3 (pv 3)) ?_ (hs := stName); refine da_cons (de_var 4 (pv 4)) ?_ (hs := stName); exact da_nil))) (de_ix (de_var 2 (pv 2)) de_int)) ?_ (hs := stBin); refine da_cons (de_bin op_plus od_plus (de_ix (de_var 2 (pv 2)) de_int) de_int) ?_ (hs := stBin); exact da_nil)))))))
theorem sc__law_two : FnScope ["_law_number", "_law_names_here", "_law_one_here", "_law_other", "_law_word", "_law_name_here", "_law_deep"] ["_law_number", "_law_names_here", "_law_one_here", "_law_other"] (defScope (top 29)) := ⟨rfl, rfl, rfl, by decide +kernel, rfl, by decide +kernel, by decide +kernel⟩
theorem ok__law_two (T : Txt K mg w.params) : Ok P w base T.d__law_two 1 4 F__law_two := by
  refine fn_d T.d__law_two.F sc__law_two 4 7 rfl rfl (g := g__law_two) (fun cdv A outer s H E hr => ?_)
  unfold g__law_two
  exact (by refine ds_cons ?_ ?_; exact (by refine ds_set 4 ?_ ?_ ?_ ?_ ?_ ?_; exact (by refine de_ix ?_ ?_; exact (by refine de_f ?_; exact (by refine df_lst ?_; exact (by refine da_strs (ss := [[100, 111], [43], [45], [42], [60], [119, 105, 116, 104], [112, 117, 116]]) ?_; rfl))); exact (de_bin op_mod od_mod (de_var 0 (pv 0)) de_int)); exact (id sc__law_two.nd); rfl; (first | exact Or.inl rfl | exact Or.inr rfl); rfl; (first | exact Or.inl rfl | exact Or.inr rfl)); exact (by refine ds_cons ?_ ?_; exact (ds_set 5 (de_ix (de_var 1 (pv 1)) (de_bin op_mod od_mod (de_bin op_fdiv od_fdiv (de_var 0 (pv 0)) de_int) de_int)) sc__law_two.nd); exact (by refine ds_cons ?_ ?_; exact (ds_set 6 (de_bin op_plus od_plus de_int (de_max (by rfl) (by rfl) T.z_max (by refine da_cons (de_ix (de_var 2 (pv 2)) de_int) ?_ (hs := stSub); refine da_cons (de_ix (de_var 3 (pv 3)) de_int) ?_ (hs := stSub); exact da_nil))) sc__law_two.nd); exact (by refine ds_cons ?_ ?_; exact (ds_if (dt_cmp op_ltA od_ltA (de_bin op_mod od_mod (de_var 0 (pv 0)) de_int) de_int (nomark _)) (by refine ds_one ?_; exact (by refine ds_ret ?_; exact (by refine de_tup ?_; exact (by refine da_cons (by refine de_tup ?_; exact (by refine da_cons (de_var 4 (pv 4)) ?_ (hs := stName); refine da_cons (de_ix (de_var 2 (pv 2)) de_int) ?_ (hs := stSub); refine da_cons (de_ix (de_var 3 (pv 3)) de_int) ?_ (hs := stSub); exact da_nil)) ?_ (hs := stTuple); refine da_cons (de_bin op_plus od_plus (de_bin op_plus od_plus (by refine de_f ?_; exact (by refine df_lst ?_; exact (da_cons (de_var 4 (pv 4)) da_nil (hs := stName)))) (de_ix (de_var 2 (pv 2)) de_int)) (de_ix (de_var 3 (pv 3)) de_int)) ?_ (hs := stBin); refine da_cons (de_var 6 (pv 6)) ?_ (hs := stName); exact da_nil)))) ds_nil); exact (by refine ds_one ?_; exact (by refine ds_ret ?_; exact (by refine de_tup ?_; exact (by refine da_cons (by refine de_tup ?_; exact (by refine da_cons (de_var 4 (pv 4)) ?_ (hs := stName); refine da_cons (de_var 5 (pv 5)) ?_ (hs := stName); refine da_cons (de_ix (de_var 2 (pv 2)) de_int) ?_ (hs := stSub); refine da_cons (de_ix (de_var 3 (pv 3)) de_int) ?_ (hs := stSub); exact da_nil)) ?_ (hs := stTuple); refine da_cons (de_bin op_plus od_plus (de_bin op_plus od_plus (by refine de_f ?_; exact (by refine df_lst ?_; exact (by refine da_cons (de_var 4 (pv 4)) ?_ (hs := stName); refine da_cons (de_var 5 (pv 5)) ?_ (hs := stName); exact da_nil))) (de_ix (de_var 2 (pv 2)) de_int)) (de_ix (de_var 3 (pv 3)) de_int)) ?_ (hs := stBin); refine da_cons (de_var 6 (pv 6)) ?_ (hs := stName); exact da_nil))))))))
theorem sc__law_three : FnScope ["_law_number", "_law_names_here", "_law_parts_here", "_law_one_here", "_law_other", "_law_third", "_law_deep", "_law_label", "_law_x", "_law_y", "_law_told"] ["_law_number", "_law_names_here", "_law_parts_here"] (defScope (top 30)) := ⟨rfl, rfl, rfl, by decide +kernel, rfl, by decide +kernel, by decide +kernel⟩
theorem ok__law_three (T : Txt K mg w.params) : Ok P w base T.d__law_three 1 3 F__law_three := by
  refine fn_d T.d__law_three.F sc__law_three 3 11 rfl rfl (g := g__law_three) (fun cdv A outer s H E hr => ?_)
  unfold g__law_three
  exact (by refine ds_cons ?_ ?_; exact (ds_asg (de_var 2 (pv 2)) (dg_seq rfl (dgs_cons (dg_name 3 sc__law_three.nd) (dgs_cons (dg_name 4 sc__law_three.nd) (dgs_cons (dg_name 5 sc__law_three.nd) dgs_nil))))); exact (by refine ds_cons ?_ ?_; exact (ds_set 6 (de_bin op_plus od_plus de_int (de_max (by rfl) (by rfl) T.z_max (by refine da_cons (de_ix (de_var 3 (pv 3)) de_int) ?_ (hs := stSub); refine da_cons (de_ix (de_var 4 (pv 4)) de_int) ?_ (hs := stSub); refine da_cons (de_ix (de_var 5 (pv 5)) de_int) ?_ (hs := stSub); exact da_nil))) sc__law_three.nd); exact (by refine ds_cons ?_ ?_; exact (ds_set 7 (de_ix (de_var 1 (pv 1)) (de_bin op_mod od_mod (de_bin op_fdiv od_fdiv (de_var 0 (pv 0)) de_int) de_int)) sc__law_three.nd); exact (by refine ds_cons ?_ ?_; exact (ds_set 8 (de_ix (de_var 1 (pv 1)) (de_bin op_mod od_mod (de_bin op_fdiv od_fdiv (de_var 0 (pv 0)) de_int) de_int)) sc__law_three.nd); exact (by refine ds_cons ?_ ?_; exact (ds_set 9 (de_ix (de_var 1 (pv 1)) (de_bin op_mod od_mod (de_bin op_fdiv od_fdiv (de_var 0 (pv 0)) de_int) de_int)) sc__law_three.nd); exact (by refine ds_cons ?_ ?_; exact (ds_if (dt_cmp (op_eqA hr.units0) od_eqA (de_bin op_mod od_mod (de_var 0 (pv 0)) de_int) de_int (nomark _)) (by refine ds_one ?_; exact (by refine ds_ret ?_; exact (by refine de_tup ?_; exact (by refine da_cons (by refine de_tup ?_; exact (by refine da_cons (de_str (s := [105, 102]) (by rfl)) ?_ (hs := stConst); refine da_cons (de_ix (de_var 3 (pv 3)) de_int) ?_ (hs := stSub); refine da_cons (de_ix (de_var 4 (pv 4)) de_int) ?_ (hs := stSub); refine da_cons (de_ix (de_var 5 (pv 5)) de_int) ?_ (hs := stSub); exact da_nil)) ?_ (hs := stTuple); refine da_cons (de_bin op_plus od_plus (de_bin op_plus od_plus (de_bin op_plus od_plus (by refine de_f ?_; exact (by refine df_lst ?_; exact (da_cons (de_str (s := [105, 102]) (by rfl)) da_nil (hs := stConst)))) (de_ix (de_var 3 (pv 3)) de_int)) (de_ix (de_var 4 (pv 4)) de_int)) (de_ix (de_var 5 (pv 5)) de_int)) ?_ (hs := stBin); refine da_cons (de_var 6 (pv 6)) ?_ (hs := stName); exact da_nil)))) ds_nil); exact (by refine ds_cons ?_ ?_; exact (ds_set 10 (by refine de_tup ?_; exact (by refine da_cons (de_str (s := [99, 97, 115, 101]) (by rfl)) ?_ (hs := stConst); refine da_cons (de_ix (de_var 3 (pv 3)) de_int) ?_ (hs := stSub); refine da_cons (de_var 7 (pv 7)) ?_ (hs := stName); refine da_cons (de_var 8 (pv 8)) ?_ (hs := stName); refine da_cons (de_ix (de_var 4 (pv 4)) de_int) ?_ (hs := stSub); refine da_cons (de_var 9 (pv 9)) ?_ (hs := stName); refine da_cons (de_ix (de_var 5 (pv 5)) de_int) ?_ (hs := stSub); exact da_nil)) sc__law_three.nd); exact (by refine ds_one ?_; exact (by refine ds_ret ?_; exact (by refine de_tup ?_; exact (by refine da_cons (de_var 10 (pv 10)) ?_ (hs := stName); refine da_cons (de_bin op_plus od_plus (de_bin op_plus od_plus (de_bin op_plus od_plus (de_bin op_plus od_plus (de_bin op_plus od_plus (by refine de_f ?_; exact (by refine df_lst ?_; exact (da_cons (de_str (s := [99, 97, 115, 101]) (by rfl)) da_nil (hs := stConst)))) (de_ix (de_var 3 (pv 3)) de_int)) (by refine de_f ?_; exact (by refine df_lst ?_; exact (by refine da_cons (de_var 7 (pv 7)) ?_ (hs := stName); refine da_cons (de_var 8 (pv 8)) ?_ (hs := stName); exact da_nil)))) (de_ix (de_var 4 (pv 4)) de_int)) (by refine de_f ?_; exact (by refine df_lst ?_; exact (da_cons (de_var 9 (pv 9)) da_nil (hs := stName))))) (de_ix (de_var 5 (pv 5)) de_int)) ?_ (hs := stBin); refine da_cons (de_var 6 (pv 6)) ?_ (hs := stName); exact da_nil)))))))))))
theorem sc__law_grown : FnScope ["_law_pile", "_law_cell_here", "_law_k", "_law_names_here", "_law_number", "_law_kind"] ["_law_pile", "_law_cell_here", "_law_k", "_law_names_here"] (defScope (top 31)) := ⟨rfl, rfl, rfl, by decide +kernel, rfl, by decide +kernel, by decide +kernel⟩
theorem ok__law_grown (T : Txt K mg w.params) : Ok P w base T.d__law_grown 2 4 F__law_grown := by
  refine fn_d T.d__law_grown.F sc__law_grown 4 6 rfl rfl (g := g__law_grown) (fun cdv A outer s H E hr => ?_)
  unfold g__law_grown
  exact (by refine ds_cons ?_ ?_; exact (ds_set 4 (de_call (ok__law_mixed T) (hr.mono (by decide)) (by rfl) T.d__law_mixed.m T.d__law_mixed.F.kp T.d__law_mixed.b (by refine da_cons (de_var 1 (pv 1)) ?_ (hs := stName); refine da_cons (de_bin op_plus od_plus de_int (de_var 2 (pv 2))) ?_ (hs := stBin); exact da_nil)) sc__law_grown.nd); exact (by refine ds_cons ?_ ?_; exact (ds_set 5 (de_bin op_mod od_mod (de_call (ok__law_mixed T) (hr.mono (by decide)) (by rfl) T.d__law_mixed.m T.d__law_mixed.F.kp T.d__law_mixed.b (by refine da_cons (de_var 1 (pv 1)) ?_ (hs := stName); refine da_cons (de_bin op_plus od_plus de_int (de_var 2 (pv 2))) ?_ (hs := stBin); exact da_nil)) de_int) sc__law_grown.nd); exact (by refine ds_cons ?_ ?_; exact (ds_if (dt_w (dw_and (dt_cmp op_gt od_gt (de_var 5 (pv 5)) de_int (nomark _)) (dw_and (dt_cmp op_gt od_gt (de_len (by rfl) T.z_len (de_var 0 (pv 0))) de_int (nomark _)) (dw_and1 (dt_cmp op_ltA od_ltA (de_maxL (by rfl) (by rfl) T.z_max (by refine db_f ?_; exact (df_comp (N' := ["_law_item"]) (cap := []) rfl cmp_mk (di_seq (de_sl (de_var 0 (pv 0)) (do_some (de_neg de_int)) do_none)) (fun _ _ _ _ => (dg_name 0 (show (["_law_item"] : List Str).Nodup by decide +kernel))) (fun _ _ _ _ => by exact (by refine de_ix ?_ ?_; exact (de_var 0 (pv 0)); exact de_int)) 1))) de_int (nomark _)))))) (by refine ds_one ?_; exact (by refine ds_ret ?_; exact (de_bin op_plus od_plus (de_sl (de_var 0 (pv 0)) do_none (do_some (de_neg de_int))) (by refine de_f ?_; exact (by refine df_lst ?_; exact (da_cons (de_call (ok__law_three T) (hr.mono (by decide)) (by rfl) T.d__law_three.m T.d__law_three.F.kp T.d__law_three.b (by refine da_cons (de_var 4 (pv 4)) ?_ (hs := stName); refine da_cons (de_var 3 (pv 3)) ?_ (hs := stName); refine da_cons (de_sl (de_var 0 (pv 0)) (do_some (de_neg de_int)) do_none) ?_ (hs := stSub); exact da_nil)) da_nil (hs := stCall))))))) ds_nil); exact (by refine ds_cons ?_ ?_; exact (ds_if (dt_w (dw_and (dt_cmp op_gt od_gt (de_var 5 (pv 5)) de_int (nomark _)) (dw_and (dt_cmp op_gt od_gt (de_len (by rfl) T.z_len (de_var 0 (pv 0))) de_int (nomark _)) (dw_and1 (dt_cmp op_ltA od_ltA (de_maxL (by rfl) (by rfl) T.z_max (by refine db_f ?_; exact (df_comp (N' := ["_law_item"]) (cap := []) rfl cmp_mk (di_seq (de_sl (de_var 0 (pv 0)) (do_some (de_neg de_int)) do_none)) (fun _ _ _ _ => (dg_name 0 (show (["_law_item"] : List Str).Nodup by decide +kernel))) (fun _ _ _ _ => by exact (by refine de_ix ?_ ?_; exact (de_var 0 (pv 0)); exact de_int)) 1))) de_int (nomark _)))))) (by refine ds_one ?_; exact (by refine ds_ret ?_; exact (de_bin op_plus od_plus (de_sl (de_var 0 (pv 0)) do_none (do_some (de_neg de_int))) (by refine de_f ?_; exact (by refine df_lst ?_; exact (da_cons (de_call (ok__law_two T) (hr.mono (by decide)) (by rfl) T.d__law_two.m T.d__law_two.F.kp T.d__law_two.b (by refine da_cons (de_var 4 (pv 4)) ?_ (hs := stName); refine da_cons (de_var 3 (pv 3)) ?_ (hs := stName); refine da_cons (de_ix (de_var 0 (pv 0)) (de_neg de_int)) ?_ (hs := stSub); refine da_cons (de_ix (de_var 0 (pv 0)) (de_neg de_int)) ?_ (hs := stSub); exact da_nil)) da_nil (hs := stCall))))))) ds_nil); exact (by refine ds_cons ?_ ?_; exact (ds_if (dt_w (dw_and (dt_cmp op_gt od_gt (de_var 5 (pv 5)) de_int (nomark _)) (dw_and (dt_cmp op_gt od_gt (de_len (by rfl) T.z_len (de_var 0 (pv 0))) de_int (nomark _)) (dw_and1 (dt_cmp op_ltA od_ltA (de_ix (de_ix (de_var 0 (pv 0)) (de_neg de_int)) de_int) de_int (nomark _)))))) (by refine ds_one ?_; exact (by refine ds_ret ?_; exact (de_bin op_plus od_plus (de_sl (de_var 0 (pv 0)) do_none (do_some (de_neg de_int))) (by refine de_f ?_; exact (by refine df_lst ?_; exact (da_cons (de_call (ok__law_one T) (hr.mono (by decide)) (by rfl) T.d__law_one.m T.d__law_one.F.kp T.d__law_one.b (by refine da_cons (de_var 4 (pv 4)) ?_ (hs := stName); refine da_cons (de_var 3 (pv 3)) ?_ (hs := stName); refine da_cons (de_ix (de_var 0 (pv 0)) (de_neg de_int)) ?_ (hs := stSub); exact da_nil)) da_nil (hs := stCall))))))) ds_nil); exact (by refine ds_one ?_; exact (by refine ds_ret ?_; exact (de_bin op_plus od_plus (de_var 0 (pv 0)) (by refine de_f ?_; exact (by refine df_lst ?_; exact (da_cons (de_call (ok__law_leaf T) (hr.mono (by decide)) (by rfl) T.d__law_leaf.m T.d__law_leaf.F.kp T.d__law_leaf.b (by refine da_cons (de_var 1 (pv 1)) ?_ (hs := stName); refine da_cons (de_var 4 (pv 4)) ?_ (hs := stName); refine da_cons (de_var 3 (pv 3)) ?_ (hs := stName); exact da_nil)) da_nil (hs := stCall))))))))))))
theorem sc__law_shape : FnScope ["_law_word", "_law_words", "_law_shapes"] ["_law_word"] (defScope (top 32)) := ⟨rfl, rfl, rfl, by decide +kernel, rfl, by decide +kernel, by decide +kernel⟩
theorem ok__law_shape (T : Txt K mg w.params) : Ok P w base T.d__law_shape 1 1 F__law_shape := by
  refine fn_d T.d__law_shape.F sc__law_shape 1 3 rfl rfl (g := g__law_shape) (fun cdv A outer s H E hr => ?_)
  unfold g__law_shape
  exact (by refine ds_cons ?_ ?_; exact (by refine ds_set 1 ?_ ?_ ?_ ?_ ?_ ?_; exact (by refine de_f ?_; exact (by refine df_lst ?_; exact (by refine da_strs (ss := [[101, 109, 112, 116, 121], [102, 110], [100, 111], [103, 101, 116], [119, 105, 116, 104], [112, 117, 116], [108, 101, 115, 115], [116, 97, 103], [119, 105, 100, 101], [99, 97, 115, 101], [110, 101, 118, 101, 114], [105, 102], [43], [45], [42]]) ?_; rfl))); exact (id sc__law_shape.nd); rfl; (first | exact Or.inl rfl | exact Or.inr rfl); rfl; (first | exact Or.inl rfl | exact Or.inr rfl)); exact (by refine ds_cons ?_ ?_; exact (by refine ds_set 2 ?_ ?_ ?_ ?_ ?_ ?_; exact (by refine de_f ?_; exact (by refine df_lst ?_; exact (by refine da_strs (ss := [[], [110, 101], [101, 101], [110, 101], [110, 101, 101], [110, 101, 101], [110, 101], [110, 101], [110, 101], [101, 110, 110, 101, 110, 101], [101], [101, 101, 101], [101, 101], [101, 101], [101, 101]]) ?_; rfl))); exact (id sc__law_shape.nd); rfl; (first | exact Or.inl rfl | exact Or.inr rfl); rfl; (first | exact Or.inl rfl | exact Or.inr rfl)); exact (by refine ds_cons ?_ ?_; exact (ds_if (dt_cmp (op_eqA hr.units0) od_eqA (de_var 0 (pv 0)) (de_str (s := [60]) (by rfl)) (nomark _)) (by refine ds_one ?_; exact (by refine ds_ret ?_; exact (de_str (s := [101, 101]) (by rfl)))) ds_nil); exact (by refine ds_cons ?_ ?_; exact (ds_if (dt_cmp op_in_seq (od_in false) (de_var 0 (pv 0)) (de_var 1 (pv 1)) rfl) (by refine ds_one ?_; exact (by refine ds_ret ?_; exact (de_ix (de_var 2 (pv 2)) (de_index (de_var 1 (pv 1)) (de_var 0 (pv 0)))))) ds_nil); exact (by refine ds_one ?_; exact (by refine ds_ret ?_; exact de_non))))))
theorem sc__law_all_in : FnScope ["_law_word", "_law_signs", "_law_sign"] ["_law_word", "_law_signs"] (defScope (top 33)) := ⟨rfl, rfl, rfl, by decide +kernel, rfl, by decide +kernel, by decide +kernel⟩
theorem ok__law_all_in (T : Txt K mg w.params) : Ok P w base T.d__law_all_in 1 2 F__law_all_in := by
  refine fn_d T.d__law_all_in.F sc__law_all_in 2 3 rfl rfl (g := g__law_all_in) (fun cdv A outer s H E hr => ?_)
  unfold g__law_all_in
  exact (by refine ds_cons ?_ ?_; exact (ds_for PassesOwn.never rfl (di_str (de_var 0 (pv 0))) (dg_name 2 sc__law_all_in.nd) (by refine ds_one ?_; exact (ds_if (dt_cmp op_notInS (od_inS true) (de_var 2 (pv 2)) (de_var 1 (pv 1)) rfl) (by refine ds_one ?_; exact (by refine ds_ret ?_; exact de_bl)) ds_nil))); exact (by refine ds_one ?_; exact (by refine ds_ret ?_; exact (de_cmp (op_neA hr.units0) od_neA (de_var 0 (pv 0)) (de_str (s := []) (by rfl)) (nomark _)))))
theorem sc__law_is_name : FnScope ["_law_word"] ["_law_word"] (defScope (top 34)) := ⟨rfl, rfl, rfl, by decide +kernel, rfl, by decide +kernel, by decide +kernel⟩
theorem ok__law_is_name (T : Txt K mg w.params) : Ok P w base T.d__law_is_name 2 1 F__law_is_name := by
  refine fn_d T.d__law_is_name.F sc__law_is_name 1 1 rfl rfl (g := g__law_is_name) (fun cdv A outer s H E hr => ?_)
  unfold g__law_is_name
  exact (by refine ds_cons ?_ ?_; exact (ds_if (dt_w (dw_or (dt_cmp op_gt od_gt (de_len (by rfl) T.z_len (de_var 0 (pv 0))) de_int (nomark _)) (dw_or (dt_cmp (op_eqA hr.units0) od_eqA (de_var 0 (pv 0)) (de_str (s := [100, 101, 102]) (by rfl)) (nomark _)) (dw_or1 (dt_cmp op_notN od_notN (de_call (ok__law_shape T) (hr.mono (by decide)) (by rfl) T.d__law_shape.m T.d__law_shape.F.kp T.d__law_shape.b (da_cons (de_var 0 (pv 0)) da_nil (hs := stName))) de_non (nomark _)))))) (by refine ds_one ?_; exact (by refine ds_ret ?_; exact de_bl)) ds_nil); exact (by refine ds_one ?_; exact (by refine ds_ret ?_; exact (de_call (ok__law_all_in T) (hr.mono (by decide)) (by rfl) T.d__law_all_in.m T.d__law_all_in.F.kp T.d__law_all_in.b (by refine da_cons (de_var 0 (pv 0)) ?_ (hs := stName); refine da_cons (de_str (s := [97, 98, 99, 100, 101, 102, 103, 104, 105, 106, 107, 108, 109, 110, 111, 112, 113, 114, 115, 116, 117, 118, 119, 120, 121, 122]) (by rfl)) ?_ (hs := stConst); exact da_nil)))))
theorem sc__law_is_number : FnScope ["_law_word"] ["_law_word"] (defScope (top 35)) := ⟨rfl, rfl, rfl, by decide +kernel, rfl, by decide +kernel, by decide +kernel⟩
theorem ok__law_is_number (T : Txt K mg w.params) : Ok P w base T.d__law_is_number 2 1 F__law_is_number := by
  refine fn_d T.d__law_is_number.F sc__law_is_number 1 1 rfl rfl (g := g__law_is_number) (fun cdv A outer s H E hr => ?_)
  unfold g__law_is_number
  exact (by refine ds_cons ?_ ?_; exact (ds_if (dt_w (dw_or (dt_cmp op_gt od_gt (de_len (by rfl) T.z_len (de_var 0 (pv 0))) de_int (nomark _)) (dw_or1 (dt_not (dt_tru (de_call (ok__law_all_in T) (hr.mono (by decide)) (by rfl) T.d__law_all_in.m T.d__law_all_in.F.kp T.d__law_all_in.b (by refine da_cons (de_var 0 (pv 0)) ?_ (hs := stName); refine da_cons (de_str (s := [48, 49, 50, 51, 52, 53, 54, 55, 56, 57]) (by rfl)) ?_ (hs := stConst); exact da_nil))))))) (by refine ds_one ?_; exact (by refine ds_ret ?_; exact de_bl)) ds_nil); exact (by refine ds_one ?_; exact (by refine ds_ret ?_; exact (de_or (de_cmp (op_eqA hr.units0) od_eqA (de_var 0 (pv 0)) (de_str (s := [48]) (by rfl)) (nomark _)) (de_one (de_cmp (op_neA hr.units0) od_neA (de_ix (de_var 0 (pv 0)) de_int) (de_str (s := [48]) (by rfl)) (nomark _)))))))
theorem sc__law_taken : FnScope ["_law_pile", "_law_shape_here", "_law_deep", "_law_sign", "_law_by_name", "_law_low"] ["_law_pile", "_law_shape_here"] (defScope (top 36)) := ⟨rfl, rfl, rfl, by decide +kernel, rfl, by decide +kernel, by decide +kernel⟩
theorem ok__law_taken (T : Txt K mg w.params) : Ok P w base T.d__law_taken 1 2 F__law_taken := by
  refine fn_d T.d__law_taken.F sc__law_taken 2 6 rfl rfl (g := g__law_taken) (fun cdv A outer s H E hr => ?_)
  unfold g__law_taken
  exact (by refine ds_cons ?_ ?_; exact (ds_set 2 de_int sc__law_taken.nd); exact (by refine ds_cons ?_ ?_; exact (ds_for PassesOwn.never rfl (di_str (de_var 1 (pv 1))) (dg_name 3 sc__law_taken.nd) (by refine ds_cons ?_ ?_; exact (ds_if (dt_eqNil hr.units0 (db_own 0 (pv 0)) (by refine db_f ?_; exact (by refine df_lst ?_; exact da_nil))) (by refine ds_one ?_; exact (by refine ds_ret ?_; exact de_non)) ds_nil); exact (by refine ds_cons ?_ ?_; exact (ds_asgX (dx_pop 0 (pv 0)) (dg_seq rfl (dgs_cons (dg_name 4 sc__law_taken.nd) (dgs_cons (dg_name 5 sc__law_taken.nd) dgs_nil)))); exact (by refine ds_cons ?_ ?_; exact (ds_if (dt_w (dw_and (dt_cmp (op_eqA hr.units0) od_eqA (de_var 3 (pv 3)) (de_str (s := [110]) (by rfl)) (nomark _)) (dw_and1 (dt_not (dt_tru (de_var 4 (pv 4))))))) (by refine ds_one ?_; exact (by refine ds_ret ?_; exact de_non)) ds_nil); exact (by refine ds_one ?_; exact (ds_if (dt_cmp (op_eqA hr.units0) od_eqA (de_var 3 (pv 3)) (de_str (s := [101]) (by rfl)) (nomark _)) (by refine ds_one ?_; exact (ds_set 2 (de_max (by rfl) (by rfl) T.z_max (by refine da_cons (de_var 2 (pv 2)) ?_ (hs := stName); refine da_cons (de_bin op_plus od_plus (de_var 5 (pv 5)) de_int) ?_ (hs := stBin); exact da_nil)) sc__law_taken.nd)) ds_nil)))))); exact (by refine ds_cons ?_ ?_; exact (ds_if (dt_cmp op_gt od_gt (de_var 2 (pv 2)) de_int (nomark _)) (by refine ds_one ?_; exact (by refine ds_ret ?_; exact de_non)) ds_nil); exact (by refine ds_one ?_; exact (by refine ds_ret ?_; exact (by refine de_tup ?_; exact (by refine da_cons de_bl ?_ (hs := stConst); refine da_cons (de_var 2 (pv 2)) ?_ (hs := stName); exact da_nil)))))))
theorem sc__law_good : FnScope ["_law_words", "_law_pile", "_law_word", "_law_shape_here", "_law_item"] ["_law_words"] (defScope (top 37)) := ⟨rfl, rfl, rfl, by decide +kernel, rfl, by decide +kernel, by decide +kernel⟩
theorem ok__law_good (T : Txt K mg w.params) : Ok P w base T.d__law_good 3 1 F__law_good := by
  refine fn_d T.d__law_good.F sc__law_good 1 5 rfl rfl (g := g__law_good) (fun cdv A outer s H E hr => ?_)
  unfold g__law_good
  exact (by refine ds_cons ?_ ?_; exact (ds_own 1 (by refine df_lst ?_; exact da_nil) sc__law_good.nd); exact (by refine ds_cons ?_ ?_; exact (ds_for PassesOwn.never rfl (di_back (by rfl) T.z_reversed (de_var 0 (pv 0))) (dg_name 2 sc__law_good.nd) (by refine ds_cons ?_ ?_; exact (ds_set 3 (de_call (ok__law_shape T) (hr.mono (by decide)) (by rfl) T.d__law_shape.m T.d__law_shape.F.kp T.d__law_shape.b (da_cons (de_var 2 (pv 2)) da_nil (hs := stName))) sc__law_good.nd); exact (by refine ds_cons ?_ ?_; exact (ds_if (dt_cmp op_notN od_notN (de_var 3 (pv 3)) de_non (nomark _)) (by refine ds_one ?_; exact (ds_setX 4 (dx_call (ok__law_taken T) (hr.mono (by decide)) (by rfl) T.d__law_taken.m T.d__law_taken.F.kp T.d__law_taken.b (dz_p (pv 1) (da_cons (de_var 3 (pv 3)) da_nil (hs := stName)))) sc__law_good.nd)) (by refine ds_one ?_; exact (ds_if (dt_tru (de_call (ok__law_is_name T) (hr.mono (by decide)) (by rfl) T.d__law_is_name.m T.d__law_is_name.F.kp T.d__law_is_name.b (da_cons (de_var 2 (pv 2)) da_nil (hs := stName)))) (by refine ds_one ?_; exact (ds_set 4 (by refine de_tup ?_; exact (by refine da_cons de_bl ?_ (hs := stConst); refine da_cons de_int ?_ (hs := stConst); exact da_nil)) sc__law_good.nd)) (by refine ds_one ?_; exact (ds_if (dt_tru (de_call (ok__law_is_number T) (hr.mono (by decide)) (by rfl) T.d__law_is_number.m T.d__law_is_number.F.kp T.d__law_is_number.b (da_cons (de_var 2 (pv 2)) da_nil (hs := stName)))) (by refine ds_one ?_; exact (ds_set 4 (by refine de_tup ?_; exact (by refine da_cons de_bl ?_ (hs := stConst); refine da_cons de_int ?_ (hs := stConst); exact da_nil)) sc__law_good.nd)) (by refine ds_one ?_; exact (ds_set 4 de_non sc__law_good.nd))))))); exact (by refine ds_cons ?_ ?_; exact (ds_if (dt_cmp op_isN od_isN (de_var 4 (pv 4)) de_non (nomark _)) (by refine ds_one ?_; exact (by refine ds_ret ?_; exact de_bl)) ds_nil); exact (by refine ds_one ?_; exact (ds_x (dx_append 1 (pv 1) (de_var 4 (pv 4))))))))); exact (by refine ds_one ?_; exact (by refine ds_ret ?_; exact (de_cmp (op_eqA hr.units0) od_eqA (de_lenB (by rfl) T.z_len (db_own 1 (pv 1))) de_int (nomark _))))))
theorem sc__law_odd : FnScope ["_law_number", "_law_names_here", "_law_words"] ["_law_number", "_law_names_here"] (defScope (top 38)) := ⟨rfl, rfl, rfl, by decide +kernel, rfl, by decide +kernel, by decide +kernel⟩
theorem ok__law_odd (T : Txt K mg w.params) : Ok P w base T.d__law_odd 1 2 F__law_odd := by
  refine fn_d T.d__law_odd.F sc__law_odd 2 3 rfl rfl (g := g__law_odd) (fun cdv A outer s H E hr => ?_)
  unfold g__law_odd
  exact (by refine ds_cons ?_ ?_; exact (by refine ds_set 2 ?_ ?_ ?_ ?_ ?_ ?_; exact (by refine de_f ?_; exact (by refine df_lst ?_; exact (by refine da_strs (ss := [[100, 101, 102], [102, 110], [100, 111], [101, 109, 112, 116, 121], [103, 101, 116], [119, 105, 116, 104], [112, 117, 116], [108, 101, 115, 115], [116, 97, 103], [119, 105, 100, 101], [99, 97, 115, 101], [110, 101, 118, 101, 114], [105, 102], [43], [45]]) ?_; rfl))); exact (id sc__law_odd.nd); rfl; (first | exact Or.inl rfl | exact Or.inr rfl); rfl; (first | exact Or.inl rfl | exact Or.inr rfl)); exact (by refine ds_cons ?_ ?_; exact (by refine ds_set 2 ?_ ?_ ?_ ?_ ?_ ?_; exact (de_bin op_plus od_plus (de_var 2 (pv 2)) (by refine de_f ?_; exact (by refine df_lst ?_; exact (by refine da_strs (ss := [[42], [60], [], [48], [48, 48], [48, 55], [45, 49], [57, 57, 57, 57, 57, 57], [49, 48, 48, 48, 48, 48, 48], [97], [97, 98, 99, 100, 101, 102, 103, 104], [97, 98, 99, 100, 101, 102, 103, 104, 105], [65], [97, 66]]) ?_; rfl)))); exact (id sc__law_odd.nd); rfl; (first | exact Or.inl rfl | exact Or.inr rfl); rfl; (first | exact Or.inl rfl | exact Or.inr rfl)); exact (by refine ds_cons ?_ ?_; exact (by refine ds_set 2 ?_ ?_ ?_ ?_ ?_ ?_; exact (de_bin op_plus od_plus (de_var 2 (pv 2)) (by refine de_f ?_; exact (by refine df_lst ?_; exact (by refine da_strs (ss := [[97, 49], [49, 97], [70, 110], [70, 78], [101, 109, 112, 116], [101, 109, 112, 116, 121, 115], [10], [97, 10], [9], [61], [43, 43]]) ?_; rfl)))); exact (id sc__law_odd.nd); rfl; (first | exact Or.inl rfl | exact Or.inr rfl); rfl; (first | exact Or.inl rfl | exact Or.inr rfl)); exact (by refine ds_one ?_; exact (by refine ds_ret ?_; exact (de_ix (de_bin op_plus od_plus (de_var 2 (pv 2)) (de_var 1 (pv 1))) (de_bin op_mod od_mod (de_var 0 (pv 0)) (de_bin op_plus od_plus (de_len (by rfl) T.z_len (de_var 2 (pv 2))) de_int))))))))
theorem sc__law_changed : FnScope ["_law_words", "_law_number", "_law_names_here", "_law_at", "_law_odd_here"] ["_law_words", "_law_number", "_law_names_here"] (defScope (top 39)) := ⟨rfl, rfl, rfl, by decide +kernel, rfl, by decide +kernel, by decide +kernel⟩
theorem ok__law_changed (T : Txt K mg w.params) : Ok P w base T.d__law_changed 2 3 F__law_changed := by
  refine fn_d T.d__law_changed.F sc__law_changed 3 5 rfl rfl (g := g__law_changed) (fun cdv A outer s H E hr => ?_)
  unfold g__law_changed
  exact (by refine ds_cons ?_ ?_; exact (ds_set 3 (de_bin op_mod od_mod (de_bin op_fdiv od_fdiv (de_var 1 (pv 1)) de_int) (de_bin op_plus od_plus (de_len (by rfl) T.z_len (de_var 0 (pv 0))) de_int)) sc__law_changed.nd); exact (by refine ds_cons ?_ ?_; exact (ds_set 4 (de_call (ok__law_odd T) (hr.mono (by decide)) (by rfl) T.d__law_odd.m T.d__law_odd.F.kp T.d__law_odd.b (by refine da_cons (de_bin op_fdiv od_fdiv (de_var 1 (pv 1)) de_int) ?_ (hs := stBin); refine da_cons (de_var 2 (pv 2)) ?_ (hs := stName); exact da_nil)) sc__law_changed.nd); exact (by refine ds_cons ?_ ?_; exact (ds_if (dt_cmp (op_eqA hr.units0) od_eqA (de_bin op_mod od_mod (de_var 1 (pv 1)) de_int) de_int (nomark _)) (by refine ds_one ?_; exact (by refine ds_ret ?_; exact (de_bin op_plus od_plus (de_sl (de_var 0 (pv 0)) do_none (do_some (de_var 3 (pv 3)))) (de_sl (de_var 0 (pv 0)) (do_some (de_bin op_plus od_plus (de_var 3 (pv 3)) de_int)) do_none)))) ds_nil); exact (by refine ds_cons ?_ ?_; exact (ds_if (dt_cmp (op_eqA hr.units0) od_eqA (de_bin op_mod od_mod (de_var 1 (pv 1)) de_int) de_int (nomark _)) (by refine ds_one ?_; exact (by refine ds_ret ?_; exact (de_bin op_plus od_plus (de_bin op_plus od_plus (de_sl (de_var 0 (pv 0)) do_none (do_some (de_var 3 (pv 3)))) (by refine de_f ?_; exact (by refine df_lst ?_; exact (da_cons (de_var 4 (pv 4)) da_nil (hs := stName))))) (de_sl (de_var 0 (pv 0)) (do_some (de_var 3 (pv 3))) do_none)))) ds_nil); exact (by refine ds_cons ?_ ?_; exact (ds_if (dt_cmp (op_eqA hr.units0) od_eqA (de_bin op_mod od_mod (de_var 1 (pv 1)) de_int) de_int (nomark _)) (by refine ds_one ?_; exact (by refine ds_ret ?_; exact (de_bin op_plus od_plus (de_bin op_plus od_plus (de_sl (de_var 0 (pv 0)) do_none (do_some (de_var 3 (pv 3)))) (by refine de_f ?_; exact (by refine df_lst ?_; exact (da_cons (de_var 4 (pv 4)) da_nil (hs := stName))))) (de_sl (de_var 0 (pv 0)) (do_some (de_bin op_plus od_plus (de_var 3 (pv 3)) de_int)) do_none)))) ds_nil); exact (by refine ds_one ?_; exact (by refine ds_ret ?_; exact (de_bin op_plus od_plus (de_bin op_plus od_plus (de_sl (de_var 0 (pv 0)) do_none (do_some (de_var 3 (pv 3)))) (by refine de_f ?_; exact (df_listRev rfl (by rfl) T.z_list (by rfl) T.z_reversed (db_e (de_sl (de_var 0 (pv 0)) (do_some (de_var 3 (pv 3))) (do_some (de_bin op_plus od_plus (de_var 3 (pv 3)) de_int))))))) (de_sl (de_var 0 (pv 0)) (do_some (de_bin op_plus od_plus (de_var 3 (pv 3)) de_int)) do_none)))))))))
theorem sc__law_refused : FnScope ["_law_text", "_law_caught", "e"] ["_law_text"] (defScope (top 40)) := ⟨rfl, rfl, rfl, by decide +kernel, rfl, by decide +kernel, by decide +kernel⟩
theorem ok__law_refused (T : Txt K mg w.params) : Ok P w base T.d__law_refused 46 1 F__law_refused := by
  refine fn_r T.d__law_refused.F sc__law_refused 1 3 rfl rfl (ρ := r__law_refused) (fun cdv A outer s H E hr => ?_)
  unfold r__law_refused
  exact (by refine dr_cons ?_ ?_; exact (ds_set 1 de_non sc__law_refused.nd); exact (dr_or (dr_try (i := 1) (j := 2) sc__law_refused.nd rfl rfl (spY_X (okx_read_expression_NoLine T)) (hr.mono (by decide)) (by rfl) T.d_read_expression.m T.d_read_expression.F.kp T.d_read_expression.b (fun _ => (da_cons (de_var 0 (pv 0)) da_nil (hs := stName))) (by rfl) T.m_FieldError T.m_NoLine T.y_NoLine.mt rfl rfl (Or.inl rfl) (Or.inr rfl) rfl rfl (by decide) (rho0_fre 3 1 2 _) rho__law_refused_NoLine (fun e oe hcls => by refine dr_d ?_; exact (by refine ds_cons ?_ ?_; exact (ds_if (dt_cmp op_isN od_isN (de_var 1 (pv 1)) de_non (nomark _)) (by refine ds_one ?_; exact (by refine ds_ret ?_; exact (de_str (s := [114, 101, 97, 100]) (by rfl)))) ds_nil); exact (by refine ds_cons ?_ ?_; exact (ds_if (dt_w (dw_or (dt_not (dt_tru (de_isxC List.mem_cons_self hcls T.y_NoLine.k (T.y_NoLine.ys _ (by simp)) (by rfl) T.m_NoLine (by rfl) T.z_isinstance (de_var 1 (pv 1))))) (dw_or1 (dt_not (dt_tru (de_isx List.mem_cons_self hcls T.y_NoLine.k (v := .ty "ValueError") (u := .type "ValueError") (fun _ z => z) (T.y_NoLine.ys _ (by simp)) (by rfl) T.z_isinstance (de_var 1 (pv 1)) (pe_bltn (by rfl) T.z_ValueError boot_VE rfl))))))) (by refine ds_one ?_; exact (by refine ds_ret ?_; exact (de_str (s := [111, 116, 104, 101, 114]) (by rfl)))) ds_nil); exact (by refine ds_cons ?_ ?_; exact (ds_if (dt_w (dw_or (dt_tru (de_isxC List.mem_cons_self hcls T.y_NoLine.k (T.y_NoLine.ns _ (by simp)) (by rfl) T.m_TooMuch (by rfl) T.z_isinstance (de_var 1 (pv 1)))) (dw_or (dt_tru (de_isxC List.mem_cons_self hcls T.y_NoLine.k (T.y_NoLine.ns _ (by simp)) (by rfl) T.m_NoName (by rfl) T.z_isinstance (de_var 1 (pv 1)))) (dw_or1 (dt_tru (de_isxC List.mem_cons_self hcls T.y_NoLine.k (T.y_NoLine.ns _ (by simp)) (by rfl) T.m_NoKind (by rfl) T.z_isinstance (de_var 1 (pv 1)))))))) (by refine ds_one ?_; exact (by refine ds_ret ?_; exact (de_str (s := [111, 116, 104, 101, 114]) (by rfl)))) ds_nil); exact (by refine ds_one ?_; exact (by refine ds_ret ?_; exact (de_str (s := [114, 101, 102, 117, 115, 101, 100]) (by rfl))))))))) (dr_tryOk (fun _ => (de_call (ok_read_expression T) (hr.mono (by decide)) (by rfl) T.d_read_expression.m T.d_read_expression.F.kp T.d_read_expression.b (da_cons (de_var 0 (pv 0)) da_nil (hs := stName)))) (by refine dr_d ?_; refine ds_cons ?_ dss_none; exact (ds_if (dt_cmp op_isN od_isN (de_var 1 (pv 1)) de_non (nomark _)) (by refine ds_one ?_; exact (by refine ds_ret ?_; exact (de_str (s := [114, 101, 97, 100]) (by rfl)))) ds_nil)))))
theorem sc_law : FnScope ["_law_script", "_law_first", "_law_names_here", "_law_pile", "_law_k", "_law_cell_here", "_law_words", "_law_text", "_law_at", "_law_due"] ["_law_script"] (defScope (top 41)) := ⟨rfl, rfl, rfl, by decide +kernel, rfl, by decide +kernel, by decide +kernel⟩
theorem ok_law (T : Txt K mg w.params) : Ok P w base T.d_law 47 1 F_law := by
  refine fn_d T.d_law.F sc_law 1 10 rfl rfl (g := g_law) (fun cdv A outer s H E hr => ?_)
  unfold g_law
  exact (by refine ds_cons ?_ ?_; exact (ds_set 1 (de_call (ok__law_mixed T) (hr.mono (by decide)) (by rfl) T.d__law_mixed.m T.d__law_mixed.F.kp T.d__law_mixed.b (by refine da_cons (de_call (ok__law_cell T) (hr.mono (by decide)) (by rfl) T.d__law_cell.m T.d__law_cell.F.kp T.d__law_cell.b (by refine da_cons (de_var 0 (pv 0)) ?_ (hs := stName); refine da_cons de_int ?_ (hs := stConst); exact da_nil)) ?_ (hs := stCall); refine da_cons de_int ?_ (hs := stConst); exact da_nil)) sc_law.nd); exact (by refine ds_cons ?_ ?_; exact (ds_set 2 (de_call (ok__law_names T) (hr.mono (by decide)) (by rfl) T.d__law_names.m T.d__law_names.F.kp T.d__law_names.b (da_cons (de_call (ok__law_cell T) (hr.mono (by decide)) (by rfl) T.d__law_cell.m T.d__law_cell.F.kp T.d__law_cell.b (by refine da_cons (de_var 0 (pv 0)) ?_ (hs := stName); refine da_cons de_int ?_ (hs := stConst); exact da_nil)) da_nil (hs := stCall))) sc_law.nd); exact (by refine ds_cons ?_ ?_; exact (ds_set 3 (by refine de_f ?_; exact (by refine df_lst ?_; exact (da_cons (de_call (ok__law_leaf T) (hr.mono (by decide)) (by rfl) T.d__law_leaf.m T.d__law_leaf.F.kp T.d__law_leaf.b (by refine da_cons (de_var 1 (pv 1)) ?_ (hs := stName); refine da_cons (de_call (ok__law_mixed T) (hr.mono (by decide)) (by rfl) T.d__law_mixed.m T.d__law_mixed.F.kp T.d__law_mixed.b (by refine da_cons (de_var 1 (pv 1)) ?_ (hs := stName); refine da_cons de_int ?_ (hs := stConst); exact da_nil)) ?_ (hs := stCall); refine da_cons (de_var 2 (pv 2)) ?_ (hs := stName); exact da_nil)) da_nil (hs := stCall)))) sc_law.nd); exact (by refine ds_cons ?_ ?_; exact (ds_for PassesOwn.never rfl (di_enum (by rfl) T.z_enumerate (de_sl (de_var 0 (pv 0)) (do_some de_int) (do_some de_int))) (dg_seq rfl (dgs_cons (dg_name 4 sc_law.nd) (dgs_cons (dg_name 5 sc_law.nd) dgs_nil))) (by refine ds_one ?_; exact (ds_set 3 (de_call (ok__law_grown T) (hr.mono (by decide)) (by rfl) T.d__law_grown.m T.d__law_grown.F.kp T.d__law_grown.b (by refine da_cons (de_var 3 (pv 3)) ?_ (hs := stName); refine da_cons (de_var 5 (pv 5)) ?_ (hs := stName); refine da_cons (de_var 4 (pv 4)) ?_ (hs := stName); refine da_cons (de_var 2 (pv 2)) ?_ (hs := stName); exact da_nil)) sc_law.nd))); exact (by refine ds_cons ?_ ?_; exact (ds_set 6 (de_ix (de_ix (de_var 3 (pv 3)) (de_neg de_int)) de_int) sc_law.nd); exact (by refine ds_cons ?_ ?_; exact (ds_if (dt_cmp (op_eqA hr.units0) od_eqA (de_bin op_mod od_mod (de_var 1 (pv 1)) de_int) de_int (nomark _)) (by refine ds_one ?_; exact (ds_set 6 (de_bin op_plus od_plus (de_bin op_plus od_plus (de_bin op_plus od_plus (by refine de_f ?_; exact (df_mulL (by refine df_lst ?_; exact (da_cons (de_str (s := [110, 101, 118, 101, 114]) (by rfl)) da_nil (hs := stConst))) (de_bin op_plus od_plus (de_bin op_mod od_mod (de_bin op_fdiv od_fdiv (de_var 1 (pv 1)) de_int) de_int) de_int))) (by refine de_f ?_; exact (df_mulL (by refine df_lst ?_; exact (by refine da_strs (ss := [[110, 101, 118, 101, 114], [116, 97, 103], [97]]) ?_; rfl)) de_int))) (by refine de_f ?_; exact (by refine df_lst ?_; exact (da_cons (de_str (s := [110, 101, 118, 101, 114]) (by rfl)) da_nil (hs := stConst))))) (de_var 6 (pv 6))) sc_law.nd)) ds_nil); exact (by refine ds_cons ?_ ?_; exact (ds_for PassesOwn.never rfl (di_rng1 (by rfl) T.z_range (de_bin op_mod od_mod (de_bin op_fdiv od_fdiv (de_var 1 (pv 1)) de_int) de_int)) (dg_name 4 sc_law.nd) (by refine ds_one ?_; exact (ds_set 6 (de_call (ok__law_changed T) (hr.mono (by decide)) (by rfl) T.d__law_changed.m T.d__law_changed.F.kp T.d__law_changed.b (by refine da_cons (de_var 6 (pv 6)) ?_ (hs := stName); refine da_cons (de_call (ok__law_mixed T) (hr.mono (by decide)) (by rfl) T.d__law_mixed.m T.d__law_mixed.F.kp T.d__law_mixed.b (by refine da_cons (de_call (ok__law_cell T) (hr.mono (by decide)) (by rfl) T.d__law_cell.m T.d__law_cell.F.kp T.d__law_cell.b (by refine da_cons (de_var 0 (pv 0)) ?_ (hs := stName); refine da_cons de_int ?_ (hs := stConst); exact da_nil)) ?_ (hs := stCall); refine da_cons (de_bin op_plus od_plus de_int (de_var 4 (pv 4))) ?_ (hs := stBin); exact da_nil)) ?_ (hs := stCall); refine da_cons (de_var 2 (pv 2)) ?_ (hs := stName); exact da_nil)) sc_law.nd))); exact (by refine ds_cons ?_ ?_; exact (ds_set 7 (de_join (de_str (s := [32]) (by rfl)) (db_e (de_var 6 (pv 6)))) sc_law.nd); exact (by refine ds_cons ?_ ?_; exact (ds_if (dt_cmp (op_eqA hr.units0) od_eqA (de_bin op_mod od_mod (de_bin op_fdiv od_fdiv (de_var 1 (pv 1)) de_int) de_int) de_int (nomark _)) (by refine ds_cons ?_ ?_; exact (ds_set 8 (de_bin op_mod od_mod (de_bin op_fdiv od_fdiv (de_var 1 (pv 1)) de_int) (de_bin op_plus od_plus (de_len (by rfl) T.z_len (de_var 7 (pv 7))) de_int)) sc_law.nd); exact (by refine ds_one ?_; exact (ds_set 7 (de_bin op_plus od_plus (de_bin op_plus od_plus (de_sl (de_var 7 (pv 7)) do_none (do_some (de_var 8 (pv 8)))) (de_str (s := [32]) (by rfl))) (de_sl (de_var 7 (pv 7)) (do_some (de_var 8 (pv 8))) do_none)) sc_law.nd))) ds_nil); exact (by refine ds_cons ?_ ?_; exact (by refine ds_set 9 ?_ ?_ ?_ ?_ ?_ ?_; exact (by refine de_ix ?_ ?_; exact (by refine de_f ?_; exact (by refine df_lst ?_; exact (by refine da_cons (de_str (s := [114, 101, 102, 117, 115, 101, 100]) (by rfl)) ?_ (hs := stConst); refine da_cons (de_str (s := [114, 101, 97, 100]) (by rfl)) ?_ (hs := stConst); exact da_nil))); exact (de_intB (by rfl) T.z_int (de_call (ok__law_good T) (hr.mono (by decide)) (by rfl) T.d__law_good.m T.d__law_good.F.kp T.d__law_good.b (da_cons (by refine de_f ?_; exact (df_split (de_var 7 (pv 7)) (de_str (s := [32]) (by rfl)))) da_nil (hs := stCall))))); exact (id sc_law.nd); rfl; (first | exact Or.inl rfl | exact Or.inr rfl); rfl; (first | exact Or.inl rfl | exact Or.inr rfl)); exact (by refine ds_one ?_; exact (by refine ds_ret ?_; exact (de_and (de_cmp (op_eqA hr.units0) od_eqA (de_call (ok__law_refused T) (hr.mono (by decide)) (by rfl) T.d__law_refused.m T.d__law_refused.F.kp T.d__law_refused.b (da_cons (de_var 7 (pv 7)) da_nil (hs := stName))) (de_var 9 (pv 9)) (nomark _)) (de_one (de_cmp (op_eqA hr.units0) od_eqA (de_call (ok__law_refused T) (hr.mono (by decide)) (by rfl) T.d__law_refused.m T.d__law_refused.F.kp T.d__law_refused.b (da_cons (de_var 7 (pv 7)) da_nil (hs := stName))) (de_var 9 (pv 9)) (nomark _))))))))))))))))
end
theorem mixed_eq (c k : Int) : ∃ n : Int, 0 ≤ n ∧ ∃ as, F__law_mixed [.v (.int c), .v (.int k)] = some (.v (.int n), as) := by
  let n1 : Int := (c % 2147483647 + 16807 * k + 7) % 2147483629
  let n2 : Int := n1 * n1 % 2147483587
  have h1 : 0 ≤ n1 ∧ n1 < 2147483629 := ⟨Int.emod_nonneg _ (by decide), Int.emod_lt_of_pos _ (by decide)⟩
  have h2 : 0 ≤ n2 ∧ n2 < 2147483587 := ⟨Int.emod_nonneg _ (by decide), Int.emod_lt_of_pos _ (by decide)⟩
  refine ⟨n2 * (n2 + 48271) % 2147483579 / 5, ?_, ?_⟩
  · exact Int.ediv_nonneg (Int.emod_nonneg _ (by decide)) (by decide)
  · refine mk_rt (r' := [.v (.int c), .v (.int k), .v (.int n2)]) ?_
    show g__law_mixed [.v (.int c), .v (.int k), .un] = _
    unfold g__law_mixed
    rw [seq_of (sSet_of (d := .int n1) (r2 := [.v (.int c), .v (.int k), .v (.int n1)]) (mod_of (add_of (add_of (mod_of rfl con_of (by decide)) (mul_of con_of rfl (by decide))) con_of) con_of (by decide)) (by rfl))]
    rw [seq_of (sSet_of (d := .int n2) (r2 := [.v (.int c), .v (.int k), .v (.int n2)]) (mod_of (mul_of rfl rfl (by omega)) con_of (by decide)) (by rfl))]
    exact ret_of (fdiv_of (mod_of (mul_of rfl (add_of rfl con_of) (by omega)) con_of (by decide)) con_of (by decide))
structure Tx (n : Nat) (s : List Nat) : Prop where
  len : s.length ≤ n
  sm : ∀ c ∈ s, c < 128
theorem Tx.le {n m : Nat} {s : List Nat} (h : Tx n s) (hm : n ≤ m) : Tx m s := ⟨Nat.le_trans h.len hm, h.sm⟩
theorem Tx.app {n m : Nat} {s t : List Nat} (h : Tx n s) (h' : Tx m t) : Tx (n + m) (s ++ t) := ⟨by rw [List.length_append]; have := h.len; have := h'.len; omega, fun c hc => (List.mem_append.mp hc).elim (h.sm c) (h'.sm c)⟩
theorem cut_mem {α : Type} {l : List α} {lo hi : Option Int} {x : α} (h : x ∈ cutL l lo hi) : x ∈ l := List.mem_of_mem_drop (List.mem_of_mem_take h)
theorem cut_len {α : Type} (s : List α) (lo hi : Option Int) : (cutL s lo hi).length ≤ s.length := by
  unfold cutL
  rw [List.length_take, List.length_drop]; omega
theorem Tx.cut {n : Nat} {s : List Nat} (h : Tx n s) (lo hi : Option Int) : Tx n (cutL s lo hi) := ⟨Nat.le_trans (cut_len s lo hi) h.len, fun c hc => h.sm c (cut_mem hc)⟩
theorem sl_str {s : List Nat} {lo hi : Option Int} (h : s.length ≤ 100000) : slD (.str s) lo hi = some (.str (cutL s lo hi)) := if_pos (Nat.le_trans h (by decide))
theorem len_of {f : ME} {r : En} {s : List Nat} (e : f r = some (.str s)) (h : s.length ≤ 100000) : mUn lenD f r = some (.int s.length) := un_of e (if_pos (Nat.le_trans h (by decide)))
theorem at_mod {s : List Nat} {i : Int} (hs : s ≠ []) (hl : s.length ≤ 100) : ∃ c ∈ s, ixD (.str s) (.int (i % (s.length : Int))) = some (.str [c]) := by
  have pos : 0 < s.length := List.length_pos_iff.mpr hs
  have h0 := Int.emod_nonneg i (b := (s.length : Int)) (by omega)
  have h1 := Int.emod_lt_of_pos i (b := (s.length : Int)) (by omega)
  obtain ⟨j, hj⟩ := Int.eq_ofNat_of_zero_le h0
  have jl : j < s.length := by omega
  refine ⟨s[j], List.getElem_mem jl, ?_⟩
  rw [hj]
  show (if s.length ≤ sizeLine then (atI s (j : Int)).map fun c => D.str [c] else none) = _
  rw [if_pos (Nat.le_trans hl (by decide)), atI_nat (List.getElem?_eq_getElem jl)]; rfl
noncomputable def kept : List (List Nat) := [[100, 101, 102], [102, 110], [100, 111], [101, 109, 112, 116, 121], [103, 101, 116], [119, 105, 116, 104], [112, 117, 116], [108, 101, 115, 115], [116, 97, 103], [119, 105, 100, 101], [99, 97, 115, 101], [110, 101, 118, 101, 114], [105, 102]]
theorem kept_eq : ∃ as, F__law_kept [] = some (.v (.lst (kept.map D.str)), as) := ⟨_, rfl⟩
noncomputable def abc : List Nat := [97, 98, 99, 100, 101, 102, 103, 104, 105, 106, 107, 108, 109, 110, 111, 112, 113, 114, 115, 116, 117, 118, 119, 120, 121, 122]
theorem lt1 (a b : Nat) : ([a] < [b]) ↔ a < b := by
  rw [List.cons_lt_cons_iff]
  constructor
  · rintro (h | ⟨_, h⟩)
    · exact h
    · exact absurd h (by simp)
  · exact .inl
theorem flat_strs : ∀ l : List (List Nat), (l.map D.str).all flatD = true
  | [] => rfl
  | s :: l => by simp [flatD]
theorem any_eq : ∀ (l : List (List Nat)) (s : List Nat), ((l.map D.str).any fun z => eqF z (.str s)) = decide (s ∈ l)
  | [], s => by simp
  | t :: l, s => by
    have e : eqF (.str t) (.str s) = decide (t = s) := rfl
    rw [List.map_cons, List.any_cons, any_eq l s, e]
    by_cases h : t = s
    · subst h; simp
    · rw [decide_eq_false h, Bool.false_or, decide_eq_decide]; simp [Ne.symm h]
theorem chain_of {m m' : D → D → Option D} {f g h : ME} {r : En} {x y z : D} {k : Bool} (e1 : f r = some x) (e2 : g r = some y) (ek : m x y = some (.bl k)) (e3 : h r = some z) : mChain m m' f g h r = if k = true then m' y z else some (.bl false) := by
  unfold mChain
  rw [e1, Option.bind_some, e2, Option.bind_some, ek, Option.bind_some]
  cases k
  · rfl
  · simp only [e3, Option.bind_some, if_true]
noncomputable def btw (lo hi c : Nat) : Bool := decide (lo ≤ c) && decide (c ≤ hi)
theorem chain_btw {lo hi c : Nat} : mChain leA leA (mVar 0) (mVar 2) (mVar 1) [.v (.str [lo]), .v (.str [hi]), .v (.str [c])] = some (.bl (btw lo hi c)) := by
  have e1 : leA (.str [lo]) (.str [c]) = some (.bl (decide (lo ≤ c))) := by
    show some (D.bl (!decide ([c] < [lo]))) = _
    congr 2
    rw [decide_eq_decide.mpr (lt1 c lo)]
    by_cases h : lo ≤ c
    · rw [decide_eq_true h, decide_eq_false (by omega)]; rfl
    · rw [decide_eq_false h, decide_eq_true (by omega)]; rfl
  have e2 : leA (.str [c]) (.str [hi]) = some (.bl (decide (c ≤ hi))) := by
    show some (D.bl (!decide ([hi] < [c]))) = _
    congr 2
    rw [decide_eq_decide.mpr (lt1 hi c)]
    by_cases h : c ≤ hi
    · rw [decide_eq_true h, decide_eq_false (by omega)]; rfl
    · rw [decide_eq_false h, decide_eq_true (by omega)]; rfl
  rw [chain_of (x := .str [lo]) (y := .str [c]) (z := .str [hi]) rfl rfl e1 rfl, e2]
  unfold btw
  by_cases h : lo ≤ c
  · rw [decide_eq_true h, Bool.true_and, if_pos rfl]
  · rw [decide_eq_false h, Bool.false_and, if_neg (by simp)]
theorem comp_btw (lo hi : Nat) : ∀ (s : List Nat) (x : Sl), fre x → compL (setV 2) mTrue (mChain leA leA (mVar 0) (mVar 2) (mVar 1)) (s.map fun c => .str [c]) [.v (.str [lo]), .v (.str [hi]), x] = some ((s.map (btw lo hi)).map D.bl)
  | [], x, _ => rfl
  | c :: s, x, hx => by
    have ih := comp_btw lo hi s (.v (.str [c])) trivial
    have e1 : setV 2 (.str [c]) [.v (.str [lo]), .v (.str [hi]), x] = some [.v (.str [lo]), .v (.str [hi]), .v (.str [c])] := setV_fre (x := x) rfl hx
    have e3 : mTrue [.v (.str [lo]), .v (.str [hi]), .v (.str [c])] = some true := rfl
    rw [List.map_cons, List.map_cons, List.map_cons]; unfold compL
    rw [e1, Option.bind_some, e3, Option.bind_some, if_pos rfl, chain_btw, Option.bind_some, ih]; rfl
theorem bls_of : ∀ l : List Bool, blsD (l.map D.bl) = some l
  | [] => rfl
  | i :: l => by simp [blsD, bls_of l]
theorem between_eq (s : List Nat) (lo hi : Nat) (hl : s.length < 1000000) : ∃ as, F_all_between [.v (.str s), .v (.str [lo]), .v (.str [hi])] = some (.v (.bl (s.all (btw lo hi))), as) := by
  refine mk_rt (r' := [.v (.str s), .v (.str [lo]), .v (.str [hi])]) (ret_of ?_)
  have e : mComp [1, 2] 3 (mItS (mVar 0)) (setV 2) (mChain leA leA (mVar 0) (mVar 2) (mVar 1)) [.v (.str s), .v (.str [lo]), .v (.str [hi])] = some ((s.map (btw lo hi)).map D.bl) := by
    show (if (s.map fun c => D.str [c]).length < sizeLine then compL _ _ _ (s.map fun c => D.str [c]) [.v (.str [lo]), .v (.str [hi]), .un] else none) = _
    rw [if_pos (by rw [List.length_map]; exact Nat.lt_trans hl (by decide)), comp_btw lo hi s .un trivial]
  unfold mAll
  show (mComp [1, 2] 3 (mItS (mVar 0)) (setV 2) (mChain leA leA (mVar 0) (mVar 2) (mVar 1)) [.v (.str s), .v (.str [lo]), .v (.str [hi])]).bind _ = _
  rw [e, Option.bind_some, bls_of, Option.map_some, List.all_map]; rfl
theorem len_chain (s : List Nat) (n : Nat) (hl : s.length ≤ 100000) : mChain leA leA (mC (.int 1)) (mUn lenD (mVar 0)) (mC (.int (n : Int))) [.v (.str s)] = some (.bl (decide (1 ≤ s.length ∧ s.length ≤ n))) := by
  have e0 : mUn lenD (mVar 0) [.v (.str s)] = some (.int s.length) := len_of rfl hl
  have e1 : leA (.int 1) (.int s.length) = some (.bl (decide ((1 : Int) ≤ s.length))) := rfl
  rw [chain_of (x := .int 1) (z := .int (n : Int)) con_of e0 e1 con_of]
  by_cases h : 1 ≤ s.length
  · rw [if_pos (decide_eq_true (by omega))]
    show some (D.bl (decide ((s.length : Int) ≤ (n : Int)))) = _
    congr 2
    rw [decide_eq_decide]; omega
  · rw [if_neg (by rw [decide_eq_false (by omega)]; exact Bool.false_ne_true), decide_eq_false (by omega)]
theorem and_bb {f g : ME} {r : En} {a b : Bool} (e1 : f r = some (.bl a)) (e2 : a = true → g r = some (.bl b)) : mAnd f g r = some (.bl (a && b)) := by
  unfold mAnd; rw [e1]
  cases a
  · rfl
  · exact e2 rfl
noncomputable def nameB (s : List Nat) : Bool := decide (1 ≤ s.length ∧ s.length ≤ 8) && (s.all (btw 97 122) && !decide (s ∈ kept))
theorem name_eq (s : List Nat) (hl : s.length ≤ 100000) : ∃ as, F_is_name [.v (.str s)] = some (.v (.bl (nameB s)), as) := by
  refine mk_rt (r' := [.v (.str s)]) (ret_of (and_bb (len_chain s 8 hl) fun _ => and_bb ?_ fun _ => ?_))
  · exact call_of (p := .v (.bl _)) (cons_of rfl (cons_of con_of (cons_of con_of nil_of))) rfl (between_eq s 97 122 (by omega))
  · refine bin_of (x := .str s) (y := .tup (C_KEPT_WORDS.map D.str)) rfl con_of ?_
    show (if flatD (.str s) = true ∧ (C_KEPT_WORDS.map D.str).all flatD = true then some (D.bl (!((C_KEPT_WORDS.map D.str).any fun z => eqF z (.str s)))) else none) = _
    rw [if_pos ⟨rfl, flat_strs _⟩, any_eq]; rfl
noncomputable def numB (s : List Nat) : Bool := decide (1 ≤ s.length ∧ s.length ≤ 6) && (s.all (btw 48 57) && (decide (s = [48]) || !decide (s.head? = some 48)))
theorem num_eq (s : List Nat) (hl : s.length ≤ 100000) : ∃ as, F_is_number [.v (.str s)] = some (.v (.bl (numB s)), as) := by
  have q := between_eq s 48 57 (by omega)
  have a0 : mCall 3 F_all_between (mCons (mVar 0) (mCons (mC (.str [48])) (mCons (mC (.str [57])) mNil))) [.v (.str s)] = some (.bl (s.all (btw 48 57))) := call_of (p := .v (.bl _)) (cons_of rfl (cons_of con_of (cons_of con_of nil_of))) rfl q
  have c0 : mOrT (mNotT (mBl (mChain leA leA (mC (.int 1)) (mUn lenD (mVar 0)) (mC (.int 6))))) (mNotT (mTru (mCall 3 F_all_between (mCons (mVar 0) (mCons (mC (.str [48])) (mCons (mC (.str [57])) mNil)))))) [.v (.str s)] = some (!(decide (1 ≤ s.length ∧ s.length ≤ 6) && s.all (btw 48 57))) := by
    have a1 : mNotT (mBl (mChain leA leA (mC (.int 1)) (mUn lenD (mVar 0)) (mC (.int 6)))) [.v (.str s)] = some (!decide (1 ≤ s.length ∧ s.length ≤ 6)) := by
      have z : mBl (mChain leA leA (mC (.int 1)) (mUn lenD (mVar 0)) (mC (.int 6))) [.v (.str s)] = _ := bl_of (len_chain s 6 hl)
      unfold mNotT; rw [z]; rfl
    have a2 : mNotT (mTru (mCall 3 F_all_between (mCons (mVar 0) (mCons (mC (.str [48])) (mCons (mC (.str [57])) mNil))))) [.v (.str s)] = some (!s.all (btw 48 57)) := by
      unfold mNotT mTru; rw [a0]; rfl
    unfold mOrT
    rw [a1, Option.bind_some, a2]
    cases decide (1 ≤ s.length ∧ s.length ≤ 6) <;> simp
  refine mk_rt (r' := [.v (.str s)]) ?_
  show g_is_number [.v (.str s)] = _
  unfold g_is_number numB
  cases hb : (decide (1 ≤ s.length ∧ s.length ≤ 6) && s.all (btw 48 57)) with
  | false =>
    rw [hb] at c0
    rw [← Bool.and_assoc, hb, Bool.false_and]
    exact seq_tt c0 (ret_of con_of)
  | true =>
    rw [hb] at c0
    rw [← Bool.and_assoc, hb, Bool.true_and]
    refine seq_ff c0 (ret_of ?_)
    have c1 : mBin eqA (mVar 0) (mC (.str [48])) [.v (.str s)] = some (.bl (decide (s = [48]))) := bin_of rfl con_of rfl
    unfold mOr
    rw [c1]
    by_cases hz : s = [48]
    · rw [decide_eq_true hz]; rfl
    · rw [decide_eq_false hz, Bool.false_or]
      show mBin neA (mBin ixD (mVar 0) (mC (.int 0))) (mC (.str [48])) [.v (.str s)] = _
      cases s with
      | nil => simp at hb
      | cons c r =>
        refine bin_of (x := .str [c]) (bin_of rfl con_of ?_) con_of ?_
        · show (if (c :: r).length ≤ sizeLine then (atI (c :: r) 0).map fun c => D.str [c] else none) = _
          rw [if_pos (Nat.le_trans hl (by decide)), at_zero]; rfl
        · show some (D.bl (!decide ([c] = [48]))) = _
          congr 3
          rw [decide_eq_decide]; simp
noncomputable abbrev Wd (s : List Nat) : Prop := Tx 100000 s
noncomputable abbrev NL : Str := "NoLine"
theorem fstr_ok {i : Nat} {r : En} {s c : List Nat} (h : Wd s) (e : r[i]? = some (.v (.str s))) (hc : c.length ≤ 100) : ∃ d, mFstr (jE (mRepr (mVar i)) (jE (mC (.str c)) jNil)) r = some d := by
  have l : (reprText ⟨s.toArray⟩).length ≤ 1000002 := by
    have q := PySem.StrLaws.reprText_len ⟨s.toArray⟩ (fun c hc => Nat.lt_trans (h.sm c (by simpa using hc)) (by decide))
    have l : (⟨s.toArray⟩ : Str).length = s.length := DD.str_len s
    have := h.len
    omega
  have le : (reprText ⟨s.toArray⟩).length = (reprText ⟨s.toArray⟩).cps.toList.length := by show (reprText ⟨s.toArray⟩).cps.size = _; simp
  have a1 : mRepr (mVar i) r = some (.str (reprText ⟨s.toArray⟩).cps.toList) := by
    unfold mRepr
    rw [var_of e, Option.bind_some]
    exact if_pos (Nat.le_trans l (by decide))
  refine ⟨.str ([(reprText ⟨s.toArray⟩).cps.toList, c]).flatten, ?_⟩
  unfold mFstr
  have z : jE (mRepr (mVar i)) (jE (mC (.str c)) jNil) r = some [(reprText ⟨s.toArray⟩).cps.toList, c] := by unfold jE; rw [a1]; rfl
  rw [z, Option.bind_some, if_pos]
  simp only [List.map_nil, List.map_cons, List.sum_nil, List.sum_cons]
  rw [← le]
  exact Nat.le_trans (Nat.add_le_add l (Nat.add_le_add_right hc 0)) (by decide)
theorem raise_of {n : Str} {g : ME} {r : En} (h : ∃ d, g r = some d) : xRaise n g r = some n := by
  obtain ⟨d, e⟩ := h
  unfold xRaise; rw [e]; rfl
theorem ycall_of {n : Nat} {m : List Sl → Option Str} {fs : ML} {r : En} {l : List D} (e : fs r = some l) (h : l.length = n) : yCall n m fs r = m (l.map .v) := by
  unfold yCall; rw [e, Option.bind_some, if_pos h]
theorem xif_t {c : MB} {x y : MX} {r : En} (e : c r = some true) : xIf c x y r = x r := by unfold xIf; rw [e]; rfl
theorem xif_f {c : MB} {x y : MX} {r : En} (e : c r = some false) : xIf c x y r = y r := by unfold xIf; rw [e]; rfl
theorem xor_r {x y : MX} {r : En} (e : x r = none) : xOr x y r = y r := by unfold xOr; rw [e]
theorem xor_l {x y : MX} {r : En} {n : Str} (e : x r = some n) : xOr x y r = some n := by unfold xOr; rw [e]
theorem xthen {g : MS} {x : MX} {r r' : En} (e : g r = some (.nx r')) : xThen g x r = x r' := by unfold xThen; rw [e]; rfl
theorem xthen_rt {g : MS} {x : MX} {r r' : En} {d : D} (e : g r = some (.rt d r')) : xThen g x r = none := by unfold xThen; rw [e]; rfl
theorem nott {f : ME} {r : En} {b : Bool} (e : f r = some (.bl b)) : mNotT (mTru f) r = some (!b) := by unfold mNotT mTru; rw [e]; rfl
theorem isnum_call {s : List Nat} (h : Wd s) : mCall 1 F_is_number (mCons (mVar 0) mNil) [.v (.str s)] = some (.bl (numB s)) := call_of (p := .v (.bl _)) (cons_of rfl nil_of) rfl (num_eq s h.len)
theorem isname_call {i : Nat} {r : En} {s : List Nat} (h : Wd s) (e : r[i]? = some (.v (.str s))) : mCall 1 F_is_name (mCons (mVar i) mNil) r = some (.bl (nameB s)) := call_of (p := .v (.bl _)) (cons_of (var_of e) nil_of) rfl (name_eq s h.len)
theorem rnum_no {s : List Nat} (h : Wd s) (hb : numB s = false) : M_read_number_NoLine [.v (.str s)] = some NL := by
  have a0 := isnum_call h
  rw [hb] at a0
  show x_read_number_NoLine [.v (.str s)] = _
  unfold x_read_number_NoLine
  rw [xif_t (nott a0)]
  exact raise_of (fstr_ok h rfl (by decide))
theorem rnum_none {s : List Nat} (h : Wd s) (hb : numB s = true) : M_read_number_NoLine [.v (.str s)] = none := by
  have a0 := isnum_call h
  rw [hb] at a0
  show x_read_number_NoLine [.v (.str s)] = _
  unfold x_read_number_NoLine
  rw [xif_f (nott a0)]; rfl
theorem rnum_eq {s : List Nat} (h : Wd s) (hb : numB s = true) : ∃ as, F_read_number [.v (.str s)] = some (.v (.int (PySem.NumText.digitsVal s : Nat)), as) := by
  have a0 := isnum_call h
  rw [hb] at a0
  unfold numB at hb
  simp only [Bool.and_eq_true, decide_eq_true_eq] at hb
  obtain ⟨⟨h1, h6⟩, hd, _⟩ := hb
  have i : intOfD (.str s) = some (.int (PySem.NumText.digitsVal s : Nat)) := if_pos ⟨fun z => by rw [z] at h1; simp at h1, by omega, hd⟩
  refine mk_rt (r' := [.v (.str s)]) ?_
  show g_read_number [.v (.str s)] = _
  exact seq_ff (nott a0) (ret_of (un_of rfl i))
noncomputable def sNam : List Nat := [110, 97, 109, 101]
noncomputable def sNum : List Nat := [110, 117, 109]
noncomputable def leafD (s : List Nat) : Option D := if nameB s = true then some (.tup [.str sNam, .str s]) else if numB s = true then some (.tup [.str sNum, .int (PySem.NumText.digitsVal s : Nat)]) else none
theorem tru_of {f : ME} {r : En} {b : Bool} (e : f r = some (.bl b)) : mTru f r = some b := by unfold mTru; rw [e]; rfl
theorem leaf_eq {s : List Nat} (h : Wd s) {d : D} (e : leafD s = some d) : (∃ as, F_read_leaf [.v (.str s)] = some (.v d, as)) ∧ M_read_leaf_NoLine [.v (.str s)] = none := by
  have n0 : mCall 1 F_is_name (mCons (mVar 0) mNil) [.v (.str s)] = some (.bl (nameB s)) := isname_call h rfl
  unfold leafD at e
  cases hn : nameB s with
  | true =>
    rw [if_pos hn] at e; cases e
    rw [hn] at n0
    have t : mTup (mCons (mC (.str [110, 97, 109, 101])) (mCons (mVar 0) mNil)) [.v (.str s)] = some (.tup [.str sNam, .str s]) := tup_of (cons_of con_of (cons_of rfl nil_of)) (by simp)
    refine ⟨mk_rt (r' := [.v (.str s)]) (seq_tt (tru_of n0) (ret_of t)), ?_⟩
    show x_read_leaf_NoLine [.v (.str s)] = _
    exact xthen_rt (r' := [.v (.str s)]) (d := .tup [.str sNam, .str s]) (by rw [sIf_t (tru_of n0)]; exact ret_of t)
  | false =>
    rw [if_neg (by rw [hn]; exact Bool.false_ne_true)] at e
    rw [hn] at n0
    split at e
    · rename_i hm
      cases e
      have t : mTup (mCons (mC (.str [110, 117, 109])) (mCons (mCall 1 F_read_number (mCons (mVar 0) mNil)) mNil)) [.v (.str s)] = some (.tup [.str sNum, .int (PySem.NumText.digitsVal s : Nat)]) :=
        tup_of (cons_of con_of (cons_of (call_of (p := .v (.int _)) (cons_of rfl nil_of) rfl (rnum_eq h hm)) nil_of)) (by simp)
      refine ⟨mk_rt (r' := [.v (.str s)]) (seq_ff (tru_of n0) (ret_of t)), ?_⟩
      show x_read_leaf_NoLine [.v (.str s)] = _
      unfold x_read_leaf_NoLine
      rw [xthen (r' := [.v (.str s)]) (by rw [sIf_f (tru_of n0)]; rfl)]
      show (some (D.str [110, 117, 109])).bind (fun _ => yCall 1 M_read_number_NoLine (mCons (mVar 0) mNil) [.v (.str s)]) = none
      rw [Option.bind_some]
      exact (ycall_of (l := [.str s]) (cons_of rfl nil_of) rfl).trans (rnum_none h hm)
    · cases e
theorem leaf_no {s : List Nat} (h : Wd s) (e : leafD s = none) : M_read_leaf_NoLine [.v (.str s)] = some NL := by
  have n0 : mCall 1 F_is_name (mCons (mVar 0) mNil) [.v (.str s)] = some (.bl (nameB s)) := isname_call h rfl
  unfold leafD at e
  split at e
  · cases e
  · rename_i hn
    split at e
    · cases e
    · rename_i hm
      rw [Bool.eq_false_iff.mpr hn] at n0
      show x_read_leaf_NoLine [.v (.str s)] = _
      unfold x_read_leaf_NoLine
      rw [xthen (r' := [.v (.str s)]) (by rw [sIf_f (tru_of n0)]; rfl)]
      show (some (D.str [110, 117, 109])).bind (fun _ => yCall 1 M_read_number_NoLine (mCons (mVar 0) mNil) [.v (.str s)]) = _
      rw [Option.bind_some]
      exact (ycall_of (l := [.str s]) (cons_of rfl nil_of) rfl).trans (rnum_no h (Bool.eq_false_iff.mpr hm))
noncomputable def wt (W : List (List Nat)) : List D := (W.map D.str).reverse
theorem wt_cons (w : List Nat) (W : List (List Nat)) : wt (w :: W) = wt W ++ [.str w] := by simp [wt]
theorem popP_of {i : Nat} {r : En} {S : List D} {d : D} (e : r[i]? = some (.p (S ++ [d]))) : mPop i r = some (d, r.set i (.p S)) := by
  simp [mPop, mtOf, e, Sl.mt, putO]
theorem word_eq (S : List D) (d : D) : F_take_word [.p (S ++ [d])] = some (.v d, [.p S]) := by
  have c : mNotT (mTruB (mOwn 0)) [.p (S ++ [d])] = some false := by
    unfold mNotT
    rw [show mTruB (mOwn 0) [.p (S ++ [d])] = some (!(S ++ [d]).isEmpty) from rfl]
    simp
  show mkF 1 1 g_take_word [.p (S ++ [d])] = _
  unfold mkF
  have e : g_take_word [.p (S ++ [d])] = some (.rt d [.p S]) := by
    refine seq_ff c ?_
    unfold sRetX
    rw [popP_of (S := S) (d := d) rfl]; rfl
  rw [show ([.p (S ++ [d])] ++ List.replicate (1 - 1) Sl.un) = [.p (S ++ [d])] from rfl, e]; rfl
theorem word_none (S : List D) (d : D) : M_take_word_NoLine [.p (S ++ [d])] = none := by
  have c : mNotT (mTruB (mOwn 0)) [.p (S ++ [d])] = some false := by
    unfold mNotT
    rw [show mTruB (mOwn 0) [.p (S ++ [d])] = some (!(S ++ [d]).isEmpty) from rfl]
    simp
  show x_take_word_NoLine [.p (S ++ [d])] = _
  unfold x_take_word_NoLine
  rw [xif_f c]; rfl
theorem word_no : M_take_word_NoLine [.p []] = some NL := by
  show x_take_word_NoLine [.p []] = _
  unfold x_take_word_NoLine
  rw [xif_t rfl]
  exact raise_of ⟨_, rfl⟩
theorem callP_of {n i : Nat} {m : MF} {z : MZ} {r : En} {L L' es : List D} {d : D} {as : List Sl} (hr : r[i]? = some (.p L)) (hz : z r = some ([], es)) (hn : 1 + es.length = n) (hm : m (.p L :: es.map .v) = some (.v d, as)) (ha : as[0]? = some (.p L')) : mCallX n m i z r = some (d, r.set i (.p L')) := by
  unfold mCallX mtOf
  rw [hr]
  show (z r).bind _ = _
  rw [hz, Option.bind_some]
  simp only [List.length_nil]
  rw [if_pos (by omega)]
  show (m (.p L :: es.map .v)).bind _ = _
  rw [hm, Option.bind_some]
  simp only [ha, putO, hr]
  rfl
theorem callO_of {n i : Nat} {m : MF} {z : MZ} {r : En} {L L' es : List D} {d : D} {as : List Sl} (hr : r[i]? = some (.o L)) (hz : z r = some ([], es)) (hn : 1 + es.length = n) (hm : m (.p L :: es.map .v) = some (.v d, as)) (ha : as[0]? = some (.p L')) : mCallX n m i z r = some (d, r.set i (.o L')) := by
  unfold mCallX mtOf
  rw [hr]
  show (z r).bind _ = _
  rw [hz, Option.bind_some]
  simp only [List.length_nil]
  rw [if_pos (by omega)]
  show (m (.p L :: es.map .v)).bind _ = _
  rw [hm, Option.bind_some]
  simp only [ha, putO, hr]
  rfl
theorem ycallX_of {n i : Nat} {m : List Sl → Option Str} {z : MZ} {r : En} {L es : List D} (hr : mtOf r i = some L) (hz : z r = some ([], es)) (hn : 1 + es.length = n) : yCallX n m i z r = m (.p L :: es.map .v) := by
  unfold yCallX
  rw [hr, Option.bind_some, hz, Option.bind_some, if_pos (by simp only [List.length_nil]; omega)]; rfl
theorem yw_none (S : List D) (d : D) (r : En) (e : mtOf r 0 = some (S ++ [d])) : yCallX 1 M_take_word_NoLine 0 (zP mNil) r = none := (ycallX_of (es := []) e rfl rfl).trans (word_none S d)
theorem yw_no (r : En) (e : mtOf r 0 = some []) : yCallX 1 M_take_word_NoLine 0 (zP mNil) r = some NL := (ycallX_of (es := []) e rfl rfl).trans word_no
theorem set_word {j : Nat} {r r2 : En} {S : List D} {d : D} (e : r[0]? = some (.p (S ++ [d]))) (e2 : setV j d (r.set 0 (.p S)) = some r2) : sSetX j (mCallX 1 F_take_word 0 (zP mNil)) r = some (.nx r2) := by
  have w0 : mCallX 1 F_take_word 0 (zP mNil) r = some (d, r.set 0 (.p S)) := callP_of (es := []) (as := [.p S]) e rfl rfl (word_eq S d) rfl
  unfold sSetX
  rw [w0, Option.bind_some]
  show (setV j d (r.set 0 (.p S))).map Fl.nx = _
  rw [e2]; rfl
theorem mkF_rt {n N : Nat} {s : MS} {as : List Sl} {d : D} {r' : En} (e : s (as ++ List.replicate (N - n) .un) = some (.rt d r')) : mkF n N s as = some (.v d, r'.take n) := by
  unfold mkF; rw [e]; rfl
theorem tname_eq {x : List Nat} (h : Wd x) (hn : nameB x = true) (S : List D) : F_take_name [.p (S ++ [.str x])] = some (.v (.str x), [.p S]) := by
  have s0 : sSetX 1 (mCallX 1 F_take_word 0 (zP mNil)) [.p (S ++ [.str x]), .un] = some (.nx [.p S, .v (.str x)]) := set_word (S := S) (d := .str x) rfl rfl
  have n0 : mCall 1 F_is_name (mCons (mVar 1) mNil) [.p S, .v (.str x)] = some (.bl true) := by rw [← hn]; exact isname_call h rfl
  have e : g_take_name [.p (S ++ [.str x]), .un] = some (.rt (.str x) [.p S, .v (.str x)]) := by
    unfold g_take_name
    exact (seq_of s0).trans (seq_ff (nott n0) (ret_of rfl))
  exact mkF_rt (n := 1) (N := 2) (as := [.p (S ++ [.str x])]) e
theorem tname_none {x : List Nat} (h : Wd x) (hn : nameB x = true) (S : List D) : M_take_name_NoLine [.p (S ++ [.str x])] = none := by
  have s0 : sSetX 1 (mCallX 1 F_take_word 0 (zP mNil)) [.p (S ++ [.str x]), .un] = some (.nx [.p S, .v (.str x)]) := set_word (S := S) (d := .str x) rfl rfl
  have n0 : mCall 1 F_is_name (mCons (mVar 1) mNil) [.p S, .v (.str x)] = some (.bl true) := by rw [← hn]; exact isname_call h rfl
  show x_take_name_NoLine [.p (S ++ [.str x]), .un] = _
  unfold x_take_name_NoLine
  exact (xor_r (yw_none S _ _ rfl)).trans ((xthen s0).trans ((xif_f (nott n0)).trans rfl))
theorem tname_no {x : List Nat} (h : Wd x) (hn : nameB x = false) (S : List D) : M_take_name_NoLine [.p (S ++ [.str x])] = some NL := by
  have s0 : sSetX 1 (mCallX 1 F_take_word 0 (zP mNil)) [.p (S ++ [.str x]), .un] = some (.nx [.p S, .v (.str x)]) := set_word (S := S) (d := .str x) rfl rfl
  have n0 : mCall 1 F_is_name (mCons (mVar 1) mNil) [.p S, .v (.str x)] = some (.bl false) := by rw [← hn]; exact isname_call h rfl
  show x_take_name_NoLine [.p (S ++ [.str x]), .un] = _
  unfold x_take_name_NoLine
  exact (xor_r (yw_none S _ _ rfl)).trans ((xthen s0).trans ((xif_t (nott n0)).trans (raise_of (fstr_ok h rfl (by decide)))))
theorem tname_end : M_take_name_NoLine [.p []] = some NL := by
  show x_take_name_NoLine [.p [], .un] = _
  unfold x_take_name_NoLine
  exact xor_l (yw_no _ rfl)
noncomputable abbrev Ws := List (List Nat)
noncomputable def tks (f : Ws → Option (D × Ws)) : List Nat → Ws → Option (List D × Ws)
  | [], W => some ([], W)
  | c :: sh, W => if c = 110 then (match W with
      | [] => none
      | x :: W' => if nameB x = true then (tks f sh W').map fun p => (.str x :: p.1, p.2) else none)
    else (f W).bind fun p => (tks f sh p.2).map fun q => (p.1 :: q.1, q.2)
noncomputable def tk : Nat → Ws → Option (D × Ws)
  | 0, _ => none
  | _ + 1, [] => none
  | k + 1, w :: W => match look C_FORMS w with
    | none => (leafD w).map fun d => (d, W)
    | some sh => (tks (tk k) sh W).map fun p => (.tup (.str w :: p.1), p.2)
mutual
inductive Tr : Bool → Nat → Ws → Prop
  | nam {w : List Nat} : look C_FORMS w = none → nameB w = true → Tr true 0 [w]
  | num {w : List Nat} : look C_FORMS w = none → nameB w = false → numB w = true → Tr false 0 [w]
  | nd {w : List Nat} {sh : List Nat} {dp : Nat} {W : Ws} : look C_FORMS w = some sh → Trs sh dp W → dp ≤ 30 → Tr false dp (w :: W)
inductive Trs : List Nat → Nat → Ws → Prop
  | nil : Trs [] 0 []
  | n {x : List Nat} {sh : List Nat} {dp : Nat} {W : Ws} : look C_FORMS x = none → nameB x = true → Trs sh dp W → Trs (110 :: sh) dp (x :: W)
  | e {b : Bool} {d : Nat} {V : Ws} {sh : List Nat} {dp : Nat} {W : Ws} : Tr b d V → Trs sh dp W → Trs (69 :: sh) (max (d + 1) dp) (V ++ W)
end
theorem Tr.le : ∀ {b : Bool} {d : Nat} {V : Ws}, Tr b d V → d ≤ 30
  | _, _, _, .nam _ _ => Nat.zero_le _
  | _, _, _, .num _ _ _ => Nat.zero_le _
  | _, _, _, .nd _ _ h => h
theorem look_mem {tbl : List (List Nat × List Nat)} {w v : List Nat} (h : look tbl w = some v) : (w, v) ∈ tbl := by
  unfold look at h
  obtain ⟨q, e, rfl⟩ := Option.map_eq_some_iff.mp h
  have m := List.mem_of_find?_eq_some e
  have p := List.find?_some e
  have : q.1 = w := by simpa using p
  rw [← this]; exact m
theorem look_none {tbl : List (List Nat × List Nat)} {s : List Nat} (h : ∀ q ∈ tbl, q.1 ≠ s) : look tbl s = none := by
  unfold look
  rw [List.find?_eq_none.mpr fun q hq => by simpa using h q hq]; rfl
theorem forms_keys : ∀ q ∈ C_FORMS, (q.1 ∈ kept ∨ ∃ c ∈ q.1, c < 97) ∧ ∀ c ∈ q.2, c = 110 ∨ c = 69 := by decide
theorem look_nam {x : List Nat} (h : nameB x = true) : look C_FORMS x = none := look_none fun q hq z => by
  unfold nameB at h
  simp only [Bool.and_eq_true, List.all_eq_true, Bool.not_eq_true', decide_eq_false_iff_not] at h
  rcases (forms_keys q hq).1 with k | ⟨c, hc, lt⟩
  · exact h.2.2 (z ▸ k)
  · have := h.2.1 c (z ▸ hc)
    unfold btw at this
    simp only [Bool.and_eq_true, decide_eq_true_eq] at this
    omega
theorem look_sh {w sh : List Nat} (h : look C_FORMS w = some sh) : ∀ c ∈ sh, c = 110 ∨ c = 69 := (forms_keys _ (look_mem h)).2
theorem leaf_some {w : List Nat} {d : D} (h : look C_FORMS w = none) (e : leafD w = some d) : ∃ b, Tr b 0 [w] := by
  unfold leafD at e
  split at e
  · rename_i hn; exact ⟨true, .nam h hn⟩
  · rename_i hn
    split at e
    · rename_i hm; exact ⟨false, .num h (Bool.eq_false_iff.mpr hn) hm⟩
    · cases e
theorem tks_sound {k : Nat} (ih : ∀ W d W', tk k W = some (d, W') → ∃ b dp V, W = V ++ W' ∧ Tr b dp V ∧ dp < k) : ∀ (sh : List Nat) (W : Ws) (l : List D) (W' : Ws), (∀ c ∈ sh, c = 110 ∨ c = 69) → tks (tk k) sh W = some (l, W') → ∃ dp V, W = V ++ W' ∧ Trs sh dp V ∧ dp ≤ k
  | [], W, l, W', _, e => by
    unfold tks at e
    cases e
    exact ⟨0, [], rfl, .nil, Nat.zero_le _⟩
  | c :: sh, W, l, W', hc, e => by
    unfold tks at e
    have hc' : ∀ c ∈ sh, c = 110 ∨ c = 69 := fun q hq => hc q (by simp [hq])
    split at e
    · rename_i h110
      subst h110
      cases W with
      | nil => cases e
      | cons x W =>
        simp only at e
        split at e
        · rename_i hn
          obtain ⟨⟨l2, W2⟩, e1, e2⟩ := map_some e
          cases e2
          obtain ⟨dp, V, rfl, t, hd⟩ := tks_sound ih sh W l2 W2 hc' e1
          exact ⟨dp, x :: V, rfl, .n (look_nam hn) hn t, hd⟩
        · cases e
    · rename_i hn
      have c69 : c = 69 := (hc c (by simp)).resolve_left hn
      subst c69
      obtain ⟨⟨d, W1⟩, e1, e2⟩ := bind_some e
      obtain ⟨⟨l2, W2⟩, e3, e4⟩ := map_some e2
      cases e4
      obtain ⟨b, d1, V, rfl, t, hd⟩ := ih _ _ _ e1
      obtain ⟨dp, V2, z, t2, hd2⟩ := tks_sound ih sh W1 l2 W2 hc' e3
      subst z
      exact ⟨max (d1 + 1) dp, V ++ V2, by simp, .e t t2, by omega⟩
theorem tk_sound : ∀ (k : Nat), k ≤ 31 → ∀ W d W', tk k W = some (d, W') → ∃ b dp V, W = V ++ W' ∧ Tr b dp V ∧ dp < k
  | 0, _, W, d, W', e => by cases e
  | k + 1, hk, [], d, W', e => by cases e
  | k + 1, hk, w :: W, d, W', e => by
    unfold tk at e
    split at e
    · rename_i hl
      obtain ⟨d', e1, e2⟩ := map_some e
      cases e2
      obtain ⟨b, t⟩ := leaf_some hl e1
      exact ⟨b, 0, [w], rfl, t, by omega⟩
    · rename_i sh hl
      obtain ⟨⟨l, W2⟩, e1, e2⟩ := map_some e
      cases e2
      obtain ⟨dp, V, rfl, t, hd⟩ := tks_sound (tk_sound k (by omega)) sh W l W2 (look_sh hl) e1
      exact ⟨false, dp, w :: V, rfl, .nd hl t (by omega), by omega⟩
mutual
theorem tk_full : ∀ {b : Bool} {dp : Nat} {V : Ws}, Tr b dp V → ∀ (k : Nat), dp < k → ∀ W', ∃ d, tk k (V ++ W') = some (d, W')
  | _, _, _, .nam (w := w) hl hn, k + 1, _, W' => by
    refine ⟨.tup [.str sNam, .str w], ?_⟩
    show tk (k + 1) (w :: W') = _
    unfold tk
    rw [hl]
    simp only [leafD, hn, if_true, Option.map_some]
  | _, _, _, .num (w := w) hl hn hm, k + 1, _, W' => by
    refine ⟨.tup [.str sNum, .int (PySem.NumText.digitsVal w : Nat)], ?_⟩
    show tk (k + 1) (w :: W') = _
    unfold tk
    rw [hl]
    simp only [leafD, hn, hm, if_true, Bool.false_eq_true, if_false, Option.map_some]
  | _, _, _, .nd (w := w) (sh := sh) (W := W) hl t _, k + 1, hk, W' => by
    obtain ⟨l, e⟩ := tks_full t k (by omega) W'
    refine ⟨.tup (.str w :: l), ?_⟩
    show tk (k + 1) (w :: (W ++ W')) = _
    unfold tk
    rw [hl]
    simp only [e, Option.map_some]
theorem tks_full : ∀ {sh : List Nat} {dp : Nat} {V : Ws}, Trs sh dp V → ∀ (k : Nat), dp ≤ k → ∀ W', ∃ l, tks (tk k) sh (V ++ W') = some (l, W')
  | _, _, _, .nil, k, _, W' => ⟨[], rfl⟩
  | _, _, _, .n (x := x) (sh := sh) (W := W) hl hn t, k, hk, W' => by
    obtain ⟨l, e⟩ := tks_full t k hk W'
    refine ⟨.str x :: l, ?_⟩
    show tks (tk k) (110 :: sh) (x :: (W ++ W')) = _
    unfold tks
    simp only [if_true, hn, e, Option.map_some]
  | _, _, _, .e (V := V) (sh := sh) (W := W) t t2, k, hk, W' => by
    obtain ⟨d, e1⟩ := tk_full t k (by omega) (W ++ W')
    obtain ⟨l, e2⟩ := tks_full t2 k (by omega) W'
    refine ⟨d :: l, ?_⟩
    rw [List.append_assoc]
    unfold tks
    rw [if_neg (by decide), e1, Option.bind_some]
    simp only [e2, Option.map_some]
end
noncomputable abbrev It := Bool × Nat
noncomputable def low (sh : List Nat) : List Nat := sh.map fun c => if c = 69 then 101 else c
noncomputable def popS : List Nat → List It → Nat → Option (Nat × List It)
  | [], st, dp => some (dp, st)
  | _ :: _, [], _ => none
  | c :: sh, (b, lo) :: st, dp => if c = 110 ∧ b = false then none else popS sh st (if c = 101 then max dp (lo + 1) else dp)
noncomputable def bk1 (w : List Nat) (st : List It) : Option (List It) := match look C_FORMS w with
  | some sh => (popS (low sh) st 0).bind fun p => if p.1 > 30 then none else some ((false, p.1) :: p.2)
  | none => if nameB w = true then some ((true, 0) :: st) else if numB w = true then some ((false, 0) :: st) else none
noncomputable def bk : Ws → List It → Option (List It)
  | [], st => some st
  | w :: ws, st => (bk1 w st).bind (bk ws)
theorem bk_app : ∀ (a b : Ws) (st : List It), bk (a ++ b) st = (bk a st).bind (bk b)
  | [], b, st => rfl
  | w :: a, b, st => by
    show (bk1 w st).bind (bk (a ++ b)) = ((bk1 w st).bind (bk a)).bind (bk b)
    cases bk1 w st with
    | none => rfl
    | some s => exact bk_app a b s
mutual
theorem bk_full : ∀ {b : Bool} {dp : Nat} {V : Ws}, Tr b dp V → ∀ st, bk V.reverse st = some ((b, dp) :: st)
  | _, _, _, .nam (w := w) hl hn, st => by
    show (bk1 w st).bind (bk []) = _
    unfold bk1
    rw [hl]
    simp only [hn, if_true, Option.bind_some]; rfl
  | _, _, _, .num (w := w) hl hn hm, st => by
    show (bk1 w st).bind (bk []) = _
    unfold bk1
    rw [hl]
    simp only [hn, hm, if_true, Bool.false_eq_true, if_false, Option.bind_some]; rfl
  | _, _, _, .nd (w := w) (sh := sh) (dp := dp) (W := W) hl t h30, st => by
    obtain ⟨its, h1, h2⟩ := bks_full t
    rw [List.reverse_cons, bk_app, h1, Option.bind_some]
    show (bk1 w (its ++ st)).bind (bk []) = _
    unfold bk1
    rw [hl]
    simp only [h2, Option.bind_some, Nat.zero_max]
    rw [if_neg (by omega)]; rfl
theorem bks_full : ∀ {sh : List Nat} {dp : Nat} {V : Ws}, Trs sh dp V → ∃ its : List It, (∀ st, bk V.reverse st = some (its ++ st)) ∧ ∀ st acc, popS (low sh) (its ++ st) acc = some (max acc dp, st)
  | _, _, _, .nil => ⟨[], fun st => rfl, fun st acc => by simp [low, popS]⟩
  | _, _, _, .n (x := x) (sh := sh) (dp := dp) (W := W) hl hn t => by
    obtain ⟨its, h1, h2⟩ := bks_full t
    refine ⟨(true, 0) :: its, fun st => ?_, fun st acc => ?_⟩
    · rw [List.reverse_cons, bk_app, h1, Option.bind_some]
      show (bk1 x (its ++ st)).bind (bk []) = _
      unfold bk1
      rw [hl]
      simp only [hn, if_true, Option.bind_some]; rfl
    · show popS (110 :: low sh) ((true, 0) :: (its ++ st)) acc = _
      unfold popS
      rw [if_neg (by simp), if_neg (by decide)]
      exact h2 st acc
  | _, _, _, .e (b := b) (d := d) (V := V) (sh := sh) (dp := dp) (W := W) t t2 => by
    obtain ⟨its, h1, h2⟩ := bks_full t2
    refine ⟨(b, d) :: its, fun st => ?_, fun st acc => ?_⟩
    · rw [List.reverse_append, bk_app, h1, Option.bind_some]
      exact bk_full t _
    · show popS (101 :: low sh) ((b, d) :: (its ++ st)) acc = _
      unfold popS
      rw [if_neg (by simp), if_pos rfl, h2]
      congr 2
      first | exact Nat.max_assoc .. | exact (Nat.max_assoc ..).symm | omega
end
inductive Stk : List It → Ws → Prop
  | nil : Stk [] []
  | cons {b : Bool} {d : Nat} {V : Ws} {st : List It} {W : Ws} : Tr b d V → Stk st W → Stk ((b, d) :: st) (V ++ W)
theorem pop_sound : ∀ (sh : List Nat) (st : List It) (acc : Nat) (W : Ws) (p : Nat × List It), (∀ c ∈ sh, c = 110 ∨ c = 69) → Stk st W → popS (low sh) st acc = some p → ∃ V W' dp, W = V ++ W' ∧ Trs sh dp V ∧ p.1 = max acc dp ∧ Stk p.2 W'
  | [], st, acc, W, p, _, hs, e => by
    have e' : some (acc, st) = some p := e
    cases e'
    exact ⟨[], W, 0, rfl, .nil, by simp, hs⟩
  | c :: sh, [], acc, W, p, _, hs, e => by cases e
  | c :: sh, (b, lo) :: st, acc, W, p, hc, hs, e => by
    have hc' : ∀ c ∈ sh, c = 110 ∨ c = 69 := fun q hq => hc q (by simp [hq])
    cases hs with
    | cons t hs' =>
      rename_i V W'
      rcases hc c (by simp) with rfl | rfl
      · have e2 : popS (110 :: low sh) ((b, lo) :: st) acc = some p := e
        unfold popS at e2
        split at e2
        · cases e2
        · rename_i hn
          rw [if_neg (by decide)] at e2
          have hb : b = true := by
            cases b
            · exact absurd ⟨rfl, rfl⟩ hn
            · rfl
          subst hb
          cases t with
          | nam hl hnm =>
            rename_i w
            obtain ⟨V2, W2, dp, rfl, t2, hd, h2⟩ := pop_sound sh st acc W' p hc' hs' e2
            exact ⟨w :: V2, W2, dp, rfl, .n hl hnm t2, hd, h2⟩
      · have e2 : popS (101 :: low sh) ((b, lo) :: st) acc = some p := e
        unfold popS at e2
        rw [if_neg (by simp), if_pos rfl] at e2
        obtain ⟨V2, W2, dp, rfl, t2, hd, h2⟩ := pop_sound sh st _ W' p hc' hs' e2
        exact ⟨V ++ V2, W2, max (lo + 1) dp, by simp, .e t t2, by rw [hd]; first | exact Nat.max_assoc .. | exact (Nat.max_assoc ..).symm | omega, h2⟩
theorem bk_sound : ∀ (ws : Ws) (st st' : List It) (W : Ws), Stk st W → bk ws st = some st' → Stk st' (ws.reverse ++ W)
  | [], st, st', W, hs, e => by cases e; exact hs
  | w :: ws, st, st', W, hs, e => by
    obtain ⟨s1, e1, e2⟩ := bind_some e
    rw [List.reverse_cons, List.append_assoc]
    refine bk_sound ws s1 st' (w :: W) ?_ e2
    unfold bk1 at e1
    split at e1
    · rename_i sh hl
      obtain ⟨⟨dp, s2⟩, e3, e4⟩ := bind_some e1
      simp only at e4
      split at e4
      · cases e4
      · rename_i h30
        cases e4
        obtain ⟨V, W', d, rfl, t, hd, h2⟩ := pop_sound sh st 0 W _ (look_sh hl) hs e3
        simp only [Nat.zero_max] at hd
        subst hd
        exact .cons (V := w :: V) (.nd hl t (by omega)) h2
    · rename_i hl
      split at e1
      · rename_i hn; cases e1; exact .cons (V := [w]) (.nam hl hn) hs
      · rename_i hn
        split at e1
        · rename_i hm; cases e1; exact .cons (V := [w]) (.num hl (Bool.eq_false_iff.mpr hn) hm) hs
        · cases e1
theorem same (W : Ws) : (∃ d, tk 31 W = some (d, [])) ↔ ∃ x, bk W.reverse [] = some [x] := by
  constructor
  · rintro ⟨d, e⟩
    obtain ⟨b, dp, V, rfl, t, _⟩ := tk_sound 31 (Nat.le_refl _) W d [] e
    rw [List.append_nil]
    exact ⟨_, bk_full t []⟩
  · rintro ⟨⟨b, d⟩, e⟩
    have := bk_sound W.reverse [] _ [] .nil e
    rw [List.reverse_reverse, List.append_nil] at this
    cases this with
    | cons t hs =>
      cases hs
      obtain ⟨d', e'⟩ := tk_full t 31 (by have := t.le; omega) []
      exact ⟨d', by simpa using e'⟩
theorem appX_of {i : Nat} {f : En → Option (D × En)} {r r1 : En} {S S0 : List D} {d : D} (e0 : r[i]? = some (.o S0)) (e : f r = some (d, r1)) (e1 : r1[i]? = some (.o S)) (h : S.length < sizeLine) : mAppX i f r = some (.non, r1.set i (.o (S ++ [d]))) := by
  simp [mAppX, mtOf, e0, e, e1, Sl.mt, putO, h]
theorem yfor_hit {bd : D → En → Option En} {g : MS} {x : MX} {d : D} {l : List D} {r r1 : En} {n : Str} (h : bd d r = some r1) (e : x r1 = some n) : yForL bd g x (d :: l) r = some n := by
  unfold yForL; rw [h, Option.bind_some, e]
theorem yfor_go {bd : D → En → Option En} {g : MS} {x : MX} {d : D} {l : List D} {r r1 r' : En} (h : bd d r = some r1) (e : x r1 = none) (e2 : g r1 = some (.nx r')) : yForL bd g x (d :: l) r = yForL bd g x l r' := by
  conv => lhs; unfold yForL
  rw [h, Option.bind_some, e]
  simp only [e2, Option.bind_some]
theorem yown_of {i : Nat} {x : MX} {r : En} {l : List D} (e : mtOf r i = some l) : yOwn i x r = x r := by unfold yOwn; rw [e]; rfl
noncomputable def bodyT (m : MF) : MS := (sIf (mBl (mBin eqA (mVar 4) (mC (.str [110]))))
 (sX (mAppX 3 (mCallX 1 F_take_name 0 (zP mNil))))
 (sX (mAppX 3 (mCallX 2 m 0 (zP (mCons (mBin addD (mVar 1) (mC (.int 1))) mNil))))))
noncomputable def bodyX (mx : List Sl → Option Str) : MX := (xIf (mBl (mBin eqA (mVar 4) (mC (.str [110]))))
 (yOwn 3 (yCallX 1 M_take_name_NoLine 0 (zP mNil)))
 (yOwn 3 (yCallX 2 mx 0 (zP (mCons (mBin addD (mVar 1) (mC (.int 1))) mNil)))))
structure WOk (W : Ws) : Prop where
  wd : ∀ w ∈ W, Wd w
  len : W.length ≤ 100000
theorem WOk.tail {V W : Ws} (h : WOk (V ++ W)) : WOk W := ⟨fun w hw => h.wd w (by simp [hw]), by have := h.len; rw [List.length_append] at this; omega⟩
noncomputable def TkOk (m : MF) (mx : List Sl → Option Str) (k : Nat) : Prop := ∀ (b : Nat) (W : Ws), b + k = 31 → WOk W →
  (∀ d W', tk k W = some (d, W') → m [.p (wt W), .v (.int b)] = some (.v d, [.p (wt W'), .v (.int b)]) ∧ mx [.p (wt W), .v (.int b)] = none) ∧ (tk k W = none → mx [.p (wt W), .v (.int b)] = some NL)
noncomputable def sg (l : List Nat) : List D := l.map fun c => .str [c]
variable {m : MF} {mx : List Sl → Option Str} {k b : Nat} {w : D}
theorem c4 {S T : List D} {c : Nat} : mBl (mBin eqA (mVar 4) (mC (.str [110]))) [.p S, .v (.int b), .v w, .o T, .v (.str [c])] = some (decide (c = 110)) := by
  refine (bl_of (bin_of (x := .str [c]) (y := .str [110]) rfl con_of rfl)).trans ?_
  congr 1
  rw [decide_eq_decide]; simp
theorem z1_of {S T : List D} {x : Sl} : (zP (mCons (mBin addD (mVar 1) (mC (.int 1))) mNil)) [.p S, .v (.int b), .v w, .o T, x] = some ([], [.int ((b + 1 : Nat) : Int)]) := rfl
theorem ncall {S : List D} {d : D} {r : En} (q : F_take_name [.p (S ++ [d])] = some (.v d, [.p S])) (e : r[0]? = some (.p (S ++ [d]))) : mCallX 1 F_take_name 0 (zP mNil) r = some (d, r.set 0 (.p S)) :=
  callP_of (L := S ++ [d]) (es := []) (as := [.p S]) e rfl rfl q rfl
theorem bodyT_n {x : List Nat} {W : Ws} {T : List D} (h : Wd x) (hn : nameB x = true) (hT : T.length ≤ 1000) : bodyT m [.p (wt (x :: W)), .v (.int b), .v w, .o T, .v (.str [110])] = some (.nx [.p (wt W), .v (.int b), .v w, .o (T ++ [.str x]), .v (.str [110])]) := by
  rw [wt_cons]
  have q := tname_eq h hn (wt W)
  have c := ncall (S := wt W) (d := .str x) (r := [.p (wt W ++ [.str x]), .v (.int b), .v w, .o T, .v (.str [110])]) q rfl
  unfold bodyT
  rw [sIf_t (c4.trans rfl)]
  exact sX_of (appX_of rfl c rfl (Nat.lt_of_le_of_lt hT (by decide)))
theorem bodyX_n {x : List Nat} {W : Ws} {T : List D} (h : Wd x) : bodyX mx [.p (wt (x :: W)), .v (.int b), .v w, .o T, .v (.str [110])] = if nameB x = true then none else some NL := by
  rw [wt_cons]
  unfold bodyX
  refine (xif_t (c4.trans rfl)).trans ((yown_of rfl).trans ((ycallX_of (L := wt W ++ [.str x]) (es := []) rfl rfl rfl).trans ?_))
  cases hn : nameB x with
  | true => rw [if_pos rfl]; exact tname_none h hn _
  | false => rw [if_neg Bool.false_ne_true]; exact tname_no h hn _
theorem bodyX_n0 {T : List D} : bodyX mx [.p (wt []), .v (.int b), .v w, .o T, .v (.str [110])] = some NL := by
  unfold bodyX
  exact (xif_t (c4.trans rfl)).trans ((yown_of rfl).trans ((ycallX_of (L := []) (es := []) rfl rfl rfl).trans tname_end))
theorem bodyT_e {W W' : Ws} {T : List D} {d : D} (hm : m [.p (wt W), .v (.int ((b + 1 : Nat) : Int))] = some (.v d, [.p (wt W'), .v (.int ((b + 1 : Nat) : Int))])) (hT : T.length ≤ 1000) : bodyT m [.p (wt W), .v (.int b), .v w, .o T, .v (.str [69])] = some (.nx [.p (wt W'), .v (.int b), .v w, .o (T ++ [d]), .v (.str [69])]) := by
  have c : mCallX 2 m 0 (zP (mCons (mBin addD (mVar 1) (mC (.int 1))) mNil)) [.p (wt W), .v (.int b), .v w, .o T, .v (.str [69])] = some (d, [.p (wt W'), .v (.int b), .v w, .o T, .v (.str [69])]) := callP_of (L := wt W) (L' := wt W') (es := [.int ((b + 1 : Nat) : Int)]) (as := [.p (wt W'), .v (.int ((b + 1 : Nat) : Int))]) rfl z1_of rfl hm rfl
  unfold bodyT
  rw [sIf_f (c4.trans rfl)]
  exact sX_of (appX_of rfl c rfl (Nat.lt_of_le_of_lt hT (by decide)))
theorem bodyX_e {W : Ws} {T : List D} {o : Option Str} (hm : mx [.p (wt W), .v (.int ((b + 1 : Nat) : Int))] = o) : bodyX mx [.p (wt W), .v (.int b), .v w, .o T, .v (.str [69])] = o := by
  unfold bodyX
  exact (xif_f (c4.trans rfl)).trans ((yown_of rfl).trans ((ycallX_of (L := wt W) (es := [.int ((b + 1 : Nat) : Int)]) rfl z1_of rfl).trans hm))
theorem tks_ok (hm : TkOk m mx k) (hk : k ≤ 31) (hb : b + 1 + k = 31) : ∀ (sh : List Nat) (W : Ws) (T : List D) (x : Sl), (∀ c ∈ sh, c = 110 ∨ c = 69) → WOk W → T.length + sh.length ≤ 1000 → fre x →
    (∀ l W', tks (tk k) sh W = some (l, W') → ∃ x', fre x' ∧ forL (setV 4) (bodyT m) (sg sh) [.p (wt W), .v (.int b), .v w, .o T, x] = some (.nx [.p (wt W'), .v (.int b), .v w, .o (T ++ l), x']) ∧ yForL (setV 4) (bodyT m) (bodyX mx) (sg sh) [.p (wt W), .v (.int b), .v w, .o T, x] = none)
    ∧ (tks (tk k) sh W = none → yForL (setV 4) (bodyT m) (bodyX mx) (sg sh) [.p (wt W), .v (.int b), .v w, .o T, x] = some NL)
  | [], W, T, x, _, _, _, hx => by
    refine ⟨fun l W' e => ?_, fun e => by cases e⟩
    cases e
    exact ⟨x, hx, by rw [List.append_nil]; rfl, rfl⟩
  | c :: sh, W, T, x, hc, hW, hT, hx => by
    have hc' : ∀ c ∈ sh, c = 110 ∨ c = 69 := fun q hq => hc q (by simp [hq])
    have hT1 : T.length ≤ 1000 := by omega
    have hT2 : ∀ d : D, (T ++ [d]).length + sh.length ≤ 1000 := fun d => by rw [List.length_append, List.length_singleton]; rw [List.length_cons] at hT; omega
    have u : setV 4 (.str [c]) [.p (wt W), .v (.int b), .v w, .o T, x] = some [.p (wt W), .v (.int b), .v w, .o T, .v (.str [c])] := setV_fre (x := x) rfl hx
    have sgc : sg (c :: sh) = .str [c] :: sg sh := rfl
    rw [sgc]
    rcases hc c (by simp) with rfl | rfl
    · cases W with
      | nil =>
        refine ⟨fun l W' e => ?_, fun _ => yfor_hit u bodyX_n0⟩
        unfold tks at e
        rw [if_pos rfl] at e
        cases e
      | cons y W =>
        have hy : Wd y := hW.wd y (by simp)
        have hW1 : WOk W := WOk.tail (V := [y]) hW
        have bx := bodyX_n (mx := mx) (b := b) (w := w) (W := W) (T := T) hy
        have et : tks (tk k) (110 :: sh) (y :: W) = if nameB y = true then (tks (tk k) sh W).map fun p => (.str y :: p.1, p.2) else none := by
          conv => lhs; unfold tks
          rw [if_pos rfl]
        cases hn : nameB y with
        | false =>
          rw [hn, if_neg Bool.false_ne_true] at bx et
          exact ⟨fun l W' e => (by rw [et] at e; cases e), fun _ => yfor_hit u bx⟩
        | true =>
          rw [hn, if_pos rfl] at bx et
          have bt := bodyT_n (m := m) (b := b) (w := w) (W := W) hy hn hT1
          obtain ⟨i1, i2⟩ := tks_ok hm hk hb sh W (T ++ [.str y]) (.v (.str [110])) hc' hW1 (hT2 _) trivial
          refine ⟨fun l W' e => ?_, fun e => ?_⟩
          · rw [et] at e
            obtain ⟨⟨l2, W2⟩, e1, e2⟩ := map_some e
            cases e2
            obtain ⟨x', h1, h2, h3⟩ := i1 l2 W2 e1
            refine ⟨x', h1, ?_, ?_⟩
            · rw [for_go u bt, h2, List.append_assoc]; rfl
            · rw [yfor_go u bx bt]; exact h3
          · rw [et] at e
            rw [yfor_go u bx bt]
            exact i2 (Option.map_eq_none_iff.mp e)
    · have et : tks (tk k) (69 :: sh) W = (tk k W).bind fun p => (tks (tk k) sh p.2).map fun q => (p.1 :: q.1, q.2) := by
        conv => lhs; unfold tks
        rw [if_neg (by decide)]
      obtain ⟨j1, j2⟩ := hm (b + 1) W hb hW
      cases ek : tk k W with
      | none =>
        rw [ek] at et
        exact ⟨fun l W' e => (by rw [et] at e; cases e), fun _ => yfor_hit u (bodyX_e (j2 ek))⟩
      | some p =>
        obtain ⟨d, W1⟩ := p
        rw [ek] at et
        obtain ⟨q1, q2⟩ := j1 d W1 ek
        obtain ⟨_, _, V, eV, _, _⟩ := tk_sound k hk W d W1 ek
        have hW1 : WOk W1 := WOk.tail (V := V) (eV ▸ hW)
        have bx := bodyX_e (w := w) (T := T) q2
        have bt := bodyT_e (w := w) q1 hT1
        obtain ⟨i1, i2⟩ := tks_ok hm hk hb sh W1 (T ++ [d]) (.v (.str [69])) hc' hW1 (hT2 _) trivial
        refine ⟨fun l W' e => ?_, fun e => ?_⟩
        · rw [et] at e
          obtain ⟨⟨l2, W2⟩, e1, e2⟩ := map_some e
          cases e2
          obtain ⟨x', h1, h2, h3⟩ := i1 l2 W2 e1
          refine ⟨x', h1, ?_, ?_⟩
          · rw [for_go u bt, h2, List.append_assoc]; rfl
          · rw [yfor_go u bx bt]; exact h3
        · rw [et] at e
          rw [yfor_go u bx bt]
          exact i2 (Option.map_eq_none_iff.mp e)
theorem gt30 {S : List D} {b : Nat} {x y z : Sl} : mBl (mBin gtD (mVar 1) (mC (.int 30))) [.p S, .v (.int b), x, y, z] = some (decide (30 < b)) := by
  refine (gt_of (i := (b : Int)) (j := 30) rfl con_of).trans ?_
  congr 1
  rw [decide_eq_decide]; omega
theorem has2 {S : List D} {b : Nat} {w : List Nat} {y z : Sl} : mBl (mUn (hasT C_FORMS true) (mVar 2)) [.p S, .v (.int b), .v (.str w), y, z] = some (!(look C_FORMS w).isSome) := rfl
theorem skip30 {S : List D} {b : Nat} {x y z : Sl} (hb : b ≤ 30) : sIf (mBl (mBin gtD (mVar 1) (mC (.int 30)))) sNever sSkip [.p S, .v (.int b), x, y, z] = some (.nx [.p S, .v (.int b), x, y, z]) := by
  rw [sIf_f (gt30.trans (by rw [decide_eq_false (by omega)]))]; rfl
theorem w_set {S : List D} {b : Nat} {w : List Nat} : sSetX 2 (mCallX 1 F_take_word 0 (zP mNil)) [.p (S ++ [.str w]), .v (.int b), .un, .un, .un] = some (.nx [.p S, .v (.int b), .v (.str w), .un, .un]) := set_word (S := S) (d := .str w) rfl rfl
theorem it2 {S : List D} {b : Nat} {w sh : List Nat} {y z : Sl} (h : look C_FORMS w = some sh) : mItS (mUn (atT C_FORMS) (mVar 2)) [.p S, .v (.int b), .v (.str w), y, z] = some (sg sh) := by
  show ((look C_FORMS w).map D.str).bind signsD = _
  rw [h]; rfl
theorem own3 {S : List D} {b : Nat} {w : List Nat} : sOwn 3 (mLstF (mCons (mVar 2) mNil)) [.p S, .v (.int b), .v (.str w), .un, .un] = some (.nx [.p S, .v (.int b), .v (.str w), .o [.str w], .un]) := rfl
theorem leaf2 {S : List D} {b : Nat} {w : List Nat} {d : D} (h : ∃ as, F_read_leaf [.v (.str w)] = some (.v d, as)) : mCall 1 F_read_leaf (mCons (mVar 2) mNil) [.p S, .v (.int b), .v (.str w), .un, .un] = some d := call_of (p := .v d) (cons_of rfl nil_of) rfl h
theorem yleaf2 {S : List D} {b : Nat} {w : List Nat} {o : Option Str} (h : M_read_leaf_NoLine [.v (.str w)] = o) : yCall 1 M_read_leaf_NoLine (mCons (mVar 2) mNil) [.p S, .v (.int b), .v (.str w), .un, .un] = o := (ycall_of (l := [.str w]) (cons_of rfl nil_of) rfl).trans h
theorem sh_len : ∀ q ∈ C_FORMS, q.2.length ≤ 10 := by decide
theorem tk_ok : ∀ k, k ≤ 31 → TkOk (F_take_expression (k + 9)) (M_take_expression_NoLine (k + 9)) k
  | 0, _ => fun b W hb hW => by
    refine ⟨fun d W' e => (by cases e), fun _ => ?_⟩
    show x_take_expression_NoLine (F_take_expression 8) (M_take_expression_NoLine 8) [.p (wt W), .v (.int b), .un, .un, .un] = _
    unfold x_take_expression_NoLine
    exact xor_l ((xif_t (gt30.trans (by rw [decide_eq_true (by omega)]))).trans (raise_of ⟨_, rfl⟩))
  | k + 1, hk => fun b W hb hW => by
    have ih := tk_ok k (by omega)
    have hb30 : b ≤ 30 := by omega
    let m := F_take_expression (k + 9)
    let mx := M_take_expression_NoLine (k + 9)
    have eM : ∀ S, M_take_expression_NoLine (k + 1 + 9) [.p S, .v (.int b)] = x_take_expression_NoLine m mx [.p S, .v (.int b), .un, .un, .un] := fun S => rfl
    have x1 : ∀ (S : List D) (o : Option Str), (xOr (yCallX 1 M_take_word_NoLine 0 (zP mNil))
 (xThen (sSetX 2 (mCallX 1 F_take_word 0 (zP mNil)))
 (xOr (xIf (mBl (mUn (hasT C_FORMS true) (mVar 2)))
 (yCall 1 M_read_leaf_NoLine (mCons (mVar 2) mNil))
 xNone)
 (xThen (sIf (mBl (mUn (hasT C_FORMS true) (mVar 2)))
 (sRet (mCall 1 F_read_leaf (mCons (mVar 2) mNil)))
 sSkip)
 (xThen (sOwn 3 (mLstF (mCons (mVar 2) mNil)))
 (yFor (setV 4) (mItS (mUn (atT C_FORMS) (mVar 2))) (bodyT m) (bodyX mx))))))) [.p S, .v (.int b), .un, .un, .un] = o → M_take_expression_NoLine (k + 1 + 9) [.p S, .v (.int b)] = o := fun S o h => by
      rw [eM]
      unfold x_take_expression_NoLine
      refine (xor_r ((xif_f (gt30.trans (by rw [decide_eq_false (by omega)]))).trans rfl)).trans ((xthen (skip30 hb30)).trans ?_)
      exact h
    cases W with
    | nil => exact ⟨fun d W' e => (by cases e), fun _ => x1 _ _ (xor_l (yw_no _ rfl))⟩
    | cons w W =>
      have hw : Wd w := hW.wd w (by simp)
      have hW1 : WOk W := WOk.tail (V := [w]) hW
      rw [wt_cons]
      have x2 : ∀ (o : Option Str), (xOr (xIf (mBl (mUn (hasT C_FORMS true) (mVar 2)))
 (yCall 1 M_read_leaf_NoLine (mCons (mVar 2) mNil))
 xNone)
 (xThen (sIf (mBl (mUn (hasT C_FORMS true) (mVar 2)))
 (sRet (mCall 1 F_read_leaf (mCons (mVar 2) mNil)))
 sSkip)
 (xThen (sOwn 3 (mLstF (mCons (mVar 2) mNil)))
 (yFor (setV 4) (mItS (mUn (atT C_FORMS) (mVar 2))) (bodyT m) (bodyX mx))))) [.p (wt W), .v (.int b), .v (.str w), .un, .un] = o → M_take_expression_NoLine (k + 1 + 9) [.p (wt W ++ [.str w]), .v (.int b)] = o := fun o h =>
        x1 _ _ ((xor_r (yw_none _ _ _ rfl)).trans ((xthen w_set).trans h))
      have f1 : ∀ (d : D) (r' : En), (sSeq (sIf (mBl (mUn (hasT C_FORMS true) (mVar 2)))
 (sRet (mCall 1 F_read_leaf (mCons (mVar 2) mNil)))
 sSkip)
 (sSeq (sOwn 3 (mLstF (mCons (mVar 2) mNil)))
 (sSeq (sFor (setV 4) (mItS (mUn (atT C_FORMS) (mVar 2))) (bodyT m))
 (sRet (mTupOf (mOwn 3)))))) [.p (wt W), .v (.int b), .v (.str w), .un, .un] = some (.rt d r') → F_take_expression (k + 1 + 9) [.p (wt W ++ [.str w]), .v (.int b)] = some (.v d, r'.take 2) := fun d r' h => by
        refine mkF_rt (n := 2) (N := 5) (s := g_take_expression m) (as := [.p (wt W ++ [.str w]), .v (.int b)]) ?_
        show g_take_expression m [.p (wt W ++ [.str w]), .v (.int b), .un, .un, .un] = _
        unfold g_take_expression
        exact (seq_of (skip30 hb30)).trans ((seq_of w_set).trans h)
      cases hl : look C_FORMS w with
      | none =>
        have et : tk (k + 1) (w :: W) = (leafD w).map fun d => (d, W) := by
          conv => lhs; unfold tk
          rw [hl]
        have h2 : mBl (mUn (hasT C_FORMS true) (mVar 2)) [.p (wt W), .v (.int b), .v (.str w), .un, .un] = some true := has2.trans (by rw [hl]; rfl)
        refine ⟨fun d W' e => ?_, fun e => ?_⟩
        · rw [et] at e
          obtain ⟨d', e1, e2⟩ := map_some e
          cases e2
          obtain ⟨q1, q2⟩ := leaf_eq hw e1
          refine ⟨f1 d [.p (wt W), .v (.int b), .v (.str w), .un, .un] (seq_tt h2 (ret_of (leaf2 q1))), x2 _ ?_⟩
          refine (xor_r ((xif_t h2).trans (yleaf2 q2))).trans ?_
          exact xthen_rt (d := d) (r' := [.p (wt W), .v (.int b), .v (.str w), .un, .un]) (by rw [sIf_t h2]; exact ret_of (leaf2 q1))
        · rw [et] at e
          exact x2 _ (xor_l ((xif_t h2).trans (yleaf2 (leaf_no hw (Option.map_eq_none_iff.mp e)))))
      | some sh =>
        have et : tk (k + 1) (w :: W) = (tks (tk k) sh W).map fun p => (.tup (.str w :: p.1), p.2) := by
          conv => lhs; unfold tk
          rw [hl]
        have h2 : mBl (mUn (hasT C_FORMS true) (mVar 2)) [.p (wt W), .v (.int b), .v (.str w), .un, .un] = some false := has2.trans (by rw [hl]; rfl)
        have l10 : sh.length ≤ 10 := sh_len _ (look_mem hl)
        obtain ⟨i1, i2⟩ := tks_ok (b := b) (w := .str w) ih (by omega) (by omega) sh W [.str w] .un (look_sh hl) hW1 (by simp; omega) trivial
        have fi : ∀ z, forL (setV 4) (bodyT m) (sg sh) [.p (wt W), .v (.int b), .v (.str w), .o [.str w], .un] = z → sFor (setV 4) (mItS (mUn (atT C_FORMS) (mVar 2))) (bodyT m) [.p (wt W), .v (.int b), .v (.str w), .o [.str w], .un] = z := fun z h => by
          unfold sFor
          rw [it2 hl]; exact h
        have yi : ∀ z, yForL (setV 4) (bodyT m) (bodyX mx) (sg sh) [.p (wt W), .v (.int b), .v (.str w), .o [.str w], .un] = z → yFor (setV 4) (mItS (mUn (atT C_FORMS) (mVar 2))) (bodyT m) (bodyX mx) [.p (wt W), .v (.int b), .v (.str w), .o [.str w], .un] = z := fun z h => by
          unfold yFor
          rw [it2 hl]; exact h
        have x3 : ∀ (o : Option Str), yForL (setV 4) (bodyT m) (bodyX mx) (sg sh) [.p (wt W), .v (.int b), .v (.str w), .o [.str w], .un] = o → M_take_expression_NoLine (k + 1 + 9) [.p (wt W ++ [.str w]), .v (.int b)] = o := fun o h =>
          x2 _ ((xor_r ((xif_f h2).trans rfl)).trans ((xthen (r' := [.p (wt W), .v (.int b), .v (.str w), .un, .un]) (by rw [sIf_f h2]; rfl)).trans ((xthen own3).trans (yi _ h))))
        refine ⟨fun d W' e => ?_, fun e => ?_⟩
        · rw [et] at e
          obtain ⟨⟨l, W2⟩, e1, e2⟩ := map_some e
          cases e2
          obtain ⟨x', hx', q1, q2⟩ := i1 l W2 e1
          refine ⟨f1 _ [.p (wt W2), .v (.int b), .v (.str w), .o ([.str w] ++ l), x'] (seq_ff h2 ((seq_of own3).trans ((seq_of (fi _ q1)).trans (ret_of ?_)))), x3 _ q2⟩
          rfl
        · rw [et] at e
          exact x3 _ (i2 (Option.map_eq_none_iff.mp e))
theorem split_back (t : List Nat) : joinC [32] (splitS t [32]) = t := by
  let x : Str := ⟨t.toArray⟩
  let L := Txt.split x ⟨#[32]⟩
  have hL : splitS t [32] = L.map fun z => z.cps.toList := rfl
  rw [hL]
  have e := join_eq [32] (L.map fun z => z.cps.toList)
  rw [List.map_map] at e
  have e1 : (L.map ((fun s => (⟨s.toArray⟩ : Str)) ∘ fun z : Str => z.cps.toList)) = L := by
    conv => rhs; rw [← List.map_id L]
    exact List.map_congr_left fun z _ => rfl
  rw [e1] at e
  have e2 : Str.join (⟨[32].toArray⟩ : Str) L = x := StrLaws.join_split x ⟨#[32]⟩
  rw [e2] at e
  have e3 := congrArg (fun s : Str => s.cps.toList) e
  simpa [x] using e3.symm
theorem join_mem (c : Nat) : ∀ (L : Ws) (s : List Nat), s ∈ L → s.length ≤ (joinC [c] L).length ∧ ∀ q ∈ s, q ∈ joinC [c] L
  | [], s, h => by simp at h
  | [a], s, h => by
    have : s = a := by simpa using h
    subst this
    exact ⟨Nat.le_refl _, fun q hq => hq⟩
  | a :: b :: L, s, h => by
    have e : joinC [c] (a :: b :: L) = a ++ [c] ++ joinC [c] (b :: L) := rfl
    rw [e]
    rcases List.mem_cons.mp h with (rfl | h)
    · exact ⟨by simp only [List.length_append]; omega, fun q hq => by simp [hq]⟩
    · obtain ⟨h1, h2⟩ := join_mem c (b :: L) s h
      exact ⟨by simp only [List.length_append]; omega, fun q hq => by simp [h2 q hq]⟩
theorem join_many (c : Nat) : ∀ (L : Ws), L.length ≤ (joinC [c] L).length + 1
  | [] => by simp
  | [a] => by simp
  | a :: b :: L => by
    have e : joinC [c] (a :: b :: L) = a ++ [c] ++ joinC [c] (b :: L) := rfl
    have ih := join_many c (b :: L)
    rw [e]
    simp only [List.length_append, List.length_cons, List.length_nil] at ih ⊢
    omega
theorem split_ok {t : List Nat} (h : Tx 99999 t) : WOk (splitS t [32]) := by
  have e := split_back t
  have l := h.len
  refine ⟨fun w hw => ?_, ?_⟩
  · obtain ⟨h1, h2⟩ := join_mem 32 _ w hw
    rw [e] at h1 h2
    exact ⟨by omega, fun c hc => h.sm c (h2 c hc)⟩
  · have := join_many 32 (splitS t [32])
    rw [e] at this
    omega
theorem rd_s1 {t : List Nat} (h : Tx 99999 t) : sOwn 1 (mRevF (mSplit (mVar 0) (mC (.str [32])))) [.v (.str t), .un, .un] = some (.nx [.v (.str t), .o (wt (splitS t [32])), .un]) := by
  have q : mSplit (mVar 0) (mC (.str [32])) [.v (.str t), .un, .un] = some ((splitS t [32]).map D.str) := by
    show (if ([32] : List Nat).length ≠ 0 ∧ t.length < sizeLine then some ((splitS t [32]).map D.str) else none) = _
    rw [if_pos ⟨by decide, Nat.lt_of_le_of_lt h.len (by decide)⟩]
  have sp : mRevF (mSplit (mVar 0) (mC (.str [32]))) [.v (.str t), .un, .un] = some (wt (splitS t [32])) := by
    unfold mRevF
    rw [q]; rfl
  unfold sOwn
  rw [sp]; rfl
theorem z0_of {t : D} {S : List D} : (zP (mCons (mC (.int 0)) mNil)) [.v t, .o S, .un] = some ([], [.int ((0 : Nat) : Int)]) := rfl
theorem tk40 : F_take_expression RF = F_take_expression (31 + 9) := rfl
theorem mk40 : M_take_expression_NoLine RF = M_take_expression_NoLine (31 + 9) := rfl
theorem rd_s2 {t d : D} {W W' : Ws} (q : F_take_expression (31 + 9) [.p (wt W), .v (.int ((0 : Nat) : Int))] = some (.v d, [.p (wt W'), .v (.int ((0 : Nat) : Int))])) : sSetX 2 (mCallX 2 (F_take_expression RF) 1 (zP (mCons (mC (.int 0)) mNil))) [.v t, .o (wt W), .un] = some (.nx [.v t, .o (wt W'), .v d]) := by
  rw [tk40]
  have c : mCallX 2 (F_take_expression (31 + 9)) 1 (zP (mCons (mC (.int 0)) mNil)) [.v t, .o (wt W), .un] = some (d, [.v t, .o (wt W'), .un]) := callO_of (L := wt W) (L' := wt W') (es := [.int ((0 : Nat) : Int)]) (as := [.p (wt W'), .v (.int ((0 : Nat) : Int))]) rfl z0_of rfl q rfl
  unfold sSetX
  rw [c]; rfl
theorem rd_y {t : D} {W : Ws} {o : Option Str} (q : M_take_expression_NoLine (31 + 9) [.p (wt W), .v (.int ((0 : Nat) : Int))] = o) : yCallX 2 (M_take_expression_NoLine RF) 1 (zP (mCons (mC (.int 0)) mNil)) [.v t, .o (wt W), .un] = o := by
  rw [mk40]
  exact (ycallX_of (L := wt W) (es := [.int ((0 : Nat) : Int)]) rfl z0_of rfl).trans q
theorem read_yes {t : List Nat} (h : Tx 99999 t) {d : D} (e : tk 31 (splitS t [32]) = some (d, [])) : (∃ as, F_read_expression [.v (.str t)] = some (.v d, as)) ∧ M_read_expression_NoLine [.v (.str t)] = none := by
  obtain ⟨q1, q2⟩ := (tk_ok 31 (Nat.le_refl _) 0 _ rfl (split_ok h)).1 d [] e
  refine ⟨mk_rt (r' := [.v (.str t), .o [], .v d]) ?_, ?_⟩
  · show g_read_expression [.v (.str t), .un, .un] = _
    unfold g_read_expression
    exact (seq_of (rd_s1 h)).trans ((seq_of (rd_s2 q1)).trans (seq_ff rfl (ret_of rfl)))
  · show x_read_expression_NoLine [.v (.str t), .un, .un] = _
    unfold x_read_expression_NoLine
    exact (xthen (rd_s1 h)).trans ((xor_r (rd_y q2)).trans ((xthen (rd_s2 q1)).trans ((xif_f rfl).trans rfl)))
theorem read_no {t : List Nat} (h : Tx 99999 t) (e : ¬ ∃ d, tk 31 (splitS t [32]) = some (d, [])) : M_read_expression_NoLine [.v (.str t)] = some NL := by
  obtain ⟨i1, i2⟩ := tk_ok 31 (Nat.le_refl _) 0 _ rfl (split_ok h)
  show x_read_expression_NoLine [.v (.str t), .un, .un] = _
  unfold x_read_expression_NoLine
  refine (xthen (rd_s1 h)).trans ?_
  cases ek : tk 31 (splitS t [32]) with
  | none => exact xor_l (rd_y (i2 ek))
  | some p =>
    obtain ⟨d, W'⟩ := p
    obtain ⟨q1, q2⟩ := i1 d W' ek
    have hW : W' ≠ [] := fun z => e ⟨d, by rw [ek, z]⟩
    refine (xor_r (rd_y q2)).trans ((xthen (rd_s2 q1)).trans ((xif_t ?_).trans (raise_of ⟨_, rfl⟩)))
    show some (!(wt W').isEmpty) = _
    cases W' with
    | nil => exact absurd rfl hW
    | cons w W => rw [wt_cons]; simp
noncomputable def sRead : List Nat := [114, 101, 97, 100]
noncomputable def sRef : List Nat := [114, 101, 102, 117, 115, 101, 100]
noncomputable def goodB (W : Ws) : Bool := match bk W.reverse [] with
  | some l => decide (l.length = 1)
  | none => false
theorem good_iff (W : Ws) : goodB W = true ↔ ∃ d, tk 31 W = some (d, []) := by
  rw [same]
  unfold goodB
  constructor
  · intro h
    split at h
    · rename_i l e
      have hl : l.length = 1 := by simpa using h
      obtain ⟨x, rfl⟩ := List.length_eq_one_iff.mp hl
      exact ⟨x, e⟩
    · cases h
  · rintro ⟨x, e⟩
    rw [e]; rfl
theorem ror_r {p q : MR} {r : En} (e : p r = none) : rOr p q r = q r := by unfold rOr; rw [e]
theorem ror_l {p q : MR} {r : En} {d : D} (e : p r = some d) : rOr p q r = some d := by unfold rOr; rw [e]
theorem refused_eq {t : List Nat} (h : Tx 99999 t) : ∃ as, F__law_refused [.v (.str t)] = some (.v (.str (if goodB (splitS t [32]) = true then sRead else sRef)), as) := by
  have s1 : sSet 1 (mC .non) [.v (.str t), .un, .un] = some (.nx [.v (.str t), .v .non, .un]) := rfl
  have fin : ∀ d : D, r__law_refused [.v (.str t), .un, .un] = some d → ∃ as, F__law_refused [.v (.str t)] = some (.v d, as) := fun d hd => by
    refine ⟨[.v (.str t)], ?_⟩
    show (if ([Sl.v (.str t)]).all isV = true then (r__law_refused [.v (.str t), .un, .un]).map fun d => (Rs.v d, [Sl.v (.str t)]) else none) = _
    rw [if_pos (show ([Sl.v (.str t)]).all isV = true from rfl), hd]; rfl
  have tr : ∀ ρ : MR, mTry (mCons (mVar 0) mNil) 1 (fun ds => M_read_expression_NoLine (ds.map .v)) NL ρ [.v (.str t), .v .non, .un] = if M_read_expression_NoLine [.v (.str t)] = some NL then ρ [.v (.str t), .v .non, .un] else none := fun ρ => by
    unfold mTry
    rw [cons_of (x := .str t) (l := []) rfl nil_of, Option.bind_some]
    show (if ([D.str t]).length = 1 ∧ M_read_expression_NoLine [.v (.str t)] = some NL then ρ [.v (.str t), .v .non, .un] else none) = _
    by_cases hz : M_read_expression_NoLine [.v (.str t)] = some NL
    · rw [if_pos ⟨rfl, hz⟩, if_pos hz]
    · rw [if_neg (fun z => hz z.2), if_neg hz]
  refine fin _ ?_
  unfold r__law_refused rThen
  rw [s1, Option.bind_some]
  by_cases he : goodB (splitS t [32]) = true
  · rw [if_pos he]
    obtain ⟨d, ed⟩ := (good_iff _).mp he
    obtain ⟨q1, q2⟩ := read_yes h ed
    refine (ror_r ((tr _).trans (by rw [q2]; exact if_neg (fun z => by cases z)))).trans ?_
    unfold mTryOk
    have c : mCall 1 F_read_expression (mCons (mVar 0) mNil) [.v (.str t), .v .non, .un] = some d := call_of (p := .v d) (cons_of rfl nil_of) rfl q1
    rw [c]; rfl
  · rw [if_neg he]
    have q := read_no h fun z => he ((good_iff _).mpr z)
    exact ror_l ((tr _).trans ((if_pos q).trans rfl))
noncomputable def bodyA : MS := (sIf (mBl (mBin (inS true) (mVar 2) (mVar 1)))
 (sRet (mC (.bl false)))
 sSkip)
theorem in_loop (s0 S : List Nat) : ∀ (s : List Nat) (x : Sl), fre x → ∃ x', fre x' ∧ forL (setV 2) bodyA (s.map fun c => D.str [c]) [.v (.str s0), .v (.str S), x] = if s.all (fun c => decide (c ∈ S)) = true then some (.nx [.v (.str s0), .v (.str S), x']) else some (.rt (.bl false) [.v (.str s0), .v (.str S), x'])
  | [], x, hx => ⟨x, hx, rfl⟩
  | c :: s, x, hx => by
    obtain ⟨x', h', ih⟩ := in_loop s0 S s (.v (.str [c])) trivial
    have e1 : setV 2 (.str [c]) [.v (.str s0), .v (.str S), x] = some [.v (.str s0), .v (.str S), .v (.str [c])] := setV_fre (x := x) rfl hx
    have e2 : mBl (mBin (inS true) (mVar 2) (mVar 1)) [.v (.str s0), .v (.str S), .v (.str [c])] = some (!decide (c ∈ S)) := bl_of (bin_of rfl rfl rfl)
    rw [List.map_cons, List.all_cons]
    by_cases hc : c ∈ S
    · rw [decide_eq_true hc] at e2 ⊢
      rw [Bool.true_and]
      refine ⟨x', h', ?_⟩
      rw [for_go e1 (by unfold bodyA; rw [sIf_f e2]; rfl), ih]
    · rw [decide_eq_false hc] at e2 ⊢
      rw [Bool.false_and]
      refine ⟨.v (.str [c]), trivial, ?_⟩
      rw [if_neg Bool.false_ne_true]
      exact for_rt e1 (by unfold bodyA; rw [sIf_t e2]; exact ret_of con_of)
theorem all_in_eq (s S : List Nat) : ∃ as, F__law_all_in [.v (.str s), .v (.str S)] = some (.v (.bl (s.all (fun c => decide (c ∈ S)) && !decide (s = []))), as) := by
  obtain ⟨x', hx, e⟩ := in_loop s S s .un trivial
  have e2 : sFor (setV 2) (mItS (mVar 0)) bodyA [.v (.str s), .v (.str S), .un] = if s.all (fun c => decide (c ∈ S)) = true then some (.nx [.v (.str s), .v (.str S), x']) else some (.rt (.bl false) [.v (.str s), .v (.str S), x']) := e
  refine mk_rt (r' := [.v (.str s), .v (.str S), x']) ?_
  show g__law_all_in [.v (.str s), .v (.str S), .un] = _
  by_cases h : s.all (fun c => decide (c ∈ S)) = true
  · rw [if_pos h] at e2
    rw [h, Bool.true_and]
    refine (seq_of e2).trans (ret_of (bin_of (x := .str s) (y := .str []) rfl con_of rfl))
  · rw [if_neg h] at e2
    rw [Bool.eq_false_iff.mpr h, Bool.false_and]
    exact seq_rt e2
noncomputable def tens : List Nat := [48, 49, 50, 51, 52, 53, 54, 55, 56, 57]
theorem tens_eq (s : List Nat) : s.all (fun c => decide (c ∈ tens)) = s.all (btw 48 57) := by
  congr 1
  funext c
  unfold btw
  rw [show tens = List.range' 48 10 from rfl, Bool.eq_iff_iff, decide_eq_true_eq, List.mem_range'_1, Bool.and_eq_true, decide_eq_true_eq, decide_eq_true_eq]
  exact and_congr_right fun _ => Nat.lt_succ_iff
theorem abc_eq (s : List Nat) : s.all (fun c => decide (c ∈ abc)) = s.all (btw 97 122) := by
  congr 1
  funext c
  unfold btw
  rw [show abc = List.range' 97 26 from rfl, Bool.eq_iff_iff, decide_eq_true_eq, List.mem_range'_1, Bool.and_eq_true, decide_eq_true_eq, decide_eq_true_eq]
  exact and_congr_right fun _ => Nat.lt_succ_iff
theorem strs_of : ∀ l : List (List Nat), strsD (l.map D.str) = some l
  | [] => rfl
  | s :: l => by simp [strsD, strs_of l]
noncomputable def wl : Ws := [[101, 109, 112, 116, 121], [102, 110], [100, 111], [103, 101, 116], [119, 105, 116, 104], [112, 117, 116], [108, 101, 115, 115], [116, 97, 103], [119, 105, 100, 101], [99, 97, 115, 101], [110, 101, 118, 101, 114], [105, 102], [43], [45], [42]]
noncomputable def sl : Ws := [[], [110, 101], [101, 101], [110, 101], [110, 101, 101], [110, 101, 101], [110, 101], [110, 101], [110, 101], [101, 110, 110, 101, 110, 101], [101], [101, 101, 101], [101, 101], [101, 101], [101, 101]]
noncomputable def shD (w : List Nat) : D := match look C_FORMS w with
  | some sh => .str (low sh)
  | none => .non
theorem wl_ok : ∀ w ∈ wl, (look C_FORMS w).isSome = true ∧ sl[wl.idxOf w]? = (look C_FORMS w).map low := by decide
theorem keys_ok : ∀ q ∈ C_FORMS, q.1 ∈ wl ∨ q.1 = [60] := by decide
theorem lst_of {ss : Ws} {r : En} (h : ss.length ≤ 100) : mOfF (mLstF (mLit ss)) r = some (.lst (ss.map D.str)) := lstF_of rfl (by rw [List.length_map]; exact h)
theorem in_of {w : List Nat} {l : Ws} : inD false (.str w) (.lst (l.map D.str)) = some (.bl (decide (w ∈ l))) := by
  show (if flatD (.str w) = true ∧ (l.map D.str).all flatD = true then some (D.bl ((l.map D.str).any fun z => eqF z (.str w))) else none) = _
  rw [if_pos ⟨rfl, flat_strs _⟩, any_eq]
theorem shape_eq (w : List Nat) : ∃ as, F__law_shape [.v (.str w)] = some (.v (shD w), as) := by
  let R : En := [.v (.str w), .v (.lst (wl.map D.str)), .v (.lst (sl.map D.str))]
  have start : ∀ {h : MS} {z}, h R = z → sSeq (sSet 1 (mOfF (mLstF (mLit wl)))) (sSeq (sSet 2 (mOfF (mLstF (mLit sl)))) h) [.v (.str w), .un, .un] = z := fun hz =>
    seq_set (r2 := [.v (.str w), .v (.lst (wl.map D.str)), .un]) _ (lst_of (by decide)) rfl (seq_set (r2 := R) _ (lst_of (by decide)) rfl hz)
  have c1 : mBl (mBin eqA (mVar 0) (mC (.str [60]))) R = some (decide (w = [60])) := bl_of (bin_of rfl con_of rfl)
  have c2 : mBl (mBin (inD false) (mVar 0) (mVar 1)) R = some (decide (w ∈ wl)) := bl_of (bin_of (x := .str w) (y := .lst (wl.map D.str)) rfl rfl in_of)
  by_cases h1 : w = [60]
  · subst h1
    exact mk_rt (r' := R) (start (seq_tt (c1.trans rfl) (ret_of con_of)))
  · by_cases h2 : w ∈ wl
    · obtain ⟨k1, k2⟩ := wl_ok w h2
      obtain ⟨sh, hs⟩ := Option.isSome_iff_exists.mp k1
      rw [hs] at k2
      have e : shD w = .str (low sh) := by unfold shD; rw [hs]
      rw [e]
      refine mk_rt (r' := R) (start (seq_ff (c1.trans (by rw [decide_eq_false h1])) (seq_tt (c2.trans (by rw [decide_eq_true h2])) (ret_of ?_))))
      have ix : mIdx (mVar 1) (mVar 0) R = some (.int (wl.idxOf w : Nat)) := by
        show (strsD (wl.map D.str)).bind (fun ss => if w ∈ ss ∧ ss.length ≤ 1000 then some (D.int (ss.idxOf w : Nat)) else none) = _
        rw [strs_of, Option.bind_some, if_pos ⟨h2, by decide⟩]
      refine bin_of (x := .lst (sl.map D.str)) rfl ix ?_
      show atI (sl.map D.str) ((wl.idxOf w : Nat) : Int) = _
      exact atI_nat (by rw [List.getElem?_map, k2]; rfl)
    · have e : shD w = .non := by
        unfold shD
        rw [look_none (s := w) fun q hq z => (keys_ok q hq).elim (fun y => h2 (by rw [← z]; exact y)) fun y => h1 (by rw [← z]; exact y)]
      rw [e]
      exact mk_rt (r' := R) (start (seq_ff (c1.trans (by rw [decide_eq_false h1])) (seq_ff (c2.trans (by rw [decide_eq_false h2])) (ret_of con_of))))
theorem kept_forms : ∀ k ∈ kept, k = [100, 101, 102] ∨ (look C_FORMS k).isSome = true := by decide
theorem lname_eq {w : List Nat} (h : Wd w) (hl : look C_FORMS w = none) : ∃ as, F__law_is_name [.v (.str w)] = some (.v (.bl (nameB w)), as) := by
  have c1 : mBl (mBin gtD (mUn lenD (mVar 0)) (mC (.int 8))) [.v (.str w)] = some (decide (8 < w.length)) := (gt_of (len_of rfl h.len) con_of).trans (by congr 1; rw [decide_eq_decide]; omega)
  have c2 : mBl (mBin eqA (mVar 0) (mC (.str [100, 101, 102]))) [.v (.str w)] = some (decide (w = [100, 101, 102])) := bl_of (bin_of rfl con_of rfl)
  have sn : shD w = .non := by unfold shD; rw [hl]
  have c3 : mBl (mBin notND (mCall 1 F__law_shape (mCons (mVar 0) mNil)) (mC .non)) [.v (.str w)] = some false := by
    have q := shape_eq w
    rw [sn] at q
    exact bl_of (bin_of (call_of (p := .v .non) (cons_of rfl nil_of) rfl q) con_of rfl)
  have c : mOrT (mBl (mBin gtD (mUn lenD (mVar 0)) (mC (.int 8)))) (mOrT (mBl (mBin eqA (mVar 0) (mC (.str [100, 101, 102])))) (mBl (mBin notND (mCall 1 F__law_shape (mCons (mVar 0) mNil)) (mC .non)))) [.v (.str w)] = some (decide (8 < w.length) || decide (w = [100, 101, 102])) := by
    unfold mOrT
    rw [c1, Option.bind_some, c2, Option.bind_some, c3]
    cases decide (8 < w.length) <;> cases decide (w = [100, 101, 102]) <;> rfl
  have kp : decide (w ∈ kept) = decide (w = [100, 101, 102]) := by
    rw [decide_eq_decide]
    refine ⟨fun z => (kept_forms w z).resolve_right fun y => ?_, fun z => by subst z; decide⟩
    rw [hl] at y; cases y
  have al := all_in_eq w abc
  rw [abc_eq] at al
  cases hc : (decide (8 < w.length) || decide (w = [100, 101, 102])) with
  | true =>
    have e : nameB w = false := by
      unfold nameB
      rw [kp]
      rcases Bool.or_eq_true_iff.mp hc with z | z
      · rw [decide_eq_false (p := 1 ≤ w.length ∧ w.length ≤ 8) (by have := of_decide_eq_true z; omega)]; rfl
      · rw [z]; simp
    rw [e]
    exact mk_rt (r' := [.v (.str w)]) (seq_tt (c.trans (by rw [hc])) (ret_of con_of))
  | false =>
    obtain ⟨z1, z2⟩ := Bool.or_eq_false_iff.mp hc
    have e : nameB w = (w.all (btw 97 122) && !decide (w = [])) := by
      unfold nameB
      rw [kp, z2, Bool.not_false, Bool.and_true]
      have h8 : w.length ≤ 8 := by have := of_decide_eq_false z1; omega
      cases w with
      | nil => rfl
      | cons a l =>
        rw [decide_eq_true (p := 1 ≤ (a :: l).length ∧ (a :: l).length ≤ 8) ⟨by simp, h8⟩]
        simp
    rw [e]
    exact mk_rt (r' := [.v (.str w)]) (seq_ff (c.trans (by rw [hc])) (ret_of (call_of (p := .v (.bl _)) (cons_of rfl (cons_of con_of nil_of)) rfl al)))
theorem lnum_eq {w : List Nat} (h : Wd w) : ∃ as, F__law_is_number [.v (.str w)] = some (.v (.bl (numB w)), as) := by
  have c1 : mBl (mBin gtD (mUn lenD (mVar 0)) (mC (.int 6))) [.v (.str w)] = some (decide (6 < w.length)) := (gt_of (len_of rfl h.len) con_of).trans (by congr 1; rw [decide_eq_decide]; omega)
  have al := all_in_eq w tens
  rw [tens_eq] at al
  have c2 := nott (f := mCall 2 F__law_all_in (mCons (mVar 0) (mCons (mC (.str [48, 49, 50, 51, 52, 53, 54, 55, 56, 57])) mNil))) (r := [.v (.str w)]) (call_of (p := .v (.bl _)) (cons_of rfl (cons_of con_of nil_of)) rfl al)
  have c : mOrT (mBl (mBin gtD (mUn lenD (mVar 0)) (mC (.int 6)))) (mNotT (mTru (mCall 2 F__law_all_in (mCons (mVar 0) (mCons (mC (.str [48, 49, 50, 51, 52, 53, 54, 55, 56, 57])) mNil))))) [.v (.str w)] = some (decide (6 < w.length) || !(w.all (btw 48 57) && !decide (w = []))) := by
    unfold mOrT
    rw [c1, Option.bind_some, c2]
    cases decide (6 < w.length) <;> rfl
  have e1 : (decide (1 ≤ w.length ∧ w.length ≤ 6) && w.all (btw 48 57)) = !(decide (6 < w.length) || !(w.all (btw 48 57) && !decide (w = []))) := by
    have : decide (1 ≤ w.length ∧ w.length ≤ 6) = (!decide (6 < w.length) && !decide (w = [])) := by
      rw [Bool.eq_iff_iff]
      simp only [decide_eq_true_eq, Bool.and_eq_true, Bool.not_eq_true', decide_eq_false_iff_not]
      rw [← List.length_eq_zero_iff]
      omega
    rw [this]
    cases decide (6 < w.length) <;> cases decide (w = []) <;> cases w.all (btw 48 57) <;> rfl
  cases hc : (decide (6 < w.length) || !(w.all (btw 48 57) && !decide (w = []))) with
  | true =>
    rw [hc] at e1 c
    have e : numB w = false := by unfold numB; rw [← Bool.and_assoc, e1]; rfl
    rw [e]
    exact mk_rt (r' := [.v (.str w)]) (seq_tt c (ret_of con_of))
  | false =>
    rw [hc] at e1 c
    have e : numB w = (decide (w = [48]) || !decide (w.head? = some 48)) := by unfold numB; rw [← Bool.and_assoc, e1]; rfl
    rw [e]
    refine mk_rt (r' := [.v (.str w)]) (seq_ff c (ret_of ?_))
    have d1 : mBin eqA (mVar 0) (mC (.str [48])) [.v (.str w)] = some (.bl (decide (w = [48]))) := bin_of rfl con_of rfl
    show mOr (mBin eqA (mVar 0) (mC (.str [48]))) (mBin neA (mBin ixD (mVar 0) (mC (.int 0))) (mC (.str [48]))) [.v (.str w)] = _
    unfold mOr
    rw [d1]
    by_cases hz : w = [48]
    · rw [decide_eq_true hz]; rfl
    · rw [decide_eq_false hz, Bool.false_or]
      show mBin neA (mBin ixD (mVar 0) (mC (.int 0))) (mC (.str [48])) [.v (.str w)] = _
      cases w with
      | nil => simp at e1
      | cons a l =>
        refine bin_of (x := .str [a]) (bin_of rfl con_of ?_) con_of ?_
        · show (if (a :: l).length ≤ sizeLine then (atI (a :: l) 0).map fun c => D.str [c] else none) = _
          rw [if_pos (Nat.le_trans h.len (by decide)), at_zero]; rfl
        · show some (D.bl (!decide ([a] = [48]))) = _
          congr 3
          rw [decide_eq_decide]; simp
noncomputable def itm (x : It) : D := .tup [.bl x.1, .int (x.2 : Nat)]
noncomputable def pile (st : List It) : List D := (st.map itm).reverse
theorem pile_cons (x : It) (st : List It) : pile (x :: st) = pile st ++ [itm x] := by simp [pile]
noncomputable def bodyK : MS := (sSeq (sIf (mEqNil (mOwn 0) (mLstF mNil))
 (sRet (mC .non))
 sSkip)
 (sSeq (sAsgX (mPop 0) (bdSeq 2 (bdCons (setV 4) (bdCons (setV 5) bdNil))))
 (sSeq (sIf (mAndT (mBl (mBin eqA (mVar 3) (mC (.str [110])))) (mNotT (mTru (mVar 4))))
 (sRet (mC .non))
 sSkip)
 (sIf (mBl (mBin eqA (mVar 3) (mC (.str [101]))))
 (sSet 2 (mMax (mCons (mVar 2) (mCons (mBin addD (mVar 5) (mC (.int 1))) mNil))))
 sSkip))))
theorem max2_of {f g : ME} {r : En} {i j : Int} (e1 : f r = some (.int i)) (e2 : g r = some (.int j)) : mMax (mCons f (mCons g mNil)) r = some (.int (max i j)) := by
  unfold mMax
  rw [cons_of e1 (cons_of e2 nil_of)]
  show some (D.int (if j > i then j else i)) = _
  congr 2
  split <;> omega
theorem body_nil {S : D} {dp : Nat} {c : Nat} {x4 x5 : Sl} : bodyK [.p (pile []), .v S, .v (.int dp), .v (.str [c]), x4, x5] = some (.rt .non [.p (pile []), .v S, .v (.int dp), .v (.str [c]), x4, x5]) := by
  unfold bodyK
  exact seq_tt rfl (ret_of con_of)
theorem body_cons {S : D} {dp : Nat} {c : Nat} {x4 x5 : Sl} {x : It} {st : List It} (h4 : fre x4) (h5 : fre x5) : bodyK [.p (pile (x :: st)), .v S, .v (.int dp), .v (.str [c]), x4, x5] =
    if c = 110 ∧ x.1 = false then some (.rt .non [.p (pile st), .v S, .v (.int dp), .v (.str [c]), .v (.bl x.1), .v (.int (x.2 : Nat))])
    else some (.nx [.p (pile st), .v S, .v (.int ((if c = 101 then max dp (x.2 + 1) else dp : Nat) : Int)), .v (.str [c]), .v (.bl x.1), .v (.int (x.2 : Nat))]) := by
  rw [pile_cons]
  have c0 : mEqNil (mOwn 0) (mLstF mNil) [.p (pile st ++ [itm x]), .v S, .v (.int dp), .v (.str [c]), x4, x5] = some false := by
    show some ((pile st ++ [itm x]).isEmpty) = _
    simp
  have p0 : mPop 0 [.p (pile st ++ [itm x]), .v S, .v (.int dp), .v (.str [c]), x4, x5] = some (itm x, [.p (pile st), .v S, .v (.int dp), .v (.str [c]), x4, x5]) := popP_of (S := pile st) (d := itm x) rfl
  have b0 : bdSeq 2 (bdCons (setV 4) (bdCons (setV 5) bdNil)) (itm x) [.p (pile st), .v S, .v (.int dp), .v (.str [c]), x4, x5] = some [.p (pile st), .v S, .v (.int dp), .v (.str [c]), .v (.bl x.1), .v (.int (x.2 : Nat))] := bdP (r1 := [.p (pile st), .v S, .v (.int dp), .v (.str [c]), .v (.bl x.1), x5]) (setV_fre (x := x4) rfl h4) (setV_fre (x := x5) rfl h5)
  have a0 : sAsgX (mPop 0) (bdSeq 2 (bdCons (setV 4) (bdCons (setV 5) bdNil))) [.p (pile st ++ [itm x]), .v S, .v (.int dp), .v (.str [c]), x4, x5] = some (.nx [.p (pile st), .v S, .v (.int dp), .v (.str [c]), .v (.bl x.1), .v (.int (x.2 : Nat))]) := by
    unfold sAsgX
    rw [p0, Option.bind_some]
    show (bdSeq 2 (bdCons (setV 4) (bdCons (setV 5) bdNil)) (itm x) [.p (pile st), .v S, .v (.int dp), .v (.str [c]), x4, x5]).map Fl.nx = _
    rw [b0]; rfl
  let R : En := [.p (pile st), .v S, .v (.int dp), .v (.str [c]), .v (.bl x.1), .v (.int (x.2 : Nat))]
  have q : ∀ k : Nat, mBl (mBin eqA (mVar 3) (mC (.str [k]))) R = some (decide (c = k)) := fun k => (bl_of (bin_of (x := .str [c]) (y := .str [k]) rfl con_of rfl)).trans (by congr 1; rw [decide_eq_decide]; simp)
  have c1 : mAndT (mBl (mBin eqA (mVar 3) (mC (.str [110])))) (mNotT (mTru (mVar 4))) R = some (decide (c = 110) && !x.1) := by
    unfold mAndT
    rw [q, Option.bind_some]
    cases decide (c = 110) <;> rfl
  unfold bodyK
  refine (seq_ff c0 ((seq_of a0).trans rfl)).trans ?_
  by_cases h : c = 110 ∧ x.1 = false
  · rw [if_pos h]
    exact seq_tt (c1.trans (by rw [h.1, h.2]; rfl)) (ret_of con_of)
  · rw [if_neg h]
    refine seq_ff (c1.trans ?_) ?_
    · congr 1
      by_cases z : c = 110
      · cases hx : x.1
        · exact absurd ⟨z, hx⟩ h
        · simp
      · rw [decide_eq_false z]; rfl
    · by_cases z : c = 101
      · rw [sIf_t ((q 101).trans (by rw [decide_eq_true z])), if_pos z]
        refine sSet_of (d := .int ((max dp (x.2 + 1) : Nat) : Int)) ((max2_of (i := (dp : Int)) (j := ((x.2 : Nat) : Int) + 1) rfl (add_of rfl con_of)).trans ?_) rfl
        congr 2
        omega
      · rw [sIf_f ((q 101).trans (by rw [decide_eq_false z])), if_neg z]; rfl
theorem pop_loop (S : D) : ∀ (sh : List Nat) (st : List It) (dp : Nat) (x3 x4 x5 : Sl), fre x3 → fre x4 → fre x5 →
    (∀ dp' st', popS sh st dp = some (dp', st') → ∃ y3 y4 y5, forL (setV 3) bodyK (sg sh) [.p (pile st), .v S, .v (.int dp), x3, x4, x5] = some (.nx [.p (pile st'), .v S, .v (.int dp'), y3, y4, y5]))
    ∧ (popS sh st dp = none → ∃ l r, forL (setV 3) bodyK (sg sh) [.p (pile st), .v S, .v (.int dp), x3, x4, x5] = some (.rt .non (.p l :: r)))
  | [], st, dp, x3, x4, x5, _, _, _ => ⟨fun dp' st' e => by
      have e' : some (dp, st) = some (dp', st') := e
      cases e'
      exact ⟨x3, x4, x5, rfl⟩, fun e => by cases e⟩
  | c :: sh, st, dp, x3, x4, x5, h3, h4, h5 => by
    have u : ∀ L, setV 3 (.str [c]) [.p L, .v S, .v (.int dp), x3, x4, x5] = some [.p L, .v S, .v (.int dp), .v (.str [c]), x4, x5] := fun L => setV_fre (x := x3) rfl h3
    cases st with
    | nil => exact ⟨fun dp' st' e => (by cases e), fun _ => ⟨_, _, for_rt (u _) body_nil⟩⟩
    | cons x st =>
      obtain ⟨b, lo⟩ := x
      have bc := body_cons (S := S) (dp := dp) (c := c) (x := (b, lo)) (st := st) h4 h5
      have ep : popS (c :: sh) ((b, lo) :: st) dp = if c = 110 ∧ b = false then none else popS sh st (if c = 101 then max dp (lo + 1) else dp) := rfl
      by_cases h : c = 110 ∧ b = false
      · rw [if_pos h] at ep bc
        exact ⟨fun dp' st' e => (by rw [ep] at e; cases e), fun _ => ⟨_, _, for_rt (u _) bc⟩⟩
      · rw [if_neg h] at ep bc
        obtain ⟨i1, i2⟩ := pop_loop S sh st (if c = 101 then max dp (lo + 1) else dp) (.v (.str [c])) (.v (.bl b)) (.v (.int (lo : Nat))) trivial trivial trivial
        have g := for_go (l := sg sh) (u (pile ((b, lo) :: st))) bc
        refine ⟨fun dp' st' e => ?_, fun e => ?_⟩
        · rw [ep] at e
          obtain ⟨y3, y4, y5, z⟩ := i1 dp' st' e
          exact ⟨y3, y4, y5, g.trans z⟩
        · rw [ep] at e
          obtain ⟨l, r, z⟩ := i2 e
          exact ⟨l, r, g.trans z⟩
noncomputable def tkR (sh : List Nat) (st : List It) : Option (List It) := (popS sh st 0).bind fun p => if p.1 > 30 then none else some ((false, p.1) :: p.2)
theorem taken_eq (sh : List Nat) (st : List It) : (∀ d st', tkR sh st = some ((false, d) :: st') → ∃ as, F__law_taken [.p (pile st), .v (.str sh)] = some (.v (itm (false, d)), as) ∧ as[0]? = some (.p (pile st')))
    ∧ (tkR sh st = none → ∃ l as, F__law_taken [.p (pile st), .v (.str sh)] = some (.v .non, as) ∧ as[0]? = some (.p l)) := by
  obtain ⟨i1, i2⟩ := pop_loop (.str sh) sh st 0 .un .un .un trivial trivial trivial
  have fi : ∀ z, forL (setV 3) bodyK (sg sh) [.p (pile st), .v (.str sh), .v (.int ((0 : Nat) : Int)), .un, .un, .un] = z → sFor (setV 3) (mItS (mVar 1)) bodyK [.p (pile st), .v (.str sh), .v (.int 0), .un, .un, .un] = z := fun z h => h
  have st0 : ∀ {h : MS} {z}, h [.p (pile st), .v (.str sh), .v (.int 0), .un, .un, .un] = z → sSeq (sSet 2 (mC (.int 0))) h [.p (pile st), .v (.str sh), .un, .un, .un, .un] = z := fun hz => seq_set (.int 0) con_of rfl hz
  have mk : ∀ (d : D) (a : Sl) (r : En), g__law_taken [.p (pile st), .v (.str sh), .un, .un, .un, .un] = some (.rt d (a :: r)) → ∃ as, F__law_taken [.p (pile st), .v (.str sh)] = some (.v d, as) ∧ as[0]? = some a := fun d a r h => ⟨_, mkF_rt (n := 2) (N := 6) (s := g__law_taken) (as := [.p (pile st), .v (.str sh)]) h, rfl⟩
  have g30 : ∀ (L : List D) (dp : Nat) (y3 y4 y5 : Sl), mBl (mBin gtD (mVar 2) (mC (.int 30))) [.p L, .v (.str sh), .v (.int dp), y3, y4, y5] = some (decide (30 < dp)) := fun L dp y3 y4 y5 => (gt_of (i := (dp : Int)) (j := 30) rfl con_of).trans (by congr 1; rw [decide_eq_decide]; omega)
  refine ⟨fun d st' e => ?_, fun e => ?_⟩
  · obtain ⟨⟨dp, s2⟩, e1, e2⟩ := bind_some e
    simp only at e2
    split at e2
    · cases e2
    · rename_i h30
      cases e2
      obtain ⟨y3, y4, y5, z⟩ := i1 d st' e1
      refine mk _ _ [.v (.str sh), .v (.int d), y3, y4, y5] ?_
      unfold g__law_taken
      exact st0 ((seq_of (fi _ z)).trans (seq_ff ((g30 _ _ _ _ _).trans (by rw [decide_eq_false (by omega)])) (ret_of (tup_of (cons_of con_of (cons_of rfl nil_of)) (by simp)))))
  · cases ep : popS sh st 0 with
    | none =>
      obtain ⟨l, r, z⟩ := i2 ep
      obtain ⟨as, h1, h2⟩ := mk .non (.p l) r (by unfold g__law_taken; exact st0 (seq_rt (fi _ z)))
      exact ⟨l, as, h1, h2⟩
    | some p =>
      obtain ⟨dp, s2⟩ := p
      have h30 : dp > 30 := by
        unfold tkR at e
        rw [ep, Option.bind_some] at e
        by_cases h : dp > 30
        · exact h
        · rw [if_neg h] at e; cases e
      obtain ⟨y3, y4, y5, z⟩ := i1 dp s2 ep
      obtain ⟨as, h1, h2⟩ := mk .non (.p (pile s2)) [.v (.str sh), .v (.int dp), y3, y4, y5] (by
        unfold g__law_taken
        exact st0 ((seq_of (fi _ z)).trans (seq_tt ((g30 _ _ _ _ _).trans (by rw [decide_eq_true (by omega)])) (ret_of con_of))))
      exact ⟨_, as, h1, h2⟩
noncomputable def pick : MS := (sIf (mBl (mBin notND (mVar 3) (mC .non)))
 (sSetX 4 (mCallX 2 F__law_taken 1 (zP (mCons (mVar 3) mNil))))
 (sIf (mTru (mCall 1 F__law_is_name (mCons (mVar 2) mNil)))
 (sSet 4 (mTup (mCons (mC (.bl true)) (mCons (mC (.int 0)) mNil))))
 (sIf (mTru (mCall 1 F__law_is_number (mCons (mVar 2) mNil)))
 (sSet 4 (mTup (mCons (mC (.bl false)) (mCons (mC (.int 0)) mNil))))
 (sSet 4 (mC .non)))))
noncomputable def bodyG : MS := (sSeq (sSet 3 (mCall 1 F__law_shape (mCons (mVar 2) mNil)))
 (sSeq pick
 (sSeq (sIf (mBl (mBin isND (mVar 4) (mC .non)))
 (sRet (mC (.bl false)))
 sSkip)
 (sX (mApp 1 (mVar 4))))))
theorem appO_of {L : D} {S : List D} {w : List Nat} {y3 : Sl} {d : D} (h : S.length ≤ 100000) : sX (mApp 1 (mVar 4)) [.v L, .o S, .v (.str w), y3, .v d] = some (.nx [.v L, .o (S ++ [d]), .v (.str w), y3, .v d]) :=
  sX_of (app_of (S := S) (d := d) rfl rfl (Nat.lt_of_le_of_lt h (by decide)))
theorem pick_none {L : D} {S : List D} {w : List Nat} {x4 : Sl} {d : D} (h4 : fre x4) (hw : Wd w) (hl : look C_FORMS w = none) (e : d = if nameB w = true then itm (true, 0) else if numB w = true then itm (false, 0) else .non) : pick [.v L, .o S, .v (.str w), .v .non, x4] = some (.nx [.v L, .o S, .v (.str w), .v .non, .v d]) := by
  have u : ∀ d : D, setV 4 d [.v L, .o S, .v (.str w), .v .non, x4] = some [.v L, .o S, .v (.str w), .v .non, .v d] := fun d => setV_fre (x := x4) rfl h4
  have c0 : mBl (mBin notND (mVar 3) (mC .non)) [.v L, .o S, .v (.str w), .v .non, x4] = some false := rfl
  have c1 : mTru (mCall 1 F__law_is_name (mCons (mVar 2) mNil)) [.v L, .o S, .v (.str w), .v .non, x4] = some (nameB w) := tru_of (call_of (p := .v (.bl _)) (cons_of rfl nil_of) rfl (lname_eq hw hl))
  have c2 : mTru (mCall 1 F__law_is_number (mCons (mVar 2) mNil)) [.v L, .o S, .v (.str w), .v .non, x4] = some (numB w) := tru_of (call_of (p := .v (.bl _)) (cons_of rfl nil_of) rfl (lnum_eq hw))
  have tp : ∀ b : Bool, mTup (mCons (mC (.bl b)) (mCons (mC (.int 0)) mNil)) [.v L, .o S, .v (.str w), .v .non, x4] = some (itm (b, 0)) := fun b => tup_of (cons_of con_of (cons_of con_of nil_of)) (by simp)
  unfold pick
  rw [sIf_f c0]
  subst e
  cases hn : nameB w with
  | true => rw [sIf_t (c1.trans (by rw [hn])), if_pos rfl]; exact sSet_of (tp true) (u _)
  | false =>
    rw [sIf_f (c1.trans (by rw [hn])), if_neg Bool.false_ne_true]
    cases hm : numB w with
    | true => rw [sIf_t (c2.trans (by rw [hm])), if_pos rfl]; exact sSet_of (tp false) (u _)
    | false => rw [sIf_f (c2.trans (by rw [hm])), if_neg Bool.false_ne_true]; exact sSet_of con_of (u _)
theorem pick_some {L : D} {S S' : List D} {w sh : List Nat} {x4 : Sl} {d : D} {as : List Sl} (h4 : fre x4) (q : F__law_taken [.p S, .v (.str sh)] = some (.v d, as)) (ha : as[0]? = some (.p S')) : pick [.v L, .o S, .v (.str w), .v (.str sh), x4] = some (.nx [.v L, .o S', .v (.str w), .v (.str sh), .v d]) := by
  have c0 : mBl (mBin notND (mVar 3) (mC .non)) [.v L, .o S, .v (.str w), .v (.str sh), x4] = some true := rfl
  have z : (zP (mCons (mVar 3) mNil)) [.v L, .o S, .v (.str w), .v (.str sh), x4] = some ([], [.str sh]) := rfl
  have c : mCallX 2 F__law_taken 1 (zP (mCons (mVar 3) mNil)) [.v L, .o S, .v (.str w), .v (.str sh), x4] = some (d, [.v L, .o S', .v (.str w), .v (.str sh), x4]) := callO_of (L := S) (L' := S') (es := [.str sh]) (as := as) rfl z rfl q ha
  unfold pick
  rw [sIf_t c0]
  unfold sSetX
  rw [c, Option.bind_some]
  show (setV 4 d [.v L, .o S', .v (.str w), .v (.str sh), x4]).map Fl.nx = _
  rw [setV_fre (x := x4) rfl h4]; rfl
theorem body_good {L : D} {st : List It} {w : List Nat} {x3 x4 : Sl} (hw : Wd w) (h3 : fre x3) (h4 : fre x4) (hl : st.length ≤ 100000) :
    (∀ st', bk1 w st = some st' → ∃ y3 y4, fre y3 ∧ fre y4 ∧ bodyG [.v L, .o (pile st), .v (.str w), x3, x4] = some (.nx [.v L, .o (pile st'), .v (.str w), y3, y4]))
    ∧ (bk1 w st = none → ∃ r, bodyG [.v L, .o (pile st), .v (.str w), x3, x4] = some (.rt (.bl false) r)) := by
  have pl : ∀ s : List It, (pile s).length = s.length := fun s => by simp [pile]
  have s3 : ∀ {h : MS} {z}, h [.v L, .o (pile st), .v (.str w), .v (shD w), x4] = z → sSeq (sSet 3 (mCall 1 F__law_shape (mCons (mVar 2) mNil))) h [.v L, .o (pile st), .v (.str w), x3, x4] = z := fun hz =>
    seq_set _ (call_of (p := .v (shD w)) (cons_of rfl nil_of) rfl (shape_eq w)) (setV_fre (x := x3) rfl h3) hz
  have isn : ∀ (S : List D) (y d : D), mBl (mBin isND (mVar 4) (mC .non)) [.v L, .o S, .v (.str w), .v y, .v d] = some (match d with | .non => true | _ => false) := fun S y d => by cases d <;> rfl
  have go : ∀ (y d : D) (S : List D), d ≠ .non → S.length ≤ 100000 → pick [.v L, .o (pile st), .v (.str w), .v (shD w), x4] = some (.nx [.v L, .o S, .v (.str w), .v y, .v d]) → bodyG [.v L, .o (pile st), .v (.str w), x3, x4] = some (.nx [.v L, .o (S ++ [d]), .v (.str w), .v y, .v d]) := fun y d S hd hS hp => by
    unfold bodyG
    refine s3 ((seq_of hp).trans (seq_ff ((isn S y d).trans ?_) (appO_of hS)))
    cases d <;> first | rfl | exact absurd rfl hd
  have no : ∀ (y : D) (S : List D), pick [.v L, .o (pile st), .v (.str w), .v (shD w), x4] = some (.nx [.v L, .o S, .v (.str w), .v y, .v .non]) → ∃ r, bodyG [.v L, .o (pile st), .v (.str w), x3, x4] = some (.rt (.bl false) r) := fun y S hp => by
    refine ⟨[.v L, .o S, .v (.str w), .v y, .v .non], ?_⟩
    unfold bodyG
    exact s3 ((seq_of hp).trans (seq_tt (isn S y .non) (ret_of con_of)))
  cases hk : look C_FORMS w with
  | none =>
    have es : shD w = .non := by unfold shD; rw [hk]
    rw [es] at go no
    have eb : bk1 w st = if nameB w = true then some ((true, 0) :: st) else if numB w = true then some ((false, 0) :: st) else none := by unfold bk1; rw [hk]
    have pn := fun (d : D) (e : d = if nameB w = true then itm (true, 0) else if numB w = true then itm (false, 0) else .non) => pick_none (L := L) (S := pile st) (d := d) h4 hw hk e
    cases hn : nameB w with
    | true =>
      rw [hn, if_pos rfl] at eb
      rw [hn] at pn
      have g := go .non (itm (true, 0)) (pile st) (by intro z; cases z) (by rw [pl]; exact hl) (pn _ rfl)
      rw [← pile_cons] at g
      exact ⟨fun st' e => (by rw [eb] at e; cases e; exact ⟨.v .non, .v (itm (true, 0)), trivial, trivial, g⟩), fun e => (by rw [eb] at e; cases e)⟩
    | false =>
      rw [hn, if_neg Bool.false_ne_true] at eb
      cases hm : numB w with
      | true =>
        rw [hm, if_pos rfl] at eb
        rw [hn, hm] at pn
        have g := go .non (itm (false, 0)) (pile st) (by intro z; cases z) (by rw [pl]; exact hl) (pn _ rfl)
        rw [← pile_cons] at g
        exact ⟨fun st' e => (by rw [eb] at e; cases e; exact ⟨.v .non, .v (itm (false, 0)), trivial, trivial, g⟩), fun e => (by rw [eb] at e; cases e)⟩
      | false =>
        rw [hm, if_neg Bool.false_ne_true] at eb
        rw [hn, hm] at pn
        exact ⟨fun st' e => (by rw [eb] at e; cases e), fun _ => no .non (pile st) (pn _ rfl)⟩
  | some sh =>
    have es : shD w = .str (low sh) := by unfold shD; rw [hk]
    rw [es] at go no
    have eb : bk1 w st = tkR (low sh) st := by unfold bk1 tkR; rw [hk]
    obtain ⟨t1, t2⟩ := taken_eq (low sh) st
    refine ⟨fun st' e => ?_, fun e => ?_⟩
    · rw [eb] at e
      have ⟨d, s2, hz⟩ : ∃ d s2, st' = (false, d) :: s2 := by
        unfold tkR at e
        obtain ⟨p, _, e2⟩ := bind_some e
        split at e2
        · cases e2
        · cases e2; exact ⟨_, _, rfl⟩
      subst hz
      obtain ⟨as, q1, q2⟩ := t1 d s2 e
      have hs2 : s2.length ≤ 100000 := by
        have : ∀ (sh : List Nat) (a : List It) (acc : Nat) (p : Nat × List It), popS sh a acc = some p → p.2.length ≤ a.length := by
          intro sh
          induction sh with
          | nil => intro a acc p h; cases h; exact Nat.le_refl _
          | cons c sh ih =>
            intro a acc p h
            cases a with
            | nil => cases h
            | cons y a =>
              unfold popS at h
              split at h
              · cases h
              · have := ih _ _ _ h
                rw [List.length_cons]; omega
        unfold tkR at e
        obtain ⟨p, e1, e2⟩ := bind_some e
        split at e2
        · cases e2
        · cases e2
          have := this _ _ _ _ e1
          omega
      have g := go (.str (low sh)) (itm (false, d)) (pile s2) (by intro z; cases z) (by rw [pl]; exact hs2) (pick_some h4 q1 q2)
      rw [← pile_cons] at g
      exact ⟨.v (.str (low sh)), .v (itm (false, d)), trivial, trivial, g⟩
    · rw [eb] at e
      obtain ⟨l, as, q1, q2⟩ := t2 e
      exact no _ l (pick_some h4 q1 q2)
theorem bk1_len {w : List Nat} {st st' : List It} (e : bk1 w st = some st') : st'.length ≤ st.length + 1 := by
  have pop : ∀ (sh : List Nat) (a : List It) (acc : Nat) (p : Nat × List It), popS sh a acc = some p → p.2.length ≤ a.length := by
    intro sh
    induction sh with
    | nil => intro a acc p h; cases h; exact Nat.le_refl _
    | cons c sh ih =>
      intro a acc p h
      cases a with
      | nil => cases h
      | cons y a =>
        unfold popS at h
        split at h
        · cases h
        · have := ih _ _ _ h
          rw [List.length_cons]; omega
  unfold bk1 at e
  split at e
  · obtain ⟨p, e1, e2⟩ := bind_some e
    split at e2
    · cases e2
    · cases e2
      have := pop _ _ _ _ e1
      rw [List.length_cons]; omega
  · split at e
    · cases e; simp
    · split at e
      · cases e; simp
      · cases e
theorem good_loop (L : D) : ∀ (ws : Ws) (st : List It) (x2 x3 x4 : Sl), (∀ w ∈ ws, Wd w) → st.length + ws.length ≤ 100000 → fre x2 → fre x3 → fre x4 →
    (∀ st', bk ws st = some st' → ∃ y2 y3 y4, forL (setV 2) bodyG (ws.map D.str) [.v L, .o (pile st), x2, x3, x4] = some (.nx [.v L, .o (pile st'), y2, y3, y4]))
    ∧ (bk ws st = none → ∃ r, forL (setV 2) bodyG (ws.map D.str) [.v L, .o (pile st), x2, x3, x4] = some (.rt (.bl false) r))
  | [], st, x2, x3, x4, _, _, _, _, _ => ⟨fun st' e => (by cases e; exact ⟨x2, x3, x4, rfl⟩), fun e => (by cases e)⟩
  | w :: ws, st, x2, x3, x4, hw, hl, h2, h3, h4 => by
    have u : setV 2 (.str w) [.v L, .o (pile st), x2, x3, x4] = some [.v L, .o (pile st), .v (.str w), x3, x4] := setV_fre (x := x2) rfl h2
    obtain ⟨b1, b2⟩ := body_good (L := L) (st := st) (hw w (by simp)) h3 h4 (by omega)
    have ebk : bk (w :: ws) st = (bk1 w st).bind (bk ws) := rfl
    cases e1 : bk1 w st with
    | none =>
      rw [e1] at ebk
      obtain ⟨r, z⟩ := b2 e1
      exact ⟨fun st' e => (by rw [ebk] at e; cases e), fun _ => ⟨r, for_rt u z⟩⟩
    | some s1 =>
      rw [e1] at ebk
      obtain ⟨y3, y4, f3, f4, z⟩ := b1 s1 e1
      have ll := bk1_len e1
      obtain ⟨i1, i2⟩ := good_loop L ws s1 (.v (.str w)) y3 y4 (fun v hv => hw v (by simp [hv])) (by rw [List.length_cons] at hl; omega) trivial f3 f4
      have g := for_go (l := ws.map D.str) u z
      refine ⟨fun st' e => ?_, fun e => ?_⟩
      · rw [ebk] at e
        obtain ⟨y2, y3', y4', q⟩ := i1 st' e
        exact ⟨y2, y3', y4', g.trans q⟩
      · rw [ebk] at e
        obtain ⟨r, q⟩ := i2 e
        exact ⟨r, g.trans q⟩
theorem good_eq {W : Ws} (h : WOk W) : ∃ as, F__law_good [.v (.lst (W.map D.str))] = some (.v (.bl (goodB W)), as) := by
  obtain ⟨i1, i2⟩ := good_loop (.lst (W.map D.str)) W.reverse [] .un .un .un (fun w hw => h.wd w (by simpa using hw)) (by have := h.len; simp; omega) trivial trivial trivial
  have s0 : sOwn 1 (mLstF mNil) [.v (.lst (W.map D.str)), .un, .un, .un, .un] = some (.nx [.v (.lst (W.map D.str)), .o (pile []), .un, .un, .un]) := rfl
  have it : mBack (mVar 0) [.v (.lst (W.map D.str)), .o (pile []), .un, .un, .un] = some (W.reverse.map D.str) := by
    show some (W.map D.str).reverse = _
    rw [List.map_reverse]
  have fi : ∀ z, forL (setV 2) bodyG (W.reverse.map D.str) [.v (.lst (W.map D.str)), .o (pile []), .un, .un, .un] = z → sFor (setV 2) (mBack (mVar 0)) bodyG [.v (.lst (W.map D.str)), .o (pile []), .un, .un, .un] = z := fun z hz => by
    unfold sFor
    rw [it]; exact hz
  unfold goodB
  cases eb : bk W.reverse [] with
  | none =>
    obtain ⟨r, z⟩ := i2 eb
    refine mk_rt (r' := r) ?_
    show g__law_good [.v (.lst (W.map D.str)), .un, .un, .un, .un] = _
    unfold g__law_good
    exact (seq_of s0).trans (seq_rt (fi _ z))
  | some l =>
    obtain ⟨y2, y3, y4, z⟩ := i1 l eb
    refine mk_rt (r' := [.v (.lst (W.map D.str)), .o (pile l), y2, y3, y4]) ?_
    show g__law_good [.v (.lst (W.map D.str)), .un, .un, .un, .un] = _
    unfold g__law_good
    refine (seq_of s0).trans ((seq_of (fi _ z)).trans (ret_of ?_))
    have ln : mLenB (mOwn 1) [.v (.lst (W.map D.str)), .o (pile l), y2, y3, y4] = some (.int ((pile l).length : Nat)) := rfl
    refine bin_of ln con_of ?_
    show some (D.bl (decide (((pile l).length : Int) = 1))) = _
    congr 2
    rw [decide_eq_decide]
    simp only [pile, List.length_reverse, List.length_map]
    omega
noncomputable abbrev Wk (s : List Nat) : Prop := Tx 10 s
theorem abc_mod (i : Int) : ∃ c, c < 128 ∧ ixD (.str abc) (.int (i % 26)) = some (.str [c]) := by
  obtain ⟨c, hc, e⟩ := at_mod (s := abc) (i := i) (by decide) (by decide)
  exact ⟨c, (by decide : ∀ c ∈ abc, c < 128) c hc, e⟩
theorem tx1 {c : Nat} (h : c < 128) : Tx 1 [c] := ⟨by simp, fun x hx => by rw [List.mem_singleton.mp hx]; exact h⟩
noncomputable def bodyN : MS := (sSet 1 (mBin addD (mVar 1) (mBin ixD (mC (.str [97, 98, 99, 100, 101, 102, 103, 104, 105, 106, 107, 108, 109, 110, 111, 112, 113, 114, 115, 116, 117, 118, 119, 120, 121, 122])) (mBin modD (mCall 2 F__law_mixed (mCons (mVar 0) (mCons (mBin addD (mC (.int 30)) (mVar 2)) mNil))) (mC (.int 26))))))
theorem name_loop (n : Int) : ∀ (L : List Int) (k : Nat) (s : List Nat) (x : Sl), Tx k s → k + L.length ≤ 8 → fre x → ∃ t x', Tx 8 t ∧ forL (setV 2) bodyN (L.map D.int) [.v (.int n), .v (.str s), x] = some (.nx [.v (.int n), .v (.str t), x'])
  | [], k, s, x, h, hl, hx => ⟨s, x, h.le (by simpa using hl), rfl⟩
  | i :: L, k, s, x, h, hl, hx => by
    rw [List.length_cons] at hl
    obtain ⟨m, m0, hm⟩ := mixed_eq n (30 + i)
    obtain ⟨c, c1, hc⟩ := abc_mod m
    obtain ⟨t, x', q1, q4⟩ := name_loop n L (k + 1) (s ++ [c]) (.v (.int i)) (h.app (tx1 c1)) (by omega) trivial
    refine ⟨t, x', q1, ?_⟩
    have b : bodyN [.v (.int n), .v (.str s), .v (.int i)] = some (.nx [.v (.int n), .v (.str (s ++ [c])), .v (.int i)]) := by
      refine sSet_of (d := .str (s ++ [c])) ?_ (by rfl)
      refine bin_of (x := .str s) (y := .str [c]) rfl ?_ (str_add (by have := h.len; show _ + 1 ≤ _; omega))
      refine bin_of (x := .str abc) con_of (mod_of ?_ con_of (by decide)) hc
      exact call_of (p := .v (.int m)) (cons_of rfl (cons_of (add_of con_of rfl) nil_of)) rfl hm
    rw [List.map_cons, for_go (setV_fre (x := x) rfl hx) b, q4]
theorem rngD_ints (n : Nat) : rngD 0 n = ((List.range n).map fun i => (0 : Int) + (i : Nat)).map D.int := by
  unfold rngD; rw [List.map_map]; rfl
theorem name_drawn (n : Int) : ∃ s, Tx 9 s ∧ ∃ as, F__law_name [.v (.int n)] = some (.v (.str s), as) := by
  have m0 : 0 ≤ n % 8 := Int.emod_nonneg _ (by decide)
  have m8 : n % 8 < 8 := Int.emod_lt_of_pos _ (by decide)
  obtain ⟨t, x', q1, q4⟩ := name_loop n ((List.range (1 + n % 8).toNat).map fun i => (0 : Int) + (i : Nat)) 0 [] .un ⟨by simp, fun c hc => by simp at hc⟩ (by simp; omega) trivial
  have e : mBin addD (mC (.int 1)) (mBin modD (mVar 0) (mC (.int 8))) [.v (.int n), .v (.str []), .un] = some (.int (1 + n % 8)) := add_of con_of (mod_of rfl con_of (by decide))
  have it : mRng1 (mBin addD (mC (.int 1)) (mBin modD (mVar 0) (mC (.int 8)))) [.v (.int n), .v (.str []), .un] = some (rngD 0 (1 + n % 8).toNat) := by
    unfold mRng1
    rw [e]
    show (if -(2 ^ 62) ≤ (1 + n % 8) ∧ (1 + n % 8) < 2 ^ 62 then some (rngD 0 (1 + n % 8).toNat) else none) = _
    rw [if_pos (by omega)]
  have fe : sFor (setV 2) (mRng1 (mBin addD (mC (.int 1)) (mBin modD (mVar 0) (mC (.int 8))))) bodyN [.v (.int n), .v (.str []), .un] = some (.nx [.v (.int n), .v (.str t), x']) := by
    unfold sFor
    rw [it, rngD_ints]
    exact q4
  have start : ∀ {h : MS} {z}, h [.v (.int n), .v (.str t), x'] = z → sSeq (sSet 1 (mC (.str []))) (sSeq (sFor (setV 2) (mRng1 (mBin addD (mC (.int 1)) (mBin modD (mVar 0) (mC (.int 8))))) bodyN) h) [.v (.int n), .un, .un] = z := fun hz =>
    seq_set (r2 := [.v (.int n), .v (.str []), .un]) (.str []) con_of rfl ((seq_of fe).trans hz)
  have hb : mBl (mBin (inD false) (mVar 1) (mCall 0 F__law_kept mNil)) [.v (.int n), .v (.str t), x'] = some (decide (t ∈ kept)) := bl_of (bin_of (x := .str t) (y := .lst (kept.map D.str)) rfl (call_of (p := .v (.lst (kept.map D.str))) nil_of rfl kept_eq) in_of)
  by_cases hk : t ∈ kept
  · refine ⟨[113] ++ cutL t (some 1) none, ((tx1 (by decide)).app (q1.cut (some 1) none)).le (by decide), mk_rt (r' := [.v (.int n), .v (.str t), x']) (start (seq_tt (hb.trans (by rw [decide_eq_true hk])) (ret_of ?_)))⟩
    exact bin_of con_of (sl_of (x := .str t) rfl (by rfl) (by rfl) (sl_str (by have := q1.len; omega))) (str_add (by have := (q1.cut (some 1) none).len; show 1 + _ ≤ _; omega))
  · exact ⟨t, q1.le (by decide), mk_rt (r' := [.v (.int n), .v (.str t), x']) (start (seq_ff (hb.trans (by rw [decide_eq_false hk])) (ret_of rfl)))⟩
structure Nms (ns : Ws) : Prop where
  len : ns.length = 6
  wd : ∀ x ∈ ns, Wk x
theorem names_drawn (c : Int) : ∃ l : Ws, Nms l ∧ ∃ as, F__law_names [.v (.int c)] = some (.v (.lst (l.map D.str)), as) := by
  obtain ⟨m3, z3, h3⟩ := mixed_eq c 3
  obtain ⟨m4, z4, h4⟩ := mixed_eq c 4
  obtain ⟨m5, z5, h5⟩ := mixed_eq c 5
  obtain ⟨s3, w3, e3⟩ := name_drawn m3
  obtain ⟨s4, w4, e4⟩ := name_drawn m4
  obtain ⟨s5, w5, e5⟩ := name_drawn m5
  let nr := cutL s3 none (some 7)
  have nw : Tx 9 nr := w3.cut _ _
  have t1 := nw.cut none (some (-1))
  have t2 := nw.cut (some 1) none
  have nl := nw.len
  have l1 := t1.len
  have l2 := t2.len
  let W : Ws := [nr, nr ++ [113], cutL nr none (some (-1)) ++ [122], [122] ++ cutL nr (some 1) none]
  refine ⟨W ++ [s4, s5], ⟨rfl, ?_⟩, mk_rt (r' := [.v (.int c), .v (.str nr), .v (.lst (W.map D.str))]) ?_⟩
  · intro x hx
    simp only [W, List.mem_append, List.mem_cons, List.not_mem_nil, or_false] at hx
    rcases hx with (rfl | rfl | rfl | rfl) | rfl | rfl
    · exact nw.le (by decide)
    · exact nw.app (tx1 (by decide))
    · exact t1.app (tx1 (by decide))
    · exact ((tx1 (by decide)).app t2).le (by decide)
    · exact w4.le (by decide)
    · exact w5.le (by decide)
  · show g__law_names [.v (.int c), .un, .un] = _
    unfold g__law_names
    refine seq_set (.str nr) (sl_of (x := .str s3) (call_of (p := .v (.str s3)) (cons_of (call_of (p := .v (.int m3)) (cons_of rfl (cons_of con_of nil_of)) rfl h3) nil_of) rfl e3) (by rfl) (by rfl) (sl_str (by have := w3.len; omega))) (by rfl) ?_
    refine seq_set (.lst (W.map D.str)) ?_ (by rfl) ?_
    rotate_left
    · refine ret_of (bin_of (x := .lst (W.map D.str)) rfl (lstF_of (cons_of (call_of (p := .v (.str s4)) (cons_of (call_of (p := .v (.int m4)) (cons_of rfl (cons_of con_of nil_of)) rfl h4) nil_of) rfl e4) (cons_of (call_of (p := .v (.str s5)) (cons_of (call_of (p := .v (.int m5)) (cons_of rfl (cons_of con_of nil_of)) rfl h5) nil_of) rfl e5) nil_of)) (by show 2 ≤ 100; decide)) ?_)
      rw [List.map_append]
      exact lst_add (by show 4 + 2 ≤ _; decide)
    · refine lstF_of (cons_of rfl (cons_of (bin_of (x := .str nr) rfl con_of (str_add (by show _ + 1 ≤ _; omega))) (cons_of (bin_of (sl_of (x := .str nr) rfl (by rfl) (by rfl) (sl_str (by omega))) con_of (str_add (by show _ + 1 ≤ _; omega))) (cons_of (bin_of con_of (sl_of (x := .str nr) rfl (by rfl) (by rfl) (sl_str (by omega))) (str_add (by show 1 + _ ≤ _; omega))) nil_of)))) (by show 4 ≤ 100; decide)
theorem ix_lit (ss : Ws) {i : Int} (h0 : 0 ≤ i) (h : i < ss.length) : ∃ w ∈ ss, ixD (.lst (ss.map D.str)) (.int i) = some (.str w) := by
  obtain ⟨j, rfl⟩ := Int.eq_ofNat_of_zero_le h0; have hj : j < ss.length := by omega
  exact ⟨ss[j], List.getElem_mem hj, atI_nat (by simp [hj])⟩
theorem Nms.at {ns : Ws} (h : Nms ns) (i : Int) : ∃ x, Wk x ∧ ixD (.lst (ns.map D.str)) (.int (i % 6)) = some (.str x) := by
  obtain ⟨x, hx, e⟩ := ix_lit ns (i := i % 6) (Int.emod_nonneg _ (by decide)) (by rw [h.len]; exact Int.emod_lt_of_pos _ (by decide))
  exact ⟨x, h.wd x hx, e⟩
structure Pi where
  x : D
  ws : Ws
  k : Int
noncomputable def pd (p : Pi) : D := .tup [p.x, .lst (p.ws.map D.str), .int p.k]
structure Gd (p : Pi) (n : Nat) : Prop where
  wk : ∀ w ∈ p.ws, Wk w
  len : p.ws.length ≤ n
theorem ix0 {p : Pi} {g : ME} {r : En} (e : g r = some (pd p)) : mBin ixD g (mC (.int 0)) r = some p.x := bin_of e con_of rfl
theorem ix1 {p : Pi} {g : ME} {r : En} (e : g r = some (pd p)) : mBin ixD g (mC (.int 1)) r = some (.lst (p.ws.map D.str)) := bin_of e con_of rfl
theorem ix2 {p : Pi} {g : ME} {r : En} (e : g r = some (pd p)) : mBin ixD g (mC (.int 2)) r = some (.int p.k) := bin_of e con_of rfl
noncomputable def sEmpty : List Nat := [101, 109, 112, 116, 121]
theorem one_wk {w : List Nat} (h : Wk w) : ∀ x ∈ [w], Wk x := fun x hx => by rw [List.mem_singleton.mp hx]; exact h
theorem nat_mod (i : Int) (k : Nat) (hk : 0 < k) : ∃ n : Nat, n < k ∧ i % (k : Int) = (n : Int) := by
  obtain ⟨j, hj⟩ := Int.eq_ofNat_of_zero_le (Int.emod_nonneg i (b := (k : Int)) (by omega))
  have := Int.emod_lt_of_pos i (b := (k : Int)) (by omega)
  exact ⟨j, by omega, hj⟩
theorem intC_nat (n : Nat) : intC (n : Int) = (Nat.toDigits 10 n).map Char.toNat := by
  unfold intC
  have e : toString (n : Int) = n.repr := rfl
  rw [e, Str.ofString_eq_toList]
  simp [Nat.repr_eq_ofList_toDigits]
theorem intC_digits (n : Nat) : ∀ c ∈ intC (n : Int), 48 ≤ c ∧ c ≤ 57 := by
  rw [intC_nat]
  intro c hc
  obtain ⟨d, hd, rfl⟩ := List.mem_map.mp hc
  have q := Nat.isDigit_of_mem_toDigits (by decide) (by decide) hd
  simp only [Char.isDigit, Bool.and_eq_true, decide_eq_true_eq] at q
  exact ⟨UInt32.le_iff_toNat_le.mp q.1, UInt32.le_iff_toNat_le.mp q.2⟩
theorem intC_len6 {n : Nat} (h : n < 1000000) : (intC (n : Int)).length ≤ 6 := by
  rw [intC_nat, List.length_map]
  exact (Nat.length_toDigits_le_iff (by decide) (by decide)).mpr h
theorem str_num {n : Nat} (h : n < 1000000) : strD (.int (n : Int)) = some (.str (intC (n : Int))) := by
  show (if ((n : Int).natAbs.log2 < 1920) then some (D.str (intC (n : Int))) else none) = _
  refine if_pos ?_
  rw [Int.natAbs_natCast]
  by_cases hz0 : n = 0
  · subst hz0; decide
  · exact Nat.lt_of_lt_of_le ((Nat.log2_lt hz0).mpr (Nat.lt_trans h (by decide : 1000000 < 2 ^ 24))) (by decide)
theorem num_wk {n : Nat} (h : n < 1000000) : Wk (intC (n : Int)) := ⟨Nat.le_trans (intC_len6 h) (by decide), fun c hc => by have := intC_digits n c hc; omega⟩
theorem leaf_drawn {c n : Int} {ns : Ws} (hn : Nms ns) : ∃ p : Pi, Gd p 1 ∧ ∃ as, F__law_leaf [.v (.int c), .v (.int n), .v (.lst (ns.map D.str))] = some (.v (pd p), as) := by
  let N : D := .lst (ns.map D.str)
  have c0 : mBl (mBin eqA (mBin modD (mVar 1) (mC (.int 5))) (mC (.int 0))) [.v (.int c), .v (.int n), .v N, .un, .un] = some (decide (n % 5 = 0)) := bl_of (bin_of (mod_of rfl con_of (by decide)) con_of rfl)
  have c1 : mBl (mBin ltA (mBin modD (mVar 1) (mC (.int 5))) (mC (.int 3))) [.v (.int c), .v (.int n), .v N, .un, .un] = some (decide (n % 5 < 3)) := bl_of (bin_of (mod_of rfl con_of (by decide)) con_of rfl)
  by_cases h0 : n % 5 = 0
  · refine ⟨⟨.tup [.str sEmpty], [sEmpty], 0⟩, ⟨one_wk ⟨by decide, by decide⟩, by simp⟩, mk_rt (r' := [.v (.int c), .v (.int n), .v N, .un, .un]) ?_⟩
    show g__law_leaf [.v (.int c), .v (.int n), .v N, .un, .un] = _
    unfold g__law_leaf
    exact seq_tt (c0.trans (by rw [decide_eq_true h0])) (ret_of (by rfl))
  · by_cases h1 : n % 5 < 3
    · obtain ⟨x, wx, ex⟩ := hn.at (n / 5)
      refine ⟨⟨.tup [.str sNam, .str x], [x], 0⟩, ⟨one_wk wx, by simp⟩, mk_rt (r' := [.v (.int c), .v (.int n), .v N, .v (.str x), .un]) ?_⟩
      show g__law_leaf [.v (.int c), .v (.int n), .v N, .un, .un] = _
      unfold g__law_leaf
      refine seq_ff (c0.trans (by rw [decide_eq_false h0])) (seq_tt (c1.trans (by rw [decide_eq_true h1])) ?_)
      refine seq_set (.str x) (bin_of (x := N) (y := .int (n / 5 % 6)) rfl (mod_of (fdiv_of rfl con_of (by decide)) con_of (by decide)) ex) (by rfl) ?_
      exact ret_of (by rfl)
    · obtain ⟨k, hk, ek⟩ := nat_mod (c + n) 1000000 (by decide)
      obtain ⟨j, hj, ej⟩ := nat_mod (n / 10) 12 (by decide)
      have fin : ∀ m : Nat, m < 1000000 → (sRet (mTup (mCons (mTup (mCons (mC (.str [110, 117, 109])) (mCons (mVar 4) mNil))) (mCons (mOfF (mLstF (mCons (mUn strD (mVar 4)) mNil))) (mCons (mC (.int 0)) mNil))))) [.v (.int c), .v (.int n), .v N, .un, .v (.int (m : Int))] = some (.rt (pd ⟨.tup [.str sNum, .int (m : Int)], [intC (m : Int)], 0⟩) [.v (.int c), .v (.int n), .v N, .un, .v (.int (m : Int))]) := fun m hm => by
        refine ret_of (tup_of (l := [.tup [.str sNum, .int (m : Int)], .lst [.str (intC (m : Int))], .int 0]) ?_ (by show 3 ≤ 100; decide))
        exact cons_of (tup_of (cons_of con_of (cons_of rfl nil_of)) (by show 2 ≤ 100; decide)) (cons_of (lstF_of (cons_of (un_of rfl (str_num hm)) nil_of) (by show 1 ≤ 100; decide)) (cons_of con_of nil_of))
      have go : ∀ m : Nat, m < 1000000 → (sIf (mBl (mBin eqA (mBin modD (mBin fdivD (mVar 1) (mC (.int 5))) (mC (.int 2))) (mC (.int 0)))) (sSet 4 (mBin modD (mBin fdivD (mVar 1) (mC (.int 10))) (mC (.int 12)))) sSkip) [.v (.int c), .v (.int n), .v N, .un, .v (.int (k : Int))] = some (.nx [.v (.int c), .v (.int n), .v N, .un, .v (.int (m : Int))]) → ∃ p : Pi, Gd p 1 ∧ ∃ as, F__law_leaf [.v (.int c), .v (.int n), .v N] = some (.v (pd p), as) := fun m hm hz => by
        refine ⟨⟨.tup [.str sNum, .int (m : Int)], [intC (m : Int)], 0⟩, ⟨one_wk (num_wk hm), by simp⟩, mk_rt (r' := [.v (.int c), .v (.int n), .v N, .un, .v (.int (m : Int))]) ?_⟩
        show g__law_leaf [.v (.int c), .v (.int n), .v N, .un, .un] = _
        unfold g__law_leaf
        refine seq_ff (c0.trans (by rw [decide_eq_false h0])) (seq_ff (c1.trans (by rw [decide_eq_false h1])) ?_)
        refine seq_set (r2 := [.v (.int c), .v (.int n), .v N, .un, .v (.int (k : Int))]) (.int (k : Int)) ?_ rfl ((seq_of hz).trans (fin m hm))
        rw [← ek]
        exact mod_of (add_of rfl rfl) (bin_of con_of con_of (by simp [powD])) (by decide)
      have c2 : mBl (mBin eqA (mBin modD (mBin fdivD (mVar 1) (mC (.int 5))) (mC (.int 2))) (mC (.int 0))) [.v (.int c), .v (.int n), .v N, .un, .v (.int (k : Int))] = some (decide (n / 5 % 2 = 0)) := bl_of (bin_of (mod_of (fdiv_of rfl con_of (by decide)) con_of (by decide)) con_of rfl)
      by_cases h2 : n / 5 % 2 = 0
      · refine go j (by omega) ?_
        rw [sIf_t (c2.trans (by rw [decide_eq_true h2])), ← ej]
        exact sSet_of (mod_of (fdiv_of rfl con_of (by decide)) con_of (by decide)) rfl
      · refine go k hk ?_
        rw [sIf_f (c2.trans (by rw [decide_eq_false h2]))]; rfl
noncomputable def wOne : Ws := [[102, 110], [103, 101, 116], [108, 101, 115, 115], [116, 97, 103], [119, 105, 100, 101], [110, 101, 118, 101, 114]]
noncomputable def wTwo : Ws := [[100, 111], [43], [45], [42], [60], [119, 105, 116, 104], [112, 117, 116]]
theorem lits_wk : (∀ w ∈ wOne, Wk w) ∧ ∀ w ∈ wTwo, Wk w := ⟨fun w h => ⟨(by decide : ∀ w ∈ wOne, w.length ≤ 10) w h, (by decide : ∀ w ∈ wOne, ∀ c ∈ w, c < 128) w h⟩, fun w h => ⟨(by decide : ∀ w ∈ wTwo, w.length ≤ 10) w h, (by decide : ∀ w ∈ wTwo, ∀ c ∈ w, c < 128) w h⟩⟩
theorem cons_wk {w : List Nat} {l : Ws} (h : Wk w) (hl : ∀ x ∈ l, Wk x) : ∀ x ∈ w :: l, Wk x := fun x hx => (List.mem_cons.mp hx).elim (fun z => z ▸ h) (hl x)
theorem app_wk {l m : Ws} (h : ∀ x ∈ l, Wk x) (hm : ∀ x ∈ m, Wk x) : ∀ x ∈ l ++ m, Wk x := fun x hx => (List.mem_append.mp hx).elim (h x) (hm x)
theorem one_drawn {n : Int} {ns : Ws} (hn : Nms ns) {p : Pi} {a : Nat} (hp : Gd p a) (ha : a ≤ 1000) : ∃ q : Pi, Gd q (a + 2) ∧ ∃ as, F__law_one [.v (.int n), .v (.lst (ns.map D.str)), .v (pd p)] = some (.v (pd q), as) := by
  let N : D := .lst (ns.map D.str)
  obtain ⟨w, mw, ew⟩ := ix_lit wOne (i := n % 6) (Int.emod_nonneg _ (by decide)) (Int.emod_lt_of_pos _ (by decide))
  obtain ⟨x, wx, ex⟩ := hn.at (n / 6)
  have kw := lits_wk.1 w mw
  have pl := hp.len
  let R : En := [.v (.int n), .v N, .v (pd p), .v (.str w), .v (.str x)]
  have s : ∀ {h : MS} {z}, h R = z → sSeq (sSet 3 (mBin ixD (mOfF (mLstF (mLit wOne))) (mBin modD (mVar 0) (mC (.int 6))))) (sSeq (sSet 4 (mBin ixD (mVar 1) (mBin modD (mBin fdivD (mVar 0) (mC (.int 6))) (mC (.int 6))))) h) [.v (.int n), .v N, .v (pd p), .un, .un] = z := fun hz =>
    seq_set (.str w) (bin_of (lst_of (by decide)) (mod_of rfl con_of (by decide)) ew) rfl (seq_set (r2 := R) (.str x) (bin_of (x := N) (y := .int (n / 6 % 6)) rfl (mod_of (fdiv_of rfl con_of (by decide)) con_of (by decide)) ex) rfl hz)
  have cc : mBl (mBin eqA (mVar 3) (mC (.str [110, 101, 118, 101, 114]))) R = some (decide (w = [110, 101, 118, 101, 114])) := bl_of (bin_of rfl con_of rfl)
  by_cases c : w = [110, 101, 118, 101, 114]
  · refine ⟨⟨.tup [.str [110, 101, 118, 101, 114], p.x], [[110, 101, 118, 101, 114]] ++ p.ws, p.k + 1⟩, ⟨app_wk (one_wk (c ▸ kw)) hp.wk, by simp only [List.length_append, List.length_cons, List.length_nil]; omega⟩, mk_rt (r' := R) ?_⟩
    show g__law_one [.v (.int n), .v N, .v (pd p), .un, .un] = _
    unfold g__law_one
    refine s (seq_tt (cc.trans (by rw [decide_eq_true c])) (ret_of ?_))
    refine tup_of (l := [.tup [.str [110, 101, 118, 101, 114], p.x], .lst (([[110, 101, 118, 101, 114]] ++ p.ws).map D.str), .int (p.k + 1)]) ?_ (by show 3 ≤ 100; decide)
    refine cons_of (tup_of (cons_of con_of (cons_of (ix0 (p := p) rfl) nil_of)) (by show 2 ≤ 100; decide)) (cons_of ?_ (cons_of (add_of (ix2 (p := p) rfl) con_of) nil_of))
    rw [List.map_append]
    exact ladd (l := [.str [110, 101, 118, 101, 114]]) (lstF_of (cons_of con_of nil_of) (by show 1 ≤ 100; decide)) (ix1 (p := p) rfl) (by simp only [List.length_cons, List.length_nil, List.length_map]; omega)
  · refine ⟨⟨.tup [.str w, .str x, p.x], [w, x] ++ p.ws, p.k + 1⟩, ⟨app_wk (cons_wk kw (one_wk wx)) hp.wk, by simp only [List.length_append, List.length_cons, List.length_nil]; omega⟩, mk_rt (r' := R) ?_⟩
    show g__law_one [.v (.int n), .v N, .v (pd p), .un, .un] = _
    unfold g__law_one
    refine s (seq_ff (cc.trans (by rw [decide_eq_false c])) (ret_of ?_))
    refine tup_of (l := [.tup [.str w, .str x, p.x], .lst (([w, x] ++ p.ws).map D.str), .int (p.k + 1)]) ?_ (by show 3 ≤ 100; decide)
    refine cons_of (tup_of (cons_of rfl (cons_of rfl (cons_of (ix0 (p := p) rfl) nil_of))) (by show 3 ≤ 100; decide)) (cons_of ?_ (cons_of (add_of (ix2 (p := p) rfl) con_of) nil_of))
    rw [List.map_append]
    exact ladd (l := [.str w, .str x]) (lstF_of (cons_of rfl (cons_of rfl nil_of)) (by show 2 ≤ 100; decide)) (ix1 (p := p) rfl) (by simp only [List.length_cons, List.length_nil, List.length_map]; omega)
theorem two_drawn {n : Int} {ns : Ws} (hn : Nms ns) {p p2 : Pi} {a b : Nat} (hp : Gd p a) (hp2 : Gd p2 b) (ha : a + b ≤ 1000) : ∃ q : Pi, Gd q (a + b + 2) ∧ ∃ as, F__law_two [.v (.int n), .v (.lst (ns.map D.str)), .v (pd p), .v (pd p2)] = some (.v (pd q), as) := by
  let N : D := .lst (ns.map D.str)
  obtain ⟨w, mw, ew⟩ := ix_lit wTwo (i := n % 7) (Int.emod_nonneg _ (by decide)) (Int.emod_lt_of_pos _ (by decide))
  obtain ⟨x, wx, ex⟩ := hn.at (n / 7)
  have kw := lits_wk.2 w mw
  have pl := hp.len
  have pl2 := hp2.len
  let dp : Int := 1 + max p.k p2.k
  let R : En := [.v (.int n), .v N, .v (pd p), .v (pd p2), .v (.str w), .v (.str x), .v (.int dp)]
  have s : ∀ {h : MS} {z}, h R = z → sSeq (sSet 4 (mBin ixD (mOfF (mLstF (mLit wTwo))) (mBin modD (mVar 0) (mC (.int 7))))) (sSeq (sSet 5 (mBin ixD (mVar 1) (mBin modD (mBin fdivD (mVar 0) (mC (.int 7))) (mC (.int 6))))) (sSeq (sSet 6 (mBin addD (mC (.int 1)) (mMax (mCons (mBin ixD (mVar 2) (mC (.int 2))) (mCons (mBin ixD (mVar 3) (mC (.int 2))) mNil))))) h)) [.v (.int n), .v N, .v (pd p), .v (pd p2), .un, .un, .un] = z := fun hz =>
    seq_set (.str w) (bin_of (lst_of (by decide)) (mod_of rfl con_of (by decide)) ew) rfl (seq_set (.str x) (bin_of (x := N) (y := .int (n / 7 % 6)) rfl (mod_of (fdiv_of rfl con_of (by decide)) con_of (by decide)) ex) rfl (seq_set (r2 := R) (.int dp) (add_of con_of (max2_of (ix2 (p := p) rfl) (ix2 (p := p2) rfl))) rfl hz))
  have cc : mBl (mBin ltA (mBin modD (mVar 0) (mC (.int 7))) (mC (.int 5))) R = some (decide (n % 7 < 5)) := bl_of (bin_of (mod_of rfl con_of (by decide)) con_of rfl)
  by_cases c : n % 7 < 5
  · refine ⟨⟨.tup [.str w, p.x, p2.x], [w] ++ p.ws ++ p2.ws, dp⟩, ⟨app_wk (app_wk (one_wk kw) hp.wk) hp2.wk, by simp only [List.length_append, List.length_cons, List.length_nil]; omega⟩, mk_rt (r' := R) ?_⟩
    show g__law_two [.v (.int n), .v N, .v (pd p), .v (pd p2), .un, .un, .un] = _
    unfold g__law_two
    refine s (seq_tt (cc.trans (by rw [decide_eq_true c])) (ret_of ?_))
    refine tup_of (l := [.tup [.str w, p.x, p2.x], .lst (([w] ++ p.ws ++ p2.ws).map D.str), .int dp]) ?_ (by show 3 ≤ 100; decide)
    refine cons_of (tup_of (cons_of rfl (cons_of (ix0 (p := p) rfl) (cons_of (ix0 (p := p2) rfl) nil_of))) (by show 3 ≤ 100; decide)) (cons_of ?_ (cons_of rfl nil_of))
    rw [List.map_append, List.map_append]
    exact ladd (ladd (l := [.str w]) (lstF_of (cons_of rfl nil_of) (by show 1 ≤ 100; decide)) (ix1 (p := p) rfl) (by simp only [List.length_cons, List.length_nil, List.length_map]; omega)) (ix1 (p := p2) rfl) (by simp only [List.length_append, List.length_cons, List.length_nil, List.length_map]; omega)
  · refine ⟨⟨.tup [.str w, .str x, p.x, p2.x], [w, x] ++ p.ws ++ p2.ws, dp⟩, ⟨app_wk (app_wk (cons_wk kw (one_wk wx)) hp.wk) hp2.wk, by simp only [List.length_append, List.length_cons, List.length_nil]; omega⟩, mk_rt (r' := R) ?_⟩
    show g__law_two [.v (.int n), .v N, .v (pd p), .v (pd p2), .un, .un, .un] = _
    unfold g__law_two
    refine s (seq_ff (cc.trans (by rw [decide_eq_false c])) (ret_of ?_))
    refine tup_of (l := [.tup [.str w, .str x, p.x, p2.x], .lst (([w, x] ++ p.ws ++ p2.ws).map D.str), .int dp]) ?_ (by show 3 ≤ 100; decide)
    refine cons_of (tup_of (cons_of rfl (cons_of rfl (cons_of (ix0 (p := p) rfl) (cons_of (ix0 (p := p2) rfl) nil_of)))) (by show 4 ≤ 100; decide)) (cons_of ?_ (cons_of rfl nil_of))
    rw [List.map_append, List.map_append]
    exact ladd (ladd (l := [.str w, .str x]) (lstF_of (cons_of rfl (cons_of rfl nil_of)) (by show 2 ≤ 100; decide)) (ix1 (p := p) rfl) (by simp only [List.length_cons, List.length_nil, List.length_map]; omega)) (ix1 (p := p2) rfl) (by simp only [List.length_append, List.length_cons, List.length_nil, List.length_map]; omega)
theorem max3_of {f g h : ME} {r : En} {i j k : Int} (e1 : f r = some (.int i)) (e2 : g r = some (.int j)) (e3 : h r = some (.int k)) : ∃ m : Int, mMax (mCons f (mCons g (mCons h mNil))) r = some (.int m) := by
  unfold mMax
  rw [cons_of e1 (cons_of e2 (cons_of e3 nil_of))]
  exact ⟨_, rfl⟩
noncomputable def sIfW : List Nat := [105, 102]
noncomputable def sCase : List Nat := [99, 97, 115, 101]
theorem three_drawn {n : Int} {ns : Ws} (hn : Nms ns) {p p2 p3 : Pi} {a b c : Nat} (hp : Gd p a) (hp2 : Gd p2 b) (hp3 : Gd p3 c) (ha : a + b + c ≤ 1000) : ∃ q : Pi, Gd q (a + b + c + 4) ∧ ∃ as, F__law_three [.v (.int n), .v (.lst (ns.map D.str)), .v (.lst [pd p, pd p2, pd p3])] = some (.v (pd q), as) := by
  let N : D := .lst (ns.map D.str)
  let L : D := .lst [pd p, pd p2, pd p3]
  obtain ⟨x, wx, ex⟩ := hn.at (n / 2)
  obtain ⟨y, wy, ey⟩ := hn.at (n / 12)
  obtain ⟨z, wz, ez⟩ := hn.at (n / 72)
  have l1 := hp.len
  have l2 := hp2.len
  have l3 := hp3.len
  obtain ⟨m, em⟩ := max3_of (r := [.v (.int n), .v N, .v L, .v (pd p), .v (pd p2), .v (pd p3), .un, .un, .un, .un, .un]) (ix2 (p := p) (g := mVar 3) rfl) (ix2 (p := p2) (g := mVar 4) rfl) (ix2 (p := p3) (g := mVar 5) rfl)
  let R : En := [.v (.int n), .v N, .v L, .v (pd p), .v (pd p2), .v (pd p3), .v (.int (1 + m)), .v (.str x), .v (.str y), .v (.str z), .un]
  have s : ∀ {h : MS} {q}, h R = q → sSeq (sAsg (mVar 2) (bdSeq 3 (bdCons (setV 3) (bdCons (setV 4) (bdCons (setV 5) bdNil))))) (sSeq (sSet 6 (mBin addD (mC (.int 1)) (mMax (mCons (mBin ixD (mVar 3) (mC (.int 2))) (mCons (mBin ixD (mVar 4) (mC (.int 2))) (mCons (mBin ixD (mVar 5) (mC (.int 2))) mNil)))))) (sSeq (sSet 7 (mBin ixD (mVar 1) (mBin modD (mBin fdivD (mVar 0) (mC (.int 2))) (mC (.int 6))))) (sSeq (sSet 8 (mBin ixD (mVar 1) (mBin modD (mBin fdivD (mVar 0) (mC (.int 12))) (mC (.int 6))))) (sSeq (sSet 9 (mBin ixD (mVar 1) (mBin modD (mBin fdivD (mVar 0) (mC (.int 72))) (mC (.int 6))))) h)))) [.v (.int n), .v N, .v L, .un, .un, .un, .un, .un, .un, .un, .un] = q := fun {h q} e => by
    rw [seq_of (r' := [.v (.int n), .v N, .v L, .v (pd p), .v (pd p2), .v (pd p3), .un, .un, .un, .un, .un]) (by rfl)]
    refine seq_set (.int (1 + m)) (add_of con_of em) (by rfl) ?_
    refine seq_set (.str x) (bin_of (x := N) (y := .int (n / 2 % 6)) rfl (mod_of (fdiv_of rfl con_of (by decide)) con_of (by decide)) ex) (by rfl) ?_
    refine seq_set (.str y) (bin_of (x := N) (y := .int (n / 12 % 6)) rfl (mod_of (fdiv_of rfl con_of (by decide)) con_of (by decide)) ey) (by rfl) ?_
    refine seq_set (.str z) (bin_of (x := N) (y := .int (n / 72 % 6)) rfl (mod_of (fdiv_of rfl con_of (by decide)) con_of (by decide)) ez) (by rfl) e
  have cc : mBl (mBin eqA (mBin modD (mVar 0) (mC (.int 2))) (mC (.int 0))) R = some (decide (n % 2 = 0)) := bl_of (bin_of (mod_of rfl con_of (by decide)) con_of rfl)
  have len : ∀ l : Ws, (l.map D.str).length = l.length := fun l => List.length_map ..
  by_cases h2 : n % 2 = 0
  · refine ⟨⟨.tup [.str sIfW, p.x, p2.x, p3.x], [sIfW] ++ p.ws ++ p2.ws ++ p3.ws, 1 + m⟩, ⟨app_wk (app_wk (app_wk (one_wk ⟨by decide, by decide⟩) hp.wk) hp2.wk) hp3.wk, by simp only [List.length_append, List.length_cons, List.length_nil]; omega⟩, mk_rt (r' := R) ?_⟩
    show g__law_three [.v (.int n), .v N, .v L, .un, .un, .un, .un, .un, .un, .un, .un] = _
    unfold g__law_three
    refine s (seq_tt (cc.trans (by rw [decide_eq_true h2])) (ret_of ?_))
    refine tup_of (l := [.tup [.str sIfW, p.x, p2.x, p3.x], .lst (([sIfW] ++ p.ws ++ p2.ws ++ p3.ws).map D.str), .int (1 + m)]) ?_ (by show 3 ≤ 100; decide)
    refine cons_of (tup_of (cons_of con_of (cons_of (ix0 (p := p) rfl) (cons_of (ix0 (p := p2) rfl) (cons_of (ix0 (p := p3) rfl) nil_of)))) (by show 4 ≤ 100; decide)) (cons_of ?_ (cons_of rfl nil_of))
    rw [List.map_append, List.map_append, List.map_append]
    exact ladd (ladd (ladd (l := [.str sIfW]) (lstF_of (cons_of con_of nil_of) (by show 1 ≤ 100; decide)) (ix1 (p := p) rfl) (by simp only [List.length_cons, List.length_nil, len]; omega)) (ix1 (p := p2) rfl) (by simp only [List.length_append, List.length_cons, List.length_nil, len]; omega)) (ix1 (p := p3) rfl) (by simp only [List.length_append, List.length_cons, List.length_nil, len]; omega)
  · refine ⟨⟨.tup [.str sCase, p.x, .str x, .str y, p2.x, .str z, p3.x], [sCase] ++ p.ws ++ [x, y] ++ p2.ws ++ [z] ++ p3.ws, 1 + m⟩, ⟨app_wk (app_wk (app_wk (app_wk (app_wk (one_wk ⟨by decide, by decide⟩) hp.wk) (cons_wk wx (one_wk wy))) hp2.wk) (one_wk wz)) hp3.wk, by simp only [List.length_append, List.length_cons, List.length_nil]; omega⟩, mk_rt (r' := R.set 10 (.v (.tup [.str sCase, p.x, .str x, .str y, p2.x, .str z, p3.x]))) ?_⟩
    show g__law_three [.v (.int n), .v N, .v L, .un, .un, .un, .un, .un, .un, .un, .un] = _
    unfold g__law_three
    refine s (seq_ff (cc.trans (by rw [decide_eq_false h2])) ?_)
    refine seq_set (.tup [.str sCase, p.x, .str x, .str y, p2.x, .str z, p3.x]) ?_ (by rfl) (ret_of ?_)
    · exact tup_of (cons_of con_of (cons_of (ix0 (p := p) rfl) (cons_of rfl (cons_of rfl (cons_of (ix0 (p := p2) rfl) (cons_of rfl (cons_of (ix0 (p := p3) rfl) nil_of))))))) (by show 7 ≤ 100; decide)
    · refine tup_of (l := [.tup [.str sCase, p.x, .str x, .str y, p2.x, .str z, p3.x], .lst (([sCase] ++ p.ws ++ [x, y] ++ p2.ws ++ [z] ++ p3.ws).map D.str), .int (1 + m)]) (cons_of rfl (cons_of ?_ (cons_of rfl nil_of))) (by show 3 ≤ 100; decide)
      rw [List.map_append, List.map_append, List.map_append, List.map_append, List.map_append]
      exact ladd (ladd (ladd (ladd (ladd (lstF_of (l := [.str sCase]) (cons_of con_of nil_of) (by show 1 ≤ 100; decide)) (ix1 (p := p) rfl) (by simp only [List.length_append, List.length_cons, List.length_nil, len]; omega)) (lstF_of (cons_of rfl (cons_of rfl nil_of)) (by show 2 ≤ 100; decide)) (by simp only [List.length_append, List.length_cons, List.length_nil, len]; omega)) (ix1 (p := p2) rfl) (by simp only [List.length_append, List.length_cons, List.length_nil, len]; omega)) (lstF_of (cons_of rfl nil_of) (by show 1 ≤ 100; decide)) (by simp only [List.length_append, List.length_cons, List.length_nil, len]; omega)) (ix1 (p := p3) rfl) (by simp only [List.length_append, List.length_cons, List.length_nil, len]; omega)
theorem cut_back {α : Type} (a b : List α) {k : Int} (hk : k = -(b.length : Int)) (h0 : 0 < b.length) : cutL (a ++ b) (some k) none = b ∧ cutL (a ++ b) none (some k) = a := by
  subst hk
  have e : ∀ d, HT.sIx (a ++ b).length d (some (-(b.length : Int))) = a.length := fun d => by
    show (if -(b.length : Int) < 0 then (-(b.length : Int) + ((a ++ b).length : Int)).toNat else _) = _
    rw [if_pos (by omega), List.length_append]
    omega
  constructor
  · unfold cutL
    rw [e, HT.sIx_none, List.drop_left, List.length_append, Nat.add_sub_cancel_left, List.take_length]
  · unfold cutL
    rw [e, HT.sIx_none, List.drop_zero, Nat.sub_zero, List.take_left]
theorem at_back {α : Type} (a b : List α) (x : α) {k : Int} (hk : k = -((b.length : Int) + 1)) : atI (a ++ x :: b) k = some x := by
  have e : ixN (a ++ x :: b).length k = some a.length := by
    unfold ixN
    rw [if_neg (by omega), if_pos (by simp; omega)]
    congr 1
    simp
    omega
  unfold atI
  rw [e]
  simp
theorem comp_k : ∀ (hs : List Pi) (x : Sl), fre x → compL (setV 0) mTrue (mBin ixD (mVar 0) (mC (.int 2))) (hs.map pd) [x] = some ((hs.map Pi.k).map D.int)
  | [], x, _ => rfl
  | f :: hs, x, hx => by
    have ih := comp_k hs (.v (pd f)) trivial
    rw [List.map_cons, List.map_cons, List.map_cons]
    have e1 : setV 0 (pd f) [x] = some [.v (pd f)] := setV_fre (r := [x]) rfl hx
    have e2 : mBin ixD (mVar 0) (mC (.int 2)) [.v (pd f)] = some (.int f.k) := ix2 (p := f) rfl
    have e3 : mTrue [.v (pd f)] = some true := rfl
    unfold compL
    rw [e1, Option.bind_some, e3, Option.bind_some, if_pos rfl, e2, Option.bind_some, ih]; rfl
theorem ints_of : ∀ l : List Int, intsD (l.map D.int) = some l
  | [] => rfl
  | i :: l => by simp [intsD, ints_of l]
theorem cond_back {gs hs : List Pi} {k : Int} {r : En} (hv : mVar 0 r = some (.lst ((gs ++ hs).map pd))) (hk : -k = -(hs.length : Int)) (h0 : 0 < hs.length) (hl : hs.length < 100) :
    ∃ b, mBl (mBin ltA (mMaxL (mComp [] 1 (mIt (mSl (mVar 0) (oSome (mUn negD (mC (.int k)))) oNone)) (setV 0) (mBin ixD (mVar 0) (mC (.int 2))))) (mC (.int 30))) r = some b := by
  have sl : mIt (mSl (mVar 0) (oSome (mUn negD (mC (.int k)))) oNone) r = some (hs.map pd) := by
    have e : mSl (mVar 0) (oSome (mUn negD (mC (.int k)))) oNone r = some (.lst (hs.map pd)) := by
      refine sl_of hv (osome_of (neg_of con_of)) (by rfl) ?_
      show some (D.lst (cutL _ _ _)) = _
      rw [List.map_append, (cut_back (gs.map pd) (hs.map pd) (by rw [List.length_map]; exact hk) (by rw [List.length_map]; exact h0)).1]
    unfold mIt
    rw [e]; rfl
  have cm : mComp [] 1 (mIt (mSl (mVar 0) (oSome (mUn negD (mC (.int k)))) oNone)) (setV 0) (mBin ixD (mVar 0) (mC (.int 2))) r = some ((hs.map Pi.k).map D.int) := by
    unfold mComp mCompIf
    rw [sl, Option.bind_some, if_pos (by rw [List.length_map]; exact Nat.lt_of_lt_of_le hl (by decide))]
    show compL _ _ _ _ [.un] = _
    rw [comp_k hs .un trivial]
  obtain ⟨f, t, rfl⟩ : ∃ f t, hs = f :: t := by
    cases hs with
    | nil => simp at h0
    | cons f t => exact ⟨f, t, rfl⟩
  have mx : mMaxL (mComp [] 1 (mIt (mSl (mVar 0) (oSome (mUn negD (mC (.int k)))) oNone)) (setV 0) (mBin ixD (mVar 0) (mC (.int 2)))) r = some (.int ((t.map Pi.k).foldl max f.k)) := by
    unfold mMaxL
    rw [cm, Option.bind_some, ints_of]; rfl
  exact ⟨_, bl_of (bin_of mx con_of (d := .bl (decide ((t.map Pi.k).foldl max f.k < 30))) rfl)⟩
theorem and_of {c1 c2 : MB} {r : En} {a : Bool} (e1 : c1 r = some a) (e2 : a = true → ∃ b, c2 r = some b) : ∃ b, mAndT c1 c2 r = some b ∧ (b = true → a = true) := by
  cases a
  · exact ⟨false, by unfold mAndT; rw [e1]; rfl, fun h => by cases h⟩
  · obtain ⟨b, h⟩ := e2 rfl
    exact ⟨b, by unfold mAndT; rw [e1, Option.bind_some, if_pos rfl, h], fun _ => rfl⟩
theorem back_k {α : Type} (l : List α) (k : Nat) (h : k ≤ l.length) : ∃ a b, l = a ++ b ∧ b.length = k := ⟨l.take (l.length - k), l.drop (l.length - k), (List.take_append_drop _ _).symm, by rw [List.length_drop]; omega⟩
noncomputable def tw (fs : List Pi) : Nat := (fs.map fun f => f.ws.length).sum
theorem tw_app (a b : List Pi) : tw (a ++ b) = tw a + tw b := by simp [tw]
structure POk (fs : List Pi) (n m : Nat) : Prop where
  wk : ∀ f ∈ fs, ∀ w ∈ f.ws, Wk w
  tw : tw fs ≤ n
  len : fs.length ≤ m
theorem POk.put {gs hs : List Pi} {n m a : Nat} {q : Pi} (h : POk (gs ++ hs) n m) (hq : Gd q (K03.tw hs + a)) : POk (gs ++ [q]) (n + a) (m + 1) :=
  ⟨fun f hf => (List.mem_append.mp hf).elim (fun z => h.wk f (by simp [z])) fun z => by rw [List.mem_singleton.mp z]; exact hq.wk, by
    have := h.tw
    have := hq.len
    rw [tw_app] at *
    simp only [K03.tw, List.map_cons, List.map_nil, List.sum_cons, List.sum_nil] at *
    omega, by have := h.len; rw [List.length_append] at *; simp only [List.length_cons, List.length_nil]; omega⟩
theorem POk.gd {fs : List Pi} {n m : Nat} (h : POk fs n m) {f : Pi} (hf : f ∈ fs) : Gd f f.ws.length := ⟨h.wk f hf, Nat.le_refl _⟩
theorem grown_drawn {c k : Int} {ns : Ws} (hn : Nms ns) {fs : List Pi} {n0 m0 : Nat} (hf : POk fs n0 m0) (h1 : n0 ≤ 900) (h2 : m0 ≤ 900) : ∃ qs : List Pi, POk qs (n0 + 4) (m0 + 1) ∧ qs ≠ [] ∧ ∃ as, F__law_grown [.v (.lst (fs.map pd)), .v (.int c), .v (.int k), .v (.lst (ns.map D.str))] = some (.v (.lst (qs.map pd)), as) := by
  let N : D := .lst (ns.map D.str)
  let P : D := .lst (fs.map pd)
  obtain ⟨n, z1, hm⟩ := mixed_eq c (50 + k)
  obtain ⟨m, z2, hm2⟩ := mixed_eq c (250 + k)
  let R : En := [.v P, .v (.int c), .v (.int k), .v N, .v (.int n), .v (.int (m % 9))]
  have hlen := hf.len
  have htw := hf.tw
  have ln : mUn lenD (mVar 0) R = some (.int (fs.length : Int)) := un_of (x := P) rfl (by show some (D.int ((fs.map pd).length : Int)) = _; rw [List.length_map])
  have start : ∀ {h : MS} {z}, h R = z → sSeq (sSet 4 (mCall 2 F__law_mixed (mCons (mVar 1) (mCons (mBin addD (mC (.int 50)) (mVar 2)) mNil)))) (sSeq (sSet 5 (mBin modD (mCall 2 F__law_mixed (mCons (mVar 1) (mCons (mBin addD (mC (.int 250)) (mVar 2)) mNil))) (mC (.int 9)))) h) [.v P, .v (.int c), .v (.int k), .v N, .un, .un] = z := fun {h z} e => by
    refine seq_set (.int n) (call_of (p := .v (.int n)) (cons_of rfl (cons_of (add_of con_of rfl) nil_of)) rfl hm) (by rfl) ?_
    exact seq_set (.int (m % 9)) (mod_of (call_of (p := .v (.int m)) (cons_of rfl (cons_of (add_of con_of rfl) nil_of)) rfl hm2) con_of (by decide)) (by rfl) e
  have fin : ∀ (gs hs : List Pi) (q : Pi) (kk : Int) (e : ME), fs = gs ++ hs → 0 < hs.length → -kk = -(hs.length : Int) → e R = some (pd q) → mBin addD (mSl (mVar 0) oNone (oSome (mUn negD (mC (.int kk))))) (mOfF (mLstF (mCons e mNil))) R = some (.lst ((gs ++ [q]).map pd)) := fun gs hs q kk e e1 e2 e3 e5 => by
    have sl : mSl (mVar 0) oNone (oSome (mUn negD (mC (.int kk)))) R = some (.lst (gs.map pd)) := by
      refine sl_of (x := P) rfl (by rfl) (osome_of (neg_of con_of)) ?_
      show some (D.lst (cutL (fs.map pd) _ _)) = _
      rw [e1, List.map_append, (cut_back (gs.map pd) (hs.map pd) (by rw [List.length_map]; exact e3) (by rw [List.length_map]; exact e2)).2]
    rw [List.map_append]
    have : gs.length ≤ fs.length := by rw [e1]; simp
    exact ladd sl (lstF_of (l := [pd q]) (cons_of e5 nil_of) (by show 1 ≤ 100; decide)) (by simp only [List.length_map, List.length_cons, List.length_nil]; omega)
  have last : ∀ gs f, fs = gs ++ [f] → mBin ixD (mVar 0) (mUn negD (mC (.int 1))) R = some (pd f) := fun gs f e => by
    refine bin_of (x := P) (y := .int (-1)) rfl (neg_of con_of) ?_
    show atI (fs.map pd) (-1) = _
    rw [e, List.map_append]
    exact atI_last _ _
  have cond : ∀ (j : Nat) (i : Int) (c3 : MB), (j < fs.length → ∃ b, c3 R = some b) → ∃ b, mAndT (mBl (mBin gtD (mVar 5) (mC (.int i)))) (mAndT (mBl (mBin gtD (mUn lenD (mVar 0)) (mC (.int (j : Int))))) c3) R = some b ∧ (b = true → j < fs.length) := fun j i c3 h3 => by
    have g1 : mBl (mBin gtD (mUn lenD (mVar 0)) (mC (.int (j : Int)))) R = some (decide (j < fs.length)) := (gt_of ln con_of).trans (by congr 1; rw [decide_eq_decide]; omega)
    obtain ⟨b, e1, e2⟩ := and_of g1 (c2 := c3) (fun z => h3 (of_decide_eq_true z))
    obtain ⟨b', e3, e4⟩ := and_of (c1 := mBl (mBin gtD (mVar 5) (mC (.int i)))) (r := R) (gt_of rfl con_of) (fun _ => ⟨b, e1⟩)
    refine ⟨b', e3, fun hb => ?_⟩
    have hd := e4 hb
    have : b = true := by
      unfold mAndT at e3 e1
      rw [gt_of (f := mVar 5) (r := R) rfl con_of, hd, Option.bind_some, if_pos rfl] at e3
      rw [e1] at e3
      cases e3; exact hb
    exact of_decide_eq_true (e2 this)
  have back : ∀ (j : Nat), j < fs.length → ∃ gs hs, fs = gs ++ hs ∧ hs.length = j + 1 := fun j h => back_k fs (j + 1) h
  obtain ⟨b1, k1, p1⟩ := cond 2 6 _ fun h => by
    obtain ⟨gs, hs, e1, e2⟩ := back 2 h
    exact cond_back (gs := gs) (hs := hs) (k := 3) (r := R) (by rw [← e1]; rfl) (by rw [e2]; rfl) (by omega) (by omega)
  cases b1
  rotate_left
  · obtain ⟨gs, hs, e, e2⟩ := back 2 (p1 rfl)
    obtain ⟨f1, f2, f3, rfl⟩ : ∃ f1 f2 f3, hs = [f1, f2, f3] := by
      match hs, e2 with
      | [f1, f2, f3], _ => exact ⟨f1, f2, f3, rfl⟩
    have te : tw [f1, f2, f3] = f1.ws.length + f2.ws.length + f3.ws.length := by simp [tw]; omega
    have tle : tw [f1, f2, f3] ≤ tw fs := by rw [e, tw_app]; omega
    obtain ⟨q, gq, eq⟩ := three_drawn (n := n) hn (hf.gd (f := f1) (by rw [e]; simp)) (hf.gd (f := f2) (by rw [e]; simp)) (hf.gd (f := f3) (by rw [e]; simp)) (by omega)
    rw [← te] at gq
    refine ⟨gs ++ [q], POk.put (e ▸ hf) gq, by simp, mk_rt (r' := R) (start (seq_tt k1 (ret_of (fin gs [f1, f2, f3] q 3 _ e (by simp) rfl ?_))))⟩
    refine call_of (p := .v (pd q)) (cons_of rfl (cons_of rfl (cons_of (sl_of (x := P) (d := .lst [pd f1, pd f2, pd f3]) rfl (osome_of (neg_of con_of)) (by rfl) ?_) nil_of))) rfl eq
    show some (D.lst (cutL (fs.map pd) _ _)) = _
    rw [e, List.map_append, (cut_back (gs.map pd) ([f1, f2, f3].map pd) (k := -3) rfl (by simp)).1]; rfl
  obtain ⟨b2, k2, p2⟩ := cond 1 4 _ fun h => by
    obtain ⟨gs, hs, e1, e2⟩ := back 1 h
    exact cond_back (gs := gs) (hs := hs) (k := 2) (r := R) (by rw [← e1]; rfl) (by rw [e2]; rfl) (by omega) (by omega)
  cases b2
  rotate_left
  · obtain ⟨gs, hs, e, e2⟩ := back 1 (p2 rfl)
    obtain ⟨f1, f2, rfl⟩ : ∃ f1 f2, hs = [f1, f2] := by
      match hs, e2 with
      | [f1, f2], _ => exact ⟨f1, f2, rfl⟩
    have te : tw [f1, f2] = f1.ws.length + f2.ws.length := by simp [tw]
    have tle : tw [f1, f2] ≤ tw fs := by rw [e, tw_app]; omega
    obtain ⟨q, gq, eq⟩ := two_drawn (n := n) hn (hf.gd (f := f1) (by rw [e]; simp)) (hf.gd (f := f2) (by rw [e]; simp)) (by omega)
    rw [← te] at gq
    refine ⟨gs ++ [q], POk.put (e ▸ hf) ⟨gq.wk, Nat.le_trans gq.len (by omega)⟩, by simp, mk_rt (r' := R) (start (seq_ff k1 (seq_tt k2 (ret_of (fin gs [f1, f2] q 2 _ e (by simp) rfl ?_)))))⟩
    refine call_of (p := .v (pd q)) (cons_of rfl (cons_of rfl (cons_of (x := pd f1) (bin_of (x := P) (y := .int (-2)) rfl (neg_of con_of) ?_) (cons_of (last (gs ++ [f1]) f2 (by rw [e]; simp)) nil_of)))) rfl eq
    show atI (fs.map pd) (-2) = _
    rw [e, List.map_append]
    exact at_back (gs.map pd) [pd f2] (pd f1) rfl
  obtain ⟨b3, k3, p3⟩ := cond 0 2 (mBl (mBin ltA (mBin ixD (mBin ixD (mVar 0) (mUn negD (mC (.int 1)))) (mC (.int 2))) (mC (.int 30)))) fun h => by
    obtain ⟨gs, hs, e1, e2⟩ := back 0 h
    obtain ⟨f1, rfl⟩ : ∃ f1, hs = [f1] := by
      match hs, e2 with
      | [f1], _ => exact ⟨f1, rfl⟩
    exact ⟨_, bl_of (bin_of (ix2 (last gs f1 e1)) con_of (d := .bl (decide (f1.k < 30))) rfl)⟩
  cases b3
  rotate_left
  · obtain ⟨gs, hs, e, e2⟩ := back 0 (p3 rfl)
    obtain ⟨f1, rfl⟩ : ∃ f1, hs = [f1] := by
      match hs, e2 with
      | [f1], _ => exact ⟨f1, rfl⟩
    have te : tw [f1] = f1.ws.length := by simp [tw]
    have tle : tw [f1] ≤ tw fs := by rw [e, tw_app]; omega
    obtain ⟨q, gq, eq⟩ := one_drawn (n := n) hn (hf.gd (f := f1) (by rw [e]; simp)) (by omega)
    rw [← te] at gq
    refine ⟨gs ++ [q], POk.put (e ▸ hf) ⟨gq.wk, Nat.le_trans gq.len (by omega)⟩, by simp, mk_rt (r' := R) (start (seq_ff k1 (seq_ff k2 (seq_tt k3 (ret_of (fin gs [f1] q 1 _ e (by simp) rfl ?_))))))⟩
    exact call_of (p := .v (pd q)) (cons_of rfl (cons_of rfl (cons_of (last gs f1 e) nil_of))) rfl eq
  · obtain ⟨q, gq, eq⟩ := leaf_drawn (c := c) (n := n) hn
    refine ⟨fs ++ [q], POk.put (hs := []) (a := 4) (by simpa using hf) ⟨gq.wk, by have := gq.len; show _ ≤ 0 + 4; omega⟩, by simp, mk_rt (r' := R) (start (seq_ff k1 (seq_ff k2 (seq_ff k3 (ret_of ?_)))))⟩
    rw [List.map_append]
    refine ladd (l := fs.map pd) rfl (lstF_of (l := [pd q]) (cons_of (x := pd q) ?_ nil_of) (by show 1 ≤ 100; decide)) (by simp only [List.length_map, List.length_cons, List.length_nil]; omega)
    exact call_of (p := .v (pd q)) (cons_of rfl (cons_of rfl (cons_of rfl nil_of))) rfl eq
noncomputable def wA : Ws := [[100, 101, 102], [102, 110], [100, 111], [101, 109, 112, 116, 121], [103, 101, 116], [119, 105, 116, 104], [112, 117, 116], [108, 101, 115, 115], [116, 97, 103], [119, 105, 100, 101], [99, 97, 115, 101], [110, 101, 118, 101, 114], [105, 102], [43], [45]]
noncomputable def wB : Ws := [[42], [60], [], [48], [48, 48], [48, 55], [45, 49], [57, 57, 57, 57, 57, 57], [49, 48, 48, 48, 48, 48, 48], [97], [97, 98, 99, 100, 101, 102, 103, 104], [97, 98, 99, 100, 101, 102, 103, 104, 105], [65], [97, 66]]
noncomputable def wC : Ws := [[97, 49], [49, 97], [70, 110], [70, 78], [101, 109, 112, 116], [101, 109, 112, 116, 121, 115], [10], [97, 10], [9], [61], [43, 43]]
noncomputable def w40 : Ws := wA ++ wB ++ wC
theorem w40_wk : ∀ w ∈ w40, Wk w := fun w h => ⟨(by decide : ∀ w ∈ w40, w.length ≤ 10) w h, (by decide : ∀ w ∈ w40, ∀ c ∈ w, c < 128) w h⟩
theorem odd_drawn (n : Int) {ns : Ws} (hn : Nms ns) : ∃ w, Wk w ∧ ∃ as, F__law_odd [.v (.int n), .v (.lst (ns.map D.str))] = some (.v (.str w), as) := by
  have l46 : (w40 ++ ns).length = 46 := by rw [List.length_append, hn.len]; rfl
  obtain ⟨w, hw, ew⟩ := ix_lit (w40 ++ ns) (i := n % 46) (Int.emod_nonneg _ (by decide)) (by rw [l46]; exact Int.emod_lt_of_pos _ (by decide))
  refine ⟨w, app_wk w40_wk hn.wd w hw, mk_rt (r' := [.v (.int n), .v (.lst (ns.map D.str)), .v (.lst (w40.map D.str))]) ?_⟩
  show g__law_odd [.v (.int n), .v (.lst (ns.map D.str)), .un] = _
  unfold g__law_odd
  refine seq_set (r2 := [.v (.int n), .v (.lst (ns.map D.str)), .v (.lst (wA.map D.str))]) (.lst (wA.map D.str)) (lst_of (by decide)) rfl ?_
  refine seq_set (r2 := [.v (.int n), .v (.lst (ns.map D.str)), .v (.lst (wA.map D.str ++ wB.map D.str))]) (.lst (wA.map D.str ++ wB.map D.str)) (ladd (l := wA.map D.str) (m := wB.map D.str) rfl (lst_of (by decide)) (by rw [List.length_map, List.length_map]; decide)) rfl ?_
  refine seq_set (r2 := [.v (.int n), .v (.lst (ns.map D.str)), .v (.lst (w40.map D.str))]) (.lst (wA.map D.str ++ wB.map D.str ++ wC.map D.str)) (ladd (l := wA.map D.str ++ wB.map D.str) (m := wC.map D.str) rfl (lst_of (by decide)) (by rw [List.length_append, List.length_map, List.length_map, List.length_map]; decide)) rfl (ret_of ?_)
  refine bin_of (x := .lst ((w40 ++ ns).map D.str)) (y := .int (n % 46)) ?_ ?_ ew
  · rw [List.map_append]
    exact ladd (l := w40.map D.str) rfl rfl (by rw [List.length_map, List.length_map, hn.len]; decide)
  · have e : mBin addD (mUn lenD (mVar 2)) (mC (.int 6)) [.v (.int n), .v (.lst (ns.map D.str)), .v (.lst (w40.map D.str))] = some (.int 46) := add_of (i := 40) (un_of (x := .lst (w40.map D.str)) rfl rfl) con_of
    exact mod_of rfl e (by decide)
theorem cut_map {α β : Type} (f : α → β) (l : List α) (a b : Option Int) : cutL (l.map f) a b = (cutL l a b).map f := by
  unfold cutL
  rw [List.map_take, List.map_drop, List.length_map]
theorem cut_from {α : Type} (s : List α) (k : Nat) : cutL s (some (k : Int)) none = s.drop k := by
  unfold cutL
  rw [HT.sIx_nat, HT.sIx_none, List.take_of_length_le (by rw [List.length_drop]; exact Nat.le_refl _)]
  by_cases h : k ≤ s.length
  · rw [Nat.min_eq_left h]
  · rw [Nat.min_eq_right (by omega), List.drop_length, List.drop_of_length_le (by omega)]
theorem cut_wk {l : Ws} (h : ∀ x ∈ l, Wk x) (a b : Option Int) : ∀ x ∈ cutL l a b, Wk x := fun x hx => h x (cut_mem hx)
theorem rev_wk {l : Ws} (h : ∀ x ∈ l, Wk x) : ∀ x ∈ l.reverse, Wk x := fun x hx => h x (by simpa using hx)
theorem lsl_of {f : ME} {lo hi : MO} {r : En} {l : Ws} {a b : Option Int} (e1 : f r = some (.lst (l.map D.str))) (e2 : lo r = some a) (e3 : hi r = some b) : mSl f lo hi r = some (.lst ((cutL l a b).map D.str)) := sl_of e1 e2 e3 (by show some (D.lst (cutL (l.map D.str) a b)) = _; rw [cut_map])
theorem changed_drawn {ws ns : Ws} (n : Int) (hn : Nms ns) (hw : ∀ w ∈ ws, Wk w) (hl : ws.length ≤ 10000) : ∃ ws' : Ws, (∀ w ∈ ws', Wk w) ∧ ws'.length ≤ ws.length + 1 ∧ ∃ as, F__law_changed [.v (.lst (ws.map D.str)), .v (.int n), .v (.lst (ns.map D.str))] = some (.v (.lst (ws'.map D.str)), as) := by
  let P : D := .lst (ws.map D.str)
  let N : D := .lst (ns.map D.str)
  obtain ⟨j, hj, ej⟩ := nat_mod (n / 4) (ws.length + 1) (by omega)
  obtain ⟨o, wo, eo⟩ := odd_drawn (n / 2400) hn
  let R : En := [.v P, .v (.int n), .v N, .v (.int (j : Int)), .v (.str o)]
  have start : ∀ {h : MS} {z}, h R = z → sSeq (sSet 3 (mBin modD (mBin fdivD (mVar 1) (mC (.int 4))) (mBin addD (mUn lenD (mVar 0)) (mC (.int 1))))) (sSeq (sSet 4 (mCall 2 F__law_odd (mCons (mBin fdivD (mVar 1) (mC (.int 2400))) (mCons (mVar 2) mNil)))) h) [.v P, .v (.int n), .v N, .un, .un] = z := fun hz => by
    refine seq_set (r2 := [.v P, .v (.int n), .v N, .v (.int (j : Int)), .un]) (.int (j : Int)) ?_ rfl (seq_set (r2 := R) (.str o) (call_of (p := .v (.str o)) (cons_of (fdiv_of rfl con_of (by decide)) (cons_of rfl nil_of)) rfl eo) rfl hz)
    rw [← ej]
    have ln : mBin addD (mUn lenD (mVar 0)) (mC (.int 1)) [.v P, .v (.int n), .v N, .un, .un] = some (.int ((ws.length + 1 : Nat) : Int)) := add_of (i := (ws.length : Int)) (un_of (x := P) rfl (by show some (D.int ((ws.map D.str).length : Int)) = _; rw [List.length_map])) con_of
    exact mod_of (fdiv_of rfl con_of (by decide)) ln (by omega)
  have eqn : ∀ k : Int, mBl (mBin eqA (mBin modD (mVar 1) (mC (.int 4))) (mC (.int k))) R = some (decide (n % 4 = k)) := fun k => bl_of (bin_of (mod_of rfl con_of (by decide)) con_of rfl)
  have a0 : mSl (mVar 0) oNone (oSome (mVar 3)) R = some (.lst ((cutL ws none (some (j : Int))).map D.str)) := lsl_of rfl rfl (osome_of rfl)
  have a1 : mSl (mVar 0) (oSome (mVar 3)) oNone R = some (.lst ((cutL ws (some (j : Int)) none).map D.str)) := lsl_of rfl (osome_of rfl) rfl
  have a2 : ∀ k : Nat, mSl (mVar 0) (oSome (mBin addD (mVar 3) (mC (.int (k : Int))))) oNone R = some (.lst ((cutL ws (some ((j + k : Nat) : Int)) none).map D.str)) := fun k => lsl_of rfl (osome_of (by rw [Int.natCast_add]; exact add_of rfl con_of)) rfl
  have a3 : mSl (mVar 0) (oSome (mVar 3)) (oSome (mBin addD (mVar 3) (mC (.int 2)))) R = some (.lst ((cutL ws (some (j : Int)) (some ((j + 2 : Nat) : Int))).map D.str)) := lsl_of rfl (osome_of rfl) (osome_of (i := ((j + 2 : Nat) : Int)) (by rw [Int.natCast_add]; exact add_of rfl con_of))
  have od : mOfF (mLstF (mCons (mVar 4) mNil)) R = some (.lst ([o].map D.str)) := lstF_of (cons_of rfl nil_of) (by show 1 ≤ 100; decide)
  have k0 : (cutL ws none (some (j : Int))).length ≤ j := by rw [cut_to, List.length_take]; omega
  have k1 : (cutL ws (some (j : Int)) none).length = ws.length - j := by rw [cut_from, List.length_drop]
  have k2 : ∀ k : Nat, (cutL ws (some ((j + k : Nat) : Int)) none).length = ws.length - (j + k) := fun k => by rw [cut_from, List.length_drop]
  have k3 : (cutL ws (some (j : Int)) (some ((j + 2 : Nat) : Int))).length ≤ 2 ∧ (cutL ws (some (j : Int)) (some ((j + 2 : Nat) : Int))).length ≤ ws.length - j := by
    rw [cut_mid, List.length_drop, List.length_take]; omega
  have lm : ∀ l : Ws, (l.map D.str).length = l.length := fun l => List.length_map ..
  have fin : ∀ (l : Ws) (h : MS), (∀ w ∈ l, Wk w) → l.length ≤ ws.length + 1 → g__law_changed [.v P, .v (.int n), .v N, .un, .un] = some (.rt (.lst (l.map D.str)) R) → ∃ ws' : Ws, (∀ w ∈ ws', Wk w) ∧ ws'.length ≤ ws.length + 1 ∧ ∃ as, F__law_changed [.v P, .v (.int n), .v N] = some (.v (.lst (ws'.map D.str)), as) := fun l _ h1 h2 h3 => ⟨l, h1, h2, mk_rt (r' := R) h3⟩
  by_cases c0 : n % 4 = 0
  · refine fin (cutL ws none (some (j : Int)) ++ cutL ws (some ((j + 1 : Nat) : Int)) none) sSkip (app_wk (cut_wk hw _ _) (cut_wk hw _ _)) (by rw [List.length_append, k2]; omega) ?_
    unfold g__law_changed
    refine start (seq_tt ((eqn 0).trans (by rw [decide_eq_true c0])) (ret_of ?_))
    rw [List.map_append]
    exact ladd a0 (a2 1) (by rw [lm, lm, k2]; omega)
  · by_cases c1 : n % 4 = 1
    · refine fin (cutL ws none (some (j : Int)) ++ [o] ++ cutL ws (some (j : Int)) none) sSkip (app_wk (app_wk (cut_wk hw _ _) (one_wk wo)) (cut_wk hw _ _)) (by rw [List.length_append, List.length_append, k1]; simp only [List.length_cons, List.length_nil]; omega) ?_
      unfold g__law_changed
      refine start (seq_ff ((eqn 0).trans (by rw [decide_eq_false c0])) (seq_tt ((eqn 1).trans (by rw [decide_eq_true c1])) (ret_of ?_)))
      rw [List.map_append, List.map_append]
      exact ladd (ladd a0 od (by rw [lm, lm]; simp only [List.length_cons, List.length_nil]; omega)) a1 (by rw [List.length_append, lm, lm, lm, k1]; simp only [List.length_cons, List.length_nil]; omega)
    · by_cases c2 : n % 4 = 2
      · refine fin (cutL ws none (some (j : Int)) ++ [o] ++ cutL ws (some ((j + 1 : Nat) : Int)) none) sSkip (app_wk (app_wk (cut_wk hw _ _) (one_wk wo)) (cut_wk hw _ _)) (by rw [List.length_append, List.length_append, k2]; simp only [List.length_cons, List.length_nil]; omega) ?_
        unfold g__law_changed
        refine start (seq_ff ((eqn 0).trans (by rw [decide_eq_false c0])) (seq_ff ((eqn 1).trans (by rw [decide_eq_false c1])) (seq_tt ((eqn 2).trans (by rw [decide_eq_true c2])) (ret_of ?_))))
        rw [List.map_append, List.map_append]
        exact ladd (ladd a0 od (by rw [lm, lm]; simp only [List.length_cons, List.length_nil]; omega)) (a2 1) (by rw [List.length_append, lm, lm, lm, k2]; simp only [List.length_cons, List.length_nil]; omega)
      · have rv : mOfF (mRevL (mAsL (mSl (mVar 0) (oSome (mVar 3)) (oSome (mBin addD (mVar 3) (mC (.int 2))))))) R = some (.lst ((cutL ws (some (j : Int)) (some ((j + 2 : Nat) : Int))).reverse.map D.str)) := by
          unfold mOfF mRevL mAsL
          rw [a3]
          show some (D.lst ((cutL ws (some (j : Int)) (some ((j + 2 : Nat) : Int))).map D.str).reverse) = _
          rw [List.map_reverse]
        refine fin (cutL ws none (some (j : Int)) ++ (cutL ws (some (j : Int)) (some ((j + 2 : Nat) : Int))).reverse ++ cutL ws (some ((j + 2 : Nat) : Int)) none) sSkip (app_wk (app_wk (cut_wk hw _ _) (rev_wk (cut_wk hw _ _))) (cut_wk hw _ _)) (by rw [List.length_append, List.length_append, List.length_reverse, k2]; omega) ?_
        unfold g__law_changed
        refine start (seq_ff ((eqn 0).trans (by rw [decide_eq_false c0])) (seq_ff ((eqn 1).trans (by rw [decide_eq_false c1])) (seq_ff ((eqn 2).trans (by rw [decide_eq_false c2])) (ret_of ?_))))
        rw [List.map_append, List.map_append]
        exact ladd (ladd a0 rv (by rw [lm, lm, List.length_reverse]; omega)) (a2 2) (by rw [List.length_append, lm, lm, lm, List.length_reverse, k2]; omega)
theorem cell_eq (ns : List Int) (k : Nat) : ∃ c : Int, ∃ as, F__law_cell [.v (.lst (ns.map .int)), .v (.int (k : Int))] = some (.v (.int c), as) := by
  have ln : mUn lenD (mVar 0) [.v (.lst (ns.map .int)), .v (.int (k : Int))] = some (.int (ns.length : Int)) := un_of (x := .lst (ns.map .int)) rfl (by show some (D.int ((ns.map D.int).length : Int)) = _; rw [List.length_map])
  have c0 : mBl (mBin ltA (mVar 1) (mUn lenD (mVar 0))) [.v (.lst (ns.map .int)), .v (.int (k : Int))] = some (decide (k < ns.length)) := (bl_of (bin_of (x := .int (k : Int)) rfl ln (d := .bl (decide ((k : Int) < (ns.length : Int)))) rfl)).trans (by congr 1; rw [decide_eq_decide]; omega)
  by_cases h : k < ns.length
  · refine ⟨ns[k], mk_rt (r' := [.v (.lst (ns.map .int)), .v (.int (k : Int))]) (seq_tt (c0.trans (by rw [decide_eq_true h])) (ret_of (bin_of (x := .lst (ns.map .int)) rfl rfl ?_)))⟩
    exact atI_nat (by simp [h])
  · exact ⟨0, mk_rt (r' := [.v (.lst (ns.map .int)), .v (.int (k : Int))]) (seq_ff (c0.trans (by rw [decide_eq_false h])) (ret_of con_of))⟩
noncomputable def bodyR : MS := (sSet 3 (mCall 4 F__law_grown (mCons (mVar 3) (mCons (mVar 5) (mCons (mVar 4) (mCons (mVar 2) mNil))))))
theorem grow_loop (S F : D) {ns : Ws} (hn : Nms ns) : ∀ (l : List (Int × Nat)) (fs : List Pi) (n m : Nat) (x4 x5 : Sl), POk fs n m → fs ≠ [] → n + 4 * l.length ≤ 900 → m + l.length ≤ 900 → fre x4 → fre x5 →
    ∃ qs y4 y5, POk qs (n + 4 * l.length) (m + l.length) ∧ qs ≠ [] ∧ fre y4 ∧ forL (bdSeq 2 (bdCons (setV 4) (bdCons (setV 5) bdNil))) bodyR (l.map fun p => .tup [.int (p.2 : Int), .int p.1]) [.v S, .v F, .v (.lst (ns.map D.str)), .v (.lst (fs.map pd)), x4, x5, .un, .un, .un, .un] = some (.nx [.v S, .v F, .v (.lst (ns.map D.str)), .v (.lst (qs.map pd)), y4, y5, .un, .un, .un, .un])
  | [], fs, n, m, x4, x5, hf, h0, _, _, h4, h5 => ⟨fs, x4, x5, by simpa using hf, h0, h4, rfl⟩
  | (c, k) :: l, fs, n, m, x4, x5, hf, h0, hl, hm, h4, h5 => by
    rw [List.length_cons] at hl hm
    obtain ⟨qs, hq, q0, eq⟩ := grown_drawn (c := c) (k := (k : Int)) hn hf (by omega) (by omega)
    obtain ⟨rs, y4, y5, hr, r0, f4, er⟩ := grow_loop S F hn l qs (n + 4) (m + 1) (.v (.int (k : Int))) (.v (.int c)) hq q0 (by omega) (by omega) trivial trivial
    refine ⟨rs, y4, y5, ⟨hr.wk, by have := hr.tw; rw [List.length_cons]; omega, by have := hr.len; rw [List.length_cons]; omega⟩, r0, f4, ?_⟩
    have b : bdSeq 2 (bdCons (setV 4) (bdCons (setV 5) bdNil)) (.tup [.int (k : Int), .int c]) [.v S, .v F, .v (.lst (ns.map D.str)), .v (.lst (fs.map pd)), x4, x5, .un, .un, .un, .un] = some [.v S, .v F, .v (.lst (ns.map D.str)), .v (.lst (fs.map pd)), .v (.int (k : Int)), .v (.int c), .un, .un, .un, .un] := bdP (r1 := [.v S, .v F, .v (.lst (ns.map D.str)), .v (.lst (fs.map pd)), .v (.int (k : Int)), x5, .un, .un, .un, .un]) (setV_fre (x := x4) rfl h4) (setV_fre (x := x5) rfl h5)
    have g : bodyR [.v S, .v F, .v (.lst (ns.map D.str)), .v (.lst (fs.map pd)), .v (.int (k : Int)), .v (.int c), .un, .un, .un, .un] = some (.nx [.v S, .v F, .v (.lst (ns.map D.str)), .v (.lst (qs.map pd)), .v (.int (k : Int)), .v (.int c), .un, .un, .un, .un]) := sSet_of (call_of (p := .v (.lst (qs.map pd))) (cons_of rfl (cons_of rfl (cons_of rfl (cons_of rfl nil_of)))) rfl eq) rfl
    rw [List.map_cons, for_go b g]
    exact er
noncomputable def bodyC : MS := (sSet 6 (mCall 3 F__law_changed (mCons (mVar 6) (mCons (mCall 2 F__law_mixed (mCons (mCall 2 F__law_cell (mCons (mVar 0) (mCons (mC (.int 2)) mNil))) (mCons (mBin addD (mC (.int 910)) (mVar 4)) mNil))) (mCons (mVar 2) mNil)))))
theorem change_loop (sc : List Int) (F P : D) (y5 : Sl) {ns : Ws} (hn : Nms ns) : ∀ (L : List Int) (ws : Ws) (x4 : Sl), (∀ w ∈ ws, Wk w) → ws.length + L.length ≤ 1000 → fre x4 →
    ∃ ws' : Ws, ∃ y4, (∀ w ∈ ws', Wk w) ∧ ws'.length ≤ ws.length + L.length ∧ forL (setV 4) bodyC (L.map D.int) [.v (.lst (sc.map .int)), .v F, .v (.lst (ns.map D.str)), .v P, x4, y5, .v (.lst (ws.map D.str)), .un, .un, .un] = some (.nx [.v (.lst (sc.map .int)), .v F, .v (.lst (ns.map D.str)), .v P, y4, y5, .v (.lst (ws'.map D.str)), .un, .un, .un])
  | [], ws, x4, hw, _, _ => ⟨ws, x4, hw, by simp, rfl⟩
  | k :: L, ws, x4, hw, hl, h4 => by
    rw [List.length_cons] at hl
    obtain ⟨c, ec⟩ := cell_eq sc 2
    obtain ⟨n, n0, en⟩ := mixed_eq c (910 + k)
    obtain ⟨ws1, w1, l1, e1⟩ := changed_drawn n hn hw (by omega)
    obtain ⟨ws2, y4, w2, l2, e2⟩ := change_loop sc F P y5 hn L ws1 (.v (.int k)) w1 (by omega) trivial
    refine ⟨ws2, y4, w2, by rw [List.length_cons]; omega, ?_⟩
    have u : setV 4 (.int k) [.v (.lst (sc.map .int)), .v F, .v (.lst (ns.map D.str)), .v P, x4, y5, .v (.lst (ws.map D.str)), .un, .un, .un] = some [.v (.lst (sc.map .int)), .v F, .v (.lst (ns.map D.str)), .v P, .v (.int k), y5, .v (.lst (ws.map D.str)), .un, .un, .un] := setV_fre (x := x4) rfl h4
    have g : bodyC [.v (.lst (sc.map .int)), .v F, .v (.lst (ns.map D.str)), .v P, .v (.int k), y5, .v (.lst (ws.map D.str)), .un, .un, .un] = some (.nx [.v (.lst (sc.map .int)), .v F, .v (.lst (ns.map D.str)), .v P, .v (.int k), y5, .v (.lst (ws1.map D.str)), .un, .un, .un]) := by
      refine sSet_of (call_of (p := .v (.lst (ws1.map D.str))) (cons_of rfl (cons_of (call_of (p := .v (.int n)) (cons_of (call_of (p := .v (.int c)) (cons_of rfl (cons_of con_of nil_of)) rfl ec) (cons_of (add_of con_of rfl) nil_of)) rfl en) (cons_of rfl nil_of))) rfl e1) rfl
    rw [List.map_cons, for_go u g]
    exact e2
theorem rep_wk {l : Ws} (h : ∀ x ∈ l, Wk x) (n : Nat) : ∀ x ∈ repL n l, Wk x := fun x hx => by
  unfold repL at hx
  obtain ⟨m, hm, hx⟩ := List.mem_flatten.mp hx
  exact h x ((List.mem_replicate.mp hm).2 ▸ hx)
theorem rep_map (n : Nat) (l : Ws) : repL n (l.map D.str) = (repL n l).map D.str := by
  unfold repL
  rw [List.map_flatten, List.map_replicate]
theorem mul_list {f : ME} {fl : ML} {r : En} {l : Ws} {n : Nat} (e1 : fl r = some (l.map D.str)) (e2 : f r = some (.int (n : Int))) (h : n ≤ 1000) (hl : l.length ≤ 1000) : mOfF (mMulL fl f) r = some (.lst ((repL n l).map D.str)) := by
  unfold mOfF mMulL
  rw [e1, Option.bind_some, e2]
  show (if (0 : Int) ≤ (n : Int) ∧ (n : Int) ≤ 1000 ∧ (l.map D.str).length ≤ 1000 then some (repL (n : Int).toNat (l.map D.str)) else none).map D.lst = _
  rw [if_pos ⟨by omega, by omega, by rw [List.length_map]; exact hl⟩, Int.toNat_natCast, rep_map]; rfl
theorem joinC_len (c : Nat) : ∀ ws : Ws, (joinC [c] ws).length ≤ (ws.map List.length).sum + ws.length
  | [] => by simp [joinC]
  | [s] => by simp [joinC]
  | s :: t :: r => by
    have ih := joinC_len c (t :: r)
    show (s ++ [c] ++ joinC [c] (t :: r)).length ≤ _
    simp at ih ⊢
    omega
theorem join_sub (c : Nat) : ∀ (ws : Ws) (x : Nat), x ∈ joinC [c] ws → x = c ∨ ∃ w ∈ ws, x ∈ w
  | [], x, h => by simp [joinC] at h
  | [s], x, h => .inr ⟨s, by simp, h⟩
  | s :: t :: r, x, h => by
    have e : joinC [c] (s :: t :: r) = s ++ [c] ++ joinC [c] (t :: r) := rfl
    rw [e, List.mem_append, List.mem_append, List.mem_singleton] at h
    rcases h with (h | h) | h
    · exact .inr ⟨s, by simp, h⟩
    · exact .inl h
    · rcases join_sub c (t :: r) x h with h | ⟨w, hw, h⟩
      · exact .inl h
      · exact .inr ⟨w, by simp at hw ⊢; exact .inr hw, h⟩
theorem sum_wk : ∀ {ws : Ws}, (∀ w ∈ ws, Wk w) → (ws.map List.length).sum ≤ 10 * ws.length
  | [], _ => by simp
  | w :: ws, h => by
    have ih := sum_wk (ws := ws) fun x hx => h x (by simp [hx])
    have := (h w (by simp)).len
    rw [List.map_cons, List.sum_cons, List.length_cons]; omega
theorem join_tx {ws : Ws} (h : ∀ w ∈ ws, Wk w) (hl : ws.length ≤ 1000) : Tx 11000 (joinC [32] ws) := by
  have a := joinC_len 32 ws
  have b := sum_wk h
  refine ⟨by omega, fun c hc => ?_⟩
  rcases join_sub 32 ws c hc with rfl | ⟨w, hw, hc⟩
  · decide
  · exact (h w hw).sm c hc
theorem join_of {f : ME} {fl : ML} {r : En} {sep : List Nat} {l : Ws} (e1 : f r = some (.str sep)) (e2 : fl r = some (l.map D.str)) (h : (l.map List.length).sum + l.length * sep.length ≤ 16777216) : mJoin f fl r = some (.str (joinC sep l)) := by
  unfold mJoin; rw [e1, Option.bind_some]; show (fl r).bind _ = _; rw [e2, Option.bind_some, strs_of, Option.bind_some, if_pos h]
theorem str_addL {s t : List Nat} (h : s.length + t.length ≤ 100000) : addD (.str s) (.str t) = some (.str (s ++ t)) := if_pos (Nat.le_trans h (by decide))
noncomputable def lawEnd : MS := (sSeq (sSet 9 (mBin ixD (mOfF (mLstF (mCons (mC (.str [114, 101, 102, 117, 115, 101, 100])) (mCons (mC (.str [114, 101, 97, 100])) mNil)))) (mUn intBD (mCall 1 F__law_good (mCons (mOfF (mSplit (mVar 7) (mC (.str [32])))) mNil)))))
 (sRet (mAnd (mBin eqA (mCall 1 F__law_refused (mCons (mVar 7) mNil)) (mVar 9)) (mBin eqA (mCall 1 F__law_refused (mCons (mVar 7) mNil)) (mVar 9)))))
theorem end_eq {r : En} {t : List Nat} (h : Tx 99999 t) (h7 : r[7]? = some (.v (.str t))) (h9 : r[9]? = some .un) (hl : r.length = 10) : ∃ r', lawEnd r = some (.rt (.bl true) r') := by
  let W := splitS t [32]
  have hW : WOk W := split_ok h
  let due : List Nat := if goodB W = true then sRead else sRef
  have sp : mOfF (mSplit (mVar 7) (mC (.str [32]))) r = some (.lst (W.map D.str)) := by
    have q : mSplit (mVar 7) (mC (.str [32])) r = some (W.map D.str) := by
      unfold mSplit
      rw [var_of h7, Option.bind_some]
      show (if ([32] : List Nat).length ≠ 0 ∧ t.length < sizeLine then some ((splitS t [32]).map D.str) else none) = _
      rw [if_pos ⟨by decide, Nat.lt_of_le_of_lt h.len (by decide)⟩]
    unfold mOfF
    rw [q]; rfl
  have gd : mCall 1 F__law_good (mCons (mOfF (mSplit (mVar 7) (mC (.str [32])))) mNil) r = some (.bl (goodB W)) := call_of (p := .v (.bl _)) (cons_of sp nil_of) rfl (good_eq hW)
  have ib : mUn intBD (mCall 1 F__law_good (mCons (mOfF (mSplit (mVar 7) (mC (.str [32])))) mNil)) r = some (.int (if goodB W = true then 1 else 0)) := un_of gd (by cases goodB W <;> rfl)
  have dx : mBin ixD (mOfF (mLstF (mCons (mC (.str [114, 101, 102, 117, 115, 101, 100])) (mCons (mC (.str [114, 101, 97, 100])) mNil)))) (mUn intBD (mCall 1 F__law_good (mCons (mOfF (mSplit (mVar 7) (mC (.str [32])))) mNil))) r = some (.str due) := by
    refine bin_of (x := .lst [.str sRef, .str sRead]) (lstF_of (cons_of con_of (cons_of con_of nil_of)) (by show 2 ≤ 100; decide)) ib ?_
    show atI [D.str sRef, D.str sRead] (if goodB W = true then 1 else 0) = _
    show _ = some (D.str (if goodB W = true then sRead else sRef))
    cases goodB W <;> rfl
  have u : setV 9 (.str due) r = some (r.set 9 (.v (.str due))) := setV_fre (x := .un) h9 trivial
  have g7 : (r.set 9 (.v (.str due)))[7]? = some (.v (.str t)) := by rw [get_set_ne (by decide)]; exact h7
  have g9 : (r.set 9 (.v (.str due)))[9]? = some (.v (.str due)) := get_set_eq (by omega)
  have rf : mCall 1 F__law_refused (mCons (mVar 7) mNil) (r.set 9 (.v (.str due))) = some (.str due) := call_of (p := .v (.str _)) (cons_of (var_of g7) nil_of) rfl (refused_eq h)
  have eq : mBin eqA (mCall 1 F__law_refused (mCons (mVar 7) mNil)) (mVar 9) (r.set 9 (.v (.str due))) = some (.bl true) := bin_of rf (var_of g9) (by show some (D.bl (decide (due = due))) = _; rw [decide_eq_true rfl])
  exact ⟨r.set 9 (.v (.str due)), seq_set _ dx u (ret_of (and_bb (a := true) (b := true) eq fun _ => eq))⟩
noncomputable def bodyB : MS := (sIf (mBl (mBin eqA (mBin modD (mBin fdivD (mVar 1) (mC (.int 48))) (mC (.int 8))) (mC (.int 0))))
 (sSeq (sSet 8 (mBin modD (mBin fdivD (mVar 1) (mC (.int 400))) (mBin addD (mUn lenD (mVar 7)) (mC (.int 1)))))
 (sSet 7 (mBin addD (mBin addD (mSl (mVar 7) oNone (oSome (mVar 8))) (mC (.str [32]))) (mSl (mVar 7) (oSome (mVar 8)) oNone))))
 sSkip)
noncomputable def tailT : MS := (sSeq (sSet 7 (mJoin (mC (.str [32])) (mAsL (mVar 6))))
 (sSeq bodyB
 lawEnd))
theorem text_eq (S N P : D) (F : Int) (y4 y5 : Sl) {ws : Ws} (hw : ∀ w ∈ ws, Wk w) (hl : ws.length ≤ 1000) : ∃ r', tailT [.v S, .v (.int F), .v N, .v P, y4, y5, .v (.lst (ws.map D.str)), .un, .un, .un] = some (.rt (.bl true) r') := by
  let t := joinC [32] ws
  have ht : Tx 11000 t := join_tx hw hl
  let R7 : En := [.v S, .v (.int F), .v N, .v P, y4, y5, .v (.lst (ws.map D.str)), .v (.str t), .un, .un]
  have jn : mJoin (mC (.str [32])) (mAsL (mVar 6)) [.v S, .v (.int F), .v N, .v P, y4, y5, .v (.lst (ws.map D.str)), .un, .un, .un] = some (.str t) := join_of con_of rfl (by have := sum_wk hw; show _ + ws.length * 1 ≤ _; omega)
  have c : mBl (mBin eqA (mBin modD (mBin fdivD (mVar 1) (mC (.int 48))) (mC (.int 8))) (mC (.int 0))) R7 = some (decide (F / 48 % 8 = 0)) := bl_of (bin_of (mod_of (fdiv_of rfl con_of (by decide)) con_of (by decide)) con_of rfl)
  by_cases h : F / 48 % 8 = 0
  · obtain ⟨j, hj, ej⟩ := nat_mod (F / 400) (t.length + 1) (by omega)
    let R8 : En := [.v S, .v (.int F), .v N, .v P, y4, y5, .v (.lst (ws.map D.str)), .v (.str t), .v (.int (j : Int)), .un]
    let u := cutL t none (some (j : Int)) ++ [32] ++ cutL t (some (j : Int)) none
    have tu : Tx 22001 u := ((ht.cut _ _).app (m := 1) (t := [32]) ⟨by decide, by decide⟩).app (ht.cut _ _)
    let R9 : En := [.v S, .v (.int F), .v N, .v P, y4, y5, .v (.lst (ws.map D.str)), .v (.str u), .v (.int (j : Int)), .un]
    obtain ⟨r', e⟩ := end_eq (r := R9) (t := u) (tu.le (by decide)) rfl rfl rfl
    refine ⟨r', seq_set (r2 := R7) (.str t) jn rfl ?_⟩
    have at' : mBin modD (mBin fdivD (mVar 1) (mC (.int 400))) (mBin addD (mUn lenD (mVar 7)) (mC (.int 1))) R7 = some (.int (j : Int)) := by
      rw [← ej]
      exact mod_of (j := ((t.length + 1 : Nat) : Int)) (fdiv_of rfl con_of (by decide)) (add_of (i := (t.length : Int)) (len_of (s := t) rfl (Nat.le_trans ht.len (by decide))) con_of) (by omega)
    have a0 : mSl (mVar 7) oNone (oSome (mVar 8)) R8 = some (.str (cutL t none (some (j : Int)))) := sl_of (x := .str t) rfl rfl (osome_of rfl) (sl_str (Nat.le_trans ht.len (by decide)))
    have a1 : mSl (mVar 7) (oSome (mVar 8)) oNone R8 = some (.str (cutL t (some (j : Int)) none)) := sl_of (x := .str t) rfl (osome_of rfl) rfl (sl_str (Nat.le_trans ht.len (by decide)))
    have l0 := (ht.cut none (some (j : Int))).len
    have l1 := (ht.cut (some (j : Int)) none).len
    have ad : mBin addD (mBin addD (mSl (mVar 7) oNone (oSome (mVar 8))) (mC (.str [32]))) (mSl (mVar 7) (oSome (mVar 8)) oNone) R8 = some (.str u) := bin_of (bin_of a0 con_of (str_addL (by show _ + 1 ≤ _; omega))) a1 (str_addL (by rw [List.length_append]; show _ + 1 + _ ≤ _; omega))
    have body : bodyB R7 = some (.nx R9) := (sIf_t (c.trans (by rw [decide_eq_true h]))).trans (seq_set (r2 := R8) (.int (j : Int)) at' rfl (sSet_of (r2 := R9) ad rfl))
    exact (seq_of body).trans e
  · obtain ⟨r', e⟩ := end_eq (r := R7) (t := t) (ht.le (by decide)) rfl rfl rfl
    refine ⟨r', seq_set (r2 := R7) (.str t) jn rfl ?_⟩
    have body : bodyB R7 = some (.nx R7) := (sIf_f (c.trans (by rw [decide_eq_false h]))).trans rfl
    exact (seq_of body).trans e
noncomputable def bodyP : MS := (sIf (mBl (mBin eqA (mBin modD (mVar 1) (mC (.int 3))) (mC (.int 0))))
 (sSet 6 (mBin addD (mBin addD (mBin addD (mOfF (mMulL (mLstF (mCons (mC (.str [110, 101, 118, 101, 114])) mNil)) (mBin addD (mBin modD (mBin fdivD (mVar 1) (mC (.int 3))) (mC (.int 4))) (mC (.int 1))))) (mOfF (mMulL (mLstF (mLit [[110, 101, 118, 101, 114], [116, 97, 103], [97]])) (mC (.int 13))))) (mOfF (mLstF (mCons (mC (.str [110, 101, 118, 101, 114])) mNil)))) (mVar 6)))
 sSkip)
noncomputable def w3 : Ws := [[110, 101, 118, 101, 114], [116, 97, 103], [97]]
noncomputable def w1 : Ws := [[110, 101, 118, 101, 114]]
theorem w3_wk : ∀ w ∈ w3, Wk w := fun w h => ⟨(by decide : ∀ w ∈ w3, w.length ≤ 10) w h, (by decide : ∀ w ∈ w3, ∀ c ∈ w, c < 128) w h⟩
theorem w1_wk : ∀ w ∈ w1, Wk w := fun w h => ⟨(by decide : ∀ w ∈ w1, w.length ≤ 10) w h, (by decide : ∀ w ∈ w1, ∀ c ∈ w, c < 128) w h⟩
theorem rep_len (n : Nat) (l : Ws) : (repL n l).length = n * l.length := by
  unfold repL
  rw [List.length_flatten, List.map_replicate]
  induction n with
  | zero => simp
  | succ n ih => rw [List.replicate_succ, List.sum_cons, ih, Nat.succ_mul]; omega
theorem front_eq (S N P : D) (F : Int) (y4 y5 : Sl) {ws : Ws} (hw : ∀ w ∈ ws, Wk w) (hl : ws.length ≤ 900) : ∃ ws' : Ws, (∀ w ∈ ws', Wk w) ∧ ws'.length ≤ ws.length + 44 ∧ bodyP [.v S, .v (.int F), .v N, .v P, y4, y5, .v (.lst (ws.map D.str)), .un, .un, .un] = some (.nx [.v S, .v (.int F), .v N, .v P, y4, y5, .v (.lst (ws'.map D.str)), .un, .un, .un]) := by
  let R : En := [.v S, .v (.int F), .v N, .v P, y4, y5, .v (.lst (ws.map D.str)), .un, .un, .un]
  have c : mBl (mBin eqA (mBin modD (mVar 1) (mC (.int 3))) (mC (.int 0))) R = some (decide (F % 3 = 0)) := bl_of (bin_of (mod_of rfl con_of (by decide)) con_of rfl)
  by_cases h : F % 3 = 0
  · obtain ⟨k, hk, ek⟩ := nat_mod (F / 3) 4 (by decide)
    have hk' : ((k + 1 : Nat) : Int) = (k : Int) + 1 := Int.natCast_add k 1
    have e1 : mBin addD (mBin modD (mBin fdivD (mVar 1) (mC (.int 3))) (mC (.int 4))) (mC (.int 1)) R = some (.int ((k + 1 : Nat) : Int)) := by
      rw [hk', ← ek]
      exact add_of (mod_of (fdiv_of rfl con_of (by decide)) con_of (by decide)) con_of
    have m1 : mOfF (mMulL (mLstF (mCons (mC (.str [110, 101, 118, 101, 114])) mNil)) (mBin addD (mBin modD (mBin fdivD (mVar 1) (mC (.int 3))) (mC (.int 4))) (mC (.int 1)))) R = some (.lst ((repL (k + 1) w1).map D.str)) := mul_list (l := w1) rfl e1 (by omega) (by decide)
    have m2 : mOfF (mMulL (mLstF (mLit [[110, 101, 118, 101, 114], [116, 97, 103], [97]])) (mC (.int 13))) R = some (.lst ((repL 13 w3).map D.str)) := mul_list (l := w3) (n := 13) rfl con_of (by decide) (by decide)
    have m3 : mOfF (mLstF (mCons (mC (.str [110, 101, 118, 101, 114])) mNil)) R = some (.lst (w1.map D.str)) := lstF_of (cons_of con_of nil_of) (by show 1 ≤ 100; decide)
    have q1 : (repL (k + 1) w1).length = k + 1 := by rw [rep_len]; exact Nat.mul_one _
    have q2 : (repL 13 w3).length = 39 := by rw [rep_len]; rfl
    have q3 : w1.length = 1 := rfl
    have lm : ∀ l : Ws, (l.map D.str).length = l.length := fun l => List.length_map ..
    refine ⟨repL (k + 1) w1 ++ repL 13 w3 ++ w1 ++ ws, app_wk (app_wk (app_wk (rep_wk w1_wk _) (rep_wk w3_wk _)) w1_wk) hw, by rw [List.length_append, List.length_append, List.length_append, q1, q2, q3]; omega, ?_⟩
    refine (sIf_t (c.trans (by rw [decide_eq_true h]))).trans (sSet_of (r2 := [.v S, .v (.int F), .v N, .v P, y4, y5, .v (.lst ((repL (k + 1) w1 ++ repL 13 w3 ++ w1 ++ ws).map D.str)), .un, .un, .un]) ?_ rfl)
    rw [List.map_append, List.map_append, List.map_append]
    exact ladd (ladd (ladd m1 m2 (by rw [lm, lm, q1, q2]; omega)) m3 (by rw [List.length_append, lm, lm, lm, q1, q2, q3]; omega)) (r := R) (m := ws.map D.str) rfl (by rw [List.length_append, List.length_append, lm, lm, lm, lm, q1, q2, q3]; omega)
  · exact ⟨ws, hw, by omega, (sIf_f (c.trans (by rw [decide_eq_false h]))).trans rfl⟩
theorem tw_mem {fs : List Pi} {f : Pi} (h : f ∈ fs) : f.ws.length ≤ tw fs := by
  obtain ⟨a, b, rfl⟩ := List.append_of_mem h
  rw [tw_app]
  simp only [tw, List.map_cons, List.sum_cons]; omega
theorem law_math : ∀ ns : List Int, ns.length ≤ 63 → ∃ as, F_law [.v (.lst (ns.map .int))] = some (.v (.bl true), as) := by
  intro sc hn
  let S : D := .lst (sc.map .int)
  obtain ⟨c0, ec0⟩ := cell_eq sc 0
  obtain ⟨c1, ec1⟩ := cell_eq sc 1
  obtain ⟨F, F0, eF⟩ := mixed_eq c0 900
  obtain ⟨nl, hnl, enl⟩ := names_drawn c1
  obtain ⟨F1, F10, eF1⟩ := mixed_eq F 1
  obtain ⟨p, hp, ep⟩ := leaf_drawn (c := F) (n := F1) hnl
  let N : D := .lst (nl.map D.str)
  let R1 : En := [.v S, .v (.int F), .un, .un, .un, .un, .un, .un, .un, .un]
  let R2 : En := [.v S, .v (.int F), .v N, .un, .un, .un, .un, .un, .un, .un]
  let R3 : En := [.v S, .v (.int F), .v N, .v (.lst ([p].map pd)), .un, .un, .un, .un, .un, .un]
  have s1 : mCall 2 F__law_mixed (mCons (mCall 2 F__law_cell (mCons (mVar 0) (mCons (mC (.int 0)) mNil))) (mCons (mC (.int 900)) mNil)) [.v S, .un, .un, .un, .un, .un, .un, .un, .un, .un] = some (.int F) := call_of (p := .v (.int F)) (cons_of (call_of (p := .v (.int c0)) (cons_of rfl (cons_of con_of nil_of)) rfl ec0) (cons_of con_of nil_of)) rfl eF
  have s2 : mCall 1 F__law_names (mCons (mCall 2 F__law_cell (mCons (mVar 0) (mCons (mC (.int 1)) mNil))) mNil) R1 = some N := call_of (p := .v N) (cons_of (call_of (p := .v (.int c1)) (cons_of rfl (cons_of con_of nil_of)) rfl ec1) nil_of) rfl enl
  have s3 : mOfF (mLstF (mCons (mCall 3 F__law_leaf (mCons (mVar 1) (mCons (mCall 2 F__law_mixed (mCons (mVar 1) (mCons (mC (.int 1)) mNil))) (mCons (mVar 2) mNil)))) mNil)) R2 = some (.lst ([p].map pd)) := lstF_of (cons_of (call_of (p := .v (pd p)) (cons_of rfl (cons_of (call_of (p := .v (.int F1)) (cons_of rfl (cons_of con_of nil_of)) rfl eF1) (cons_of rfl nil_of))) rfl ep) nil_of) (by show 1 ≤ 100; decide)
  let L : List (Int × Nat) := ((sc.take 203).drop 3).zipIdx
  have lL : L.length ≤ 63 := by simp only [L, List.length_zipIdx, List.length_drop, List.length_take]; omega
  have pk : POk [p] 1 1 := ⟨fun f hf w hw => by rw [List.mem_singleton.mp hf] at hw; exact hp.wk w hw, by have := hp.len; simp only [tw, List.map_cons, List.map_nil, List.sum_cons, List.sum_nil]; omega, Nat.le_refl 1⟩
  obtain ⟨qs, y4, y5, hq, q0, f4, eg⟩ := grow_loop S (.int F) hnl L [p] 1 1 .un .un pk (by simp) (by omega) (by omega) trivial trivial
  have en : mEnum (mSl (mVar 0) (oSome (mC (.int 3))) (oSome (mC (.int 203)))) R3 = some (L.map fun p => .tup [.int (p.2 : Int), .int p.1]) := by
    have s1 : mSl (mVar 0) (oSome (mC (.int 3))) (oSome (mC (.int 203))) R3 = some (.lst (((sc.take 203).drop 3).map .int)) := by
      refine sl_of (x := S) (a := some 3) (b := some 203) rfl rfl rfl ?_
      show some (D.lst (cutL (sc.map D.int) (some ((3 : Nat) : Int)) (some ((203 : Nat) : Int)))) = _
      rw [cut_mid, ← List.map_take, ← List.map_drop]
    unfold mEnum
    rw [s1]
    show some (enumD (((sc.take 203).drop 3).map D.int)) = _
    unfold enumD
    rw [List.zipIdx_map, List.map_map]; rfl
  let R4 : En := [.v S, .v (.int F), .v N, .v (.lst (qs.map pd)), y4, y5, .un, .un, .un, .un]
  have lp1 : sFor (bdSeq 2 (bdCons (setV 4) (bdCons (setV 5) bdNil))) (mEnum (mSl (mVar 0) (oSome (mC (.int 3))) (oSome (mC (.int 203))))) bodyR R3 = some (.nx R4) := by
    unfold sFor
    rw [en]
    exact eg
  obtain ⟨qi, ql, rfl⟩ : ∃ qi ql, qs = qi ++ [ql] := ⟨qs.dropLast, qs.getLast q0, (List.dropLast_concat_getLast q0).symm⟩
  have hlw : ∀ w ∈ ql.ws, Wk w := hq.wk ql (by simp)
  have hll : ql.ws.length ≤ 253 := by
    have := tw_mem (fs := qi ++ [ql]) (f := ql) (by simp)
    have := hq.tw
    omega
  have s6 : mBin ixD (mBin ixD (mVar 3) (mUn negD (mC (.int 1)))) (mC (.int 1)) R4 = some (.lst (ql.ws.map D.str)) := by
    refine ix1 (p := ql) (bin_of (x := .lst ((qi ++ [ql]).map pd)) rfl (neg_of con_of) ?_)
    show atI ((qi ++ [ql]).map pd) (-1) = some (pd ql)
    rw [List.map_append]
    exact atI_last _ _
  let R6 : En := [.v S, .v (.int F), .v N, .v (.lst ((qi ++ [ql]).map pd)), y4, y5, .v (.lst (ql.ws.map D.str)), .un, .un, .un]
  obtain ⟨ws1, w1', l1, e1⟩ := front_eq S N (.lst ((qi ++ [ql]).map pd)) F y4 y5 hlw (by omega)
  obtain ⟨kk, hkk, ekk⟩ := nat_mod (F / 12) 4 (by decide)
  obtain ⟨ws2, z4, w2, l2, e2⟩ := change_loop sc (.int F) (.lst ((qi ++ [ql]).map pd)) y5 hnl ((List.range kk).map fun i => (0 : Int) + (i : Nat)) ws1 y4 w1' (by rw [List.length_map, List.length_range]; omega) f4
  rw [List.length_map, List.length_range] at l2
  let R7 : En := [.v S, .v (.int F), .v N, .v (.lst ((qi ++ [ql]).map pd)), y4, y5, .v (.lst (ws1.map D.str)), .un, .un, .un]
  let R8 : En := [.v S, .v (.int F), .v N, .v (.lst ((qi ++ [ql]).map pd)), z4, y5, .v (.lst (ws2.map D.str)), .un, .un, .un]
  have lp2 : sFor (setV 4) (mRng1 (mBin modD (mBin fdivD (mVar 1) (mC (.int 12))) (mC (.int 4)))) bodyC R7 = some (.nx R8) := by
    have rg : mRng1 (mBin modD (mBin fdivD (mVar 1) (mC (.int 12))) (mC (.int 4))) R7 = some (((List.range kk).map fun i => (0 : Int) + (i : Nat)).map D.int) := by
      rw [List.map_map]
      refine rng_of ?_ (by omega)
      rw [← ekk]
      exact mod_of (fdiv_of rfl con_of (by decide)) con_of (by decide)
    unfold sFor
    rw [rg]
    exact e2
  obtain ⟨r', e3⟩ := text_eq S N (.lst ((qi ++ [ql]).map pd)) F z4 y5 w2 (by omega)
  refine mk_rt (r' := r') ?_
  show g_law [.v S, .un, .un, .un, .un, .un, .un, .un, .un, .un] = _
  unfold g_law
  exact seq_set (r2 := R1) (.int F) s1 rfl (seq_set (r2 := R2) N s2 rfl (seq_set (r2 := R3) (.lst ([p].map pd)) s3 rfl ((seq_of lp1).trans (seq_set (r2 := R6) (.lst (ql.ws.map D.str)) s6 rfl ((seq_of e1).trans ((seq_of lp2).trans e3))))))
theorem len0 {α : Type} {l : List α} (h : l.length = 0) : l = [] := List.length_eq_zero_iff.mp h
theorem len1 {α : Type} {l : List α} (h : l.length = 1) : ∃ a0, l = [a0] := List.length_eq_one_iff.mp h
theorem len2 {α : Type} {l : List α} (h : l.length = 2) : ∃ a0 a1, l = [a0, a1] := by
  cases l with
  | nil => cases h
  | cons a0 l => obtain ⟨a1, rfl⟩ := len1 (Nat.succ.inj h); exact ⟨a0, a1, rfl⟩
theorem len3 {α : Type} {l : List α} (h : l.length = 3) : ∃ a0 a1 a2, l = [a0, a1, a2] := by
  cases l with
  | nil => cases h
  | cons a0 l => obtain ⟨a1, a2, rfl⟩ := len2 (Nat.succ.inj h); exact ⟨a0, a1, a2, rfl⟩
theorem len4 {α : Type} {l : List α} (h : l.length = 4) : ∃ a0 a1 a2 a3, l = [a0, a1, a2, a3] := by
  cases l with
  | nil => cases h
  | cons a0 l => obtain ⟨a1, a2, a3, rfl⟩ := len3 (Nat.succ.inj h); exact ⟨a0, a1, a2, a3, rfl⟩
noncomputable def DfOk (K : Fg) (n : Str) (st : Stmt) : Prop := ∃ (f : Addr) (od an : Option Addr) (sl : Array (Option Value)) (oc kV dc pm cd ct : Value), PySem.W.nsIn K mainGlobals n = some (some (.ref f)) ∧ K.lookup f = some ⟨oc, od, .func (PySem.W.fnOf n n (defArgs st) (defBody st) (defScope st) .none kV dc pm an cd ct), sl⟩ ∧ PySem.W.codeIn K cd n = true ∧ PySem.W.keepIn K (.ref f) = true
theorem dfo {K : Fg} {n : Str} {st : Stmt} {f : Addr} {od an : Option Addr} {sl : Array (Option Value)} {oc kV dc pm cd ct : Value} (a : PySem.W.nsIn K mainGlobals n = some (some (.ref f))) (l : K.lookup f = some ⟨oc, od, .func (PySem.W.fnOf n n (defArgs st) (defBody st) (defScope st) .none kV dc pm an cd ct), sl⟩) (c : PySem.W.codeIn K cd n = true) (k : PySem.W.keepIn K (.ref f) = true) : DfOk K n st := ⟨f, od, an, sl, oc, kV, dc, pm, cd, ct, a, l, c, k⟩
theorem deo {K : Fg} {h : Heap} {mg : Str → Option Value} {n : Str} {i : Nat} {ps : List Str} (X : K.In h) (G : h.Ns mainGlobals mg) (D : DfOk K n (top i)) (hb : ∀ {f : Addr} {d : FuncData}, Fun K n n (top i) f d → Binds K d ps []) : Nonempty (De K mg n i ps) := by
  obtain ⟨f, _, _, _, _, _, _, _, _, _, a, l, c, k⟩ := D
  have F := fun_mk (st := top i) l c k
  exact ⟨⟨f, _, F, PySem.W.mg_of X G a, hb F⟩⟩
theorem law_sp {K : Fg} (hm : ∀ ns : List Int, ns.length ≤ 63 → ∃ as, F_law [.v (.lst (ns.map .int))] = some (.v (.bl true), as)) (H : Hp) (a : Addr) (ns : List Int) (hl : ns.length ≤ 63) (hS : SqL K H a (ns.map V.int)) : spD K 1 F_law [.ref a] H (fun v _ => v = .bl true) (fun _ _ _ => False) := by
  have il : ∀ l : List Int, IsL K (fun _ => False) H (l.map D.int) (l.map V.int) := fun l => by
    induction l with
    | nil => exact IsL.nil
    | cons x l ih => exact .cons (by rw [Is.int_iff]) ih
  obtain ⟨as, e⟩ := hm ns hl
  refine ⟨fun _ => False, [.v (.lst (ns.map .int))], _, as, rfl, R.args (ds := [.lst (ns.map .int)]) noF (.cons (by rw [Is.lst_iff]; exact ⟨a, _, rfl, hS.imp (fun z => ⟨id, z⟩) id, il ns⟩) .nil), fun i l => ?_, e, fun v H' _ iv => by rw [Is.bl_iff] at iv; exact iv⟩
  cases i with
  | zero => exact ⟨(fun z => by cases z), (fun z => by cases z)⟩
  | succ i => exact ⟨(fun z => by cases z), (fun z => by cases z)⟩
theorem all_mk {l : PySem.W.OpenLaw} {w : World} {K : Fg} {h : Heap} {mg : Str → Option Value} {fa : Addr} (X : K.In h) (G : h.Ns mainGlobals mg) (hfa : mg "law" = some (.ref fa))
    (D0 : DfOk K "all_between" (top 12))
    (D1 : DfOk K "is_name" (top 13))
    (D2 : DfOk K "is_number" (top 14))
    (D3 : DfOk K "read_number" (top 15))
    (D4 : DfOk K "take_word" (top 17))
    (D5 : DfOk K "take_name" (top 18))
    (D6 : DfOk K "read_leaf" (top 20))
    (D7 : DfOk K "take_expression" (top 19))
    (D8 : DfOk K "read_expression" (top 16))
    (D9 : DfOk K "_law_cell" (top 22))
    (D10 : DfOk K "_law_mixed" (top 23))
    (D11 : DfOk K "_law_kept" (top 24))
    (D12 : DfOk K "_law_name" (top 25))
    (D13 : DfOk K "_law_names" (top 26))
    (D14 : DfOk K "_law_leaf" (top 27))
    (D15 : DfOk K "_law_one" (top 28))
    (D16 : DfOk K "_law_two" (top 29))
    (D17 : DfOk K "_law_three" (top 30))
    (D18 : DfOk K "_law_grown" (top 31))
    (D19 : DfOk K "_law_shape" (top 32))
    (D20 : DfOk K "_law_all_in" (top 33))
    (D21 : DfOk K "_law_is_name" (top 34))
    (D22 : DfOk K "_law_is_number" (top 35))
    (D23 : DfOk K "_law_taken" (top 36))
    (D24 : DfOk K "_law_good" (top 37))
    (D25 : DfOk K "_law_odd" (top 38))
    (D26 : DfOk K "_law_changed" (top 39))
    (D27 : DfOk K "_law_refused" (top 40))
    (D28 : DfOk K "law" (top 41))
    (z_ValueError : PySem.W.nsIn K mainGlobals "ValueError" = some none)
    (z_all : PySem.W.nsIn K mainGlobals "all" = some none)
    (z_enumerate : PySem.W.nsIn K mainGlobals "enumerate" = some none)
    (z_int : PySem.W.nsIn K mainGlobals "int" = some none)
    (z_isinstance : PySem.W.nsIn K mainGlobals "isinstance" = some none)
    (z_len : PySem.W.nsIn K mainGlobals "len" = some none)
    (z_list : PySem.W.nsIn K mainGlobals "list" = some none)
    (z_max : PySem.W.nsIn K mainGlobals "max" = some none)
    (z_range : PySem.W.nsIn K mainGlobals "range" = some none)
    (z_reversed : PySem.W.nsIn K mainGlobals "reversed" = some none)
    (z_str : PySem.W.nsIn K mainGlobals "str" = some none)
    (z_tuple : PySem.W.nsIn K mainGlobals "tuple" = some none)
    {a_FieldError : Addr} (m_FieldError : PySem.W.nsIn K mainGlobals "FieldError" = some (some (.ref a_FieldError)))
    {a_TooMuch : Addr} (m_TooMuch : PySem.W.nsIn K mainGlobals "TooMuch" = some (some (.ref a_TooMuch)))
    {a_NoLine : Addr} (m_NoLine : PySem.W.nsIn K mainGlobals "NoLine" = some (some (.ref a_NoLine)))
    {a_NoName : Addr} (m_NoName : PySem.W.nsIn K mainGlobals "NoName" = some (some (.ref a_NoName)))
    {a_NoKind : Addr} (m_NoKind : PySem.W.nsIn K mainGlobals "NoKind" = some (some (.ref a_NoKind)))
    (y_NoLine : errB K a_FieldError a_NoLine [.ref a_NoLine, .type "ValueError"] [.ref a_TooMuch, .ref a_NoName, .ref a_NoKind] = true)
    {t_LONGEST_NAME : Tok} (c_LONGEST_NAME : PySem.W.nsIn K mainGlobals "LONGEST_NAME" = some (some (.int 8 t_LONGEST_NAME)))
    {t_MOST_FIGURES : Tok} (c_MOST_FIGURES : PySem.W.nsIn K mainGlobals "MOST_FIGURES" = some (some (.int 6 t_MOST_FIGURES)))
    {t_DEEPEST : Tok} (c_DEEPEST : PySem.W.nsIn K mainGlobals "DEEPEST" = some (some (.int 30 t_DEEPEST)))
    {p_KEPT_WORDS : Addr} {dd_KEPT_WORDS : Option Addr} {it_KEPT_WORDS : Array Value} {n_KEPT_WORDS : Nat} {sl_KEPT_WORDS : Array (Option Value)} (c_KEPT_WORDS : PySem.W.nsIn K mainGlobals "KEPT_WORDS" = some (some (.ref p_KEPT_WORDS))) (l_KEPT_WORDS : K.lookup p_KEPT_WORDS = some ⟨.type "tuple", dd_KEPT_WORDS, .seq it_KEPT_WORDS n_KEPT_WORDS, sl_KEPT_WORDS⟩) (s_KEPT_WORDS : it_KEPT_WORDS.size ≤ sizeLine) (v_KEPT_WORDS : Vals (C_KEPT_WORDS.map fun s => V.str ⟨s.toArray⟩) it_KEPT_WORDS.toList)
    {p_FORMS : Addr} {es_FORMS : Array DictEntry} {n_FORMS : Nat} (c_FORMS : PySem.W.nsIn K mainGlobals "FORMS" = some (some (.ref p_FORMS))) (l_FORMS : K.lookup p_FORMS = some ⟨.type "dict", none, .dict es_FORMS n_FORMS, #[]⟩) (y_FORMS : (p_FORMS == sysModules) = false) (k_FORMS : PySem.W.KeysLit w.params es_FORMS.toList) (e_FORMS : Ents es_FORMS.toList C_FORMS) :
    ∃ fd : FuncData, (∀ (s : Shared) (v : Value), BindsTo s fd ⟨[v], []⟩ [("_law_script", v)]) ∧ ∀ base : Heap, K.In base → base.Ns mainGlobals mg → FnOk l.prog w K mg base CX0 47 fa fd ["_law_script"] (spD K 1 F_law) := by
  obtain ⟨f28, _, _, _, _, _, _, _, _, _, a28, l28, c28, k28⟩ := D28
  have e := hfa.symm.trans (PySem.W.mg_of X G a28)
  cases e
  have F28 := fun_mk (st := top 41) l28 c28 k28
  have b28 := F28.binds (ps := ["_law_script"]) fun _ _ _ _ _ _ us hl => by obtain ⟨_, rfl⟩ := len1 hl; rfl
  exact ⟨_, fun s v => .of_eq rfl, fun base _ _ => ok_law ⟨Classical.choice (deo (ps := ["text", "least", "greatest"]) X G D0 fun F => F.binds (ps := ["text", "least", "greatest"]) fun _ _ _ _ _ _ us hl => by obtain ⟨_, _, _, rfl⟩ := len3 hl; rfl),
    Classical.choice (deo (ps := ["text"]) X G D1 fun F => F.binds (ps := ["text"]) fun _ _ _ _ _ _ us hl => by obtain ⟨_, rfl⟩ := len1 hl; rfl),
    Classical.choice (deo (ps := ["text"]) X G D2 fun F => F.binds (ps := ["text"]) fun _ _ _ _ _ _ us hl => by obtain ⟨_, rfl⟩ := len1 hl; rfl),
    Classical.choice (deo (ps := ["text"]) X G D3 fun F => F.binds (ps := ["text"]) fun _ _ _ _ _ _ us hl => by obtain ⟨_, rfl⟩ := len1 hl; rfl),
    Classical.choice (deo (ps := ["waiting"]) X G D4 fun F => F.binds (ps := ["waiting"]) fun _ _ _ _ _ _ us hl => by obtain ⟨_, rfl⟩ := len1 hl; rfl),
    Classical.choice (deo (ps := ["waiting"]) X G D5 fun F => F.binds (ps := ["waiting"]) fun _ _ _ _ _ _ us hl => by obtain ⟨_, rfl⟩ := len1 hl; rfl),
    Classical.choice (deo (ps := ["word"]) X G D6 fun F => F.binds (ps := ["word"]) fun _ _ _ _ _ _ us hl => by obtain ⟨_, rfl⟩ := len1 hl; rfl),
    Classical.choice (deo (ps := ["waiting", "around"]) X G D7 fun F => F.binds (ps := ["waiting", "around"]) fun _ _ _ _ _ _ us hl => by obtain ⟨_, _, rfl⟩ := len2 hl; rfl),
    Classical.choice (deo (ps := ["text"]) X G D8 fun F => F.binds (ps := ["text"]) fun _ _ _ _ _ _ us hl => by obtain ⟨_, rfl⟩ := len1 hl; rfl),
    Classical.choice (deo (ps := ["_law_script", "_law_k"]) X G D9 fun F => F.binds (ps := ["_law_script", "_law_k"]) fun _ _ _ _ _ _ us hl => by obtain ⟨_, _, rfl⟩ := len2 hl; rfl),
    Classical.choice (deo (ps := ["_law_cell_here", "_law_k"]) X G D10 fun F => F.binds (ps := ["_law_cell_here", "_law_k"]) fun _ _ _ _ _ _ us hl => by obtain ⟨_, _, rfl⟩ := len2 hl; rfl),
    Classical.choice (deo (ps := []) X G D11 fun F => F.binds (ps := []) fun _ _ _ _ _ _ us hl => by obtain rfl := len0 hl; rfl),
    Classical.choice (deo (ps := ["_law_number"]) X G D12 fun F => F.binds (ps := ["_law_number"]) fun _ _ _ _ _ _ us hl => by obtain ⟨_, rfl⟩ := len1 hl; rfl),
    Classical.choice (deo (ps := ["_law_cell_here"]) X G D13 fun F => F.binds (ps := ["_law_cell_here"]) fun _ _ _ _ _ _ us hl => by obtain ⟨_, rfl⟩ := len1 hl; rfl),
    Classical.choice (deo (ps := ["_law_cell_here", "_law_number", "_law_names_here"]) X G D14 fun F => F.binds (ps := ["_law_cell_here", "_law_number", "_law_names_here"]) fun _ _ _ _ _ _ us hl => by obtain ⟨_, _, _, rfl⟩ := len3 hl; rfl),
    Classical.choice (deo (ps := ["_law_number", "_law_names_here", "_law_one_here"]) X G D15 fun F => F.binds (ps := ["_law_number", "_law_names_here", "_law_one_here"]) fun _ _ _ _ _ _ us hl => by obtain ⟨_, _, _, rfl⟩ := len3 hl; rfl),
    Classical.choice (deo (ps := ["_law_number", "_law_names_here", "_law_one_here", "_law_other"]) X G D16 fun F => F.binds (ps := ["_law_number", "_law_names_here", "_law_one_here", "_law_other"]) fun _ _ _ _ _ _ us hl => by obtain ⟨_, _, _, _, rfl⟩ := len4 hl; rfl),
    Classical.choice (deo (ps := ["_law_number", "_law_names_here", "_law_parts_here"]) X G D17 fun F => F.binds (ps := ["_law_number", "_law_names_here", "_law_parts_here"]) fun _ _ _ _ _ _ us hl => by obtain ⟨_, _, _, rfl⟩ := len3 hl; rfl),
    Classical.choice (deo (ps := ["_law_pile", "_law_cell_here", "_law_k", "_law_names_here"]) X G D18 fun F => F.binds (ps := ["_law_pile", "_law_cell_here", "_law_k", "_law_names_here"]) fun _ _ _ _ _ _ us hl => by obtain ⟨_, _, _, _, rfl⟩ := len4 hl; rfl),
    Classical.choice (deo (ps := ["_law_word"]) X G D19 fun F => F.binds (ps := ["_law_word"]) fun _ _ _ _ _ _ us hl => by obtain ⟨_, rfl⟩ := len1 hl; rfl),
    Classical.choice (deo (ps := ["_law_word", "_law_signs"]) X G D20 fun F => F.binds (ps := ["_law_word", "_law_signs"]) fun _ _ _ _ _ _ us hl => by obtain ⟨_, _, rfl⟩ := len2 hl; rfl),
    Classical.choice (deo (ps := ["_law_word"]) X G D21 fun F => F.binds (ps := ["_law_word"]) fun _ _ _ _ _ _ us hl => by obtain ⟨_, rfl⟩ := len1 hl; rfl),
    Classical.choice (deo (ps := ["_law_word"]) X G D22 fun F => F.binds (ps := ["_law_word"]) fun _ _ _ _ _ _ us hl => by obtain ⟨_, rfl⟩ := len1 hl; rfl),
    Classical.choice (deo (ps := ["_law_pile", "_law_shape_here"]) X G D23 fun F => F.binds (ps := ["_law_pile", "_law_shape_here"]) fun _ _ _ _ _ _ us hl => by obtain ⟨_, _, rfl⟩ := len2 hl; rfl),
    Classical.choice (deo (ps := ["_law_words"]) X G D24 fun F => F.binds (ps := ["_law_words"]) fun _ _ _ _ _ _ us hl => by obtain ⟨_, rfl⟩ := len1 hl; rfl),
    Classical.choice (deo (ps := ["_law_number", "_law_names_here"]) X G D25 fun F => F.binds (ps := ["_law_number", "_law_names_here"]) fun _ _ _ _ _ _ us hl => by obtain ⟨_, _, rfl⟩ := len2 hl; rfl),
    Classical.choice (deo (ps := ["_law_words", "_law_number", "_law_names_here"]) X G D26 fun F => F.binds (ps := ["_law_words", "_law_number", "_law_names_here"]) fun _ _ _ _ _ _ us hl => by obtain ⟨_, _, _, rfl⟩ := len3 hl; rfl),
    Classical.choice (deo (ps := ["_law_text"]) X G D27 fun F => F.binds (ps := ["_law_text"]) fun _ _ _ _ _ _ us hl => by obtain ⟨_, rfl⟩ := len1 hl; rfl),
    ⟨_, _, F28, PySem.W.mg_of X G a28, b28⟩, PySem.W.mg_none_of X G z_ValueError, PySem.W.mg_none_of X G z_all, PySem.W.mg_none_of X G z_enumerate, PySem.W.mg_none_of X G z_int, PySem.W.mg_none_of X G z_isinstance, PySem.W.mg_none_of X G z_len, PySem.W.mg_none_of X G z_list, PySem.W.mg_none_of X G z_max, PySem.W.mg_none_of X G z_range, PySem.W.mg_none_of X G z_reversed, PySem.W.mg_none_of X G z_str, PySem.W.mg_none_of X G z_tuple, a_FieldError, PySem.W.mg_of X G m_FieldError, a_TooMuch, PySem.W.mg_of X G m_TooMuch, a_NoLine, PySem.W.mg_of X G m_NoLine, a_NoName, PySem.W.mg_of X G m_NoName, a_NoKind, PySem.W.mg_of X G m_NoKind, errB_ok y_NoLine, ⟨_, PySem.W.mg_of X G c_LONGEST_NAME⟩, ⟨_, PySem.W.mg_of X G c_MOST_FIGURES⟩, ⟨_, PySem.W.mg_of X G c_DEEPEST⟩, ⟨_, _, _, _, PySem.W.mg_of X G c_KEPT_WORDS, l_KEPT_WORDS, rfl, rfl, s_KEPT_WORDS, v_KEPT_WORDS⟩, ⟨_, _, _, PySem.W.mg_of X G c_FORMS, y_FORMS, l_FORMS, k_FORMS, e_FORMS⟩⟩⟩
theorem walk {l : PySem.W.OpenLaw} {q : Program} {loose : List Str} {XP : (Str → Option Value) → Heap → Prop} {YP : World → Heap → Prop} {d : DefRec} {K : Params → Fg} (hm : ∀ ns : List Int, ns.length ≤ 63 → ∃ as, F_law [.v (.lst (ns.map .int))] = some (.v (.bl true), as)) (hn : l.most = some 63) (hdf : d.params.defaults = [])
    (hY : ∀ (w : World) (h : Heap), YP w h → (K w.params).In h)
    (F : ∀ (w : World) (mg : Str → Option Value) (fa : Addr) (h : Heap), (K w.params).In h → h.Ns mainGlobals mg → mg d.name = some (.ref fa) →
      ∃ fd : FuncData, (∀ (s : Shared) (u : Value), BindsTo s fd ⟨[u], []⟩ [("_law_script", u)]) ∧ ∀ base : Heap, (K w.params).In base → base.Ns mainGlobals mg → FnOk l.prog w (K w.params) mg base CX0 47 fa fd ["_law_script"] (spD (K w.params) 1 F_law)) :
    PySem.W.WalkO q loose XP YP l.row.toRowW d [] (fun f vs => PySem.call f vs) :=
  L2.walk_ofK (n := 63) (k := 47) (x := "_law_script") (CX := CX0) (sp := fun K => spD K 1 F_law) hn (by decide) hdf ⟨rfl, by decide, by decide⟩ hY F (fun K H a ns hl _ hS => law_sp hm H a ns hl hS) fun _ _ _ _ z => z
end K03
open PyProof.Rows PySem PySem.W
set_option maxRecDepth 100000 in
set_option maxHeartbeats 0 in
theorem PySem.Challenge.cw_fieldrows_k03_expressions_refused_holds : PySem.Challenge.rw_fieldrows_k03_expressions_refused.Holds := by
  w_on; o_law; k_head; (case hw => w_witness2)
  k_fill
  refine K03.walk (l := PySem.Challenge.rw_fieldrows_k03_expressions_refused) K03.law_math rfl rfl (fun w h Y => PySem.W.kIn_of Y) ?F
  case F =>
    intro w mg fa h KX G hmg
    refine' K03.all_mk KX G hmg (K03.dfo ?a0 ?l0 ?c0 ?k0) (K03.dfo ?a1 ?l1 ?c1 ?k1) (K03.dfo ?a2 ?l2 ?c2 ?k2) (K03.dfo ?a3 ?l3 ?c3 ?k3) (K03.dfo ?a4 ?l4 ?c4 ?k4) (K03.dfo ?a5 ?l5 ?c5 ?k5) (K03.dfo ?a6 ?l6 ?c6 ?k6) (K03.dfo ?a7 ?l7 ?c7 ?k7) (K03.dfo ?a8 ?l8 ?c8 ?k8) (K03.dfo ?a9 ?l9 ?c9 ?k9) (K03.dfo ?a10 ?l10 ?c10 ?k10) (K03.dfo ?a11 ?l11 ?c11 ?k11) (K03.dfo ?a12 ?l12 ?c12 ?k12) (K03.dfo ?a13 ?l13 ?c13 ?k13) (K03.dfo ?a14 ?l14 ?c14 ?k14) (K03.dfo ?a15 ?l15 ?c15 ?k15) (K03.dfo ?a16 ?l16 ?c16 ?k16) (K03.dfo ?a17 ?l17 ?c17 ?k17) (K03.dfo ?a18 ?l18 ?c18 ?k18) (K03.dfo ?a19 ?l19 ?c19 ?k19) (K03.dfo ?a20 ?l20 ?c20 ?k20) (K03.dfo ?a21 ?l21 ?c21 ?k21) (K03.dfo ?a22 ?l22 ?c22 ?k22) (K03.dfo ?a23 ?l23 ?c23 ?k23) (K03.dfo ?a24 ?l24 ?c24 ?k24) (K03.dfo ?a25 ?l25 ?c25 ?k25) (K03.dfo ?a26 ?l26 ?c26 ?k26) (K03.dfo ?a27 ?l27 ?c27 ?k27) (K03.dfo ?a28 ?l28 ?c28 ?k28) ?z_ValueError ?z_all ?z_enumerate ?z_int ?z_isinstance ?z_len ?z_list ?z_max ?z_range ?z_reversed ?z_str ?z_tuple ?m_FieldError ?m_TooMuch ?m_NoLine ?m_NoName ?m_NoKind ?y_NoLine ?c_LONGEST_NAME ?c_MOST_FIGURES ?c_DEEPEST ?c_KEPT_WORDS ?l_KEPT_WORDS ?s_KEPT_WORDS ?v_KEPT_WORDS ?c_FORMS ?l_FORMS ?y_FORMS ?k_FORMS ?e_FORMS
    (case a0 => k_is)
    (case l0 => k_is)
    (case c0 => k_is)
    (case k0 => k_is)
    (case a1 => k_is)
    (case l1 => k_is)
    (case c1 => k_is)
    (case k1 => k_is)
    (case a2 => k_is)
    (case l2 => k_is)
    (case c2 => k_is)
    (case k2 => k_is)
    (case a3 => k_is)
    (case l3 => k_is)
    (case c3 => k_is)
    (case k3 => k_is)
    (case a4 => k_is)
    (case l4 => k_is)
    (case c4 => k_is)
    (case k4 => k_is)
    (case a5 => k_is)
    (case l5 => k_is)
    (case c5 => k_is)
    (case k5 => k_is)
    (case a6 => k_is)
    (case l6 => k_is)
    (case c6 => k_is)
    (case k6 => k_is)
    (case a7 => k_is)
    (case l7 => k_is)
    (case c7 => k_is)
    (case k7 => k_is)
    (case a8 => k_is)
    (case l8 => k_is)
    (case c8 => k_is)
    (case k8 => k_is)
    (case a9 => k_is)
    (case l9 => k_is)
    (case c9 => k_is)
    (case k9 => k_is)
    (case a10 => k_is)
    (case l10 => k_is)
    (case c10 => k_is)
    (case k10 => k_is)
    (case a11 => k_is)
    (case l11 => k_is)
    (case c11 => k_is)
    (case k11 => k_is)
    (case a12 => k_is)
    (case l12 => k_is)
    (case c12 => k_is)
    (case k12 => k_is)
    (case a13 => k_is)
    (case l13 => k_is)
    (case c13 => k_is)
    (case k13 => k_is)
    (case a14 => k_is)
    (case l14 => k_is)
    (case c14 => k_is)
    (case k14 => k_is)
    (case a15 => k_is)
    (case l15 => k_is)
    (case c15 => k_is)
    (case k15 => k_is)
    (case a16 => k_is)
    (case l16 => k_is)
    (case c16 => k_is)
    (case k16 => k_is)
    (case a17 => k_is)
    (case l17 => k_is)
    (case c17 => k_is)
    (case k17 => k_is)
    (case a18 => k_is)
    (case l18 => k_is)
    (case c18 => k_is)
    (case k18 => k_is)
    (case a19 => k_is)
    (case l19 => k_is)
    (case c19 => k_is)
    (case k19 => k_is)
    (case a20 => k_is)
    (case l20 => k_is)
    (case c20 => k_is)
    (case k20 => k_is)
    (case a21 => k_is)
    (case l21 => k_is)
    (case c21 => k_is)
    (case k21 => k_is)
    (case a22 => k_is)
    (case l22 => k_is)
    (case c22 => k_is)
    (case k22 => k_is)
    (case a23 => k_is)
    (case l23 => k_is)
    (case c23 => k_is)
    (case k23 => k_is)
    (case a24 => k_is)
    (case l24 => k_is)
    (case c24 => k_is)
    (case k24 => k_is)
    (case a25 => k_is)
    (case l25 => k_is)
    (case c25 => k_is)
    (case k25 => k_is)
    (case a26 => k_is)
    (case l26 => k_is)
    (case c26 => k_is)
    (case k26 => k_is)
    (case a27 => k_is)
    (case l27 => k_is)
    (case c27 => k_is)
    (case k27 => k_is)
    (case a28 => k_is)
    (case l28 => k_is)
    (case c28 => k_is)
    (case k28 => k_is)
    (case z_ValueError => k_is)
    (case z_all => k_is)
    (case z_enumerate => k_is)
    (case z_int => k_is)
    (case z_isinstance => k_is)
    (case z_len => k_is)
    (case z_list => k_is)
    (case z_max => k_is)
    (case z_range => k_is)
    (case z_reversed => k_is)
    (case z_str => k_is)
    (case z_tuple => k_is)
    (case m_FieldError => k_is)
    (case m_TooMuch => k_is)
    (case m_NoLine => k_is)
    (case m_NoName => k_is)
    (case m_NoKind => k_is)
    (case y_NoLine => kernel_rfl)
    (case c_LONGEST_NAME => k_is)
    (case c_MOST_FIGURES => k_is)
    (case c_DEEPEST => k_is)
    (case c_KEPT_WORDS => k_is)
    (case l_KEPT_WORDS => k_is)
    (case s_KEPT_WORDS => decide)
    (case v_KEPT_WORDS => repeat (first | exact .nil | refine .cons ⟨_, rfl⟩ ?_))
    (case c_FORMS => k_is)
    (case l_FORMS => k_is)
    (case y_FORMS => decide)
    (case k_FORMS => repeat (first | exact trivial | refine ⟨⟨_, _, rfl, rfl⟩, ?_⟩))
    (case e_FORMS => repeat (first | exact rfl | refine ⟨_, _, rfl, ⟨_, _, rfl, rfl⟩, ?_⟩))
