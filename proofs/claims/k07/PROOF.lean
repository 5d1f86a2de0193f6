import PyProof.Rows.All
import Wide.All
import OpenK.AllK
import Wide.FinOn
import PySem.Challenge.RW_fieldrows_k07_open_names
import Lean
set_option Elab.async false
set_option linter.all false
set_option maxRecDepth 100000
set_option maxHeartbeats 4100000
noncomputable abbrev Fg := PySem.W.Frag
namespace L2
open PySem PySem.Spec PyProof.Rows
noncomputable abbrev Key := Sum Int Str
noncomputable def keyIs : Key → Value → Bool
  | .inl k, v => Value.isInt k v
  | .inr x, v => Value.isStrOf x v
noncomputable def keyH (w : World) : Key → Int
  | .inl k => hashInt k
  | .inr x => hashStr w x
theorem keyIs_shape : ∀ {k : Key} {v : Value}, keyIs k v = true → (∃ i t, k = Sum.inl i ∧ v = Value.int i t) ∨ (∃ x t, k = Sum.inr x ∧ v = Value.str x t)
  | .inl i, v, h => by
    obtain ⟨t, e⟩ := Value.isInt_shape (k := i) (v := v) h
    exact .inl ⟨i, t, rfl, e⟩
  | .inr x, v, h => by
    obtain ⟨t, e⟩ := Value.isStrOf_shape (x := x) (v := v) h
    exact .inr ⟨x, t, rfl, e⟩
theorem key_ll (a b : Int) : decide ((Sum.inl a : Key) = Sum.inl b) = (a == b) := by
  by_cases e : a = b
  · subst e; simp
  · have h : ¬ (Sum.inl a : Key) = Sum.inl b := fun q => e (Sum.inl.inj q)
    rw [decide_eq_false h]
    exact (beq_eq_false_iff_ne.mpr e).symm
theorem key_rr (a b : Str) : decide ((Sum.inr a : Key) = Sum.inr b) = decide (a = b) := by
  by_cases e : a = b
  · subst e; simp
  · have h : ¬ (Sum.inr a : Key) = Sum.inr b := fun q => e (Sum.inr.inj q)
    rw [decide_eq_false h, decide_eq_false e]
theorem key_lr (a : Int) (b : Str) : decide ((Sum.inl a : Key) = Sum.inr b) = false := decide_eq_false (fun q => nomatch q)
theorem key_rl (a : Str) (b : Int) : decide ((Sum.inr a : Key) = Sum.inl b) = false := decide_eq_false (fun q => nomatch q)
noncomputable def mixKind (prog : Program) (w : World) : PySem.KeyKind prog w Key where
  is := keyIs
  hash := keyH w
  inj := fun v a b ha hb => by
    rcases keyIs_shape ha with ⟨i, t, rfl, rfl⟩ | ⟨x, t, rfl, rfl⟩
    · rcases keyIs_shape hb with ⟨j, u, rfl, e⟩ | ⟨y, u, rfl, e⟩
      · injection e with e1 _; rw [e1]
      · exact nomatch e
    · rcases keyIs_shape hb with ⟨j, u, rfl, e⟩ | ⟨y, u, rfl, e⟩
      · exact nomatch e
      · injection e with e1 _; rw [e1]
  byValue := fun k v h => by
    rcases keyIs_shape h with ⟨i, t, rfl, rfl⟩ | ⟨x, t, rfl, rfl⟩ <;> rfl
  pyHash := fun hv h => by
    rcases keyIs_shape hv with ⟨i, t, rfl, rfl⟩ | ⟨x, t, rfl, rfl⟩
    · exact wpAny_pyHash_int h
    · exact wpAny_pyHash_str h
  eqBool := fun hu hv h => by
    rcases keyIs_shape hu with ⟨i, t, rfl, rfl⟩ | ⟨x, t, rfl, rfl⟩
    · rcases keyIs_shape hv with ⟨j, u, rfl, rfl⟩ | ⟨y, u, rfl, rfl⟩
      · rw [key_ll] at h; exact wpAny_eqBool_int h
      · rw [key_lr] at h; exact SeqAt.EqAt.int_str i t y u _ _ _ _ h
    · rcases keyIs_shape hv with ⟨j, u, rfl, rfl⟩ | ⟨y, u, rfl, rfl⟩
      · rw [key_rl] at h; exact SeqAt.EqAt.str_int x t j u _ _ _ _ h
      · rw [key_rr] at h; exact wpAny_eqBool_str h
  «strs» := fun k x t v h => by
    rcases keyIs_shape h with ⟨i, u, rfl, e⟩ | ⟨y, u, rfl, e⟩
    · exact nomatch e
    · injection e with e1 _
      subst e1
      cases v <;> rfl
end L2
namespace L2
open PySem PySem.Spec PyProof.Rows
inductive V where
  | non | bl (b : Bool) | int (i : Int) | str (x : Str) | byt (b : Array UInt8) | flt (b : UInt64) | ref (a : Addr) | ty (n : String)
  deriving DecidableEq
noncomputable def RelV : V → Value → Prop
  | .non, u => u = Value.none
  | .bl b, u => u = Value.bool b
  | .int i, u => ∃ t, u = Value.int i t
  | .str x, u => ∃ t, u = Value.str x t
  | .byt b, u => ∃ t, u = Value.bytes b t
  | .flt b, u => ∃ t, u = Value.float b t
  | .ref a, u => u = Value.ref a
  | .ty n, u => u = Value.type n
noncomputable abbrev Vals : List V → List Value → Prop := Paired RelV
theorem Vals.length {xs : List V} {us : List Value} (r : Vals xs us) : xs.length = us.length := Paired.length r
theorem Vals.get : ∀ {xs : List V} {us : List Value} {i : Nat} {x : V}, Vals xs us → xs[i]? = some x → ∃ u, us[i]? = some u ∧ RelV x u
  | _, _, _, _, .nil, e => by simp at e
  | _, _, 0, _, .cons r _, e => by simp at e; subst e; exact ⟨_, rfl, r⟩
  | _, _, i + 1, x, .cons _ t, e => by
    obtain ⟨u, h1, h2⟩ := Vals.get (i := i) (x := x) t (by simpa using e)
    exact ⟨u, by simpa using h1, h2⟩
theorem Vals.append : ∀ {xs ys : List V} {us ws : List Value}, Vals xs us → Vals ys ws → Vals (xs ++ ys) (us ++ ws)
  | _, _, _, _, .nil, s => s
  | _, _, _, _, .cons r t, s => .cons r (Vals.append t s)
theorem Vals.take : ∀ {xs : List V} {us : List Value} (n : Nat), Vals xs us → Vals (xs.take n) (us.take n)
  | _, _, 0, _ => .nil
  | _, _, _ + 1, .nil => .nil
  | _, _, n + 1, .cons r t => .cons r (Vals.take n t)
theorem Vals.drop : ∀ {xs : List V} {us : List Value} (n : Nat), Vals xs us → Vals (xs.drop n) (us.drop n)
  | _, _, 0, r => r
  | _, _, _ + 1, .nil => .nil
  | _, _, n + 1, .cons _ t => Vals.drop n t
noncomputable def RelO : Option V → Option Value → Prop
  | some v, some u => RelV v u
  | none, none => True
  | _, _ => False
noncomputable def KV {κ : Type} : List (κ × V) → List (κ × Value) → Prop := Paired fun (p : κ × V) (q : κ × Value) => p.1 = q.1 ∧ RelV p.2 q.2
noncomputable def kV : Key → V
  | .inl i => .int i
  | .inr x => .str x
inductive HO where
  | lst (xs : List V)
  | tup (xs : List V)
  | dK (kvs : List (Key × V)) | dT (kvs : List (List Key × V))
  | set (S : Int → Bool) (n : Nat)
  | ins (C dx : Addr) (fs : List (Str × V))
  | own (x : Addr)
  | xd (fs : List (Str × V))
  | met (f x : Addr)
  | rng (lo hi : Int)
  | frz (o : Obj) (u : HO)
  | tbl (ps : Array Value)
  | ext (φ : Heap → Prop)
noncomputable abbrev Hp := Addr → Option HO
noncomputable def upd (H : Hp) (a : Addr) (o : HO) : Hp := fun b => if b = a then some o else H b
theorem upd_same {H : Hp} {a : Addr} {o : HO} : upd H a o a = some o := by unfold upd; rw [if_pos rfl]
theorem upd_ne {H : Hp} {a b : Addr} {o : HO} (h : b ≠ a) : upd H a o b = H b := by unfold upd; rw [if_neg h]
theorem ne_of_none {H : Hp} {a b : Addr} {o : HO} (h : H a = some o) (h' : H b = none) : a ≠ b := by
  intro e; subst e; rw [h] at h'; cases h'
section
variable (P : Program) (w : World)
noncomputable def ObjOk (H : Hp) (h : Heap) (a : Addr) : HO → Prop
  | .lst xs => xs.length ≤ sizeLine ∧ ∃ (its : List Value) (n : Nat), Vals xs its ∧ h.get? a = some { cls := .type "list", data := .seq its.toArray n }
  | .tup xs => xs.length ≤ sizeLine ∧ ∃ its : List Value, Vals xs its ∧ IsTup h a its.toArray
  | .dK kvs => kvs.length ≤ sizeLine ∧ (a == sysModules) = false ∧ ∃ vs, KV kvs vs ∧ h.DictOf (mixKind P w) a vs
  | .dT kvs => kvs.length ≤ sizeLine ∧ (a == sysModules) = false ∧ ∃ xs : List (List Key × Addr × Value),
      Paired (fun (p : List Key × V) (q : List Key × Addr × Value) => p.1 = q.1 ∧ H q.2.1 = some (.tup (p.1.map kV)) ∧ RelV p.2 q.2.2) kvs xs ∧
      ∃ o es ep, h.get? a = some o ∧ o.ExactDict ∧ o.data = .dict es ep ∧ es.toList = xs.map (entryOfKey (tupleKind (mixKind P w))) ∧ (xs.map (·.1)).Nodup
  | .set S n => h.SetOf (intKind P w) a S n
  | .ins C dx fs => H dx = some (.own a) ∧ fs.length ≤ 1000 ∧ dx ≠ a ∧ h.get? a = some (PySem.W.instObj C dx) ∧
      ∃ mA, h.Ns1 dx mA ∧ (∀ f, RelO (fs.lookup f) (mA f)) ∧ PySem.Within mA (fs.map (·.1))
  | .own _ => ∃ o, h.get? a = some o
  | .xd fs => ∃ mA, h.Ns1 a mA ∧ ∀ f, RelO (fs.lookup f) (mA f)
  | .rng lo hi => ∃ t u v, h.get? a = some { cls := .type "range", data := .fields #[.int lo t, .int hi u, .int 1 v] }
  | .frz o u => h.get? a = some o ∧ ObjOk H h a u
  | .tbl ps => h.get? a = some { cls := .none, data := .fields ps }
  | .met f x => h.get? a = some (PySem.W.methodObj (.ref f) (.ref x))
  | .ext φ => φ h ∧ (∃ o, h.get? a = some o) ∧ ∀ h1 h2 : Heap, φ h1 → (∀ o, h1.get? a = some o → h2.get? a = some o) → φ h2
noncomputable def HOk (H : Hp) (h : Heap) : Prop := ∀ a o, H a = some o → ObjOk P w H h a o
end
section
variable {P : Program} {w : World} {H H' : Hp} {h h' : Heap} {a : Addr} {o : HO}
theorem ObjOk.lt (x : ObjOk P w H h a o) : a < h.objs.size := by
  cases o with
  | lst xs => obtain ⟨_, _, _, _, e⟩ := x; exact Heap.lt_size e
  | tup xs => obtain ⟨_, _, _, p⟩ := x; exact p.lt
  | dK kvs => obtain ⟨_, _, _, _, o, _, _, e, _⟩ := x; exact Heap.lt_size e
  | dT kvs => obtain ⟨_, _, _, _, o, _, _, e, _⟩ := x; exact Heap.lt_size e
  | set S n => obtain ⟨o, _, _, _, e, _⟩ := x; exact Heap.lt_size e
  | ins C dx fs => obtain ⟨_, _, _, e, _⟩ := x; exact Heap.lt_size e
  | own y => obtain ⟨_, e⟩ := x; exact Heap.lt_size e
  | xd fs => obtain ⟨_, ⟨_, _, _, e, _⟩, _⟩ := x; exact Heap.lt_size e
  | rng lo hi => obtain ⟨_, _, _, e⟩ := x; exact Heap.lt_size e
  | frz ob u => obtain ⟨e, _⟩ := x; exact Heap.lt_size e
  | tbl ps => exact Heap.lt_size (show h.get? a = some _ from x)
  | met f y => exact Heap.lt_size (show h.get? a = some _ from x)
  | ext φ => obtain ⟨_, ⟨_, e⟩, _⟩ := x; exact Heap.lt_size e
theorem Paired.mapP {α β : Type} {F G : α → β → Prop} : ∀ {l₁ : List α} {l₂ : List β}, Paired F l₁ l₂ → (∀ a b, F a b → G a b) → Paired G l₁ l₂
  | _, _, .nil, _ => .nil
  | _, _, .cons r t, f => .cons (f _ _ r) (Paired.mapP t f)
theorem ObjOk.stay (x : ObjOk P w H h a o) (k : ∀ b u, (b = a ∨ H b = some (.own a)) → h.get? b = some u → h'.get? b = some u)
    (ho : ∀ b, H b = some (.own a) → H' b = some (.own a)) (ht : ∀ b xs, H b = some (.tup xs) → H' b = some (.tup xs)) : ObjOk P w H' h' a o := by
  induction o with
  | lst xs => obtain ⟨z, its, n, r, e⟩ := x; exact ⟨z, its, n, r, k _ _ (.inl rfl) e⟩
  | tup xs => obtain ⟨z, its, r, ob, e, c⟩ := x; exact ⟨z, its, r, ob, k _ _ (.inl rfl) e, c⟩
  | dK kvs => obtain ⟨z, y, vs, r, ob, es, ep, e, c⟩ := x; exact ⟨z, y, vs, r, ob, es, ep, k _ _ (.inl rfl) e, c⟩
  | dT kvs =>
    obtain ⟨z, y, xs, r, ob, es, ep, e, c⟩ := x
    exact ⟨z, y, xs, Paired.mapP r fun p q z => ⟨z.1, ht _ _ z.2.1, z.2.2⟩, ob, es, ep, k _ _ (.inl rfl) e, c⟩
  | set S n => obtain ⟨ob, es, ep, t, e, c⟩ := x; exact ⟨ob, es, ep, t, k _ _ (.inl rfl) e, c⟩
  | ins C dx fs =>
    obtain ⟨d, z, ne, e, mA, ⟨od, es, ep, e2, c⟩, r⟩ := x
    exact ⟨ho _ d, z, ne, k _ _ (.inl rfl) e, mA, ⟨od, es, ep, k _ _ (.inr d) e2, c⟩, r⟩
  | own y => obtain ⟨ob, e⟩ := x; exact ⟨ob, k _ _ (.inl rfl) e⟩
  | xd fs => obtain ⟨mA, ⟨od, es, ep, e, c⟩, r⟩ := x; exact ⟨mA, ⟨od, es, ep, k _ _ (.inl rfl) e, c⟩, r⟩
  | rng lo hi => obtain ⟨t, u, v, e⟩ := x; exact ⟨t, u, v, k _ _ (.inl rfl) e⟩
  | frz ob u ih => obtain ⟨e, q⟩ := x; exact ⟨k _ _ (.inl rfl) e, ih q⟩
  | tbl ps =>
    have e : h.get? a = some { cls := .none, data := .fields ps } := x
    show h'.get? a = some { cls := .none, data := .fields ps }
    exact k a _ (.inl rfl) e
  | met f y =>
    have e : h.get? a = some (PySem.W.methodObj (.ref f) (.ref y)) := x
    show h'.get? a = some (PySem.W.methodObj (.ref f) (.ref y))
    exact k a _ (.inl rfl) e
  | ext φ => obtain ⟨p, ⟨o, e⟩, st⟩ := x; exact ⟨st _ _ p fun o q => k _ _ (.inl rfl) q, ⟨o, k _ _ (.inl rfl) e⟩, st⟩
theorem HOk.lt (x : HOk P w H h) (e : H a = some o) : a < h.objs.size := (x a o e).lt
theorem HOk.fresh (x : HOk P w H h) (e : h.objs.size ≤ a) : H a = none := by
  cases q : H a with
  | none => rfl
  | some u => exact absurd (Nat.lt_of_lt_of_le (x.lt q) e) (Nat.lt_irrefl _)
theorem HOk.kept (x : HOk P w H h) (k : ∀ b u, h.get? b = some u → h'.get? b = some u) : HOk P w H h' := fun a o e =>
  (x a o e).stay (fun b u _ q => k b u q) (fun _ q => q) fun _ _ q => q
theorem HOk.laid (x : HOk P w H h) (k : ∀ b u, h.get? b = some u → h'.get? b = some u) (hp : h.objs.size ≤ a) (new : ObjOk P w (upd H a o) h' a o) : HOk P w (upd H a o) h' := fun b u e => by
  have hn := x.fresh hp
  by_cases hb : b = a
  · subst hb; rw [upd_same] at e; cases e; exact new
  · rw [upd_ne hb] at e
    exact (x b u e).stay (fun c v _ q => k c v q) (fun c q => by rw [upd_ne (ne_of_none q hn)]; exact q) fun c xs q => by rw [upd_ne (ne_of_none q hn)]; exact q
end
noncomputable def Rd (H : Hp) (a : Addr) (u : HO) : Prop := H a = some u ∨ ∃ o, H a = some (.frz o u)
theorem Rd.ok {P : Program} {w : World} {H : Hp} {h : Heap} {a : Addr} {u : HO} (r : Rd H a u) (x : HOk P w H h) : ObjOk P w H h a u := by
  rcases r with r | ⟨o, r⟩
  · exact x a u r
  · obtain ⟨_, q⟩ := x a _ r
    exact q
noncomputable def Mut : Option HO → Prop
  | some (.lst _) => True
  | some (.dK _) => True
  | some (.dT _) => True
  | some (.set _ _) => True
  | some (.ins _ _ _) => True
  | some (.ext _) => True
  | _ => False
section
variable {P : Program} {w : World} {H : Hp} {h h' : Heap} {x e : Addr} {o' : HO}
theorem HOk.write (ok : HOk P w H h) (mu : Mut (H x)) (he : e = x ∨ H e = some (.own x)) (k : ∀ b u, b ≠ e → h.get? b = some u → h'.get? b = some u) (heo : ∃ u, h'.get? e = some u)
    (new : ObjOk P w (upd H x o') h' x o') : HOk P w (upd H x o') h' := fun b u q => by
  have nown : ∀ c y, H c = some (.own y) → c ≠ x := fun c y r z => by subst z; rw [r] at mu; exact mu
  have ntup : ∀ c xs, H c = some (.tup xs) → c ≠ x := fun c xs r z => by subst z; rw [r] at mu; exact mu
  by_cases hb : b = x
  · subst hb; rw [upd_same] at q; cases q; exact new
  · rw [upd_ne hb] at q
    by_cases hbe : b = e
    · have q' : H b = some (.own x) := by
        rcases he with z | z
        · exact absurd (hbe.trans z) hb
        · rw [hbe]; exact z
      rw [q] at q'; cases q'
      obtain ⟨v, hv⟩ := heo
      exact ⟨v, by rw [hbe]; exact hv⟩
    · refine (ok b u q).stay (fun c v hc r => k c v ?_ r) (fun c r => by rw [upd_ne (nown c b r)]; exact r) fun c xs r => by rw [upd_ne (ntup c xs r)]; exact r
      rcases hc with rfl | hc
      · exact hbe
      · rintro rfl
        rcases he with z | z
        · exact nown c b hc z
        · rw [hc] at z; cases z; exact hb rfl
end
structure Un (fs ex : List Addr) (H H' : Hp) (h h' : Heap) : Prop where
  keep : ∀ b o, h.get? b = some o → H b = none → b ∉ fs → b ∉ ex → h'.get? b = some o
  slot : ∀ b o, h.get? b = some o → H b = none → b ∈ fs → b ∉ ex → ∃ sl, h'.get? b = some { o with slots := sl }
  free : ∀ b o, h.get? b = some o → H b = none → b ∉ ex → H' b = none
  there : ∀ b o, h.get? b = some o → b ∉ ex → ∃ o', h'.get? b = some o'
  tups : ∀ b xs, H b = some (.tup xs) → H' b = some (.tup xs)
  frzs : ∀ b o u, H b = some (.frz o u) → H' b = some (.frz o u)
  tbls : ∀ b ps, H b = some (.tbl ps) → ∃ more, H' b = some (.tbl (ps ++ more))
section
variable {fs fs' ex ex' : List Addr} {H H1 H2 : Hp} {h h1 h2 h' : Heap} {a x e : Addr} {o : HO}
theorem Un.any (u : Un fs ex H H1 h h1) {b : Addr} {ob : Obj} (q : h.get? b = some ob) (n : H b = none) (hx : b ∉ ex) : ∃ sl, h1.get? b = some { ob with slots := sl } := by
  by_cases hb : b ∈ fs
  · exact u.slot b ob q n hb hx
  · exact ⟨ob.slots, u.keep b ob q n hb hx⟩
theorem Un.kept (k : ∀ b u, h.get? b = some u → h'.get? b = some u) : Un fs ex H H h h' :=
  ⟨fun b ob q _ _ _ => k b ob q, fun b ob q _ _ _ => ⟨ob.slots, k b ob q⟩, fun _ _ _ n _ => n, fun b ob q _ => ⟨ob, k b ob q⟩, fun _ _ q => q, fun _ _ _ q => q, fun _ ps q => ⟨#[], by rw [q]; simp⟩⟩
theorem Un.refl : Un fs ex H H h h := Un.kept fun _ _ q => q
theorem Un.laid (k : ∀ b u, h.get? b = some u → h'.get? b = some u) (hp : h.objs.size ≤ a) (hn : H a = none) : Un fs ex H (upd H a o) h h' where
  keep := fun b u q _ _ _ => k b u q
  slot := fun b u q _ _ _ => ⟨u.slots, k b u q⟩
  free := fun b u q n _ => by rw [upd_ne (Nat.ne_of_lt (Nat.lt_of_lt_of_le (Heap.lt_size q) hp))]; exact n
  there := fun b u q _ => ⟨u, k b u q⟩
  tups := fun b xs q => by rw [upd_ne (ne_of_none q hn)]; exact q
  frzs := fun b u xs q => by rw [upd_ne (ne_of_none q hn)]; exact q
  tbls := fun b ps q => ⟨#[], by rw [upd_ne (ne_of_none q hn), q]; simp⟩
theorem Un.write (mu : Mut (H x)) (he : e = x ∨ H e = some (.own x)) (k : ∀ b u, b ≠ e → h.get? b = some u → h'.get? b = some u) (heo : ∃ u, h'.get? e = some u) : Un fs ex H (upd H x o) h h' := by
  have hx : ∀ b, H b = none → b ≠ x := fun b n z => by subst z; rw [n] at mu; exact mu
  have hb : ∀ b, H b = none → b ≠ e := fun b n z => by
    subst z
    rcases he with r | r
    · exact hx b n r
    · rw [n] at r; cases r
  have hm : ∀ b u, H b = some u → ¬ Mut (some u) → b ≠ x := fun b u q nm z => by subst z; rw [q] at mu; exact nm mu
  refine ⟨fun b u q n _ _ => k b u (hb b n) q, fun b u q n _ _ => ⟨u.slots, k b u (hb b n) q⟩, fun b u q n _ => by rw [upd_ne (hx b n)]; exact n, fun b u q _ => ?_,
    fun b xs q => by rw [upd_ne (hm b _ q fun z => z)]; exact q, fun b u xs q => by rw [upd_ne (hm b _ q fun z => z)]; exact q, fun b ps q => ⟨#[], by rw [upd_ne (hm b _ q fun z => z), q]; simp⟩⟩
  by_cases hbe : b = e
  · subst hbe; exact heo
  · exact ⟨u, k b u hbe q⟩
end
noncomputable def trk (h : Heap) (H : Hp) : List Addr := (List.range h.objs.size).filter fun a => (H a).isSome
noncomputable def hidT (h : Heap) (H : Hp) : Heap := PySem.W.hideAll h (trk h H)
theorem hidT_size (h : Heap) (H : Hp) : (hidT h H).objs.size = h.objs.size := PySem.W.hideAll_size _ _
theorem hidT_get {h : Heap} {H : Hp} {b : Addr} {o : Obj} (e : h.get? b = some o) (n : H b = none) : (hidT h H).get? b = some o :=
  PySem.W.hideAll_get _ e fun hm => by
    have q : (H b).isSome = true := (List.mem_filter.mp hm).2
    rw [n] at q; simp at q
theorem of_hidT {h : Heap} {H : Hp} {b : Addr} {o : Obj} (e : (hidT h H).get? b = some o) : h.get? b = some o ∧ H b = none := by
  have e' : h.get? b = some o := PySem.W.of_hideAll (trk h H) e
  refine ⟨e', ?_⟩
  cases q : H b with
  | none => rfl
  | some x =>
    have hm : b ∈ trk h H := List.mem_filter.mpr ⟨List.mem_range.mpr (Heap.lt_size e'), by simp [q]⟩
    have z : (hidT h H).get? b = none := PySem.W.hideAll_none (trk h H) hm
    rw [z] at e; cases e
end L2
namespace L2
open PySem PySem.Spec PyProof.Rows
structure Mod (K : Fg) (mg : Str → Option Value) (base : Heap) : Prop where
  kin : K.In base
  glob : base.Ns mainGlobals mg
  blt : ∃ mb, base.Ns builtinsNs mb ∧ ∀ x : Str, x ≠ "__name__" → mb x = bootBuiltins x
  nolimit : base.NoLimit
structure Cx where
  prog : Program
  w : World
  K : Fg
  mg : Str → Option Value
  base : Heap
  A : Around
  N : List Str
  s₀ : Shared
  H₀ : Hp
  env : Env
  outer : List Env
  stack : List Env
  ex : List Addr
  fn : Str → Bool
  calm : Bool
  pn : List (Addr × Obj)
  xe : Value → Shared → Prop
noncomputable def frs (l : List Env) : List Addr := l.filterMap (·.frame)
noncomputable abbrev Cx.fs (X : Cx) : List Addr := frs X.outer
noncomputable def Vis (sc : Scope) (x : Str) : Prop := sc.names.lookup x = some .local ∨ sc.names.lookup x = some .cell ∨ sc.names.lookup x = some .free
noncomputable def Loc (sc : Scope) (x : Str) : Prop := sc.names.lookup x = some .local ∨ sc.names.lookup x = some .cell
noncomputable def Look (env : Env) (h : Heap) (m : Str → Option Value) (x : Str) (u : Value) : Prop :=
  (env.kindOf x = some .local ∧ m x = some u) ∨ ((env.kindOf x = some .cell ∨ env.kindOf x = some .free) ∧ ∃ c, env.cells.lookup x = some c ∧ h.IsCell c (some u))
structure Cx.Ok (X : Cx) : Prop where
  mod : Mod X.K X.mg X.base
  kind : X.env.scope.kind = .function
  glob : X.env.globals = mainGlobals
  blt : X.env.builtins = builtinsNs
  above : X.s₀.heap.objs.size ≤ X.env.locals
  inj : ∀ x y c, X.env.cells.lookup x = some c → X.env.cells.lookup y = some c → x = y
  has : ∀ x, (X.env.kindOf x = some .cell ∨ X.env.kindOf x = some .free) → ∃ c, X.env.cells.lookup x = some c
  cab : ∀ x c, X.fn x = true → X.env.cells.lookup x = some c → X.s₀.heap.objs.size ≤ c
  hd : X.calm = true → X.A.handled = none
  frames : X.A.frames = some X.stack
  stk : X.stack = X.outer ∨ (X.stack = X.env :: X.outer ∧ X.env.frame = some X.env.locals)
  exf : ∀ b ∈ X.ex, b ≠ X.env.locals ∧ ∀ x c, X.env.cells.lookup x = some c → c ≠ b
  bs : ∀ b o, X.base.get? b = some o → X.s₀.heap.get? b = some o ∧ X.H₀ b = none
  bsz : X.base.objs.size ≤ X.s₀.heap.objs.size
  noex : ∀ b o, X.base.get? b = some o → b ∉ X.ex
  exfs : ∀ b ∈ X.ex, b ∉ X.fs
  funs : X.s₀.heap.FunFrames X.base X.outer
  frf : ∀ b ∈ X.fs, X.H₀ b = none
structure Inv (X : Cx) (pins : List (Addr × Obj)) (σ : List (Option V)) (H : Hp) (s : Shared) : Prop where
  ok : X.Ok
  os : s.os = X.s₀.os
  bare : AllBare s.gens
  base : Un X.fs X.ex X.H₀ H X.s₀.heap s.heap
  loc : ∃ m, s.heap.Ns X.env.locals m ∧ ∀ (i : Nat) (x : Str) (v : V), X.N[i]? = some x → σ[i]? = some (some v) → Vis X.env.scope x → ∃ u, RelV v u ∧ Look X.env s.heap m x u
  cell : ∀ x c, X.env.cells.lookup x = some c → ∃ v, s.heap.IsCell c v
  free : H X.env.locals = none
  freeC : ∀ x c, X.env.cells.lookup x = some c → H c = none
  pin : ∀ p ∈ X.pn ++ pins, s.heap.get? p.1 = some p.2 ∧ H p.1 = none ∧ p.1 ≠ X.env.locals ∧ p.1 ∉ X.fs ∧ ∀ v, p.2.data ≠ .cell v
  hok : HOk X.prog X.w H s.heap
  len : σ.length = X.N.length
section
variable {X : Cx} {pins : List (Addr × Obj)} {σ : List (Option V)} {H H' : Hp} {s : Shared} {h' : Heap}
theorem Cx.Ok.nofr (ok : X.Ok) {b : Addr} {o : Obj} (e : X.base.get? b = some o) : b ∉ X.fs := fun hb => by
  have := (ok.funs.mem hb).1
  rw [e] at this; cases this
theorem Inv.bs (I : Inv X pins σ H s) : ∀ b o, X.base.get? b = some o → s.heap.get? b = some o ∧ H b = none := fun b o e =>
  ⟨I.base.keep b o (I.ok.bs b o e).1 (I.ok.bs b o e).2 (I.ok.nofr e) (I.ok.noex b o e), I.base.free b o (I.ok.bs b o e).1 (I.ok.bs b o e).2 (I.ok.noex b o e)⟩
theorem Inv.bk (I : Inv X pins σ H s) : ∀ b o, X.base.get? b = some o → s.heap.get? b = some o := fun b o e => (I.bs b o e).1
theorem Inv.mod (I : Inv X pins σ H s) : Mod X.K X.mg X.base := I.ok.mod
theorem Inv.kIn (I : Inv X pins σ H s) : X.K.In s.heap := I.ok.mod.kin.keeps I.bk
theorem Inv.lt (I : Inv X pins σ H s) : X.env.locals < s.heap.objs.size := let ⟨_, hn, _⟩ := I.loc; hn.lt
theorem Inv.sz (I : Inv X pins σ H s) : X.s₀.heap.objs.size ≤ s.heap.objs.size := Nat.le_trans I.ok.above (Nat.le_of_lt I.lt)
theorem Inv.nofs (I : Inv X pins σ H s) {a : Addr} (h : s.heap.objs.size ≤ a) : a ∉ X.fs := fun hb => by
  obtain ⟨_, o, ho, _⟩ := I.ok.funs.mem hb
  exact absurd (Nat.lt_of_lt_of_le (Heap.lt_size ho) (Nat.le_trans I.sz h)) (Nat.lt_irrefl _)
theorem Inv.cne (I : Inv X pins σ H s) : ∀ x c, X.env.cells.lookup x = some c → c ≠ X.env.locals := fun x c e z => by
  obtain ⟨v, o, ho, hd⟩ := I.cell x c e
  obtain ⟨m, ⟨o', es, ep, ho', hd', _⟩, _⟩ := I.loc
  rw [z, ho'] at ho; cases ho; rw [hd'] at hd; cases hd
theorem Inv.funs (I : Inv X pins σ H s) : s.heap.FunFrames X.base X.outer := by
  have all : ∀ (l : List Env), (∀ b ∈ frs l, b ∈ X.fs) → X.s₀.heap.FunFrames X.base l → s.heap.FunFrames X.base l := by
    intro l
    induction l with
    | nil => intro _ _; trivial
    | cons env r ih =>
      intro hs hl
      obtain ⟨hk, ⟨L, o, hf, hn, ho, hd⟩, hr⟩ := hl
      have hL : L ∈ X.fs := hs L (by unfold frs; rw [List.filterMap_cons, hf]; exact List.mem_cons_self)
      obtain ⟨sl, e⟩ := I.base.slot L o ho (I.ok.frf L hL) hL fun z => I.ok.exfs L z hL
      exact ⟨hk, ⟨L, _, hf, hn, e, hd⟩, ih (fun b hb => hs b (by unfold frs; rw [List.filterMap_cons, hf]; exact List.mem_cons_of_mem _ hb)) hr⟩
  exact all X.outer (fun _ hb => hb) I.ok.funs
theorem Inv.stack (I : Inv X pins σ H s) : s.heap.FunFrames X.base X.stack := by
  rcases I.ok.stk with e | ⟨e, hf⟩
  · rw [e]; exact I.funs
  · rw [e]
    obtain ⟨m, hn, _⟩ := I.loc
    refine .cons (by rw [I.ok.kind]; decide) hf hn ?_ I.funs
    exact Heap.get?_none_of_le (Nat.le_trans I.ok.bsz I.ok.above)
theorem Inv.stkSub (I : Inv X pins σ H s) : ∀ b ∈ frs X.stack, b ∈ X.env.locals :: X.fs := fun b hb => by
  rcases I.ok.stk with e | ⟨e, hf⟩
  · rw [e] at hb; exact List.mem_cons_of_mem _ hb
  · rw [e] at hb
    unfold frs at hb
    rw [List.filterMap_cons, hf] at hb
    exact hb
theorem Inv.stkFree (I : Inv X pins σ H s) : ∀ b ∈ frs X.stack, H b = none := fun b hb => by
  rcases List.mem_cons.mp (I.stkSub b hb) with e | hb
  · rw [e]; exact I.free
  · obtain ⟨_, o, ho, _⟩ := I.ok.funs.mem hb
    exact I.base.free b o ho (I.ok.frf b hb) fun z => I.ok.exfs b z hb
theorem Inv.step {g' : Array GenState} {t' : Nat} {d' : Drawn} {ch : List Addr} (I : Inv X pins σ H s)
    (hch : ∀ b ∈ ch, (b ∈ X.ex ∨ X.s₀.heap.objs.size ≤ b) ∧ b ≠ X.env.locals ∧ (∀ x c, X.env.cells.lookup x = some c → c ≠ b) ∧ ∀ p ∈ X.pn ++ pins, p.1 ≠ b)
    (keep : ∀ b o, b ≠ X.env.locals → b ∉ X.fs → b ∉ ch → s.heap.get? b = some o → H b = none → h'.get? b = some o)
    (slot : ∀ b o, b ≠ X.env.locals → b ∈ X.fs → b ∉ ch → s.heap.get? b = some o → H b = none → ∃ sl, h'.get? b = some { o with slots := sl }) (free : ∀ b o, b ∉ ch → s.heap.get? b = some o → H b = none → H' b = none)
    (there : ∀ b o, b ∉ ch → s.heap.get? b = some o → ∃ o', h'.get? b = some o')
    (tups : ∀ b xs, H b = some (.tup xs) → H' b = some (.tup xs)) (frzs : ∀ b o u, H b = some (.frz o u) → H' b = some (.frz o u)) (tbls : ∀ b ps, H b = some (.tbl ps) → ∃ more, H' b = some (.tbl (ps ++ more)))
    (ns : ∀ m, s.heap.Ns X.env.locals m → h'.Ns X.env.locals m) (hok : HOk X.prog X.w H' h') (hg : AllBare g') :
    Inv X pins σ H' { s with heap := h', gens := g', drawn := d', toks := t' } := by
  have neL : ∀ b o, X.s₀.heap.get? b = some o → b ≠ X.env.locals := fun b o e => Nat.ne_of_lt (Nat.lt_of_lt_of_le (Heap.lt_size e) I.ok.above)
  have neC : ∀ b o, X.s₀.heap.get? b = some o → b ∉ X.ex → b ∉ ch := fun b o e hx hb => by
    rcases (hch b hb).1 with z | z
    · exact hx z
    · exact absurd (Nat.lt_of_lt_of_le (Heap.lt_size e) z) (Nat.lt_irrefl _)
  have cellK : ∀ x c, X.env.cells.lookup x = some c → ∀ v, s.heap.IsCell c v → h'.IsCell c v := fun x c e v ⟨o, ho, hd⟩ => by
    have nch : c ∉ ch := fun z => (hch c z).2.2.1 x c e rfl
    by_cases hc : c ∈ X.fs
    · obtain ⟨sl, q⟩ := slot c o (I.cne x c e) hc nch ho (I.freeC x c e)
      exact ⟨_, q, hd⟩
    · exact ⟨o, keep c o (I.cne x c e) hc nch ho (I.freeC x c e), hd⟩
  refine ⟨I.ok, I.os, hg, ⟨fun b o e n hb hx => ?_, fun b o e n hb hx => ?_, fun b o e n hx => ?_, fun b o e hx => ?_, fun b xs e => tups b xs (I.base.tups b xs e), fun b o xs e => frzs b o xs (I.base.frzs b o xs e), fun b ps e => ?_⟩, ?_, fun x c e => ?_, ?_, fun x c e => ?_, fun p hp => ?_, hok, I.len⟩
  · exact keep b o (neL b o e) hb (neC b o e hx) (I.base.keep b o e n hb hx) (I.base.free b o e n hx)
  · obtain ⟨sl, e1⟩ := I.base.slot b o e n hb hx
    obtain ⟨sl', e2⟩ := slot b _ (neL b o e) hb (neC b o e hx) e1 (I.base.free b o e n hx)
    exact ⟨sl', e2⟩
  · obtain ⟨o', e1⟩ := I.base.there b o e hx
    exact free b o' (neC b o e hx) e1 (I.base.free b o e n hx)
  · obtain ⟨o', e1⟩ := I.base.there b o e hx
    exact there b o' (neC b o e hx) e1
  · obtain ⟨m1, e1⟩ := I.base.tbls b ps e
    obtain ⟨m2, e2⟩ := tbls b _ e1
    exact ⟨m1 ++ m2, by rw [e2, Array.append_assoc]⟩
  · obtain ⟨m, hn, hl⟩ := I.loc
    refine ⟨m, ns m hn, fun i x v e1 e2 e3 => ?_⟩
    obtain ⟨u, r, l⟩ := hl i x v e1 e2 e3
    refine ⟨u, r, ?_⟩
    rcases l with l | ⟨k, c, e, z⟩
    · exact .inl l
    · exact .inr ⟨k, c, e, cellK x c e _ z⟩
  · obtain ⟨v, z⟩ := I.cell x c e
    exact ⟨v, cellK x c e v z⟩
  · obtain ⟨m, ⟨o, _, _, ho, _⟩, _⟩ := I.loc
    exact free _ o (fun z => (hch _ z).2.1 rfl) ho I.free
  · obtain ⟨v, o, ho, hd⟩ := I.cell x c e
    exact free c o (fun z => (hch c z).2.2.1 x c e rfl) ho (I.freeC x c e)
  · obtain ⟨e, n, ne, nf, d⟩ := I.pin p hp
    have nch : p.1 ∉ ch := fun z => (hch p.1 z).2.2.2 p hp rfl
    exact ⟨keep p.1 p.2 ne nf nch e n, free p.1 p.2 nch e n, ne, nf, d⟩
theorem Inv.un {t' : Nat} (I : Inv X pins σ H s) (u : Un X.fs [] H H' s.heap h') (hok : HOk X.prog X.w H' h') : Inv X pins σ H' { s with heap := h', toks := t' } := by
  obtain ⟨m, ⟨o, es, ep, ho, r⟩, _⟩ := id I.loc
  obtain ⟨sl, hL⟩ := u.any ho I.free (by simp)
  exact I.step (g' := s.gens) (d' := s.drawn) (ch := []) (fun _ z => nomatch z) (fun b o _ hb _ e n => u.keep b o e n hb (by simp)) (fun b o _ hb _ e n => u.slot b o e n hb (by simp)) (fun b o _ e n => u.free b o e n (by simp)) (fun b o _ e => u.there b o e (by simp)) u.tups u.frzs u.tbls (fun m' hm => by
    obtain ⟨o', es', ep', ho', r'⟩ := hm
    rw [ho] at ho'; cases ho'
    exact ⟨_, es', ep', hL, r'⟩) hok I.bare
theorem Inv.call {g' : Array GenState} {t' : Nat} {d' : Drawn} {ch : List Addr} (I : Inv X pins σ H s) (u : Un (frs X.stack) ch H H' s.heap h') (hok : HOk X.prog X.w H' h') (hg : AllBare g')
    (hch : ∀ b ∈ ch, (b ∈ X.ex ∨ X.s₀.heap.objs.size ≤ b) ∧ b ≠ X.env.locals ∧ (∀ x c, X.env.cells.lookup x = some c → c ≠ b) ∧ ∀ p ∈ X.pn ++ pins, p.1 ≠ b) :
    Inv X pins σ H' { s with heap := h', gens := g', drawn := d', toks := t' } := by
  obtain ⟨m, ⟨o, es, ep, ho, r⟩, _⟩ := id I.loc
  obtain ⟨sl, hL⟩ := u.any ho I.free fun z => (hch _ z).2.1 rfl
  exact I.step (ch := ch) hch (fun b o hL hb hc e n => u.keep b o e n (fun z => (List.mem_cons.mp (I.stkSub b z)).elim hL hb) hc) (fun b o _ _ hc e n => u.any e n hc) (fun b o hc e n => u.free b o e n hc) (fun b o hc e => u.there b o e hc) u.tups u.frzs u.tbls (fun m' hm => by
    obtain ⟨o', es', ep', ho', r'⟩ := hm
    rw [ho] at ho'; cases ho'
    exact ⟨_, es', ep', hL, r'⟩) hok hg
theorem Inv.turned {t' : Nat} {it : Addr} (I : Inv X pins σ H s) (k : ∀ b o, b ≠ it → s.heap.get? b = some o → h'.get? b = some o) (hn : H it = none) (hL : it ≠ X.env.locals)
    (h1 : it ∈ X.ex ∨ X.s₀.heap.objs.size ≤ it) (h2 : ∀ x c, X.env.cells.lookup x = some c → c ≠ it) (h3 : ∀ p ∈ X.pn ++ pins, p.1 ≠ it) : Inv X pins σ H { s with heap := h', toks := t' } := by
  have nit : ∀ b u, H b = some u → b ≠ it := fun b u e z => by rw [z, hn] at e; cases e
  refine I.step (g' := s.gens) (d' := s.drawn) (ch := [it]) (fun b hb => ?_) (fun b o _ _ hc e _ => k b o (fun z => hc (by simp [z])) e) (fun b o _ _ hc e _ => ⟨o.slots, k b o (fun z => hc (by simp [z])) e⟩) (fun _ _ _ _ n => n)
    (fun b o hc e => ⟨o, k b o (fun z => hc (by simp [z])) e⟩) (fun _ _ e => e) (fun _ _ _ e => e) (fun b ps e => ⟨#[], by rw [e]; simp⟩) (fun m hm => ?_) (fun b u e => ?_) I.bare
  · have e : b = it := by simpa using hb
    subst e
    exact ⟨h1, hL, h2, h3⟩
  · obtain ⟨o, es, ep, ho, r⟩ := hm
    exact ⟨o, es, ep, k _ o (Ne.symm hL) ho, r⟩
  · refine (I.hok b u e).stay (fun c v hc q => k c v ?_ q) (fun _ q => q) fun _ _ q => q
    rcases hc with z | z
    · rw [z]; exact nit b u e
    · exact nit c _ z
theorem Inv.tok (I : Inv X pins σ H s) (t : Nat) : Inv X pins σ H { s with toks := t } := I.un (h' := s.heap) (t' := t) Un.refl I.hok
theorem Inv.kept {t' : Nat} (I : Inv X pins σ H s) (k : ∀ b u, s.heap.get? b = some u → h'.get? b = some u) : Inv X pins σ H { s with heap := h', toks := t' } := I.un (Un.kept k) (I.hok.kept k)
theorem Inv.laid {a : Addr} {o : HO} {t' : Nat} (I : Inv X pins σ H s) (k : ∀ b u, s.heap.get? b = some u → h'.get? b = some u) (hp : s.heap.objs.size ≤ a) (new : ObjOk X.prog X.w (upd H a o) h' a o) :
    Inv X pins σ (upd H a o) { s with heap := h', toks := t' } := I.un (Un.laid k hp (I.hok.fresh hp)) (I.hok.laid k hp new)
theorem Inv.write {x e : Addr} {o : HO} {t' : Nat} (I : Inv X pins σ H s) (mu : Mut (H x)) (he : e = x ∨ H e = some (.own x)) (k : ∀ b u, b ≠ e → s.heap.get? b = some u → h'.get? b = some u) (heo : ∃ u, h'.get? e = some u)
    (new : ObjOk X.prog X.w (upd H x o) h' x o) : Inv X pins σ (upd H x o) { s with heap := h', toks := t' } := I.un (Un.write mu he k heo) (I.hok.write mu he k heo new)
theorem Inv.pins_of {pins' : List (Addr × Obj)} (I : Inv X pins σ H s) (h : ∀ p ∈ pins', s.heap.get? p.1 = some p.2 ∧ H p.1 = none ∧ p.1 ≠ X.env.locals ∧ p.1 ∉ X.fs ∧ ∀ v, p.2.data ≠ .cell v) : Inv X pins' σ H s :=
  ⟨I.ok, I.os, I.bare, I.base, I.loc, I.cell, I.free, I.freeC, fun p hp => (List.mem_append.mp hp).elim (fun z => I.pin p (List.mem_append_left _ z)) (h p), I.hok, I.len⟩
theorem nodup_ix {N : List Str} (hN : N.Nodup) {i j : Nat} {x : Str} (a : N[i]? = some x) (b : N[j]? = some x) : i = j := by
  obtain ⟨h1, e1⟩ := List.getElem?_eq_some_iff.mp a
  obtain ⟨h2, e2⟩ := List.getElem?_eq_some_iff.mp b
  exact (List.getElem_inj hN).mp (e1.trans e2.symm)
theorem store_ok2 {M : Model} {A : Around} {E : Value → Shared → Prop} {i : Nat} {x : Str} {v : V} {u : Value} {Q : Unit → Shared → Prop} (I : Inv X pins σ H s) (hN : X.N.Nodup) (hi : X.N[i]? = some x) (hx : Loc X.env.scope x) (r : RelV v u)
    (h : ∀ s', Inv X pins (σ.set i (some v)) H s' → (∃ a, Heap.SameBut a s.heap s'.heap ∧ (a = X.env.locals ∨ X.env.cells.lookup x = some a)) → Q () s') (hf : X.fn x = true ∨ X.env.scope.names.lookup x = some .local := by first | exact .inl rfl | exact .inr rfl | assumption) : wpAny M A (storeName X.env x u) Q E s := by
  obtain ⟨m, hn, hl⟩ := id I.loc
  have hcls : (X.env.scope.kind == .class || (X.env.scope.kind == .module && X.env.locals != X.env.globals)) = false := by rw [I.ok.kind]; rfl
  have hiσ : i < σ.length := by rw [I.len]; exact (List.getElem?_eq_some_iff.mp hi).1
  have cne := I.cne
  have tracked : ∀ {a : Addr} {h' : Heap}, (∃ o, s.heap.get? a = some o ∧ H a = none) → Heap.SameBut a s.heap h' → HOk X.prog X.w H h' := fun {a h'} ha hs b ob e => by
    obtain ⟨_, _, hfree⟩ := ha
    refine (I.hok b ob e).stay (fun c w' hc q => (hs.2 c ?_).trans q) (fun _ q => q) fun _ _ q => q
    rintro rfl
    rcases hc with rfl | hc
    · rw [hfree] at e; cases e
    · rw [hfree] at hc; cases hc
  rcases hx with hk | hk
  · refine wpAny_storeName_local hk hn (fun h' hn' hs => ?_) hcls
    obtain ⟨oL, _, _, hoL, _⟩ := id hn
    refine h _ ⟨I.ok, I.os, I.bare, ⟨fun b o e n hb hx => ?_, fun b o e n hb hx => ?_, I.base.free, fun b o e hx => ?_, I.base.tups, I.base.frzs, I.base.tbls⟩, ⟨_, hn', fun j y v' e1 e2 e3 => ?_⟩, fun y c e => ?_, I.free, I.freeC, fun p hp => ?_, tracked ⟨oL, hoL, I.free⟩ hs, by simpa using I.len⟩ ⟨_, hs, .inl rfl⟩
    · exact (hs.2 b (Nat.ne_of_lt (Nat.lt_of_lt_of_le (Heap.lt_size e) I.ok.above))).trans (I.base.keep b o e n hb hx)
    · obtain ⟨sl, e1⟩ := I.base.slot b o e n hb hx
      exact ⟨sl, (hs.2 b (Nat.ne_of_lt (Nat.lt_of_lt_of_le (Heap.lt_size e) I.ok.above))).trans e1⟩
    · obtain ⟨o', e1⟩ := I.base.there b o e hx
      exact ⟨o', (hs.2 b (Nat.ne_of_lt (Nat.lt_of_lt_of_le (Heap.lt_size e) I.ok.above))).trans e1⟩
    · by_cases hj : j = i
      · subst hj
        rw [hi] at e1; cases e1
        rw [List.getElem?_set_self hiσ] at e2
        cases e2
        exact ⟨u, r, .inl ⟨hk, by simp⟩⟩
      · rw [List.getElem?_set_ne (Ne.symm hj)] at e2
        obtain ⟨u', r', q⟩ := hl j y v' e1 e2 e3
        refine ⟨u', r', ?_⟩
        rcases q with ⟨k, e⟩ | ⟨k, c, e, z⟩
        · refine .inl ⟨k, ?_⟩
          have : y ≠ x := fun e => hj (nodup_ix hN e1 (e ▸ hi))
          simp [this, e]
        · exact .inr ⟨k, c, e, z.sameBut hs (cne y c e)⟩
    · obtain ⟨w', z⟩ := I.cell y c e
      exact ⟨w', z.sameBut hs (cne y c e)⟩
    · obtain ⟨e, n, ne, nf, d⟩ := I.pin p hp
      exact ⟨(hs.2 p.1 ne).trans e, n, ne, nf, d⟩
  · have hfn : X.fn x = true := by
      rcases hf with z | z
      · exact z
      · rw [z] at hk; cases hk
    obtain ⟨c, hc⟩ := I.ok.has x (.inl hk)
    obtain ⟨w', z⟩ := I.cell x c hc
    refine wpAny_storeName_cell I.ok.kind hk hc z (fun h' hc' hs => ?_)
    obtain ⟨oc, hoc, hocd⟩ := id z
    refine h { s with heap := h' } ⟨I.ok, I.os, I.bare, ⟨fun b o e n hb hx => ?_, fun b o e n hb hx => ?_, I.base.free, fun b o e hx => ?_, I.base.tups, I.base.frzs, I.base.tbls⟩, ⟨m, hn.sameBut hs (Ne.symm (cne x c hc)), fun j y v' e1 e2 e3 => ?_⟩, fun y c' e => ?_, I.free, I.freeC, fun p hp => ?_, tracked ⟨oc, hoc, I.freeC x c hc⟩ hs, by simpa using I.len⟩ ⟨c, hs, .inr hc⟩
    · exact (hs.2 b (Nat.ne_of_lt (Nat.lt_of_lt_of_le (Heap.lt_size e) (I.ok.cab x c hfn hc)))).trans (I.base.keep b o e n hb hx)
    · obtain ⟨sl, e1⟩ := I.base.slot b o e n hb hx
      exact ⟨sl, (hs.2 b (Nat.ne_of_lt (Nat.lt_of_lt_of_le (Heap.lt_size e) (I.ok.cab x c hfn hc)))).trans e1⟩
    · obtain ⟨o', e1⟩ := I.base.there b o e hx
      exact ⟨o', (hs.2 b (Nat.ne_of_lt (Nat.lt_of_lt_of_le (Heap.lt_size e) (I.ok.cab x c hfn hc)))).trans e1⟩
    · by_cases hj : j = i
      · subst hj
        rw [hi] at e1; cases e1
        rw [List.getElem?_set_self hiσ] at e2
        cases e2
        exact ⟨u, r, .inr ⟨.inl hk, c, hc, hc'⟩⟩
      · rw [List.getElem?_set_ne (Ne.symm hj)] at e2
        obtain ⟨u', r', q⟩ := hl j y v' e1 e2 e3
        refine ⟨u', r', ?_⟩
        rcases q with q | ⟨k, c', e, z'⟩
        · exact .inl q
        · refine .inr ⟨k, c', e, z'.sameBut hs ?_⟩
          rintro rfl
          exact hj (nodup_ix hN e1 (I.ok.inj _ _ _ e hc ▸ hi))
    · by_cases hcc : c' = c
      · subst hcc; exact ⟨_, hc'⟩
      · obtain ⟨w2, z2⟩ := I.cell y c' e
        exact ⟨w2, z2.sameBut hs hcc⟩
    · obtain ⟨e, n, ne, nf, d⟩ := I.pin p hp
      refine ⟨(hs.2 p.1 ?_).trans e, n, ne, nf, d⟩
      intro q
      rw [q, hoc] at e
      have q' : oc = p.2 := Option.some.inj e
      exact d w' (by rw [← q']; exact hocd)
theorem store_ok {M : Model} {A : Around} {E : Value → Shared → Prop} {i : Nat} {x : Str} {v : V} {u : Value} {Q : Unit → Shared → Prop} (I : Inv X pins σ H s) (hN : X.N.Nodup) (hi : X.N[i]? = some x) (hx : Loc X.env.scope x) (r : RelV v u)
    (h : ∀ s', Inv X pins (σ.set i (some v)) H s' → Q () s') (hf : X.fn x = true ∨ X.env.scope.names.lookup x = some .local := by first | exact .inl rfl | exact .inr rfl | assumption) : wpAny M A (storeName X.env x u) Q E s :=
  store_ok2 I hN hi hx r (fun s' I' _ => h s' I') hf
theorem Inv.call' {s' : Shared} {ch : List Addr} (I : Inv X pins σ H s) (ho : s'.os = s.os) (u : Un (frs X.stack) ch H H' s.heap s'.heap) (hok : HOk X.prog X.w H' s'.heap) (hg : AllBare s'.gens)
    (hch : ∀ b ∈ ch, (b ∈ X.ex ∨ X.s₀.heap.objs.size ≤ b) ∧ b ≠ X.env.locals ∧ (∀ x c, X.env.cells.lookup x = some c → c ≠ b) ∧ ∀ p ∈ X.pn ++ pins, p.1 ≠ b) : Inv X pins σ H' s' := by
  obtain ⟨h', g', d', t', o'⟩ := s'
  have e : o' = s.os := ho
  subst e
  exact I.call (g' := g') (t' := t') (d' := d') u hok hg hch
end
noncomputable abbrev XK := Value → Option Addr → Hp → Prop
noncomputable abbrev St := List (Option V)
noncomputable abbrev VK := V → Hp → Prop
noncomputable abbrev TE := St → Hp → VK → Prop
noncomputable abbrev TT := St → Hp → (Bool → Hp → Prop) → Prop
noncomputable abbrev TA := St → Hp → (List V → Hp → Prop) → Prop
structure Ends where
  nx : St → Hp → Prop
  rt : VK
  bk : St → Hp → Prop := fun _ _ => False
  ct : St → Hp → Prop := fun _ _ => False
noncomputable abbrev TS := Ends → St → Hp → Prop
noncomputable def EP (X : Cx) (pins : List (Addr × Obj)) (σ : St) (Q : VK) (u : Value) (s' : Shared) : Prop := ∃ v H', Inv X pins σ H' s' ∧ RelV v u ∧ Q v H'
noncomputable def TP (X : Cx) (pins : List (Addr × Obj)) (σ : St) (Q : Bool → Hp → Prop) (b : Bool) (s' : Shared) : Prop := ∃ H', Inv X pins σ H' s' ∧ Q b H'
noncomputable def AP (X : Cx) (pins : List (Addr × Obj)) (σ : St) (Q : List V → Hp → Prop) (us : List Value) (s' : Shared) : Prop := ∃ vs H', Inv X pins σ H' s' ∧ Vals vs us ∧ Q vs H'
noncomputable def SP (X : Cx) (pins : List (Addr × Obj)) (D : Ends) (f : Flow) (s' : Shared) : Prop :=
  match f with
  | .next => ∃ σ' H', Inv X pins σ' H' s' ∧ D.nx σ' H'
  | .brk => ∃ σ' H', Inv X pins σ' H' s' ∧ D.bk σ' H'
  | .cont => ∃ σ' H', Inv X pins σ' H' s' ∧ D.ct σ' H'
  | .ret u => ∃ v σ' H', Inv X pins σ' H' s' ∧ RelV v u ∧ D.rt v H'
noncomputable def PE (X : Cx) (e : Expr) (t : TE) : Prop :=
  ∀ (pins : List (Addr × Obj)) (s : Shared) (σ : St) (H : Hp) (Q : VK), Inv X pins σ H s → t σ H Q → wpAny (model X.prog X.w) X.A (eval e X.env) (EP X pins σ Q) X.xe s
noncomputable def PT (X : Cx) (e : Expr) (t : TT) : Prop :=
  ∀ (pins : List (Addr × Obj)) (s : Shared) (σ : St) (H : Hp) (Q : Bool → Hp → Prop), Inv X pins σ H s → t σ H Q → wpAny (model X.prog X.w) X.A (isTrue e X.env (eval e X.env)) (TP X pins σ Q) X.xe s
noncomputable def PW (X : Cx) (e : Expr) (t : TT) : Prop :=
  ∀ (whole : Sem Value) (pins : List (Addr × Obj)) (s : Shared) (σ : St) (H : Hp) (Q : Bool → Hp → Prop), Inv X pins σ H s → t σ H Q → wpAny (model X.prog X.w) X.A (isTrue e X.env whole) (TP X pins σ Q) X.xe s
theorem PW.pt {X : Cx} {e : Expr} {t : TT} (h : PW X e t) : PT X e t := h _
noncomputable def PA (X : Cx) (es : List Expr) (t : TA) : Prop :=
  ∀ (pos : Pos) (pins : List (Addr × Obj)) (s : Shared) (σ : St) (H : Hp) (Q : List V → Hp → Prop), Inv X pins σ H s → t σ H Q → wpAny (model X.prog X.w) X.A (spliced (backTo pos (starEach es X.env))) (AP X pins σ Q) X.xe s
noncomputable def PS (X : Cx) (st : Stmt) (t : TS) : Prop :=
  ∀ (pins : List (Addr × Obj)) (s : Shared) (σ : St) (H : Hp) (D : Ends), Inv X pins σ H s → t D σ H → wpAny (model X.prog X.w) X.A (exec st X.env) (SP X pins D) X.xe s
noncomputable def PSs (X : Cx) (st : List Stmt) (t : TS) : Prop :=
  ∀ (pins : List (Addr × Obj)) (s : Shared) (σ : St) (H : Hp) (D : Ends), Inv X pins σ H s → t D σ H → wpAny (model X.prog X.w) X.A (execs st X.env) (SP X pins D) X.xe s
theorem thn {α : Type} {t : Sem α} {Q Q' : α → Shared → Prop} {M : Model} {A : Around} {E : Value → Shared → Prop} {s : Shared} (h : wpAny M A t Q E s) (hQ : ∀ a s, Q a s → Q' a s) : wpAny M A t Q' E s := wpAny_mono h hQ fun _ _ x => x
end L2
namespace L2
open PySem PySem.Spec PyProof.Rows
section
variable {X : Cx}
noncomputable def tVar (i : Nat) : TE := fun σ H Q => ∃ v, σ[i]? = some (some v) ∧ Q v H
noncomputable def tC (v : V) : TE := fun _ H Q => Q v H
theorem pe_var {i : Nat} {x : Str} {pos : Pos} (hN : X.N[i]? = some x) (hv : Vis X.env.scope x) (hd : (x == ("__debug__" : Str)) = false := by decide) (hcd : (x == ("__classdict__" : Str)) = false := by decide) : PE X (.Name x pos) (tVar i) := by
  intro pins s σ H Q I h
  obtain ⟨v, e, h⟩ := h
  obtain ⟨m, hn, hl⟩ := I.loc
  obtain ⟨u, r, l⟩ := hl i x v hN e hv
  have fin : EP X pins σ Q u s := ⟨v, H, I, r, h⟩
  rcases l with ⟨hk, hm⟩ | ⟨hk, c, hc, hcell⟩
  · exact wpAny_Name (wpAny_loadName_local I.ok.kind hk hn hm fin) hd
  · rcases hk with hk | hk
    · exact wpAny_Name (wpAny_loadName_cell I.ok.kind hk hc hcell fin) hd
    · exact wpAny_Name (wpAny_loadName_free I.ok.kind hk hc hcell fin hcd) hd
theorem pe_int {i j pos} : PE X (.Constant (.int i) j pos) (tC (.int i)) := fun _ _ _ H _ I h => wpAny_Constant_int ⟨.int i, H, I.tok _, ⟨_, rfl⟩, h⟩
theorem pe_bl {b j pos} : PE X (.Constant (.bool b) j pos) (tC (.bl b)) := fun _ _ _ H _ I h => Constant_bool ⟨.bl b, H, I, rfl, h⟩
theorem pe_non {j pos} : PE X (.Constant .none j pos) (tC .non) := fun _ _ _ H _ I h => Constant_none ⟨.non, H, I, rfl, h⟩
theorem pe_str {x j pos} : PE X (.Constant (.str x) j pos) (tC (.str x)) := fun _ _ _ H _ I h => Calls.Constant_str ⟨.str x, H, I.tok _, ⟨_, rfl⟩, h⟩
noncomputable def Gl (X : Cx) (x : Str) : Prop := X.env.kindOf x = some .globalImplicit
theorem ld_glob {E : Value → Shared → Prop} {pins : List (Addr × Obj)} {s : Shared} {σ : St} {H : Hp} {x : Str} {u : Value} {pos : Pos} {Q : Value → Shared → Prop} (I : Inv X pins σ H s) (hg : Gl X x) (hm : X.mg x = some u) (h : Q u s)
    (hd : (x == ("__debug__" : Str)) = false := by decide) : wpAny (model X.prog X.w) X.A (eval (.Name x pos) X.env) Q E s :=
  Calls.Name_function_global I.ok.kind hg (Calls.loadGlobal_global (by rw [I.ok.glob]; exact I.mod.glob.keeps I.bk) hm h) hd
theorem ld_blt {E : Value → Shared → Prop} {pins : List (Addr × Obj)} {s : Shared} {σ : St} {H : Hp} {x : Str} {u : Value} {pos : Pos} {Q : Value → Shared → Prop} (I : Inv X pins σ H s) (hg : Gl X x) (hm : X.mg x = none) (hv : bootBuiltins x = some u) (h : Q u s)
    (hn : x ≠ "__name__" := by decide) (hd : (x == ("__debug__" : Str)) = false := by decide) : wpAny (model X.prog X.w) X.A (eval (.Name x pos) X.env) Q E s := by
  obtain ⟨mb, h1, h2⟩ := I.mod.blt
  exact Calls.Name_function_global I.ok.kind hg (Calls.loadGlobal_builtin (by rw [I.ok.glob]; exact I.mod.glob.keeps I.bk) hm (by rw [I.ok.blt]; exact h1.keeps I.bk) ((h2 x hn).trans hv) h) hd
theorem pe_glob {x : Str} {v : V} {u : Value} {pos : Pos} (hg : Gl X x) (hm : X.mg x = some u) (r : RelV v u) (hd : (x == ("__debug__" : Str)) = false := by decide) : PE X (.Name x pos) (tC v) :=
  fun _ _ _ H _ I h => ld_glob I hg hm ⟨v, H, I, r, h⟩ hd
theorem pe_bltn {x : Str} {v : V} {u : Value} {pos : Pos} (hg : Gl X x) (hm : X.mg x = none) (hv : bootBuiltins x = some u) (r : RelV v u) (hn : x ≠ "__name__" := by decide) (hd : (x == ("__debug__" : Str)) = false := by decide) : PE X (.Name x pos) (tC v) :=
  fun _ _ _ H _ I h => ld_blt I hg hm hv ⟨v, H, I, r, h⟩ hn hd
variable {a b : Expr} {ta tb : TE} {pos : Pos}
variable {tA tB' : TT} {rest : List Expr}
noncomputable def tAnd (t u : TT) : TT := fun σ H Q => t σ H fun c H1 => if c = true then u σ H1 Q else Q false H1
noncomputable def tOr (t u : TT) : TT := fun σ H Q => t σ H fun c H1 => if c = true then Q true H1 else u σ H1 Q
noncomputable def tNot (t : TT) : TT := fun σ H Q => t σ H fun c H1 => Q (!c) H1
theorem pw_and1 (ha : PT X a tA) : PW X (.BoolOp .And [a] pos) tA := by
  intro wh pins s σ H Q I h
  refine isTrue_and (thn (ha pins s σ H Q I h) fun c s1 e => ?_)
  cases c with
  | true => exact isTrue_and_nil e
  | false => exact e
theorem pw_or1 (ha : PT X a tA) : PW X (.BoolOp .Or [a] pos) tA := by
  intro wh pins s σ H Q I h
  refine isTrue_or (thn (ha pins s σ H Q I h) fun c s1 e => ?_)
  cases c with
  | false => exact isTrue_or_nil e
  | true => exact e
theorem pw_and (ha : PT X a tA) (hb : PW X (.BoolOp .And (b :: rest) pos) tB') : PW X (.BoolOp .And (a :: b :: rest) pos) (tAnd tA tB') := by
  intro wh pins s σ H Q I h
  refine isTrue_and (thn (ha pins s σ H _ I h) fun c s1 ⟨H1, I1, q1⟩ => ?_)
  cases c with
  | true => exact hb wh pins s1 σ H1 Q I1 q1
  | false => exact ⟨H1, I1, q1⟩
theorem pw_or (ha : PT X a tA) (hb : PW X (.BoolOp .Or (b :: rest) pos) tB') : PW X (.BoolOp .Or (a :: b :: rest) pos) (tOr tA tB') := by
  intro wh pins s σ H Q I h
  refine isTrue_or (thn (ha pins s σ H _ I h) fun c s1 ⟨H1, I1, q1⟩ => ?_)
  cases c with
  | true => exact ⟨H1, I1, q1⟩
  | false => exact hb wh pins s1 σ H1 Q I1 q1
theorem pt_not (ha : PT X a tA) : PT X (.UnaryOp .Not a pos) (tNot tA) := by
  intro pins s σ H Q I h
  exact isTrue_not (ha pins s σ H (fun c H1 => Q (!c) H1) I h)
noncomputable def tAndV (ta tb : TE) : TE := fun σ H Q => ta σ H fun x H1 => ∃ c, x = .bl c ∧ if c = true then tb σ H1 Q else Q (.bl false) H1
noncomputable def tOrV (ta tb : TE) : TE := fun σ H Q => ta σ H fun x H1 => ∃ c, x = .bl c ∧ if c = true then Q (.bl true) H1 else tb σ H1 Q
theorem pe_one {op} {t : TE} (h : PE X a t) : PE X (.BoolOp op [a] pos) t := fun pins s σ H Q I hw => BoolOp_one (h pins s σ H Q I hw)
theorem pe_and (ha : PE X a ta) (hb : PE X (.BoolOp .And (b :: rest) pos) tb) : PE X (.BoolOp .And (a :: b :: rest) pos) (tAndV ta tb) := by
  intro pins s σ H Q I h
  refine BoolOp_and (thn (ha pins s σ H _ I h) fun v s1 ⟨x, H1, I1, r1, q1⟩ => ?_)
  obtain ⟨c, rfl, q1⟩ := q1
  cases r1
  refine wpAny_truthy_bool ?_
  cases c with
  | true => exact hb pins s1 σ H1 Q I1 q1
  | false => exact ⟨.bl false, H1, I1, rfl, q1⟩
theorem pe_or (ha : PE X a ta) (hb : PE X (.BoolOp .Or (b :: rest) pos) tb) : PE X (.BoolOp .Or (a :: b :: rest) pos) (tOrV ta tb) := by
  intro pins s σ H Q I h
  refine BoolOp_or (thn (ha pins s σ H _ I h) fun v s1 ⟨x, H1, I1, r1, q1⟩ => ?_)
  obtain ⟨c, rfl, q1⟩ := q1
  cases r1
  refine wpAny_truthy_bool ?_
  cases c with
  | false => exact hb pins s1 σ H1 Q I1 q1
  | true => exact ⟨.bl true, H1, I1, rfl, q1⟩
end
end L2
namespace L2
open PySem PySem.Spec PyProof.Rows
noncomputable def SqL (K : Fg) (H : Hp) (a : Addr) (xs : List V) : Prop :=
  Rd H a (.lst xs) ∨
    ∃ (o : Obj) (its : Array Value) (n : Nat), K.lookup a = some o ∧ o.cls = .type "list" ∧ o.dict = none ∧ o.data = .seq its n ∧ its.size ≤ sizeLine ∧ Vals xs its.toList
noncomputable def SqT (K : Fg) (H : Hp) (a : Addr) (xs : List V) : Prop :=
  Rd H a (.tup xs) ∨
    ∃ (o : Obj) (its : Array Value) (n : Nat), K.lookup a = some o ∧ o.cls = .type "tuple" ∧ o.data = .seq its n ∧ its.size ≤ sizeLine ∧ Vals xs its.toList
noncomputable def absV : Value → Option V
  | .none => some .non
  | .bool b => some (.bl b)
  | .int i _ => some (.int i)
  | .str x _ => some (.str x)
  | .bytes b _ => some (.byt b)
  | .float b _ => some (.flt b)
  | .ref a => some (.ref a)
  | .type n => some (.ty n)
  | _ => none
theorem RelV.abs {x : V} {u : Value} (r : RelV x u) : absV u = some x := by
  cases x with
  | non => cases r; rfl
  | bl _ => cases r; rfl
  | int _ => obtain ⟨t, rfl⟩ := r; rfl
  | str _ => obtain ⟨t, rfl⟩ := r; rfl
  | byt _ => obtain ⟨t, rfl⟩ := r; rfl
  | flt _ => obtain ⟨t, rfl⟩ := r; rfl
  | ref _ => cases r; rfl
  | ty _ => cases r; rfl
theorem RelV.inj {x y : V} {u : Value} (r : RelV x u) (q : RelV y u) : x = y := Option.some.inj (r.abs.symm.trans q.abs)
theorem Vals.inj : ∀ {xs ys : List V} {us : List Value}, Vals xs us → Vals ys us → xs = ys
  | _, _, _, .nil, .nil => rfl
  | _, _, _, .cons r t, .cons r' t' => by rw [r.inj r', Vals.inj t t']
section
variable {X : Cx} {pins : List (Addr × Obj)} {σ : St} {H : Hp} {s : Shared} {a : Addr} {xs ys : List V}
theorem SqL.of {K : Fg} (h : H a = some (.lst xs)) : SqL K H a xs := .inl (.inl h)
theorem SqT.of {K : Fg} (h : H a = some (.tup xs)) : SqT K H a xs := .inl (.inl h)
theorem Inv.list (I : Inv X pins σ H s) (h : SqL X.K H a xs) : ∃ its : List Value, Vals xs its ∧ PlainL s.heap a its.toArray ∧ xs.length ≤ sizeLine := by
  rcases h with h | ⟨o, its, n, hk, hc, hd, hs, hz, r⟩
  · obtain ⟨z, its, n, r, e⟩ := h.ok I.hok
    exact ⟨its, r, ⟨_, n, e, rfl, rfl, rfl⟩, z⟩
  · refine ⟨its.toList, r, ⟨o, n, I.kIn a o hk, hc, hd, by simpa using hs⟩, ?_⟩
    have e := r.length
    simp only [Array.length_toList] at e
    omega
theorem Inv.tuple (I : Inv X pins σ H s) (h : SqT X.K H a xs) : ∃ its : List Value, Vals xs its ∧ IsTup s.heap a its.toArray ∧ xs.length ≤ sizeLine := by
  rcases h with h | ⟨o, its, n, hk, hc, hs, hz, r⟩
  · obtain ⟨z, its, r, p⟩ := h.ok I.hok
    exact ⟨its, r, p, z⟩
  · refine ⟨its.toList, r, ⟨o, I.kIn a o hk, hc, n, by simpa using hs⟩, ?_⟩
    have e := r.length
    simp only [Array.length_toList] at e
    omega
theorem Inv.list_inj (I : Inv X pins σ H s) (h : SqL X.K H a xs) (h' : SqL X.K H a ys) : xs = ys := by
  obtain ⟨its, r, ⟨o, n, e, _, _, d⟩, _⟩ := I.list h
  obtain ⟨its', r', ⟨o', n', e', _, _, d'⟩, _⟩ := I.list h'
  rw [e] at e'; cases e'
  rw [d] at d'
  injection d' with d1 _
  have : its = its' := by simpa using congrArg Array.toList d1
  subst this
  exact r.inj r'
theorem Inv.tuple_inj (I : Inv X pins σ H s) (h : SqT X.K H a xs) (h' : SqT X.K H a ys) : xs = ys := by
  obtain ⟨its, r, ⟨o, e, _, n, d⟩, _⟩ := I.tuple h
  obtain ⟨its', r', ⟨o', e', _, n', d'⟩, _⟩ := I.tuple h'
  rw [e] at e'; cases e'
  rw [d] at d'
  injection d' with d1 _
  have : its = its' := by simpa using congrArg Array.toList d1
  subst this
  exact r.inj r'
end
noncomputable abbrev Cx.wish (X : Cx) (E : Value → Shared → Prop) : Cx := { X with xe := E }
noncomputable abbrev Cx.nox (X : Cx) : Cx := X.wish fun _ _ => False
theorem Cx.Ok.wish {X : Cx} (ok : X.Ok) (E : Value → Shared → Prop) : (X.wish E).Ok :=
  ⟨ok.mod, ok.kind, ok.glob, ok.blt, ok.above, ok.inj, ok.has, ok.cab, ok.hd, ok.frames, ok.stk, ok.exf, ok.bs, ok.bsz, ok.noex, ok.exfs, ok.funs, ok.frf⟩
theorem Cx.Ok.unwish {X : Cx} {E : Value → Shared → Prop} (ok : (X.wish E).Ok) : X.Ok :=
  ⟨ok.mod, ok.kind, ok.glob, ok.blt, ok.above, ok.inj, ok.has, ok.cab, ok.hd, ok.frames, ok.stk, ok.exf, ok.bs, ok.bsz, ok.noex, ok.exfs, ok.funs, ok.frf⟩
section
variable {X : Cx} {pins : List (Addr × Obj)} {σ : St} {H : Hp} {s : Shared} {E : Value → Shared → Prop}
theorem Inv.wish (I : Inv X pins σ H s) (E : Value → Shared → Prop) : Inv (X.wish E) pins σ H s := ⟨I.ok.wish E, I.os, I.bare, I.base, I.loc, I.cell, I.free, I.freeC, I.pin, I.hok, I.len⟩
theorem Inv.unwish (I : Inv (X.wish E) pins σ H s) : Inv X pins σ H s := ⟨I.ok.unwish, I.os, I.bare, I.base, I.loc, I.cell, I.free, I.freeC, I.pin, I.hok, I.len⟩
theorem SP.unwish {D : Ends} {f : Flow} {s' : Shared} (h : SP (X.wish E) pins D f s') : SP X pins D f s' := by
  cases f with
  | next => obtain ⟨σ', H', I, q⟩ := h; exact ⟨σ', H', I.unwish, q⟩
  | brk => obtain ⟨σ', H', I, q⟩ := h; exact ⟨σ', H', I.unwish, q⟩
  | cont => obtain ⟨σ', H', I, q⟩ := h; exact ⟨σ', H', I.unwish, q⟩
  | ret u => obtain ⟨v, σ', H', I, r, q⟩ := h; exact ⟨v, σ', H', I.unwish, r, q⟩
theorem PSs.nox {st : List Stmt} {t : TS} (h : PSs X.nox st t) : PSs X st t := fun pins s σ H D I hw =>
  wpAny_mono (h pins s σ H D (I.wish _) hw) (fun _ _ q => q.unwish) fun _ _ z => False.elim z
end
section
variable {X : Cx} {st : Stmt} {rest : List Stmt} {t u : TS} {e : Expr} {te : TE} {pos : Pos}
noncomputable def tNext : TS := fun D σ H => D.nx σ H
noncomputable def tSeq (t u : TS) : TS := fun D σ H => t { D with nx := u D } σ H
theorem pss_nil : PSs X [] tNext := fun _ _ σ H _ I h => wpAny_execs_nil ⟨σ, H, I, h⟩
theorem pss_cons (h1 : PS X st t) (h2 : PSs X rest u) : PSs X (st :: rest) (tSeq t u) := by
  intro pins s σ H D I h
  refine wpAny_execs_cons (thn (h1 pins s σ H { D with nx := u D } I h) fun f s1 q => ?_)
  cases f with
  | next =>
    obtain ⟨σ', H', I', q⟩ := q
    exact h2 pins s1 σ' H' D I' q
  | ret v => exact q
  | brk => exact q
  | cont => exact q
theorem pss_one (h1 : PS X st t) : PSs X [st] t := by
  intro pins s σ H D I h
  refine wpAny_execs_cons (thn (h1 pins s σ H D I h) fun f s1 q => ?_)
  cases f with
  | next => exact wpAny_execs_nil q
  | ret v => exact q
  | brk => exact q
  | cont => exact q
theorem Inv.quiet {pins : List (Addr × Obj)} {σ : St} {H : Hp} {s : Shared} (I : Inv X pins σ H s) : interactive X.env = false := by simp [interactive, I.ok.kind]
noncomputable def tDrop (te : TE) : TS := fun D σ H => te σ H fun _ H1 => D.nx σ H1
theorem ps_expr (he : PE X e te) (hs : swapsWith e none pos.line X.env = pure false := by rfl) : PS X (.Expr e pos) (tDrop te) := by
  intro pins s σ H D I h
  exact wpAny_Expr_any (thn (he pins s σ H _ I h) fun v s1 ⟨x, H1, I1, r1, q1⟩ => ⟨σ, H1, I1, q1⟩) I.quiet hs
noncomputable def tRet (te : TE) : TS := fun D σ H => te σ H D.rt
theorem ps_ret (he : PE X e te) : PS X (.Return (some e) pos) (tRet te) := by
  intro pins s σ H D I h
  exact wpAny_Return_some (thn (he pins s σ H _ I h) fun v s1 ⟨x, H1, I1, r1, q1⟩ => ⟨x, σ, H1, I1, r1, q1⟩)
noncomputable def tIfS (c : TT) (t u : TS) : TS := fun D σ H => c σ H fun b H1 => if b = true then t D σ H1 else u D σ H1
theorem ps_if {c : Expr} {a b : List Stmt} {tc : TT} (hc : PT X c tc) (ha : PSs X a t) (hb : PSs X b u) : PS X (.If c a b pos) (tIfS tc t u) := by
  intro pins s σ H D I h
  refine wpAny_If (thn (hc pins s σ H _ I h) fun d s1 ⟨H1, I1, q1⟩ => ?_)
  cases d with
  | true => exact ha pins s1 σ H1 D I1 q1
  | false => exact hb pins s1 σ H1 D I1 q1
end
noncomputable abbrev TG := V → St → Hp → (St → Hp → Prop) → Prop
noncomputable def PG (X : Cx) (target : Expr) (t : TG) : Prop :=
  ∀ (pins : List (Addr × Obj)) (s : Shared) (σ : St) (H : Hp) (v : V) (u : Value) (Q : St → Hp → Prop), Inv X pins σ H s → RelV v u → t v σ H Q →
    wpAny (model X.prog X.w) X.A (assign target X.env u) (fun _ s' => ∃ σ' H', Inv X pins σ' H' s' ∧ Q σ' H') X.xe s
section
variable {X : Cx} {pos : Pos}
noncomputable def gName (i : Nat) : TG := fun v σ H Q => Q (σ.set i (some v)) H
theorem pg_name {i : Nat} {x : Str} (hN : X.N.Nodup) (hi : X.N[i]? = some x) (hx : Loc X.env.scope x) (hf : X.fn x = true ∨ X.env.scope.names.lookup x = some .local := by first | exact .inl rfl | exact .inr rfl | assumption) : PG X (.Name x pos) (gName i) := by
  intro pins s σ H v u Q I r h
  exact wpAny_assign_Name (store_ok I hN hi hx r (fun s' I' => ⟨_, H, I', h⟩) hf)
noncomputable def tAsg (te : TE) (g : TG) : TS := fun D σ H => te σ H fun x H1 => g x σ H1 D.nx
theorem ps_set {i : Nat} {x : Str} {e : Expr} {te : TE} {pos' : Pos} (hN : X.N.Nodup) (hi : X.N[i]? = some x) (hx : Loc X.env.scope x) (he : PE X e te) (hs : swapsWith e (some (.Name x pos')) pos.line X.env = pure false := by rfl) (hf : X.fn x = true ∨ X.env.scope.names.lookup x = some .local := by first | exact .inl rfl | exact .inr rfl | assumption) :
    PS X (.Assign [.Name x pos'] e pos) (tAsg te (gName i)) := by
  intro pins s σ H D I h
  refine wpAny_Assign_Name (thn (he pins s σ H _ I h) fun v s1 ⟨y, H1, I1, r1, q1⟩ => ?_) hs
  exact store_ok I1 hN hi hx r1 (fun s2 I2 => ⟨_, H1, I2, q1⟩) hf
end
section
variable {X : Cx} {pos : Pos}
noncomputable def tWhile (c : TT) (tb : TS) : TS := fun D σ H => ∃ W : Nat → St → Hp → Prop, (∃ m, W m σ H) ∧ ∀ m σ H, W m σ H →
  c σ H fun b H1 => if b = true then ∃ N : St → Hp → Prop, (∀ σ' H', N σ' H' → ∃ m', m' < m ∧ W m' σ' H') ∧ tb { D with nx := N, ct := N, bk := D.nx } σ H1 else D.nx σ H1
theorem ps_while {c : Expr} {body : List Stmt} {tc : TT} {tb : TS} (hp : PassesOwn (model X.prog X.w) X.A X.env X.xe) (hc : PT X c tc) (hb : PSs X body tb) : PS X (.While c body [] pos) (tWhile tc tb) := by
  intro pins s σ H D I h
  obtain ⟨W, ⟨m0, w0⟩, turn⟩ := h
  refine wpAny_While (codeAny_whileLoop (fun n s' => ∃ σ' H', Inv X pins σ' H' s' ∧ W n σ' H') ?_ m0 ⟨σ, H, I, w0⟩)
  rintro n s1 ⟨σ1, H1, I1, w1⟩
  refine wpAny_passesOwn hp (thn (hc pins s1 σ1 H1 _ I1 (turn n σ1 H1 w1)) fun b s2 ⟨H2, I2, q2⟩ => ?_)
  cases b with
  | true =>
    obtain ⟨N, hN, q2⟩ := q2
    rw [if_pos rfl]
    refine wpAny_passesOwn hp (thn (hb pins s2 σ1 H2 _ I2 q2) fun f s3 q3 => ?_)
    cases f with
    | next =>
      obtain ⟨σ3, H3, I3, n3⟩ := q3
      obtain ⟨m', hm, w3⟩ := hN σ3 H3 n3
      exact ⟨m', hm, σ3, H3, I3, w3⟩
    | cont =>
      obtain ⟨σ3, H3, I3, n3⟩ := q3
      obtain ⟨m', hm, w3⟩ := hN σ3 H3 n3
      exact ⟨m', hm, σ3, H3, I3, w3⟩
    | brk => exact q3
    | ret v => exact q3
  | false =>
    rw [if_neg Bool.false_ne_true]
    exact wpAny_execs_nil ⟨σ1, H2, I2, q2⟩
end
structure It where
  go : Nat → Hp → Prop
  yld : Nat → Hp → V → Hp → Prop
  stop : Nat → Hp → Prop
noncomputable def FpOk (X : Cx) (pins : List (Addr × Obj)) (H : Hp) (b : Addr) : Prop :=
  H b = none ∧ b ≠ X.env.locals ∧ b ∉ X.fs ∧ (b ∈ X.ex ∨ X.s₀.heap.objs.size ≤ b) ∧ (∀ x c, X.env.cells.lookup x = some c → c ≠ b) ∧ ∀ p ∈ X.pn ++ pins, p.1 ≠ b
theorem Inv.fpOk {X : Cx} {pins : List (Addr × Obj)} {σ : St} {H H' : Hp} {s : Shared} {b : Addr} (I : Inv X pins σ H s) (hb : s.heap.objs.size ≤ b) (hn : H' b = none) : FpOk X pins H' b := by
  refine ⟨hn, Nat.ne_of_gt (Nat.lt_of_lt_of_le I.lt hb), I.nofs hb, .inr (Nat.le_trans I.sz hb), fun x c e z => ?_, fun p hp z => ?_⟩
  · obtain ⟨v, q⟩ := I.cell x c e
    exact absurd (Nat.lt_of_lt_of_le q.lt (by rw [z]; exact hb)) (Nat.lt_irrefl _)
  · exact absurd (Nat.lt_of_lt_of_le (Heap.lt_size (I.pin p hp).1) (by rw [z]; exact hb)) (Nat.lt_irrefl _)
structure Turn (P : Program) (w : World) (K : Fg) (tg : Expr) (J : It) (fp : List Addr) (it : Addr) (tn : Nat → Heap → Prop) : Prop where
  mem : it ∈ fp
  obj : ∀ i h, tn i h → ∀ b ∈ fp, ∃ o, h.get? b = some o ∧ ∀ v, o.data ≠ .cell v
  keep : ∀ i h h', tn i h → (∀ b ∈ fp, ∀ o, h.get? b = some o → h'.get? b = some o) → tn i h'
  item : ∀ (X : Cx), X.prog = P → X.w = w → X.K = K → X.calm = true → ∀ (i : Nat) (pins : List (Addr × Obj)) (s : Shared) (σ : St) (H : Hp) (E : Value → Shared → Prop), Inv X pins σ H s → (∀ b ∈ fp, FpOk X pins H b) → tn i s.heap → J.go i H →
    wpAny (model P w) X.A (pyNext (.ref it)) (fun r s1 => ∃ u, r = some u ∧
      wpAny (model P w) X.A (letOwnedTupleGo tg (.ref it) u) (fun _ s2 => ∃ x H', Inv X pins σ H' s2 ∧ RelV x u ∧ J.yld i H x H' ∧ tn (i + 1) s2.heap ∧ ∀ b ∈ fp, H' b = none) E s1) E s
  done : ∀ (X : Cx), X.prog = P → X.w = w → X.K = K → X.calm = true → ∀ (i : Nat) (pins : List (Addr × Obj)) (s : Shared) (σ : St) (H : Hp) (E : Value → Shared → Prop), Inv X pins σ H s → (∀ b ∈ fp, FpOk X pins H b) → tn i s.heap → J.stop i H →
    wpAny (model P w) X.A (pyNext (.ref it)) (fun r s1 => r = none ∧ Inv X pins σ H s1) E s
  self : ∀ (A : Around) (i : Nat) (s : Shared) (Q : Value → Shared → Prop) (E : Value → Shared → Prop), tn i s.heap → Q (.ref it) s → wpAny (model P w) A (pyIter (.ref it)) Q E s
noncomputable abbrev TI := St → Hp → (It → Hp → Prop) → Prop
noncomputable def PIE (X : Cx) (pins : List (Addr × Obj)) (σ : St) (tg : Expr) (R : It → Hp → Prop) (itv : Value) (s2 : Shared) : Prop :=
  ∃ (it : Addr) (fp : List Addr) (tn : Nat → Heap → Prop) (J : It) (H' : Hp), itv = .ref it ∧ Inv X pins σ H' s2 ∧ Turn X.prog X.w X.K tg J fp it tn ∧ tn 0 s2.heap ∧ (∀ b ∈ fp, FpOk X pins H' b) ∧ R J H'
noncomputable def PI (X : Cx) (tg iter : Expr) (wi : TI) : Prop :=
  ∀ (pins : List (Addr × Obj)) (s : Shared) (σ : St) (H : Hp) (R : It → Hp → Prop), Inv X pins σ H s → wi σ H R →
    wpAny (model X.prog X.w) X.A (eval iter X.env) (fun v s1 => wpAny (model X.prog X.w) X.A (pyIter v) (PIE X pins σ tg R) X.xe s1) X.xe s
theorem go_of {M : Model} {A : Around} {E : Value → Shared → Prop} {s : Shared} {tg : Expr} {it : Addr} {u : Value} {o : Obj} {n : String} {vs : Array Value} {Q : Unit → Shared → Prop} (ho : s.heap.get? it = some o) (hc : o.cls = .type n) (hd : o.data = .fields vs)
    (hn : ["enumerate", "zip", "dict_itemiterator", "dict_reverseitemiterator", "odict_iterator", "itertools.zip_longest", "itertools.pairwise"].contains n = false) (hQ : Q () s) : wpAny M A (letOwnedTupleGo tg (.ref it) u) Q E s := by
  unfold letOwnedTupleGo
  cases tg <;> first
    | exact wpAny_pure hQ
    | (cases u <;> first
        | exact wpAny_pure hQ
        | (refine wpAny_bind (wpAny_load ho ?_)
           rw [hc, hd]
           show wpAny M A (if (["enumerate", "zip", "dict_itemiterator", "dict_reverseitemiterator", "odict_iterator", "itertools.zip_longest", "itertools.pairwise"].contains n && vs[0]? == some (rawInt _)) = true then _ else _) Q E s
           rw [if_neg (by intro h; rw [hn, Bool.false_and] at h; cases h)]
           exact wpAny_pure hQ))
noncomputable def Itl (K : Fg) (a : Addr) : It :=
  ⟨fun i H => ∃ xs x, SqL K H a xs ∧ xs[i]? = some x, fun i H x H' => H' = H ∧ ∀ xs, SqL K H a xs → xs[i]? = some x, fun i H => ∃ xs, SqL K H a xs ∧ xs.length ≤ i⟩
noncomputable def Itt (K : Fg) (a : Addr) : It :=
  ⟨fun i H => ∃ xs x, SqT K H a xs ∧ xs[i]? = some x, fun i H x H' => H' = H ∧ ∀ xs, SqT K H a xs → xs[i]? = some x, fun i H => ∃ xs, SqT K H a xs ∧ xs.length ≤ i⟩
noncomputable def Itr (lo : Int) (n : Nat) : It := ⟨fun i _ => i < n, fun i H x H' => H' = H ∧ x = .int (lo + i), fun i _ => n ≤ i⟩
theorem turn_list {P : Program} {w : World} {K : Fg} {tg : Expr} (a it : Addr) : Turn P w K tg (Itl K a) [it] it (fun i h => h.IsListIter it a i) where
  mem := by simp
  obj := fun i h st b hb => by
    have e : b = it := by simpa using hb
    subst e
    obtain ⟨o, e, c, d⟩ := st
    exact ⟨o, e, fun v z => by rw [d] at z; cases z⟩
  keep := fun i h h' st k => st.at fun o e => k it (by simp) o e
  item := by
    intro X hP hw hK hc i pins s σ H E I hf st hg
    subst hP hw hK
    obtain ⟨xs, x, hq, hx⟩ := hg
    obtain ⟨its, rv, p, hz⟩ := I.list hq
    obtain ⟨u, hu, ru⟩ := rv.get hx
    obtain ⟨f0, f1, f2, f3, f4, f5⟩ := hf it (by simp)
    refine wpAny_pyNext_list_item st p.isList (x := u) (by simpa using hu) fun h' st' sb => ?_
    have I1 : Inv X pins σ H { s with heap := h' } := I.turned (t' := s.toks) (fun b o hb e => (sb.2 b hb).trans e) f0 f1 f3 f4 f5
    obtain ⟨o, e, c, d⟩ := id st'
    exact ⟨u, rfl, go_of (s := { s with heap := h' }) e c d (by decide) ⟨x, H, I1, ru, ⟨rfl, fun ys hy => by rw [I.list_inj hy hq]; exact hx⟩, st', fun b hb => (hf b hb).1⟩⟩
  done := by
    intro X hP hw hK hc i pins s σ H E I hf st hg
    subst hP hw hK
    obtain ⟨xs, hq, hx⟩ := hg
    obtain ⟨its, rv, p, hz⟩ := I.list hq
    obtain ⟨f0, f1, f2, f3, f4, f5⟩ := hf it (by simp)
    have hl := rv.length
    exact wpAny_pyNext_list_end (I.ok.hd hc) st p.isList (by simp; omega) fun h' eb => ⟨rfl, I.turned (t' := s.toks) (fun b o hb e => eb b o hb e) f0 f1 f3 f4 f5⟩
  self := fun _ _ _ _ _ st h => wpAny_pyIter_listiter st h
theorem turn_tuple {P : Program} {w : World} {K : Fg} {tg : Expr} (a it : Addr) : Turn P w K tg (Itt K a) [it] it (fun i h => h.IsTupleIter it a i) where
  mem := by simp
  obj := fun i h st b hb => by
    have e : b = it := by simpa using hb
    subst e
    obtain ⟨o, e, c, d⟩ := st
    exact ⟨o, e, fun v z => by rw [d] at z; cases z⟩
  keep := fun i h h' st k => st.at fun o e => k it (by simp) o e
  item := by
    intro X hP hw hK hc i pins s σ H E I hf st hg
    subst hP hw hK
    obtain ⟨xs, x, hq, hx⟩ := hg
    obtain ⟨its, rv, p, hz⟩ := I.tuple hq
    obtain ⟨u, hu, ru⟩ := rv.get hx
    obtain ⟨f0, f1, f2, f3, f4, f5⟩ := hf it (by simp)
    refine wpAny_pyNext_tuple_item st (show s.heap.IsTuple a its.toArray from p) (x := u) (by simpa using hu) fun h' st' sb => ?_
    have I1 : Inv X pins σ H { s with heap := h' } := I.turned (t' := s.toks) (fun b o hb e => (sb.2 b hb).trans e) f0 f1 f3 f4 f5
    obtain ⟨o, e, c, d⟩ := id st'
    exact ⟨u, rfl, go_of (s := { s with heap := h' }) e c d (by decide) ⟨x, H, I1, ru, ⟨rfl, fun ys hy => by rw [I.tuple_inj hy hq]; exact hx⟩, st', fun b hb => (hf b hb).1⟩⟩
  done := by
    intro X hP hw hK hc i pins s σ H E I hf st hg
    subst hP hw hK
    obtain ⟨xs, hq, hx⟩ := hg
    obtain ⟨its, rv, p, hz⟩ := I.tuple hq
    obtain ⟨f0, f1, f2, f3, f4, f5⟩ := hf it (by simp)
    have hl := rv.length
    exact wpAny_pyNext_tuple_end (I.ok.hd hc) st (show s.heap.IsTuple a its.toArray from p) (by simp; omega) fun h' eb => ⟨rfl, I.turned (t' := s.toks) (fun b o hb e => eb b o hb e) f0 f1 f3 f4 f5⟩
  self := fun _ _ _ _ _ st h => wpAny_pyIter_tupleiter st h
theorem turn_range {P : Program} {w : World} {K : Fg} {tg : Expr} (it : Addr) (lo : Int) (n : Nat) : Turn P w K tg (Itr lo n) [it] it (fun i h => IsRangeIter h it (lo + (i : Nat) * 1) ((n : Int) - (i : Nat)) 1) where
  mem := by simp
  obj := fun i h st b hb => by
    have e : b = it := by simpa using hb
    subst e
    exact ⟨_, st, fun v z => by
      have z' : Data.fields _ = Data.cell v := z
      cases z'⟩
  keep := fun i h h' st k => k it (by simp) _ st
  item := by
    intro X hP hw hK hc i pins s σ H E I hf st hg
    subst hP hw hK
    obtain ⟨f0, f1, f2, f3, f4, f5⟩ := hf it (by simp)
    have W := Walks.range (prog := X.prog) (w := X.w) (I.ok.hd hc) it lo 1 n
    refine W.item i s _ _ hg st fun v h' tk hv st' kk => ?_
    obtain ⟨t, rfl⟩ := hv
    have I1 : Inv X pins σ H { s with heap := h', toks := tk } := I.turned (fun b o hb e => kk b o (by simpa using hb) e) f0 f1 f3 f4 f5
    refine ⟨_, rfl, go_of (s := { s with heap := h', toks := tk }) (n := "range_iterator") st' rfl rfl (by decide) ⟨.int (lo + i), H, I1, ⟨t, ?_⟩, ⟨rfl, rfl⟩, st', fun b hb => (hf b hb).1⟩⟩
    rw [Int.mul_one]
  done := by
    intro X hP hw hK hc i pins s σ H E I hf st hg
    subst hP hw hK
    obtain ⟨f0, f1, f2, f3, f4, f5⟩ := hf it (by simp)
    exact wpAny_pyNext_range_end (I.ok.hd hc) st (by have : n ≤ i := hg; omega) fun h' eb => ⟨rfl, I.turned (t' := s.toks) (fun b o hb e => eb b o hb e) f0 f1 f3 f4 f5⟩
  self := fun _ _ _ _ _ st h => wpAny_pyIter_rangeiter st h
end L2
namespace L2
open PySem PySem.Spec PyProof.Rows
section
variable {X : Cx} {tg : Expr}
theorem range_it {pins : List (Addr × Obj)} {σ : St} {H : Hp} {s : Shared} {R : It → Hp → Prop} {E : Value → Shared → Prop} {lo hi : Int} {t u v : Tok} {tk : Nat} (I : Inv X pins σ H s) (h1 : -(2 ^ 62) ≤ lo) (h2 : lo < 2 ^ 62) (h3 : -(2 ^ 62) ≤ hi) (h4 : hi < 2 ^ 62)
    (q : R (Itr lo (hi - lo).toNat) H) : wpAny (model X.prog X.w) X.A (pyIter (.ref s.heap.objs.size)) (PIE X pins σ tg R) E { s with heap := s.heap.push { cls := .type "range", data := .fields #[.int lo t, .int hi u, .int 1 v] }, toks := tk } := by
  refine wpAny_pyIter_range (IsRange.new ..) (small_one h1 h2 h3 h4) ?_
  have I1 : Inv X pins σ H { s with heap := s.heap.push { cls := .type "range", data := .fields #[.int lo t, .int hi u, .int 1 v] }, toks := tk } := I.kept fun b o e => Heap.get?_push_of_some _ e
  refine ⟨(s.heap.push { cls := .type "range", data := .fields #[.int lo t, .int hi u, .int 1 v] }).objs.size, [(s.heap.push { cls := .type "range", data := .fields #[.int lo t, .int hi u, .int 1 v] }).objs.size], _, _, H, rfl,
    I1.kept (t' := tk) fun b o e => Heap.get?_push_of_some _ e, turn_range _ lo (hi - lo).toNat, ?_, fun b hb => ?_, q⟩
  · have e1 : lo + ((0 : Nat) : Int) * 1 = lo := by simp
    have e2 : (((hi - lo).toNat : Nat) : Int) - ((0 : Nat) : Int) = Builtin.Range.rangeSize lo hi 1 := by rw [rangeSize_one]; split <;> omega
    show IsRangeIter _ _ (lo + ((0 : Nat) : Int) * 1) ((((hi - lo).toNat : Nat) : Int) - ((0 : Nat) : Int)) 1
    rw [e1, e2]
    exact Heap.get?_push_size _ rfl
  · have e : b = (s.heap.push { cls := .type "range", data := .fields #[.int lo t, .int hi u, .int 1 v] }).objs.size := by simpa using hb
    subst e
    exact I1.fpOk (Nat.le_refl _) (I1.hok.fresh (Nat.le_refl _))
noncomputable def iRng1 (ta : TA) : TI := fun σ H R => ta σ H fun vs H1 => ∃ j : Int, vs = [.int j] ∧ -(2 ^ 62) ≤ j ∧ j < 2 ^ 62 ∧ R (Itr 0 j.toNat) H1
theorem pi_range1 {a : Expr} {ta : TA} {p pos : Pos} (hg : Gl X "range") (hm : X.mg "range" = none) (ha : PA X [a] ta) (hs : starEach [a] X.env = [(false, eval a X.env)] := by rfl) : PI X tg (.Call (.Name "range" p) [a] [] pos) (iRng1 ta) := by
  intro pins s σ H R I h
  refine Call_ (ld_blt I hg hm boot_range (PyProof.Rows.callWith_type1 (thn (ha pos pins s σ H _ I h) fun us s1 ⟨vs, H1, I1, r1, q1⟩ => ?_) hs rfl))
  obtain ⟨j, e, q1, q2, q⟩ := q1
  subst e
  cases r1 with
  | cons r rr =>
    cases rr
    obtain ⟨t, rfl⟩ := r
    exact call_range_1 (range_it I1 (by omega) (by omega) q1 q2 (by simpa using q))
noncomputable def tFor (wi : TI) (g : TG) (tb : TS) : TS := fun D σ H => wi σ H fun J H1 => ∃ W : Nat → Nat → St → Hp → Prop, (∃ m, W 0 m σ H1) ∧ ∀ i m σ H, W i m σ H →
  (J.stop i H ∧ D.nx σ H) ∨ (J.go i H ∧ ∃ N : St → Hp → Prop, (∀ σ' H', N σ' H' → ∃ m', m' < m ∧ W (i + 1) m' σ' H') ∧ ∀ x H', J.yld i H x H' → g x σ H' fun σ2 H2 => tb { D with nx := N, ct := N, bk := D.nx } σ2 H2)
noncomputable def pinsAt (fp : List Addr) (h : Heap) : List (Addr × Obj) := fp.filterMap fun b => (h.get? b).map fun o => (b, o)
theorem mem_pinsAt {fp : List Addr} {h : Heap} {b : Addr} {o : Obj} (hb : b ∈ fp) (e : h.get? b = some o) : (b, o) ∈ pinsAt fp h := List.mem_filterMap.mpr ⟨b, hb, by rw [e]; rfl⟩
theorem of_pinsAt {fp : List Addr} {h : Heap} {p : Addr × Obj} (hp : p ∈ pinsAt fp h) : p.1 ∈ fp ∧ h.get? p.1 = some p.2 := by
  obtain ⟨b, hb, e⟩ := List.mem_filterMap.mp hp
  cases q : h.get? b with
  | none => rw [q] at e; cases e
  | some o =>
    rw [q] at e
    have e' : (b, o) = p := Option.some.inj e
    subst e'
    exact ⟨hb, q⟩
theorem Inv.pinned {pins : List (Addr × Obj)} {σ : St} {H : Hp} {s : Shared} {fp : List Addr} (I : Inv X pins σ H s) (hf : ∀ b ∈ fp, FpOk X pins H b) (ho : ∀ b ∈ fp, ∃ o, s.heap.get? b = some o ∧ ∀ v, o.data ≠ .cell v) : Inv X (pins ++ pinsAt fp s.heap) σ H s :=
  I.pins_of fun p hp => (List.mem_append.mp hp).elim (fun z => I.pin p (List.mem_append_right _ z)) fun z => by
    obtain ⟨hb, e⟩ := of_pinsAt z
    obtain ⟨f0, f1, f2, _⟩ := hf p.1 hb
    obtain ⟨o, e', d⟩ := ho p.1 hb
    rw [e] at e'; cases e'
    exact ⟨e, f0, f1, f2, d⟩
theorem Inv.unpinned {pins pl : List (Addr × Obj)} {σ : St} {H : Hp} {s : Shared} (I : Inv X (pins ++ pl) σ H s) : Inv X pins σ H s := I.pins_of fun p hp => I.pin p (List.mem_append_right _ (List.mem_append_left _ hp))
theorem ps_for {iter : Expr} {body : List Stmt} {wi : TI} {g : TG} {tb : TS} {pos : Pos} (hp : PassesOwn (model X.prog X.w) X.A X.env X.xe) (hc : X.calm = true) (hi : PI X tg iter wi) (hg : PG X tg g) (hb : PSs X body tb)
    (hs : ∀ x, foldedSetIterable iter X.env x = pure x := by intro _; rfl) : PS X (.For tg iter body [] pos) (tFor wi g tb) := by
  intro pins s σ H D I h
  refine wpAny_For (thn (hi pins s σ H _ I h) fun v s1 h1 => thn h1 fun itv s2 h2 => ?_) hs
  obtain ⟨it, fp, tn, J, H2, e, I2, T, st2, f2, W, ⟨m0, w0⟩, turn⟩ := h2
  subst e
  have stat : ∀ {H' : Hp}, (∀ b ∈ fp, H' b = none) → ∀ b ∈ fp, FpOk X pins H' b := fun hn b hb => ⟨hn b hb, (f2 b hb).2⟩
  refine codeAny_forLoop_any (fun n s' => ∃ i σ' H', Inv X pins σ' H' s' ∧ tn i s'.heap ∧ (∀ b ∈ fp, H' b = none) ∧ W i n σ' H') ?_ m0 ⟨0, σ, H2, I2, st2, fun b hb => (f2 b hb).1, w0⟩
  rintro n s3 ⟨i, σ3, H3, I3, st3, fr3, w3⟩
  rcases turn i n σ3 H3 w3 with ⟨stop, qn⟩ | ⟨go, N, hN, step⟩
  · refine wpAny_passesOwn hp (thn (T.done X rfl rfl rfl hc i pins s3 σ3 H3 X.xe I3 (stat fr3) st3 stop) fun r s4 ⟨hr, I4⟩ => ?_)
    subst hr
    exact wpAny_execs_nil ⟨σ3, H3, I4, qn⟩
  · refine wpAny_passesOwn hp (thn (T.item X rfl rfl rfl hc i pins s3 σ3 H3 X.xe I3 (stat fr3) st3 go) fun r s4 ⟨u, hr, h4⟩ => ?_)
    subst hr
    refine wpAny_passesOwn hp (thn h4 fun _ s5 ⟨x, H5, I5, r5, y5, st5, fr5⟩ => ?_)
    have I5' := I5.pinned (stat fr5) (T.obj _ _ st5)
    refine wpAny_passesOwn hp (thn (hg _ s5 σ3 H5 x u _ I5' r5 (step x H5 y5)) fun _ s6 ⟨σ6, H6, I6, q6⟩ => ?_)
    refine wpAny_passesOwn hp (thn (hb _ s6 σ6 H6 _ I6 q6) fun f s7 q7 => ?_)
    have again : ∀ {σ7 : St} {H7 : Hp}, Inv X (pins ++ pinsAt fp s5.heap) σ7 H7 s7 → N σ7 H7 → ∃ m, m < n ∧ ∃ i σ' H', Inv X pins σ' H' s7 ∧ tn i s7.heap ∧ (∀ b ∈ fp, H' b = none) ∧ W i m σ' H' := fun {σ7 H7} I7 n7 => by
      obtain ⟨m', hm, w7⟩ := hN σ7 H7 n7
      refine ⟨m', hm, i + 1, σ7, H7, I7.unpinned, T.keep _ _ _ st5 fun b hb o e => (I7.pin (b, o) (List.mem_append_right _ (List.mem_append_right _ (mem_pinsAt hb e)))).1, fun b hb => ?_, w7⟩
      obtain ⟨o, e, d⟩ := T.obj _ _ st5 b hb
      exact (I7.pin (b, o) (List.mem_append_right _ (List.mem_append_right _ (mem_pinsAt hb e)))).2.1
    cases f with
    | next => obtain ⟨σ7, H7, I7, n7⟩ := q7; exact again I7 n7
    | cont => obtain ⟨σ7, H7, I7, n7⟩ := q7; exact again I7 n7
    | brk => obtain ⟨σ7, H7, I7, q7⟩ := q7; exact ⟨σ7, H7, I7.unpinned, q7⟩
    | ret v => obtain ⟨x7, σ7, H7, I7, r7, q7⟩ := q7; exact ⟨x7, σ7, H7, I7.unpinned, r7, q7⟩
end
end L2
namespace L2
open PySem PySem.Spec PyProof.Rows
noncomputable abbrev R2 := V → V → Hp → VK → Prop
noncomputable def OpR (X : Cx) (f : Value → Value → Sem Value) (r : R2) : Prop :=
  ∀ (pins : List (Addr × Obj)) (s : Shared) (σ : St) (H : Hp) (x y : V) (v u : Value) (Q : VK), Inv X pins σ H s → RelV x v → RelV y u → r x y H Q →
    wpAny (model X.prog X.w) X.A (f v u) (EP X pins σ Q) X.xe s
noncomputable def UnR (X : Cx) (f : Value → Sem Value) (r : V → Hp → VK → Prop) : Prop :=
  ∀ (pins : List (Addr × Obj)) (s : Shared) (σ : St) (H : Hp) (x : V) (v : Value) (Q : VK), Inv X pins σ H s → RelV x v → r x H Q →
    wpAny (model X.prog X.w) X.A (f v) (EP X pins σ Q) X.xe s
noncomputable def CallR (X : Cx) (f : Value) (r : List V → Hp → VK → Prop) : Prop :=
  ∀ (pins : List (Addr × Obj)) (s : Shared) (σ : St) (H : Hp) (xs : List V) (us : List Value) (Q : VK), Inv X pins σ H s → Vals xs us → r xs H Q →
    wpAny (model X.prog X.w) X.A (call f us) (EP X pins σ Q) X.xe s
noncomputable def TruR (X : Cx) (r : V → Hp → (Bool → Hp → Prop) → Prop) : Prop :=
  ∀ (pins : List (Addr × Obj)) (s : Shared) (σ : St) (H : Hp) (x : V) (v : Value) (Q : Bool → Hp → Prop), Inv X pins σ H s → RelV x v → r x H Q →
    wpAny (model X.prog X.w) X.A (truthy v) (TP X pins σ Q) X.xe s
noncomputable def tOp (r : R2) (ta tb : TE) : TE := fun σ H Q => ta σ H fun x H1 => tb σ H1 fun y H2 => r x y H2 Q
noncomputable def tUn (r : V → Hp → VK → Prop) (ta : TE) : TE := fun σ H Q => ta σ H fun x H1 => r x H1 Q
noncomputable def rI (C : Int → Int → Prop) (g : Int → Int → V) : R2 := fun x y H Q => ∃ i j, x = .int i ∧ y = .int j ∧ C i j ∧ Q (g i j) H
noncomputable def rI0 (g : Int → Int → V) : R2 := fun x y H Q => ∃ i j, x = .int i ∧ y = .int j ∧ Q (g i j) H
noncomputable def rU (g : Int → V) : V → Hp → VK → Prop := fun x H Q => ∃ i, x = .int i ∧ Q (g i) H
section
variable {X : Cx} {a b c : Expr} {ta tb tc : TE} {pos : Pos}
theorem binT (ha : PE X a ta) (hb : PE X b tb) {pins : List (Addr × Obj)} {s : Shared} {σ : St} {H : Hp} {R : V → V → Hp → Prop} (I : Inv X pins σ H s)
    (h : ta σ H fun x H1 => tb σ H1 fun y H2 => R x y H2) {Q : Value → Shared → Prop} {f : Value → Value → Sem Value}
    (hf : ∀ v u s2 x y H2, Inv X pins σ H2 s2 → RelV x v → RelV y u → R x y H2 → wpAny (model X.prog X.w) X.A (f v u) Q X.xe s2) :
    wpAny (model X.prog X.w) X.A (eval a X.env) (fun v s₁ => wpAny (model X.prog X.w) X.A (eval b X.env) (fun u s₂ => wpAny (model X.prog X.w) X.A (f v u) Q X.xe s₂) X.xe s₁) X.xe s := by
  refine thn (ha pins s σ H _ I h) fun v s1 ⟨x, H1, I1, r1, q1⟩ => ?_
  refine thn (hb pins s1 σ H1 _ I1 q1) fun u s2 ⟨y, H2, I2, r2, q2⟩ => ?_
  exact hf v u s2 x y H2 I2 r1 r2 q2
theorem pe_op {op : Operator} {r : R2} (ho : OpR X (binaryOp op) r) (ha : PE X a ta) (hb : PE X b tb) : PE X (.BinOp a op b pos) (tOp r ta tb) := by
  intro pins s σ H Q I h
  exact wpAny_BinOp (binT ha hb I h fun v u s2 x y H2 I2 rx ry q => ho pins s2 σ H2 x y v u Q I2 rx ry q)
theorem pe_un {op : UnaryOp} {r : V → Hp → VK → Prop} (ho : UnR X (unaryOp op) r) (ha : PE X a ta) : PE X (.UnaryOp op a pos) (tUn r ta) := by
  intro pins s σ H Q I h
  exact UnaryOp_ (thn (ha pins s σ H _ I h) fun v s1 ⟨x, H1, I1, r1, q1⟩ => ho pins s1 σ H1 x v Q I1 r1 q1)
theorem opI {f : Value → Value → Sem Value} {C : Int → Int → Prop} {g : Int → Int → Int}
    (rule : ∀ (i j : Int) (t u : Tok) (s : Shared) (Q : Value → Shared → Prop) (E : Value → Shared → Prop), C i j → Q (.int (g i j) s.toks) { s with toks := s.toks + 1 } → wpAny (model X.prog X.w) X.A (f (.int i t) (.int j u)) Q E s) :
    OpR X f (rI C fun i j => .int (g i j)) := by
  intro pins s σ H x y v u Q I rx ry h
  obtain ⟨i, j, rfl, rfl, hc, q⟩ := h
  obtain ⟨t, rfl⟩ := rx
  obtain ⟨t', rfl⟩ := ry
  exact rule i j t t' s _ _ hc ⟨.int (g i j), H, I.tok _, ⟨_, rfl⟩, q⟩
theorem opI0 {f : Value → Value → Sem Value} {g : Int → Int → Int}
    (rule : ∀ (i j : Int) (t u : Tok) (s : Shared) (Q : Value → Shared → Prop) (E : Value → Shared → Prop), Q (.int (g i j) s.toks) { s with toks := s.toks + 1 } → wpAny (model X.prog X.w) X.A (f (.int i t) (.int j u)) Q E s) :
    OpR X f (rI0 fun i j => .int (g i j)) := by
  intro pins s σ H x y v u Q I rx ry h
  obtain ⟨i, j, rfl, rfl, q⟩ := h
  obtain ⟨t, rfl⟩ := rx
  obtain ⟨t', rfl⟩ := ry
  exact rule i j t t' s _ _ ⟨.int (g i j), H, I.tok _, ⟨_, rfl⟩, q⟩
theorem opB0 {f : Value → Value → Sem Value} {g : Int → Int → Bool}
    (rule : ∀ (i j : Int) (t u : Tok) (s : Shared) (Q : Value → Shared → Prop) (E : Value → Shared → Prop), Q (.bool (g i j)) s → wpAny (model X.prog X.w) X.A (f (.int i t) (.int j u)) Q E s) :
    OpR X f (rI0 fun i j => .bl (g i j)) := by
  intro pins s σ H x y v u Q I rx ry h
  obtain ⟨i, j, rfl, rfl, q⟩ := h
  obtain ⟨t, rfl⟩ := rx
  obtain ⟨t', rfl⟩ := ry
  exact rule i j t t' s _ _ ⟨.bl (g i j), H, I, rfl, q⟩
noncomputable def CDiv (i j : Int) : Prop := 0 < j ∧ j < 1073741824
noncomputable def CMul (i j : Int) : Prop := (-(2 ^ 64) < i ∧ i < 2 ^ 64) ∨ (-(2 ^ 64) < j ∧ j < 2 ^ 64)
theorem CMul.ok {i j : Int} (h : CMul i j) : IntMulOk i j := by
  rcases h with ⟨h1, h2⟩ | ⟨h1, h2⟩
  · exact .of_left (intBits_le_64 h1 h2)
  · exact .of_right (intBits_le_64 h1 h2)
theorem op_add : OpR X (binaryOp .Add) (rI0 fun i j => .int (i + j)) := opI0 fun _ _ _ _ _ _ _ q => add_int q
theorem op_sub : OpR X (binaryOp .Sub) (rI0 fun i j => .int (i - j)) := opI0 fun _ _ _ _ _ _ _ q => sub_int q
theorem op_mul : OpR X (binaryOp .Mult) (rI CMul fun i j => .int (i * j)) := opI fun _ _ _ _ _ _ _ hc q => mul_int q hc.ok
theorem op_fdiv : OpR X (binaryOp .FloorDiv) (rI CDiv fun i j => .int (i / j)) := opI fun i j _ _ _ _ _ hc q => by
  have h1 : (0 : Int) < j := hc.1
  have h2 : j < 1073741824 := hc.2
  exact floordiv_int (by omega) (by rw [Int.fdiv_eq_ediv_of_nonneg i (by omega)]; exact q) (.inl (PyProof.noPylong_small (by omega)))
theorem op_mod : OpR X (binaryOp .Mod) (rI (fun _ j => 0 < j) fun i j => .int (i % j)) := opI fun i j _ _ _ _ _ hc q => by
  have h1 : (0 : Int) < j := hc
  exact mod_int' (by omega) (by rw [Int.fmod_eq_emod_of_nonneg i (by omega)]; exact q)
theorem unI {f : Value → Sem Value} {g : Int → Int}
    (rule : ∀ (i : Int) (t : Tok) (s : Shared) (Q : Value → Shared → Prop) (E : Value → Shared → Prop), Q (.int (g i) s.toks) { s with toks := s.toks + 1 } → wpAny (model X.prog X.w) X.A (f (.int i t)) Q E s) :
    UnR X f (rU fun i => .int (g i)) := by
  intro pins s σ H x v Q I rx h
  obtain ⟨i, rfl, q⟩ := h
  obtain ⟨t, rfl⟩ := rx
  exact rule i t s _ _ ⟨.int (g i), H, I.tok _, ⟨_, rfl⟩, q⟩
theorem un_neg : UnR X (unaryOp .USub) (rU fun i => .int (-i)) := unI fun _ _ _ _ _ q => neg_int q
end
noncomputable def scal : V → V → Bool
  | .non, .non => true | .non, .int _ => true | .int _, .non => true | .non, .bl _ => true | .bl _, .non => true | .non, .str _ => true | .str _, .non => true
  | .int _, .int _ => true | .bl _, .bl _ => true | .str _, .str _ => true | .byt _, .byt _ => true
  | .int _, .str _ => true | .str _, .int _ => true | .bl _, .str _ => true | .str _, .bl _ => true
  | _, _ => false
noncomputable def rEq : R2 := fun x y H Q => scal x y = true ∧ Q (.bl (decide (x = y))) H
noncomputable def rNe : R2 := fun x y H Q => scal x y = true ∧ Q (.bl (!decide (x = y))) H
theorem dec_int {i j : Int} : decide (V.int i = V.int j) = (i == j) := by
  rw [Bool.eq_iff_iff]
  simp
theorem dec_bl {i j : Bool} : decide (V.bl i = V.bl j) = (i == j) := by
  rw [Bool.eq_iff_iff]
  simp
theorem dec_str {i j : Str} : decide (V.str i = V.str j) = (i == j) := by
  rw [Bool.eq_iff_iff]
  simp
theorem dec_byt {i j : Array UInt8} : decide (V.byt i = V.byt j) = (i.toList == j.toList) := by
  rw [Bool.eq_iff_iff]
  cases i
  cases j
  simp
section
variable {X : Cx} {a b c : Expr} {ta tb tc : TE} {pos : Pos}
theorem fin_bl {pins : List (Addr × Obj)} {σ : St} {H : Hp} {s : Shared} {Q : VK} {k k' : Bool} (I : Inv X pins σ H s) (q : Q (.bl k) H) (e : k = k') : EP X pins σ Q (.bool k') s := by
  subst e
  exact ⟨.bl k, H, I, rfl, q⟩
theorem op_eq : OpR X (compareOp .Eq) rEq := by
  intro pins s σ H x y v u Q I rx ry h
  obtain ⟨hs, q⟩ := h
  cases x with
  | non =>
    cases rx
    cases y with
    | non => cases ry; exact PySem.EqNone.eq_none_none (fin_bl I q (by simp))
    | bl j => cases ry; exact PySem.EqNone.eq_none_bool (fin_bl I q (by simp))
    | int j => obtain ⟨t', rfl⟩ := ry; exact PySem.EqNone.eq_none_int (fin_bl I q (by simp))
    | str j => obtain ⟨t', rfl⟩ := ry; exact PySem.EqNone.eq_none_str (fin_bl I q (by simp))
    | _ => exact absurd (show false = true from hs) Bool.false_ne_true
  | bl i =>
    cases rx
    cases y with
    | non => cases ry; exact PySem.EqNone.eq_bool_none (fin_bl I q (by simp))
    | bl j => cases ry; exact eq_bool (fin_bl I q dec_bl)
    | str j => obtain ⟨t', rfl⟩ := ry; exact PySem.EqMixed.eq_bool_str (fin_bl I q (by simp))
    | _ => exact absurd (show false = true from hs) Bool.false_ne_true
  | int i =>
    obtain ⟨t, rfl⟩ := rx
    cases y with
    | non => cases ry; exact PySem.EqNone.eq_int_none (fin_bl I q (by simp))
    | int j => obtain ⟨t', rfl⟩ := ry; exact eq_int (fin_bl I q dec_int)
    | str j => obtain ⟨t', rfl⟩ := ry; exact PySem.EqMixed.eq_int_str (fin_bl I q (by simp))
    | _ => exact absurd (show false = true from hs) Bool.false_ne_true
  | str i =>
    obtain ⟨t, rfl⟩ := rx
    cases y with
    | non => cases ry; exact PySem.EqNone.eq_str_none (fin_bl I q (by simp))
    | bl j => cases ry; exact PySem.EqMixed.eq_str_bool (fin_bl I q (by simp))
    | int j => obtain ⟨t', rfl⟩ := ry; exact PySem.EqMixed.eq_str_int (fin_bl I q (by simp))
    | str j => obtain ⟨t', rfl⟩ := ry; exact eq_str (fin_bl I q dec_str)
    | _ => exact absurd (show false = true from hs) Bool.false_ne_true
  | byt i =>
    obtain ⟨t, rfl⟩ := rx
    cases y with
    | byt j => obtain ⟨t', rfl⟩ := ry; exact PySem.W.eq_bytes (fin_bl I q dec_byt)
    | _ => exact absurd (show false = true from hs) Bool.false_ne_true
  | _ => cases y <;> exact absurd (show false = true from hs) Bool.false_ne_true
theorem op_ne : OpR X (compareOp .NotEq) rNe := by
  intro pins s σ H x y v u Q I rx ry h
  obtain ⟨hs, q⟩ := h
  cases x with
  | non =>
    cases rx
    cases y with
    | non => cases ry; exact PySem.EqNone.ne_none_none (fin_bl I q (by simp))
    | bl j => cases ry; exact PySem.EqNone.ne_none_bool (fin_bl I q (by simp))
    | int j => obtain ⟨t', rfl⟩ := ry; exact PySem.EqNone.ne_none_int (fin_bl I q (by simp))
    | str j => obtain ⟨t', rfl⟩ := ry; exact PySem.EqNone.ne_none_str (fin_bl I q (by simp))
    | _ => exact absurd (show false = true from hs) Bool.false_ne_true
  | bl i =>
    cases rx
    cases y with
    | non => cases ry; exact PySem.EqNone.ne_bool_none (fin_bl I q (by simp))
    | bl j => cases ry; exact ne_bool (fin_bl I q (congrArg not dec_bl))
    | str j => obtain ⟨t', rfl⟩ := ry; exact PySem.EqMixed.ne_bool_str (fin_bl I q (by simp))
    | _ => exact absurd (show false = true from hs) Bool.false_ne_true
  | int i =>
    obtain ⟨t, rfl⟩ := rx
    cases y with
    | non => cases ry; exact PySem.EqNone.ne_int_none (fin_bl I q (by simp))
    | int j => obtain ⟨t', rfl⟩ := ry; exact ne_int (fin_bl I q (congrArg not dec_int))
    | str j => obtain ⟨t', rfl⟩ := ry; exact PySem.EqMixed.ne_int_str (fin_bl I q (by simp))
    | _ => exact absurd (show false = true from hs) Bool.false_ne_true
  | str i =>
    obtain ⟨t, rfl⟩ := rx
    cases y with
    | non => cases ry; exact PySem.EqNone.ne_str_none (fin_bl I q (by simp))
    | bl j => cases ry; exact PySem.EqMixed.ne_str_bool (fin_bl I q (by simp))
    | int j => obtain ⟨t', rfl⟩ := ry; exact PySem.EqMixed.ne_str_int (fin_bl I q (by simp))
    | str j => obtain ⟨t', rfl⟩ := ry; exact ne_str (fin_bl I q (congrArg not dec_str))
    | _ => exact absurd (show false = true from hs) Bool.false_ne_true
  | byt i =>
    obtain ⟨t, rfl⟩ := rx
    cases y with
    | byt j => obtain ⟨t', rfl⟩ := ry; exact PySem.W.ne_bytes (fin_bl I q (congrArg not dec_byt))
    | _ => exact absurd (show false = true from hs) Bool.false_ne_true
  | _ => cases y <;> exact absurd (show false = true from hs) Bool.false_ne_true
theorem op_lt : OpR X (compareOp .Lt) (rI0 fun i j => .bl (decide (i < j))) := opB0 fun _ _ _ _ _ _ _ q => lt_int q
theorem op_le : OpR X (compareOp .LtE) (rI0 fun i j => .bl (decide (i ≤ j))) := opB0 fun _ _ _ _ _ _ _ q => le_int q
theorem op_gt : OpR X (compareOp .Gt) (rI0 fun i j => .bl (decide (j < i))) := opB0 fun _ _ _ _ _ _ _ q => gt_int q
theorem op_isN : OpR X (compareOp .Is) (fun x y H Q => y = .non ∧ Q (.bl (decide (x = .non))) H) := by
  intro pins s σ H x y v u Q I rx ry h
  obtain ⟨rfl, q⟩ := h
  cases ry
  refine is_none_gen (fin_bl I q ?_)
  cases x <;> first
    | (cases rx; rfl)
    | (obtain ⟨t, rfl⟩ := rx; rfl)
theorem OpR.or {f : Value → Value → Sem Value} {r r' : R2} (h : OpR X f r) (h' : OpR X f r') : OpR X f (fun x y H Q => r x y H Q ∨ r' x y H Q) := by
  intro pins s σ H x y v u Q I rx ry q
  rcases q with q | q
  · exact h pins s σ H x y v u Q I rx ry q
  · exact h' pins s σ H x y v u Q I rx ry q
theorem nomark (b : Expr) {op : CmpOp} (h : op ≠ .In := by decide) (h2 : op ≠ .NotIn := by decide) : behindInMarks op b = false := by
  have e1 : (op == CmpOp.In) = false := by cases op <;> first | rfl | exact absurd rfl h
  have e2 : (op == CmpOp.NotIn) = false := by cases op <;> first | rfl | exact absurd rfl h2
  cases b <;> simp [behindInMarks, e1, e2]
theorem pe_cmpR {op : CmpOp} {r : R2} (ho : OpR X (compareOp op) r) (ha : PE X a ta) (hb : PE X b tb) (hm : behindInMarks op b = false) : PE X (.Compare a [op] [b] pos) (tOp r ta tb) := by
  intro pins s σ H Q I h
  exact wpAny_Compare1 (binT ha hb I h fun v u s2 x y H2 I2 rx ry q => ho pins s2 σ H2 x y v u Q I2 rx ry q) hm
noncomputable def tTest (t : TE) : TT := fun σ H Q => t σ H fun x H' => ∃ k, x = .bl k ∧ Q k H'
theorem pt_cmpR {op : CmpOp} {r : R2} (ho : OpR X (compareOp op) r) (ha : PE X a ta) (hb : PE X b tb) (hm : behindInMarks op b = false) : PT X (.Compare a [op] [b] pos) (tTest (tOp r ta tb)) := by
  intro pins s σ H Q I h
  refine wpAny_isTrue_Compare1 (thn (ha pins s σ H _ I h) fun v s1 ⟨x, H1, I1, r1, q1⟩ => thn (hb pins s1 σ H1 _ I1 q1) fun u s2 ⟨y, H2, I2, r2, q2⟩ =>
    thn (ho pins s2 σ H2 x y v u _ I2 r1 r2 q2) fun c s3 ⟨z, H3, I3, r3, k, e, q3⟩ => ?_) hm
  subst e
  cases r3
  exact wpAny_truthy_bool ⟨H3, I3, q3⟩
noncomputable def tChain (r r' : R2) (ta tb tc : TE) : TE := fun σ H Q => ta σ H fun x H1 => tb σ H1 fun y H2 => r x y H2 fun z H3 => ∃ k, z = .bl k ∧
  (if k = true then tc σ H3 fun w' H4 => r' y w' H4 Q else Q (.bl false) H3)
theorem pe_chain {op op' : CmpOp} {r r' : R2} (ho : OpR X (compareOp op) r) (ho' : OpR X (compareOp op') r') (ha : PE X a ta) (hb : PE X b tb) (hc : PE X c tc)
    (hm : lastMarks [op, op'] [b, c] = false := by with_unfolding_all rfl) : PE X (.Compare a [op, op'] [b, c] pos) (tChain r r' ta tb tc) := by
  intro pins s σ H Q I h
  refine Compare_chain (thn (ha pins s σ H _ I h) fun v s1 ⟨x, H1, I1, r1, q1⟩ => chain_link (thn (hb pins s1 σ H1 _ I1 q1) fun u s2 ⟨y, H2, I2, r2, q2⟩ =>
    thn (ho pins s2 σ H2 x y v u _ I2 r1 r2 q2) fun d s3 ⟨z, H3, I3, r3, k, e, q3⟩ => ?_)) hm
  subst e
  cases r3
  refine wpAny_truthy_bool ?_
  cases k with
  | false => exact ite_ff ⟨.bl false, H3, I3, rfl, q3⟩
  | true => exact ite_tt (chain_last (thn (hc pins s3 σ H3 _ I3 q3) fun w' s4 ⟨z', H4, I4, r4, q4⟩ => ho' pins s4 σ H4 y z' u w' Q I4 r2 r4 q4))
theorem pt_chain {op op' : CmpOp} {r r' : R2} (ho : OpR X (compareOp op) r) (ho' : OpR X (compareOp op') r') (ha : PE X a ta) (hb : PE X b tb) (hc : PE X c tc)
    (hm : lastMarks [op, op'] [b, c] = false := by with_unfolding_all rfl) : PT X (.Compare a [op, op'] [b, c] pos) (tTest (tChain r r' ta tb tc)) := by
  intro pins s σ H Q I h
  refine isTrue_chain (thn (ha pins s σ H _ I h) fun v s1 ⟨x, H1, I1, r1, q1⟩ => test_link (thn (hb pins s1 σ H1 _ I1 q1) fun u s2 ⟨y, H2, I2, r2, q2⟩ =>
    thn (ho pins s2 σ H2 x y v u _ I2 r1 r2 q2) fun d s3 ⟨z, H3, I3, r3, k, e, q3⟩ => ?_)) hm
  subst e
  cases r3
  refine wpAny_truthy_bool ?_
  cases k with
  | false =>
    obtain ⟨k', e', q'⟩ := q3
    cases e'
    exact ite_ff ⟨H3, I3, q'⟩
  | true =>
    refine ite_tt (test_last (thn (hc pins s3 σ H3 _ I3 q3) fun w' s4 ⟨z', H4, I4, r4, q4⟩ => thn (ho' pins s4 σ H4 y z' u w' _ I4 r2 r4 q4) fun d' s5 ⟨z2, H5, I5, r5, k2, e2, q5⟩ => ?_))
    subst e2
    cases r5
    exact wpAny_truthy_bool ⟨H5, I5, q5⟩
noncomputable def TruV (K : Fg) (x : V) (H : Hp) (k : Bool) : Prop :=
  match x with
  | .non => k = false
  | .bl b => k = b
  | .int i => k = (i != 0)
  | .str y => y.length ≤ sizeLine ∧ k = ((y.length : Int) != 0)
  | .byt y => y.size ≤ sizeLine ∧ k = ((y.size : Int) != 0)
  | .ref p => (∃ xs, SqL K H p xs ∧ k = !xs.isEmpty) ∨ (∃ xs, SqT K H p xs ∧ k = !xs.isEmpty) ∨ ∃ kvs, H p = some (.dK kvs) ∧ k = !kvs.isEmpty
  | _ => False
theorem isEmpty_kv {κ : Type} {kvs : List (κ × V)} {vs : List (κ × Value)} (r : KV kvs vs) : (!vs.isEmpty) = !kvs.isEmpty := by
  cases r <;> rfl
theorem isEmpty_of {xs : List V} {its : List Value} (r : Vals xs its) : (!its.toArray.isEmpty) = !xs.isEmpty := by
  cases r <;> simp
theorem line63 : (sizeLine : Nat) < 2 ^ 63 := by rw [sizeLine_eq]; decide
theorem tru_ok : TruR X (fun x H Q => ∃ k, TruV X.K x H k ∧ Q k H) := by
  intro pins s σ H x v Q I rx h
  obtain ⟨k, e, q⟩ := h
  have hl := line63
  have hs : sizeLine = 16777216 := sizeLine_eq
  cases x with
  | non =>
    cases rx
    have e' : k = false := e
    subst e'
    exact truthy_none ⟨H, I, q⟩
  | bl b =>
    cases rx
    have e' : k = b := e
    subst e'
    exact wpAny_truthy_bool ⟨H, I, q⟩
  | int i =>
    obtain ⟨t, rfl⟩ := rx
    have e' : k = (i != 0) := e
    subst e'
    exact PySem.P.truthy_int ⟨H, I, q⟩
  | str y =>
    obtain ⟨t, rfl⟩ := rx
    obtain ⟨hy, e'⟩ : y.length ≤ sizeLine ∧ k = ((y.length : Int) != 0) := e
    subst e'
    exact PySem.P.truthy_str (by omega) ⟨H, I.tok _, q⟩
  | byt y =>
    obtain ⟨t, rfl⟩ := rx
    obtain ⟨hy, e'⟩ : y.size ≤ sizeLine ∧ k = ((y.size : Int) != 0) := e
    subst e'
    exact PySem.W.truthy_bytes (by omega) ⟨H, I.tok _, q⟩
  | ref p =>
    cases rx
    have e' : (∃ xs, SqL X.K H p xs ∧ k = !xs.isEmpty) ∨ (∃ xs, SqT X.K H p xs ∧ k = !xs.isEmpty) ∨ ∃ kvs, H p = some (.dK kvs) ∧ k = !kvs.isEmpty := e
    rcases e' with ⟨xs, hx, e'⟩ | ⟨xs, hx, e'⟩ | ⟨kvs, hx, e'⟩
    · subst e'
      obtain ⟨its, r, pl, hz⟩ := I.list hx
      have hlen := r.length
      exact wpAny_truthy_list pl.isList (by simp only [List.size_toArray]; omega) ⟨H, I.tok _, by rw [isEmpty_of r]; exact q⟩
    · subst e'
      obtain ⟨its, r, pl, hz⟩ := I.tuple hx
      have hlen := r.length
      exact truthy_tuple pl (by simp only [List.size_toArray]; omega) ⟨H, I.tok _, by rw [isEmpty_of r]; exact q⟩
    · subst e'
      obtain ⟨hz, hS, vs, r, m⟩ : kvs.length ≤ sizeLine ∧ (p == sysModules) = false ∧ ∃ vs, KV kvs vs ∧ s.heap.DictOf (mixKind X.prog X.w) p vs := I.hok p _ hx
      have hlen : kvs.length = vs.length := Paired.length r
      exact wpAny_truthy_dict hS m (by omega) ⟨H, I.tok _, by rw [isEmpty_kv r]; exact q⟩
  | _ => exact (show False from e).elim
theorem pt_truth (ha : PE X a ta) (he : ∀ whole, isTrue a X.env whole = (do let v ← whole; standAt a.pos; holding [v] (truthy v))) :
    PT X a (fun σ H Q => ta σ H fun x H' => ∃ k, TruV X.K x H' k ∧ Q k H') := by
  intro pins s σ H Q I h
  exact isTrue_plain (thn (ha pins s σ H _ I h) fun v s1 ⟨x, H1, I1, r1, q1⟩ => tru_ok pins s1 σ H1 x v Q I1 r1 q1) (he _)
theorem op_add_str : OpR X (binaryOp .Add) (fun x y H Q => ∃ i j, x = .str i ∧ y = .str j ∧ i.length + j.length ≤ sizeLine ∧ Q (.str (i ++ j)) H) := by
  intro pins s σ H x y v u Q I rx ry h
  obtain ⟨i, j, rfl, rfl, hz, q⟩ := h
  obtain ⟨t, rfl⟩ := rx
  obtain ⟨t', rfl⟩ := ry
  exact add_str (fun t' tk => ⟨.str (i ++ j), H, I.tok _, ⟨_, rfl⟩, q⟩) hz
theorem vals1 {x : V} {us : List Value} (r : Vals [x] us) : ∃ u, us = [u] ∧ RelV x u := by
  cases r with
  | cons r1 r2 => cases r2; exact ⟨_, rfl, r1⟩
end
end L2
namespace L2
open PySem PySem.Spec PyProof.Rows
structure ObjM (h : Heap) (x dx C : Addr) (mA : Str → Option Value) : Prop where
  obj : h.get? x = some (PySem.W.instObj C dx)
  ns : h.Ns1 dx mA
  ne : dx ≠ x
theorem lookIn_ns {h : Heap} {dx : Addr} {mA : Str → Option Value} (n : h.Ns1 dx mA) : ∃ od, h.get? dx = some od ∧ ∀ name, PySem.W.lookIn name od = some (mA name) := by
  obtain ⟨o, es, ep, ho, hd, hk, _, hm⟩ := n
  refine ⟨o, ho, fun name => ?_⟩
  have e := hm name
  unfold nsFind findBy at e
  rw [← Array.find?_toList] at e
  unfold PySem.W.lookIn
  rw [hd]
  dsimp only
  split
  · rename_i y q
    rw [q] at e
    exact congrArg some e
  · rename_i q
    rw [q] at e
    have a : es.toList.any (·.refKey) = false := by
      rw [List.any_eq_false]
      intro y hy
      obtain ⟨z, t, hkey⟩ := hk y (Array.mem_toList_iff.mp hy)
      simp [DictEntry.refKey, hkey]
    have a' : ¬ es.toList.any (·.refKey) = true := by rw [a]; exact Bool.false_ne_true
    rw [if_neg a']
    exact congrArg some e
theorem ObjM.look {h : Heap} {x dx C : Addr} {mA : Str → Option Value} (I : ObjM h x dx C mA) : ∃ od, PySem.W.InstAt h x (PySem.W.instObj C dx) C (some od) ∧ ∀ name, PySem.W.lookIn name od = some (mA name) :=
  let ⟨od, ho, hl⟩ := lookIn_ns I.ns
  ⟨od, ⟨I.obj, rfl, rfl, ho⟩, hl⟩
section
variable {P : Program} {w : World} {H H' : Hp} {h h' : Heap} {a C dx : Addr} {fs fs' : List (Str × V)}
theorem ins_get (hok : HOk P w H h) (e : H a = some (.ins C dx fs)) : ∃ mA, ObjM h a dx C mA ∧ (∀ f, RelO (fs.lookup f) (mA f)) ∧ PySem.Within mA (fs.map (·.1)) ∧ fs.length ≤ 1000 ∧ H dx = some (.own a) := by
  obtain ⟨d, z, ne, ob, mA, n, r, q⟩ := (show ObjOk P w H h a (.ins C dx fs) from hok a _ e)
  exact ⟨mA, ⟨ob, n, ne⟩, r, q, z, d⟩
end
structure Cls (K : Fg) (C : Addr) : Prop where
  pg : PySem.W.plainGet K C Str.empty = true
  hd : PySem.W.hasDictIn K C = true
  po : PySem.W.plainOver K C = true
  sa : PySem.W.findIn K (.ref C) "__setattr__" = some (some (.builtin "object.__setattr__"))
theorem Cls.get {K : Fg} {C : Addr} (c : Cls K C) (f : Str) : PySem.W.plainGet K C f = true := c.pg
section
variable {X : Cx} {pins : List (Addr × Obj)} {σ : St} {H : Hp} {s : Shared} {A : Around} {E : Value → Shared → Prop} {Q : Value → Shared → Prop} {c : Value} {b : Bool}
inductive TyOf (K : Fg) (H : Hp) : V → Value → Prop where
  | non : TyOf K H .non (.type "NoneType")
  | bl (x : Bool) : TyOf K H (.bl x) (.type "bool")
  | int (i : Int) : TyOf K H (.int i) (.type "int")
  | str (x : Str) : TyOf K H (.str x) (.type "str")
  | flt (x : UInt64) : TyOf K H (.flt x) (.type "float")
  | lst {a : Addr} {xs : List V} (e : H a = some (.lst xs)) : TyOf K H (.ref a) (.type "list")
  | frz {a : Addr} {o : Obj} {xs : List V} (e : H a = some (.frz o (.lst xs))) : TyOf K H (.ref a) (.type "list")
  | tup {a : Addr} {xs : List V} (e : H a = some (.tup xs)) : TyOf K H (.ref a) (.type "tuple")
  | dK {a : Addr} {kvs : List (Key × V)} (e : H a = some (.dK kvs)) : TyOf K H (.ref a) (.type "dict")
  | dT {a : Addr} {kvs : List (List Key × V)} (e : H a = some (.dT kvs)) : TyOf K H (.ref a) (.type "dict")
  | ins {a C dx : Addr} {fs : List (Str × V)} (e : H a = some (.ins C dx fs)) (cl : Cls K C) (ha : PySem.W.findIn K (.ref C) "__class__" = some (some (.builtin "object.__class__")))
      (hn : PySem.W.specialIn K (.builtin "object.__class__") "__get__" = some (some (.builtin "getset_descriptor.__get__"))) (htk : PySem.W.takesIn K (.builtin "object.__class__") = some true)
      (hm : PySem.W.mroIn K C (.type "object") = some true) : TyOf K H (.ref a) (.ref C)
theorem isinst_ok {x : V} {u t : Value} (I : Inv X pins σ H s) (rx : RelV x u) (ty : TyOf X.K H x t) (e : PySem.W.kitOne X.K t c = some b) (h : ∀ tk, Q (.bool b) { s with toks := tk }) :
    wpAny (model X.prog X.w) A (call (.builtin "isinstance") [u, c]) Q E s := by
  cases ty with
  | non => cases (show u = Value.none from rx); exact PySem.W.kia_one PySem.W.kitx_none I.kIn True.intro e (fun z => nomatch z) h
  | bl y => cases (show u = Value.bool y from rx); exact PySem.W.kia_one PySem.W.kitx_bool I.kIn True.intro e (fun z => nomatch z) h
  | int i => obtain ⟨t, q⟩ := (show ∃ t, u = Value.int i t from rx); cases q; exact PySem.W.kia_one PySem.W.kitx_int I.kIn True.intro e (fun z => nomatch z) h
  | str y => obtain ⟨t, q⟩ := (show ∃ t, u = Value.str y t from rx); cases q; exact PySem.W.kia_one PySem.W.kitx_str I.kIn True.intro e (fun z => nomatch z) h
  | flt y => obtain ⟨t, q⟩ := (show ∃ t, u = Value.float y t from rx); cases q; exact PySem.W.kia_one PySem.W.kitx_float I.kIn True.intro e (fun z => nomatch z) h
  | @lst a xs ea =>
    cases (show u = Value.ref a from rx)
    obtain ⟨_, _, n, _, h1⟩ := (show ObjOk X.prog X.w H s.heap a (.lst xs) from I.hok a _ ea)
    exact PySem.W.kia_one PySem.W.kitx_list I.kIn ⟨_, h1, rfl⟩ e (fun z => nomatch z) h
  | @frz a ob xs ea =>
    cases (show u = Value.ref a from rx)
    obtain ⟨_, _, _, n, _, h1⟩ := (show ObjOk X.prog X.w H s.heap a (.frz ob (.lst xs)) from I.hok a _ ea)
    exact PySem.W.kia_one PySem.W.kitx_list I.kIn ⟨_, h1, rfl⟩ e (fun z => nomatch z) h
  | @tup a xs ea =>
    cases (show u = Value.ref a from rx)
    obtain ⟨_, _, _, p⟩ := (show ObjOk X.prog X.w H s.heap a (.tup xs) from I.hok a _ ea)
    obtain ⟨o, h1, h2, _⟩ := p
    exact PySem.W.kia_one PySem.W.kitx_tuple I.kIn ⟨o, h1, h2⟩ e (fun z => nomatch z) h
  | @dK a kvs ea =>
    cases (show u = Value.ref a from rx)
    obtain ⟨_, _, vs, _, p⟩ := (show ObjOk X.prog X.w H s.heap a (.dK kvs) from I.hok a _ ea)
    obtain ⟨o, es, ep, h1, h2, _⟩ := p
    exact PySem.W.kia_one PySem.W.kitx_dict I.kIn ⟨o, h1, h2.1⟩ e (fun z => nomatch z) h
  | @dT a kvs ea =>
    cases (show u = Value.ref a from rx)
    obtain ⟨_, _, xs, _, o, es, ep, h1, h2, _⟩ := (show ObjOk X.prog X.w H s.heap a (.dT kvs) from I.hok a _ ea)
    exact PySem.W.kia_one PySem.W.kitx_dict I.kIn ⟨o, h1, h2.1⟩ e (fun z => nomatch z) h
  | @ins a C dx fs ea cl ha hn htk hm =>
    cases (show u = Value.ref a from rx)
    obtain ⟨mA, O, _⟩ := ins_get I.hok ea
    obtain ⟨od, J, _⟩ := O.look
    exact PySem.W.kia_one (PySem.W.kitx_own (cl.get _) cl.hd ha hn htk hm) I.kIn J e (fun z => nomatch z) h
end
end L2
namespace L2
open PySem PySem.Spec PyProof.Rows
structure Room (k : Nat) (A : Around) : Prop where
  hd : A.handled = none
  dp : A.depth + 3 * k + 5 < recursionLimit
  un : A.units + 16 * k + 200 < cLine
theorem Room.mono {j k : Nat} {A : Around} (r : Room k A) (h : j ≤ k) : Room j A := ⟨r.hd, by have := r.dp; omega, by have := r.un; omega⟩
theorem Room.deeper {k : Nat} {A : Around} (r : Room (k + 1) A) (env : Env) : Room k (A.deeper env) :=
  ⟨r.hd, by have := r.dp; show A.depth + 1 + 3 * k + 5 < _; omega, by have := r.un; show A.units + 3 + 16 * k + 200 < _; omega⟩
theorem Room.depth {k : Nat} {A : Around} (r : Room k A) : A.depth < recursionLimit := by have := r.dp; omega
theorem Room.units0 {k : Nat} {A : Around} (r : Room k A) : A.units < cLine := by have := r.un; omega
noncomputable def tNil : TA := fun _ H Q => Q [] H
noncomputable def tCons (ta : TE) (tr : TA) : TA := fun σ H Q => ta σ H fun x H1 => tr σ H1 fun xs H2 => Q (x :: xs) H2
section
variable {X : Cx} {e : Expr} {es : List Expr} {te : TE} {t : TA} {pos : Pos}
theorem pa_nil : PA X [] tNil := fun _ _ _ _ H Q I h => Calls.spliced_nil ⟨[], H, I, .nil, h⟩
theorem pa_cons (ha : PE X e te) (hr : PA X es t) (hs : starEach (e :: es) X.env = (false, eval e X.env) :: starEach es X.env := by rfl) : PA X (e :: es) (tCons te t) := by
  intro pos pins s σ H Q I h
  rw [hs]
  show wpAny _ _ (spliced ((false, eval e X.env) :: backTo pos (starEach es X.env))) _ _ s
  refine Calls.spliced_cons (thn (ha pins s σ H _ I h) fun u s1 ⟨x, H1, I1, r1, q1⟩ => ?_)
  exact thn (hr pos pins s1 σ H1 _ I1 q1) fun us s2 ⟨xs, H2, I2, r2, q2⟩ => ⟨x :: xs, H2, I2, .cons r1 r2, q2⟩
noncomputable def tTup (t : TA) : TE := fun σ H Q => t σ H fun xs H1 => xs.length ≤ sizeLine ∧ ∀ p, H1 p = none → Q (.ref p) (upd H1 p (.tup xs))
noncomputable def tLst (t : TA) : TE := fun σ H Q => t σ H fun xs H1 => xs.length ≤ sizeLine ∧ ∀ p, H1 p = none → Q (.ref p) (upd H1 p (.lst xs))
theorem pe_tup {x1} (h : PA X es t) : PE X (.Tuple es x1 pos) (tTup t) := by
  intro pins s σ H Q I hq
  refine wpAny_Tuple_spliced (thn (h pos pins s σ H _ I hq) fun us s1 ⟨xs, H1, I1, r, z, q⟩ => ⟨by rw [← r.length]; exact z, ?_⟩)
  have hf : H1 s1.heap.objs.size = none := I1.hok.fresh (Nat.le_refl _)
  refine ⟨.ref s1.heap.objs.size, upd H1 s1.heap.objs.size (.tup xs), I1.laid (t' := s1.toks) (fun b u e => Heap.get?_push_of_some _ e) (Nat.le_refl _) ?_, rfl, q _ hf⟩
  exact ⟨z, us, r, ⟨_, Heap.get?_push_size _ rfl, rfl, _, rfl⟩⟩
theorem pe_lst (h : PA X es t) : PE X (.List es pos) (tLst t) := by
  intro pins s σ H Q I hq
  refine wpAny_List_spliced (thn (h pos pins s σ H _ I hq) fun us s1 ⟨xs, H1, I1, r, z, q⟩ => ⟨by rw [← r.length]; exact z, ?_⟩)
  have hf : H1 s1.heap.objs.size = none := I1.hok.fresh (Nat.le_refl _)
  refine ⟨.ref s1.heap.objs.size, upd H1 s1.heap.objs.size (.lst xs), I1.laid (t' := s1.toks) (fun b u e => Heap.get?_push_of_some _ e) (Nat.le_refl _) ?_, rfl, q _ hf⟩
  exact ⟨z, us, 0, r, Heap.get?_push_size _ rfl⟩
end
noncomputable abbrev Sp := List V → Hp → VK → XK → Prop
noncomputable abbrev CXT := List Env → Hp → Shared → XK → Value → Shared → Prop
structure Env0 (P : Program) (w : World) (K : Fg) (mg : Str → Option Value) (base : Heap) (A : Around) (outer : List Env) (s : Shared) (H : Hp) : Prop where
  frames : A.frames = some outer
  mod : Mod K mg base
  bs : ∀ b o, base.get? b = some o → s.heap.get? b = some o ∧ H b = none
  bsz : base.objs.size ≤ s.heap.objs.size
  funs : s.heap.FunFrames base outer
  frf : ∀ b ∈ frs outer, H b = none
  hok : HOk P w H s.heap
  bare : AllBare s.gens
noncomputable def CE (outer : List Env) (P : Program) (w : World) (H : Hp) (s : Shared) (Q : VK) (u : Value) (s' : Shared) : Prop :=
  ∃ v H', s'.os = s.os ∧ AllBare s'.gens ∧ Un (frs outer) [] H H' s.heap s'.heap ∧ HOk P w H' s'.heap ∧ RelV v u ∧ Q v H'
noncomputable def CR (CX : CXT) (outer : List Env) (P : Program) (w : World) (H : Hp) (s : Shared) (Q : VK) (E : XK) (r : Result) (s' : Shared) : Prop :=
  match r with
  | .ok (.ret u) => CE outer P w H s Q u s'
  | .ok _ => False
  | .error e => CX outer H s E e s'
structure FnOk (P : Program) (w : World) (K : Fg) (mg : Str → Option Value) (base : Heap) (CX : CXT) (k : Nat) (f : Addr) (fd : FuncData) (ps : List Str) (sp : Sp) : Prop where
  len : ∀ vs H Q E, sp vs H Q E → vs.length = ps.length
  run : ∀ (A : Around) (outer : List Env) (s : Shared) (H : Hp) (args : Args) (us : List Value) (vs : List V) (Q : VK) (E : XK), Room k A → Env0 P w K mg base A outer s H → BindsTo s fd args (ps.zip us) → Vals vs us → sp vs H Q E →
    codeAny (model P w) A (.call (.ref f) args) (CR CX outer P w H s Q E) s
theorem FnOk.imp {P : Program} {w : World} {K : Fg} {mg : Str → Option Value} {base : Heap} {CX : CXT} {k : Nat} {f : Addr} {fd : FuncData} {ps : List Str} {sp sp' : Sp} (F : FnOk P w K mg base CX k f fd ps sp)
    (h : ∀ vs H Q E, sp' vs H Q E → sp vs H Q E) : FnOk P w K mg base CX k f fd ps sp' :=
  ⟨fun vs H Q E q => F.len vs H Q E (h _ _ _ _ q), fun A outer s H args us vs Q E hr he hb hv hs => F.run A outer s H args us vs Q E hr he hb hv (h _ _ _ _ hs)⟩
section
variable {X : Cx} {pins : List (Addr × Obj)} {σ : St} {H : Hp} {s s' : Shared}
theorem Inv.env0 (I : Inv X pins σ H s) : Env0 X.prog X.w X.K X.mg X.base X.A X.stack s H :=
  ⟨I.ok.frames, I.ok.mod, I.bs, Nat.le_trans I.ok.bsz I.sz, I.stack, I.stkFree, I.hok, I.bare⟩
theorem Inv.after {Q : VK} {u : Value} (I : Inv X pins σ H s) (h : CE X.stack X.prog X.w H s Q u s') : EP X pins σ Q u s' := by
  obtain ⟨v, H', os, bare, un, hok, r, q⟩ := h
  obtain ⟨hh, g, d, t, os'⟩ := s'
  obtain rfl : os' = s.os := os
  exact ⟨v, H', I.call (h' := hh) (g' := g) (d' := d) (t' := t) (ch := []) un hok bare (fun b z => absurd z (by simp)), r, q⟩
end
noncomputable def tCall (sp : Sp) (dvs : List V) (E : XK) (t : TA) : TE := fun σ H Q => t σ H fun vs H1 => sp (vs ++ dvs) H1 Q E
noncomputable def Binds (K : Fg) (fd : FuncData) (ps : List Str) (ds : List Value) : Prop :=
  ∀ (s : Shared) (us : List Value), K.In s.heap → (us ++ ds).length = ps.length → BindsTo s fd ⟨us, []⟩ (ps.zip (us ++ ds))
theorem Binds.all {K : Fg} {fd : FuncData} {ps : List Str} (h : ∀ us : List Value, us.length = ps.length → bindArgs fd ⟨us, []⟩ = pure (ps.zip us)) : Binds K fd ps [] := fun s us _ hl => by
  rw [List.append_nil] at hl ⊢
  exact .of_eq (h us hl)
noncomputable def Passes (CX : CXT) (X : Cx) (E : XK) : Prop := ∀ (pins : List (Addr × Obj)) (σ : St) (H : Hp) (s : Shared) (e : Value) (s' : Shared), Inv X pins σ H s → CX X.stack H s E e s' → X.xe e s'
section
variable {X : Cx} {CX : CXT} {k : Nat} {f C : Addr} {fd : FuncData} {ps : List Str} {sp : Sp} {dvs : List V} {ds : List Value} {E : XK} {x m : Str} {p pos apos : Pos} {e o : Expr} {es : List Expr} {ta : TE} {t : TA}
theorem run_fn {pins : List (Addr × Obj)} {σ : St} {H : Hp} {s : Shared} {Q : VK} {us : List Value} {vs : List V} (F : FnOk X.prog X.w X.K X.mg X.base CX k f fd ps sp) (hr : Room k X.A) (hb : Binds X.K fd ps ds) (hd : Vals dvs ds) (hx : Passes CX X E)
    (I : Inv X pins σ H s) (r : Vals vs us) (h : sp (vs ++ dvs) H Q E) : wpAny (model X.prog X.w) X.A (call (.ref f) us) (EP X pins σ Q) X.xe s := by
  have r2 : Vals (vs ++ dvs) (us ++ ds) := r.append hd
  have hl : (us ++ ds).length = ps.length := by rw [← r2.length]; exact F.len _ _ _ _ h
  refine wpAny_call (codeAny_mono (F.run X.A X.stack s H ⟨us, []⟩ (us ++ ds) (vs ++ dvs) Q E hr I.env0 (hb s us I.kIn hl) r2 h) fun r s' hq => ?_)
  cases r with
  | error e => exact hx pins σ H s e s' I hq
  | ok fl =>
    cases fl with
    | ret u => exact I.after hq
    | next => exact False.elim hq
    | brk => exact False.elim hq
    | cont => exact False.elim hq
theorem pe_call (F : FnOk X.prog X.w X.K X.mg X.base CX k f fd ps sp) (hr : Room k X.A) (hg : Gl X x) (hm : X.mg x = some (.ref f)) (hk : PySem.W.keepIn X.K (.ref f) = true) (hb : Binds X.K fd ps ds) (hd : Vals dvs ds) (hx : Passes CX X E)
    (ha : PA X (e :: es) t) (hdb : (x == ("__debug__" : Str)) = false := by decide) (he : starEach (e :: es) X.env = (false, eval e X.env) :: starEach es X.env := by rfl) (hpl : (backTo pos (starEach es X.env)).any (·.1) = false := by rfl) :
    PE X (.Call (.Name x p) (e :: es) [] pos) (tCall sp dvs E t) := by
  intro pins s σ H Q I h
  refine wpAny_Call_Name_kw (ld_glob I hg hm ?_ hdb)
  refine PySem.W.callWith_K (h₀ := X.base) I.ok.mod.kin hk (thn (ha pos pins s σ H _ I h) fun us s1 ⟨vs, H1, I1, r, q⟩ => ⟨I1.kIn, ?_⟩) he hpl
  exact run_fn F hr hb hd hx I1 r q
end
section
variable {X : Cx} {CX : CXT} {k : Nat} {f C : Addr} {fd : FuncData} {ps ks : List Str} {sp : Sp} {E : XK} {x m : Str} {p pos apos kpos : Pos} {e o : Expr} {es : List Expr} {kws : List Keyword} {te ta : TE} {t tk : TA} {nm : Option Str}
variable {g : List Value → List Value → List Value} {gV : List V → List V → List V}
end
structure FnScope (N P : List Str) (sc : Scope) : Prop where
  kind : sc.kind = .function
  co : sc.isCoroutine = false
  gen : sc.isGenerator = false
  nd : N.Nodup
  pre : N.take P.length = P
  par : ∀ x ∈ P, sc.names.lookup x = some .local ∨ sc.names.lookup x = some .cell
  nofree : ∀ y ∈ sc.names, y.2 ≠ .free
theorem bindL_out {kindOf : Str → Option NameKind} {x : Str} : ∀ {binds : List (Str × Value)} {m : Str → Option Value}, (∀ v, (x, v) ∉ binds) → bindL kindOf binds m x = m x
  | [], _, _ => rfl
  | (n, v) :: r, m, h => by
    unfold bindL
    rw [bindL_out fun w hw => h w (List.mem_cons_of_mem _ hw)]
    split
    · have : x ≠ n := by rintro rfl; exact h v List.mem_cons_self
      simp [this]
    · rfl
theorem bindC_out {kindOf : Str → Option NameKind} {x : Str} : ∀ {binds : List (Str × Value)} {m : Str → Option Value}, (∀ v, (x, v) ∉ binds) → bindC kindOf binds m x = m x
  | [], _, _ => rfl
  | (n, v) :: r, m, h => by
    unfold bindC
    rw [bindC_out fun w hw => h w (List.mem_cons_of_mem _ hw)]
    split
    · rfl
    · have : x ≠ n := by rintro rfl; exact h v List.mem_cons_self
      simp [this]
theorem bindL_get {kindOf : Str → Option NameKind} {x : Str} {v : Value} : ∀ {P : List Str} {vs : List Value} {i : Nat} {m : Str → Option Value}, P.Nodup → P[i]? = some x → vs[i]? = some v → kindOf x = some .local →
    bindL kindOf (P.zip vs) m x = some v
  | [], _, _, _, _, h, _, _ => by simp at h
  | _ :: _, [], _, _, _, _, h, _ => by simp at h
  | p :: P, w :: vs, 0, m, nd, h1, h2, hk => by
    simp at h1 h2; subst h1; subst h2
    show bindL kindOf ((p, w) :: P.zip vs) m p = _
    unfold bindL
    rw [bindL_out fun v hv => (List.nodup_cons.mp nd).1 (List.of_mem_zip hv).1, if_pos hk]
    simp
  | p :: P, w :: vs, i + 1, m, nd, h1, h2, hk => by
    show bindL kindOf ((p, w) :: P.zip vs) m x = _
    unfold bindL
    exact bindL_get (i := i) (List.nodup_cons.mp nd).2 (by simpa using h1) (by simpa using h2) hk
theorem bindC_get {kindOf : Str → Option NameKind} {x : Str} {v : Value} : ∀ {P : List Str} {vs : List Value} {i : Nat} {m : Str → Option Value}, P.Nodup → P[i]? = some x → vs[i]? = some v → kindOf x ≠ some .local →
    bindC kindOf (P.zip vs) m x = some v
  | [], _, _, _, _, h, _, _ => by simp at h
  | _ :: _, [], _, _, _, _, h, _ => by simp at h
  | p :: P, w :: vs, 0, m, nd, h1, h2, hk => by
    simp at h1 h2; subst h1; subst h2
    show bindC kindOf ((p, w) :: P.zip vs) m p = _
    unfold bindC
    rw [bindC_out fun v hv => (List.nodup_cons.mp nd).1 (List.of_mem_zip hv).1, if_neg hk]
    simp
  | p :: P, w :: vs, i + 1, m, nd, h1, h2, hk => by
    show bindC kindOf ((p, w) :: P.zip vs) m x = _
    unfold bindC
    exact bindC_get (i := i) (List.nodup_cons.mp nd).2 (by simpa using h1) (by simpa using h2) hk
noncomputable def start (N : List Str) (vs : List V) : St := vs.map some ++ List.replicate (N.length - vs.length) none
noncomputable def cxOf (CX : CXT) (P : Program) (w : World) (K : Fg) (mg : Str → Option Value) (base : Heap) (N : List Str) (qual : Str) (scope : Scope) (f : Addr) (cd : Value) (A : Around) (outer : List Env) (s : Shared) (H : Hp) (E : XK) : Cx where
  prog := P
  w := w
  K := K
  mg := mg
  base := base
  A := A.deeper (envOfC qual scope s.heap.objs.size f cd)
  N := N
  s₀ := s
  H₀ := H
  env := envOfC qual scope s.heap.objs.size f cd
  outer := outer
  stack := envOfC qual scope s.heap.objs.size f cd :: outer
  ex := []
  calm := true
  fn := fun _ => true
  pn := []
  xe := fun e s' => wpAny (model P w) (A.deeper (envOfC qual scope s.heap.objs.size f cd)) (leaving (envOfC qual scope s.heap.objs.size f cd) e) (fun _ s'' => CX outer H s E e s'') (fun e' s'' => CX outer H s E e' s'') s'
theorem cell_has {sc : Scope} {n : Nat} {x : Str} (h : sc.names.lookup x = some .cell) : ∃ c, (cellsFrom n sc.names []).lookup x = some c := by
  have q := PySem.W.cellsFrom_some sc.names n [] (.inl h)
  exact Option.isSome_iff_exists.mp q
theorem inv_start {CX : CXT} {P : Program} {w : World} {K : Fg} {mg : Str → Option Value} {base : Heap} {N ps : List Str} {qual : Str} {scope : Scope} {f : Addr} {cd : Value} {A : Around} {outer : List Env} {s s1 : Shared} {H : Hp} {E : XK} {us : List Value} {vs : List V}
    (S : FnScope N ps scope) (hd : A.handled = none) (e0 : Env0 P w K mg base A outer s H) (hl : vs.length = ps.length) (r : Vals vs us)
    (x : InCallC s s.heap.objs.size (bindL (envOfC qual scope s.heap.objs.size f cd).kindOf (ps.zip us) fun _ => none) (cellsFrom (s.heap.objs.size + 1) scope.names []) (bindC (envOfC qual scope s.heap.objs.size f cd).kindOf (ps.zip us) fun _ => none) s1) :
    Inv (cxOf CX P w K mg base N qual scope f cd A outer s H E) [] (start N vs) H s1 := by
  have hpl : ps.length ≤ N.length := by have := congrArg List.length S.pre; rw [List.length_take] at this; omega
  obtain ⟨h1, tk, rfl, hk⟩ := x.done
  have noA : ∀ b : Addr, b ∉ (cxOf CX P w K mg base N qual scope f cd A outer s H E).ex := fun b z => absurd (show b ∈ ([] : List Addr) from z) (by simp)
  refine ⟨⟨e0.mod, S.kind, rfl, rfl, Nat.le_refl _, fun y z c h1 h2 => ?_, fun y hy => ?_, fun y c _ h => ?_, fun _ => hd, Around.frames_deeper e0.frames, .inr ⟨rfl, rfl⟩, fun b z => absurd z (noA b), e0.bs, e0.bsz, fun b _ _ => noA b, fun b z => absurd z (noA b), e0.funs, e0.frf⟩,
    rfl, e0.bare, Un.kept hk, ⟨_, x.toInCall.ns, fun i y v h1 h2 h3 => ?_⟩, fun y c h => ⟨_, x.cell y c h⟩, e0.hok.fresh (Nat.le_refl _), fun y c h => ?_, fun p hp => absurd (show p ∈ ([] : List (Addr × Obj)) from hp) (by simp), e0.hok.kept hk, ?_⟩
  · exact name_of_addr x.apart (PySem.mem_of_lookup h1) (PySem.mem_of_lookup h2)
  · have hy : scope.names.lookup y = some .cell ∨ scope.names.lookup y = some .free := hy
    rcases hy with hy | hy
    · exact cell_has hy
    · exact absurd rfl (S.nofree _ (PySem.mem_of_lookup hy))
  · exact Nat.le_of_lt (x.above y c (PySem.mem_of_lookup h))
  · have hi : i < vs.length := by
      unfold start at h2
      by_cases hi : i < vs.length
      · exact hi
      · rw [List.getElem?_append_right (by simpa using hi)] at h2
        rw [List.getElem?_replicate] at h2
        split at h2 <;> cases h2
    have ha : vs[i]? = some v := by
      unfold start at h2
      rw [List.getElem?_append_left (by simpa using hi), List.getElem?_map] at h2
      cases e : vs[i]? with
      | none => rw [e] at h2; cases h2
      | some a => rw [e] at h2; cases h2; rfl
    obtain ⟨u, hu, rv⟩ := r.get ha
    have hp : ps[i]? = some y := by
      rw [← S.pre, List.getElem?_take_of_lt (by omega)]; exact h1
    have ndP : ps.Nodup := by rw [← S.pre]; exact S.nd.sublist (List.take_sublist _ _)
    refine ⟨u, rv, ?_⟩
    rcases S.par y (List.mem_of_getElem? hp) with k | k
    · exact .inl ⟨k, bindL_get ndP hp hu k⟩
    · obtain ⟨c, e⟩ := cell_has (n := s.heap.objs.size + 1) k
      refine .inr ⟨.inl k, c, e, ?_⟩
      have q := x.cell y c e
      rw [bindC_get ndP hp hu (by show scope.names.lookup y ≠ _; rw [k]; decide)] at q
      exact q
  · exact e0.hok.fresh (Nat.le_of_lt (x.above y c (PySem.mem_of_lookup h)))
  · unfold start
    show _ = N.length
    rw [List.length_append, List.length_map, List.length_replicate]
    omega
theorem fn_of {CX : CXT} {P : Program} {w : World} {K : Fg} {mg : Str → Option Value} {base : Heap} {k : Nat} {f : Addr} {name qual : Str} {params : Arguments} {body : List Stmt} {scope : Scope} {dV kV doc pm cdv ct oc : Value} {an od : Option Addr}
    {osl : Array (Option Value)} {N ps : List Str} {sp : Sp} (lk : K.lookup f = some ⟨oc, od, .func (PySem.W.fnOf name qual params body scope dV kV doc pm an cdv ct), osl⟩) (hcd : PySem.W.codeIn K cdv qual = true) (S : FnScope N ps scope)
    (len : ∀ vs H Q E, sp vs H Q E → vs.length = ps.length)
    (hbody : ∀ (A : Around) (outer : List Env) (s : Shared) (H : Hp) (vs : List V) (Q : VK) (E : XK), Room k (A.deeper (envOfC qual scope s.heap.objs.size f cdv)) → sp vs H Q E →
      ∃ t, PSs (cxOf CX P w K mg base N qual scope f cdv A outer s H E) body t ∧ t { nx := fun _ H' => Q .non H', rt := Q } (start N vs) H) :
    FnOk P w K mg base CX (k + 1) f (PySem.W.fnOf name qual params body scope dV kV doc pm an cdv ct) ps sp := by
  refine ⟨len, fun A outer s H args us vs Q E hr e0 hb r hsp => ?_⟩
  have hl := len _ _ _ _ hsp
  have KX : K.In s.heap := e0.mod.kin.keeps fun b o e => (e0.bs b o e).1
  have lim : s.heap.NoLimit := e0.mod.nolimit.keeps fun b o e => (e0.bs b o e).1
  have hkind : ∀ y ∈ ps.zip us, scope.names.lookup y.1 = some .local ∨ (scope.names.lookup y.1 = some .cell ∧ ((cellsFrom (s.heap.objs.size + 1) scope.names []).lookup y.1).isSome = true) := fun ⟨n, v⟩ hy => by
    rcases S.par n (List.of_mem_zip hy).1 with q | q
    · exact .inl q
    · exact .inr ⟨q, PySem.W.cellsFrom_some _ _ _ (.inl q)⟩
  refine codeAny_call_function hr.depth (KX _ _ lk) rfl S.co S.gen rfl (PySem.W.codeRec_of KX hcd) (hb _ _ _ _ ?_)
  refine wpAny_newFunctionEnv_cells S.kind hkind fun env he s1 x => ?_
  subst he
  refine ⟨lim.keeps x.toInCall.keep, codeAny_func ?_⟩
  obtain ⟨t, ht, hq⟩ := hbody A outer s H vs Q E (hr.deeper _) hsp
  have I : Inv (cxOf CX P w K mg base N qual scope f cdv A outer s H E) [] (start N vs) H s1 := inv_start S hr.hd e0 hl r x
  refine wpAny_mono (ht [] s1 (start N vs) H _ I hq) (fun fl s' hs => ?_) fun e s' hs => hs
  have fin : ∀ {σ' : St} {H' : Hp} {v : V} {u : Value}, Inv (cxOf CX P w K mg base N qual scope f cdv A outer s H E) [] σ' H' s' → RelV v u → Q v H' → CE outer P w H s Q u s' :=
    fun {σ' H' v u} J rv q => ⟨v, H', J.os, J.bare, J.base, J.hok, rv, q⟩
  cases fl with
  | ret u =>
    obtain ⟨v, σ', H', J, rv, q⟩ := hs
    exact fin J rv q
  | next =>
    obtain ⟨σ', H', J, q⟩ := hs
    exact fin (v := V.non) (u := Value.none) J rfl q
  | brk =>
    obtain ⟨_, _, _, q⟩ := hs
    exact False.elim q
  | cont =>
    obtain ⟨_, _, _, q⟩ := hs
    exact False.elim q
end L2
namespace L2
open PySem PySem.Spec PyProof.Rows
section
variable {X : Cx} {x : Str} {p pos : Pos} {e : Expr} {es : List Expr} {t : TA} {id T : String} {r : List V → Hp → VK → Prop}
noncomputable def tCB (r : List V → Hp → VK → Prop) (t : TA) : TE := fun σ H Q => t σ H fun vs H1 => r vs H1 Q
theorem pe_callB (hc : CallR X (.builtin id) r) (hg : Gl X x) (hm : X.mg x = none) (hv : bootBuiltins x = some (.builtin id)) (ha : PA X (e :: es) t) (hn : x ≠ "__name__" := by decide) (hdb : (x == ("__debug__" : Str)) = false := by decide)
    (he : starEach (e :: es) X.env = (false, eval e X.env) :: starEach es X.env := by rfl) (hpl : (backTo pos (starEach es X.env)).any (·.1) = false := by rfl) : PE X (.Call (.Name x p) (e :: es) [] pos) (tCB r t) := by
  intro pins s σ H Q I h
  refine wpAny_Call_Name_kw (ld_blt I hg hm hv ?_ hn hdb)
  exact PyProof.Rows.callWith_builtin1 (thn (ha pos pins s σ H _ I h) fun us s1 ⟨vs, H1, I1, r1, q1⟩ => hc pins s1 σ H1 vs us Q I1 r1 q1) he hpl
theorem pe_callTy (hc : CallR X (.type T) r) (hg : Gl X x) (hm : X.mg x = none) (hv : bootBuiltins x = some (.type T)) (ha : PA X (e :: es) t) (hn : x ≠ "__name__" := by decide) (hdb : (x == ("__debug__" : Str)) = false := by decide)
    (he : starEach (e :: es) X.env = (false, eval e X.env) :: starEach es X.env := by rfl) (hpl : (backTo pos (starEach es X.env)).any (·.1) = false := by rfl) : PE X (.Call (.Name x p) (e :: es) [] pos) (tCB r t) := by
  intro pins s σ H Q I h
  refine wpAny_Call_Name_kw (ld_blt I hg hm hv ?_ hn hdb)
  exact PyProof.Rows.callWith_type1 (thn (ha pos pins s σ H _ I h) fun us s1 ⟨vs, H1, I1, r1, q1⟩ => hc pins s1 σ H1 vs us Q I1 r1 q1) he hpl
end
end L2
namespace HT
open PySem PyProof.Rows
section
open PySem.SeqAt
open PySem.AutoSeq1 (wpAny_loadPart')
open PySem.MeetsSeq PySem.MeetsSeq2 PySem.MeetsSeq3
end
section
variable {prog : Program} {w : World} {A : Around} {E : Value → Shared → Prop} {s : Shared}
theorem cat_tup {t b : Addr} {vs ws : List Value} {Q : Value → Shared → Prop} (ht : IsTup s.heap t vs.toArray) (hb : IsTup s.heap b ws.toArray) (hv : vs ≠ [])
    (h1 : ws = [] → Q (.ref t) s) (h2 : ws ≠ [] → Q (.ref s.heap.objs.size) { s with heap := s.heap.push { cls := .type "tuple", data := .seq (vs ++ ws).toArray } })
    (hsz : vs.length + ws.length ≤ sizeLine) : wpAny (model prog w) A (binaryOp .Add (.ref t) (.ref b)) Q E s := by
  obtain ⟨⟨cls, dd, data, sl⟩, ho, hc, n, hd⟩ := id ht
  obtain ⟨⟨cls2, dd2, data2, sl2⟩, ho2, hc2, n2, hd2⟩ := id hb
  simp only at hc hd hc2 hd2
  subst hc hd hc2 hd2
  have e : vs.toArray ++ ws.toArray = (vs ++ ws).toArray := by simp
  by_cases hw : ws = []
  · exact concat_meets ⟨_, ho, rfl⟩ ⟨_, ho2, rfl⟩ noFill_tuple_add seq_tuple_add PySem.F.slot_tuple_add PySem.F.entry_tuple_add (PySem.F.args_tuple_add_2 _ _)
      (tuple_addW1 t b vs.toArray ws.toArray n n2 dd dd2 sl sl2 (by simpa using hv) (by simp [hw])) ⟨ho, ho2, h1 hw⟩
  · refine concat_meets ⟨_, ho, rfl⟩ ⟨_, ho2, rfl⟩ noFill_tuple_add seq_tuple_add PySem.F.slot_tuple_add PySem.F.entry_tuple_add (PySem.F.args_tuple_add_2 _ _)
      (tuple_addW2 t b vs.toArray ws.toArray n n2 dd dd2 sl sl2 (by simpa using hv) (by simpa using hw) (by rw [List.size_toArray, List.size_toArray]; exact hsz)) ⟨ho, ho2, ?_⟩
    rw [e]
    exact h2 hw
noncomputable def sIx (n d : Nat) : Option Int → Nat
  | none => d
  | some v => if v < 0 then (v + (n : Int)).toNat else min v.toNat n
theorem sIx_none (n d : Nat) : sIx n d none = d := rfl
theorem sIx_nat (n d k : Nat) : sIx n d (some (k : Int)) = min k n := by
  show (if (k : Int) < 0 then ((k : Int) + (n : Int)).toNat else min (k : Int).toNat n) = min k n
  rw [if_neg (by omega), Int.toNat_natCast]
theorem sIx_le (n d : Nat) (hd : d ≤ n) (o : Option Int) : sIx n d o ≤ n := by
  cases o with
  | none => exact hd
  | some v =>
    show (if v < 0 then (v + (n : Int)).toNat else min v.toNat n) ≤ n
    by_cases hv : v < 0
    · rw [if_pos hv]; omega
    · rw [if_neg hv]; exact Nat.min_le_right _ _
theorem clip_eq (v : Int) (n d : Nat) : (if v < 0 then max (v + (n : Int)) 0 else min v (n : Int)) = ((sIx n d (some v) : Nat) : Int) := by
  show (if v < 0 then max (v + (n : Int)) 0 else min v (n : Int)) = (((if v < 0 then (v + (n : Int)).toNat else min v.toNat n) : Nat) : Int)
  by_cases hv : v < 0
  · simp only [if_pos hv]; omega
  · simp only [if_neg hv]; omega
theorem adjust_gen (lo hi : Option Int) (n : Nat) : Builtin.Slice.sliceAdjust lo hi 1 (n : Int) = (((sIx n 0 lo : Nat) : Int), ((sIx n n hi : Nat) : Int)) := by
  have h1 : ¬ ((1 : Int) < 0) := by omega
  unfold Builtin.Slice.sliceAdjust
  simp only [h1, if_false]
  refine Prod.ext ?_ ?_
  · cases lo with
    | none => rfl
    | some v => exact clip_eq v n 0
  · cases hi with
    | none => rfl
    | some v => exact clip_eq v n n
theorem places_gen (i j : Nat) : Builtin.Slice.slicePlaces (i : Int) (j : Int) 1 = j - i := by
  unfold Builtin.Slice.slicePlaces
  have h1 : (1 : Int) > 0 := by omega
  simp only [h1, if_true, Int.ediv_one]
  split <;> omega
theorem slicePart_ {v : Value} {o : Option Int} {Q : Option Int → Shared → Prop} (p : IsPart v o) (h : Q o s) : wpAny (model prog w) A (Builtin.Slice.slicePartIndex v) Q E s := by
  cases p with
  | none => exact slicePart_none h
  | int i t => exact slicePart_int h
theorem sliceApplied_gen {sl : Addr} {vl vu : Value} {lo hi : Option Int} {n : Nat} {Q : Int × Int × Nat → Shared → Prop} (hs : s.heap.IsSliceOf sl vl vu .none) (pl : IsPart vl lo) (pu : IsPart vu hi)
    (h : Q (((sIx n 0 lo : Nat) : Int), 1, sIx n n hi - sIx n 0 lo) s) : wpAny (model prog w) A (Builtin.Slice.sliceApplied (.ref sl) (pure (n : Int))) Q E s := by
  obtain ⟨os, hos, hcs, hds⟩ := id hs
  unfold Builtin.Slice.sliceApplied Builtin.Slice.sliceFields
  refine wpAny_bind (wpAny_bind (wpAny_field hos hds (x := vl) rfl (wpAny_bind (wpAny_field hos hds (x := vu) rfl (wpAny_bind (wpAny_field hos hds (x := .none) rfl (wpAny_pure ?_)))))))
  refine wpAny_bind (slicePart_none ?_)
  show wpAny _ _ (if ((1 : Int) == 0) = true then _ else _) _ _ s
  rw [if_neg (by decide)]
  refine wpAny_bind (slicePart_ pl (wpAny_bind (slicePart_ pu (wpAny_bind (wpAny_pure ?_)))))
  show wpAny _ _ (match Builtin.Slice.sliceAdjust lo hi 1 (n : Int) with | (lo, hi) => pure (lo, (1 : Int), Builtin.Slice.slicePlaces lo hi 1)) _ _ s
  rw [adjust_gen lo hi n]
  show wpAny _ _ (pure (((sIx n 0 lo : Nat) : Int), (1 : Int), Builtin.Slice.slicePlaces ((sIx n 0 lo : Nat) : Int) ((sIx n n hi : Nat) : Int) 1)) _ _ s
  rw [places_gen]
  exact wpAny_pure h
theorem pick_gen (xs : Array Value) (i k : Nat) : ((List.range k).filterMap fun (m : Nat) => xs[((i : Int) + (m : Int) * 1).toNat]?).toArray = ((xs.toList.drop i).take k).toArray := by
  have e : (fun (m : Nat) => xs[((i : Int) + (m : Int) * 1).toNat]?) = fun m => xs[i + m]? := by
    funext m
    have : ((i : Int) + (m : Int) * 1).toNat = i + m := by omega
    rw [this]
  rw [e]
  have := pick_run xs i k
  rw [List.filterMap_map] at this
  have e2 : ((fun x => xs[x]?) ∘ fun x => i + x) = fun m => xs[i + m]? := rfl
  rw [e2] at this
  rw [this]
theorem getItem_tuple_cut {t sl : Addr} {items : Array Value} {vl vu : Value} {lo hi : Option Int} {Q : Value → Shared → Prop} (ht : IsTup s.heap t items) (hs : s.heap.IsSliceOf sl vl vu .none) (pl : IsPart vl lo) (pu : IsPart vu hi)
    (hw : ¬ (sIx items.size 0 lo = 0 ∧ sIx items.size items.size hi = items.size))
    (h : Q (.ref s.heap.objs.size) { s with heap := s.heap.push { cls := .type "tuple", data := .seq ((items.toList.drop (sIx items.size 0 lo)).take (sIx items.size items.size hi - sIx items.size 0 lo)).toArray } })
    (hsz : items.size ≤ sizeLine) : wpAny (model prog w) A (getItem (.ref t) (.ref sl)) Q E s := by
  have htake : sizeOk (.seq ((items.toList.drop (sIx items.size 0 lo)).take (sIx items.size items.size hi - sIx items.size 0 lo)).toArray) := by
    show ((items.toList.drop (sIx items.size 0 lo)).take (sIx items.size items.size hi - sIx items.size 0 lo)).toArray.size ≤ sizeLine
    rw [List.size_toArray, List.length_take, List.length_drop, Array.length_toList]
    omega
  have hj : sIx items.size items.size hi ≤ items.size := sIx_le _ _ (Nat.le_refl _) hi
  obtain ⟨os, hos, hcs, hds⟩ := id hs
  have hTs : s.TypeIs (.ref sl) "slice" := ⟨os, hos, hcs⟩
  unfold getItem
  try with_reducible refine wpAny_holding ?_
  first | refine wpAny_bind (wpAny_pure ?_) | skip
  refine wpAny_bind (wpAny_sequenceKey ht.typeIs (by decide) ?_)
  refine wpAny_bind (wpAny_callSpecial?_slot (name := Str.ofString "__getitem__") ht.typeIs PyProof.Rows.slot_tuple_getitem
    (wpAny_call_entry PyProof.Rows.slot_tuple_getitem ht.typeIs entry_tuple_getitem ?_ (args_tuple_getitem _ _)))
  show wpAny _ _ (Builtin.Tuple.tupleItemsOf (.ref t) >>= _) _ _ s
  refine wpAny_bind (tupleItemsOf_ ht ?_)
  refine wpAny_bind (wpAny_typeOf hTs ?_)
  rw [if_pos (by decide)]
  refine wpAny_bind (sliceApplied_gen hs pl pu ?_)
  have hno : ¬ ((((sIx items.size 0 lo : Nat) : Int) == 0 && (1 : Int) == 1 && (sIx items.size items.size hi - sIx items.size 0 lo) == items.size) = true) := by
    intro q
    rw [Bool.and_eq_true, Bool.and_eq_true] at q
    have q1 : ((sIx items.size 0 lo : Nat) : Int) = 0 := eq_of_beq q.1.1
    have q2 : sIx items.size items.size hi - sIx items.size 0 lo = items.size := eq_of_beq q.2
    exact hw ⟨by omega, by omega⟩
  show wpAny _ _ (if (((sIx items.size 0 lo : Nat) : Int) == 0 && (1 : Int) == 1 && (sIx items.size items.size hi - sIx items.size 0 lo) == items.size) = true then _ else _) _ _ s
  rw [if_neg hno, pick_gen]
  first
    | exact wpAny_bind (m := Builtin.Tuple.tupleExact _) (wpAny_newObj_type (wpAny_pure ⟨_, rfl, wpAny_pure h⟩) htake)
    | exact wpAny_bind (m := Builtin.Tuple.tupleExact _) (wpAny_newObj_type (wpAny_bind (wpAny_pure (wpAny_pure ⟨_, rfl, wpAny_pure h⟩))) htake)
    | exact wpAny_bind (wpAny_bind (m := Builtin.Tuple.tupleExact _) (wpAny_newObj_type (wpAny_pure (wpAny_pure ⟨_, rfl, wpAny_pure h⟩)) htake))
    | exact wpAny_bind (wpAny_bind (m := Builtin.Tuple.tupleExact _) (wpAny_newObj_type (wpAny_pure ⟨_, rfl, wpAny_pure h⟩) htake))
end
end HT
namespace L2
open PySem PySem.Spec PyProof.Rows
noncomputable abbrev TO := St → Hp → (Option Int → Hp → Prop) → Prop
noncomputable def PO (X : Cx) (e : Option Expr) (t : TO) : Prop :=
  ∀ (pins : List (Addr × Obj)) (s : Shared) (σ : St) (H : Hp) (Q : Option Int → Hp → Prop), Inv X pins σ H s → t σ H Q →
    wpAny (model X.prog X.w) X.A (evalPart e X.env) (fun u s' => ∃ o H', Inv X pins σ H' s' ∧ IsPart u o ∧ Q o H') X.xe s
noncomputable def tNoPart : TO := fun _ H Q => Q none H
noncomputable def tPart (t : TE) : TO := fun σ H Q => t σ H fun x H1 => ∃ i, x = .int i ∧ Q (some i) H1
section
variable {X : Cx} {e : Expr} {te : TE} {lo hi : Option Expr} {tl th : TO} {pos p2 : Pos}
theorem po_none : PO X none tNoPart := by
  intro pins s σ H Q I h
  rw [evalPart_none]
  exact wpAny_pure ⟨none, H, I, .none, h⟩
theorem po_some (h : PE X e te) : PO X (some e) (tPart te) := by
  intro pins s σ H Q I hw
  rw [evalPart_some]
  refine thn (h pins s σ H _ I hw) fun u s1 ⟨x, H1, I1, r1, q1⟩ => ?_
  obtain ⟨i, rfl, q⟩ := q1
  obtain ⟨t, rfl⟩ := r1
  exact ⟨some i, H1, I1, .int i t, q⟩
noncomputable def SlR (X : Cx) (r : V → Option Int → Option Int → Hp → VK → Prop) : Prop :=
  ∀ (pins : List (Addr × Obj)) (s : Shared) (σ : St) (H : Hp) (x : V) (v vl vu : Value) (lo hi : Option Int) (sl : Addr) (Q : VK), Inv X pins σ H s → RelV x v → s.heap.IsSliceOf sl vl vu .none → IsPart vl lo → IsPart vu hi → r x lo hi H Q →
    ∃ T id, typeLookup (.type T) "__getitem__" = pure (some (.builtin id)) ∧ s.TypeIs v T ∧ wpAny (model X.prog X.w) X.A (getItem v (.ref sl)) (EP X pins σ Q) X.xe s
theorem SlR.or {r r' : V → Option Int → Option Int → Hp → VK → Prop} (h : SlR X r) (h' : SlR X r') : SlR X (fun x lo hi H Q => r x lo hi H Q ∨ r' x lo hi H Q) := by
  intro pins s σ H x v vl vu lo hi sl Q I rx hs pl pu q
  rcases q with q | q
  · exact h pins s σ H x v vl vu lo hi sl Q I rx hs pl pu q
  · exact h' pins s σ H x v vl vu lo hi sl Q I rx hs pl pu q
noncomputable def tSl (r : V → Option Int → Option Int → Hp → VK → Prop) (te : TE) (tl th : TO) : TE := fun σ H Q => te σ H fun x H1 => tl σ H1 fun l H2 => th σ H2 fun u H3 => r x l u H3 Q
theorem pe_slice {r : V → Option Int → Option Int → Hp → VK → Prop} (hr : SlR X r) (he : PE X e te) (hl : PO X lo tl) (hu : PO X hi th) : PE X (.Subscript e (.Slice lo hi none p2) pos) (tSl r te tl th) := by
  intro pins s σ H Q I h
  refine Subscript_ (thn (he pins s σ H _ I h) fun v s1 ⟨x, H1, I1, r1, q1⟩ => ?_)
  refine wpAny_Slice (thn (hl pins s1 σ H1 _ I1 q1) fun vl s2 ⟨l, H2, I2, pl, q2⟩ => thn (hu pins s2 σ H2 _ I2 q2) fun vu s3 ⟨u, H3, I3, pu, q3⟩ => ?_)
  rw [evalPart_none]
  refine wpAny_pure ?_
  have I4 : Inv X pins σ H3 { s3 with heap := s3.heap.push { cls := .type "slice", data := .fields #[vl, vu, .none] } } := I3.kept (t' := s3.toks) fun b ob q => Heap.get?_push_of_some _ q
  obtain ⟨T, id, hT, ht, hg⟩ := hr pins { s3 with heap := s3.heap.push { cls := .type "slice", data := .fields #[vl, vu, .none] } } σ H3 x v vl vu l u s3.heap.objs.size Q I4 r1 (Heap.IsSliceOf.new ..) pl pu q3
  show wpAny (model X.prog X.w) X.A (subscriptTail e (.Slice lo hi none p2) v (.ref s3.heap.objs.size)) (EP X pins σ Q) X.xe { s3 with heap := s3.heap.push { cls := .type "slice", data := .fields #[vl, vu, .none] } }
  exact tail_any (ops := [.ref s3.heap.objs.size, v]) ht hT hg (by with_unfolding_all rfl)
noncomputable def cutV (xs : List V) (lo hi : Option Int) : List V := (xs.drop (HT.sIx xs.length 0 lo)).take (HT.sIx xs.length xs.length hi - HT.sIx xs.length 0 lo)
theorem cutV_length (xs : List V) (lo hi : Option Int) : (cutV xs lo hi).length ≤ xs.length := by
  unfold cutV
  rw [List.length_take, List.length_drop]
  omega
noncomputable def rSlT (K : Fg) : V → Option Int → Option Int → Hp → VK → Prop := fun x lo hi H Q => ∃ a xs, x = .ref a ∧ SqT K H a xs ∧
  ¬ (HT.sIx xs.length 0 lo = 0 ∧ HT.sIx xs.length xs.length hi = xs.length) ∧ ∀ p, H p = none → Q (.ref p) (upd H p (.tup (cutV xs lo hi)))
theorem sl_tup : SlR X (rSlT X.K) := by
  intro pins s σ H x v vl vu lo hi sl Q I rx hs pl pu h
  obtain ⟨a, xs, rfl, hx, hw, q⟩ := h
  cases rx
  obtain ⟨its, r, ht, hz⟩ := I.tuple hx
  have hlen : its.toArray.size = xs.length := by rw [List.size_toArray]; exact r.length.symm
  refine ⟨"tuple", _, PyProof.Rows.slot_tuple_getitem.lookup, ht.typeIs, ?_⟩
  refine HT.getItem_tuple_cut ht hs pl pu (by rw [hlen]; exact hw) ?_ (by rw [hlen]; exact hz)
  rw [hlen]
  refine ⟨.ref s.heap.objs.size, _, I.laid (t' := s.toks) (o := .tup (cutV xs lo hi)) (fun b ob q => Heap.get?_push_of_some _ q) (Nat.le_refl _) ?_, rfl, q _ (I.hok.fresh (Nat.le_refl _))⟩
  exact ⟨Nat.le_trans (cutV_length xs lo hi) hz, _, (r.drop (HT.sIx xs.length 0 lo)).take (HT.sIx xs.length xs.length hi - HT.sIx xs.length 0 lo), IsTup.new _ _⟩
noncomputable def rCatT (K : Fg) : R2 := fun x y H Q => ∃ a b xs ys, x = .ref a ∧ y = .ref b ∧ SqT K H a xs ∧ SqT K H b ys ∧ xs ≠ [] ∧ xs.length + ys.length ≤ sizeLine ∧
  (ys = [] → Q (.ref a) H) ∧ (ys ≠ [] → ∀ p, H p = none → Q (.ref p) (upd H p (.tup (xs ++ ys))))
theorem Vals.nil_iff {xs : List V} {us : List Value} (r : Vals xs us) : us = [] ↔ xs = [] := by
  cases r with
  | nil => simp
  | cons _ _ => simp
theorem op_catT : OpR X (binaryOp .Add) (rCatT X.K) := by
  intro pins s σ H x y v u Q I rx ry h
  obtain ⟨a, b, xs, ys, rfl, rfl, ha, hb, hx, hz, q1, q2⟩ := h
  cases rx
  cases ry
  obtain ⟨its, r1, p1, _⟩ := I.tuple ha
  obtain ⟨its2, r2, p2, _⟩ := I.tuple hb
  refine HT.cat_tup p1 p2 (fun z => hx (r1.nil_iff.mp z)) (fun z => ⟨.ref a, H, I, rfl, q1 (r2.nil_iff.mp z)⟩) (fun z => ?_) (by rw [← r1.length, ← r2.length]; exact hz)
  refine ⟨.ref s.heap.objs.size, _, I.laid (t' := s.toks) (o := .tup (xs ++ ys)) (fun b ob q => Heap.get?_push_of_some _ q) (Nat.le_refl _) ?_, rfl, q2 (fun w => z (r2.nil_iff.mpr w)) _ (I.hok.fresh (Nat.le_refl _))⟩
  exact ⟨by rw [List.length_append]; exact hz, _, r1.append r2, IsTup.new _ _⟩
end
end L2
namespace L2
open PySem PySem.Spec PyProof.Rows
noncomputable def ixN (n : Nat) (i : Int) : Option Nat := if 0 ≤ i then (if i < n then some i.toNat else none) else if -(n : Int) ≤ i then some (i + n).toNat else none
noncomputable def atI {α : Type} (xs : List α) (i : Int) : Option α := (ixN xs.length i).bind fun j => xs[j]?
theorem ixN_seq {n : Nat} {i : Int} {j : Nat} (h : ixN n i = some j) : seqIndex? i n = some j ∧ j < n ∧ -(n : Int) ≤ i ∧ i < n := by
  unfold ixN at h
  by_cases h0 : 0 ≤ i
  · rw [if_pos h0] at h
    by_cases h1 : i < n
    · rw [if_pos h1] at h
      have e : i.toNat = j := Option.some.inj h
      exact ⟨by rw [seqIndex_of h0 h1, e], by omega, by omega, h1⟩
    · rw [if_neg h1] at h; cases h
  · rw [if_neg h0] at h
    by_cases h1 : -(n : Int) ≤ i
    · rw [if_pos h1] at h
      have e : (i + n).toNat = j := Option.some.inj h
      exact ⟨by rw [seqIndex_neg (by omega) h1, e], by omega, h1, by omega⟩
    · rw [if_neg h1] at h; cases h
theorem atI_get {α : Type} {xs : List α} {i : Int} {v : α} (h : atI xs i = some v) : ∃ j, seqIndex? i xs.length = some j ∧ xs[j]? = some v ∧ j < xs.length ∧ -(xs.length : Int) ≤ i ∧ i < xs.length := by
  unfold atI at h
  cases e : ixN xs.length i with
  | none => rw [e] at h; cases h
  | some j =>
    rw [e] at h
    obtain ⟨h1, h2, h3, h4⟩ := ixN_seq e
    exact ⟨j, h1, h, h2, h3, h4⟩
theorem atI_nat {α : Type} {xs : List α} {j : Nat} {v : α} (h : xs[j]? = some v) : atI xs (j : Int) = some v := by
  have hj : j < xs.length := (List.getElem?_eq_some_iff.mp h).1
  have e : ixN xs.length (j : Int) = some j := by
    unfold ixN
    rw [if_pos (by omega), if_pos (by omega)]; simp
  unfold atI; rw [e]; exact h
theorem atI_last {α : Type} (xs : List α) (v : α) : atI (xs ++ [v]) (-1) = some v := by
  have hl : (xs ++ [v]).length = xs.length + 1 := by simp
  have e : ixN (xs ++ [v]).length (-1) = some xs.length := by
    unfold ixN
    rw [hl, if_neg (by decide), if_pos (by omega)]
    congr 1
    omega
  unfold atI
  rw [e]
  show (xs ++ [v])[xs.length]? = some v
  simp
noncomputable def PlainIx (b : Expr) : Prop := ∀ o i, subscripted b false o i = operate [o, i] (getItem o i)
noncomputable def IxR (X : Cx) (r : R2) : Prop :=
  ∀ (value slice : Expr) (pins : List (Addr × Obj)) (s : Shared) (σ : St) (H : Hp) (x y : V) (v u : Value) (Q : VK), Inv X pins σ H s → RelV x v → RelV y u → r x y H Q →
    subscripted slice false v u = operate [v, u] (getItem v u) → wpAny (model X.prog X.w) X.A (subscriptTail value slice v u) (EP X pins σ Q) X.xe s
noncomputable def MtR (X : Cx) (id : String) (r : V → List V → Hp → VK → Prop) : Prop :=
  ∀ (pins : List (Addr × Obj)) (s : Shared) (σ : St) (H : Hp) (x : V) (xs : List V) (v : Value) (us : List Value) (Q : VK), Inv X pins σ H s → RelV x v → Vals xs us → r x xs H Q →
    wpAny (model X.prog X.w) X.A (call (.builtin id) (v :: us)) (EP X pins σ Q) X.xe s
section
variable {X : Cx} {a b : Expr} {ta tb : TE} {pos : Pos}
theorem IxR.or {r r' : R2} (h : IxR X r) (h' : IxR X r') : IxR X (fun x y H Q => r x y H Q ∨ r' x y H Q) := by
  intro value slice pins s σ H x y v u Q I rx ry q hs
  rcases q with q | q
  · exact h value slice pins s σ H x y v u Q I rx ry q hs
  · exact h' value slice pins s σ H x y v u Q I rx ry q hs
theorem pe_ix {r : R2} (hr : IxR X r) (ha : PE X a ta) (hb : PE X b tb) (hs : PlainIx b) : PE X (.Subscript a b pos) (tOp r ta tb) := by
  intro pins s σ H Q I h
  exact Subscript_ (binT ha hb I h fun v u s2 x y H2 I2 rx ry q => hr a b pins s2 σ H2 x y v u Q I2 rx ry q (hs _ _))
noncomputable def rIxL (K : Fg) : R2 := fun x y H Q => ∃ p xs i v, x = .ref p ∧ y = .int i ∧ SqL K H p xs ∧ atI xs i = some v ∧ Q v H
noncomputable def rIxT (K : Fg) : R2 := fun x y H Q => ∃ p xs i v, x = .ref p ∧ y = .int i ∧ SqT K H p xs ∧ atI xs i = some v ∧ Q v H
noncomputable def rIxS : R2 := fun x y H Q => ∃ z i c, x = .str z ∧ y = .int i ∧ z.length ≤ sizeLine ∧ atI z.cps.toList i = some c ∧ Q (.str ⟨#[c]⟩) H
theorem ix_list : IxR X (rIxL X.K) := by
  intro value slice pins s σ H x y v u Q I rx ry h hs
  obtain ⟨p, xs, i, z, rfl, rfl, hq, he, q⟩ := h
  cases rx
  obtain ⟨t, rfl⟩ := ry
  obtain ⟨its, r, pl, hz⟩ := I.list hq
  obtain ⟨j, h1, h2, h3, h4, h5⟩ := atI_get he
  obtain ⟨w, ew, rw'⟩ := r.get h2
  have hl := r.length
  have hn := line63
  have fin : EP X pins σ Q w s := ⟨z, H, I, rw', q⟩
  by_cases h0 : 0 ≤ i
  · have hj : i.toNat = j := by
      rw [seqIndex_of h0 h5] at h1
      exact Option.some.inj h1
    exact item_listR pl.isList h0 (by omega) (by rw [hj]; simpa using ew) fin hs
  · have hj : (i + (its.toArray.size : Int)).toNat = j := by
      rw [seqIndex_neg (by omega) h4] at h1
      rw [List.size_toArray, ← hl]
      exact Option.some.inj h1
    exact subscriptTail_builtinR (x := w) pl.isList.typeIs slot_list_getitem.lookup
      (wpAny_getItem_list_neg (Q := fun r s' => r = w ∧ EP X pins σ Q r s') pl.isList (by omega) (by rw [List.size_toArray] <;> omega) (by omega) (by rw [hj]; simpa using ew) ⟨rfl, fin⟩) hs
theorem ix_tup : IxR X (rIxT X.K) := by
  intro value slice pins s σ H x y v u Q I rx ry h hs
  obtain ⟨p, xs, i, z, rfl, rfl, hq, he, q⟩ := h
  cases rx
  obtain ⟨t, rfl⟩ := ry
  obtain ⟨its, r, pl, hz⟩ := I.tuple hq
  obtain ⟨j, h1, h2, h3, h4, h5⟩ := atI_get he
  obtain ⟨w, ew, rw'⟩ := r.get h2
  have hl := r.length
  have hn := line63
  have fin : EP X pins σ Q w s := ⟨z, H, I, rw', q⟩
  exact subscriptTail_builtinR (x := w) pl.typeIs slot_tuple_getitem.lookup
    (getItem_tuple (j := j) (Q := fun r s' => r = w ∧ EP X pins σ Q r s') pl (by omega) (by omega) (by rw [List.size_toArray, ← hl]; exact h1) (by simpa using ew) ⟨rfl, fin⟩) hs
theorem ix_str : IxR X rIxS := by
  intro value slice pins s σ H x y v u Q I rx ry h hs
  obtain ⟨z, i, c, rfl, rfl, hz, he, q⟩ := h
  obtain ⟨t, rfl⟩ := rx
  obtain ⟨t', rfl⟩ := ry
  obtain ⟨j, h1, h2, h3, h4, h5⟩ := atI_get he
  have hl : z.cps.toList.length = z.length := by simp [Str.length]
  rw [hl] at h1 h4 h5
  have hn := line63
  exact tail_any (typeIs_str s z t) slot_str_getitem.lookup (getItem_str (c := c) (by
    have e1 : decide (i < -(2 ^ 63 : Int)) = false := decide_eq_false (by omega)
    have e2 : decide (i ≥ 2 ^ 63) = false := decide_eq_false (by omega)
    rw [e1, e2, Bool.or_false]) (by rw [h1]; simpa using h2) ⟨.str ⟨#[c]⟩, H, I.tok _, ⟨_, rfl⟩, q⟩) hs
noncomputable def rIx (K : Fg) : R2 := fun x y H Q => rIxL K x y H Q ∨ rIxT K x y H Q ∨ rIxS x y H Q
theorem ix_seq : IxR X (rIx X.K) := ix_list.or (ix_tup.or ix_str)
theorem slice_bounds (lo hi : Option Int) (n : Nat) : (sliceBounds lo hi none n).1 = ((HT.sIx n 0 lo : Nat) : Int) ∧ (sliceBounds lo hi none n).2.1 = ((HT.sIx n n hi : Nat) : Int) ∧ (sliceBounds lo hi none n).2.2 = 1 := by
  refine ⟨?_, ?_, rfl⟩
  · cases lo with
    | none => simp [sliceBounds, HT.sIx]
    | some i =>
      simp only [sliceBounds, HT.sIx, Option.getD_none, show (1 : Int) > 0 by decide, if_true]
      by_cases h : i < 0
      · simp only [h, if_true] <;> omega
      · simp only [h, if_false] <;> omega
  · cases hi with
    | none => simp [sliceBounds, HT.sIx]
    | some i =>
      simp only [sliceBounds, HT.sIx, Option.getD_none, show (1 : Int) > 0 by decide, if_true]
      by_cases h : i < 0
      · simp only [h, if_true] <;> omega
      · simp only [h, if_false] <;> omega
theorem slicePick_cut (its : List Value) (lo hi : Option Int) : slicePick its.toArray lo hi none = ((its.drop (HT.sIx its.length 0 lo)).take (HT.sIx its.length its.length hi - HT.sIx its.length 0 lo)).toArray := by
  obtain ⟨h1, h2, h3⟩ := slice_bounds lo hi its.toArray.size
  unfold slicePick
  rw [h1, h2, h3]
  simp only [sliceRange_one, pick_run, List.size_toArray] <;> rfl
noncomputable def rSlL (K : Fg) : V → Option Int → Option Int → Hp → VK → Prop := fun x lo hi H Q => ∃ a xs, x = .ref a ∧ SqL K H a xs ∧ ∀ p, H p = none → Q (.ref p) (upd H p (.lst (cutV xs lo hi)))
theorem sl_list : SlR X (rSlL X.K) := by
  intro pins s σ H x v vl vu lo hi sl Q I rx hs pl pu h
  obtain ⟨a, xs, rfl, hx, q⟩ := h
  cases rx
  obtain ⟨its, r, ht, hz⟩ := I.list hx
  have hlen := r.length
  refine ⟨"list", _, slot_list_getitem.lookup, ht.isList.typeIs, ?_⟩
  refine wpAny_getItem_list_slice ht.isList hs pl pu .none (by simp) ?_ (by rw [List.size_toArray] <;> omega)
  rw [slicePick_cut, ← hlen]
  refine ⟨.ref s.heap.objs.size, _, I.laid (t' := s.toks) (o := .lst (cutV xs lo hi)) (fun b ob q => Heap.get?_push_of_some _ q) (Nat.le_refl _) ?_, rfl, q _ (I.hok.fresh (Nat.le_refl _))⟩
  exact ⟨Nat.le_trans (cutV_length xs lo hi) hz, _, 0, (r.drop (HT.sIx xs.length 0 lo)).take (HT.sIx xs.length xs.length hi - HT.sIx xs.length 0 lo), Heap.get?_push_size _ rfl⟩
noncomputable def flatV : V → Bool
  | .non => true
  | .bl _ => true
  | .int _ => true
  | .str _ => true
  | _ => false
noncomputable def eqV : V → V → Bool
  | .non, .non => true
  | .bl a, .bl b => a == b
  | .bl a, .int b => (if a then 1 else 0) == b
  | .int a, .bl b => a == (if b then 1 else 0)
  | .int a, .int b => a == b
  | .str a, .str b => a == b
  | _, _ => false
theorem eqAt_V {A : Around} {s : Shared} {y x : V} {u v : Value} (ry : RelV y u) (rx : RelV x v) (fy : flatV y = true) (fx : flatV x = true) : SeqAt.EqAt A s u v (eqV y x) := by
  cases y with
  | non =>
    cases ry
    cases x with
    | non => cases rx; exact SeqAt.EqAt.same _
    | bl b => cases rx; exact SeqAt.EqAt.none_bool b
    | int b => obtain ⟨t, rfl⟩ := rx; exact SeqAt.EqAt.none_int b t
    | str b => obtain ⟨t, rfl⟩ := rx; exact SeqAt.EqAt.none_str b t
    | _ => exact absurd (show false = true from fx) Bool.false_ne_true
  | bl a =>
    cases ry
    cases x with
    | non => cases rx; exact SeqAt.EqAt.bool_none a
    | bl b => cases rx; exact SeqAt.EqAt.bool_bool a b
    | int b => obtain ⟨t, rfl⟩ := rx; exact SeqAt.EqAt.bool_int a b t
    | str b => obtain ⟨t, rfl⟩ := rx; exact SeqAt.EqAt.bool_str a b t
    | _ => exact absurd (show false = true from fx) Bool.false_ne_true
  | int a =>
    obtain ⟨t', rfl⟩ := ry
    cases x with
    | non => cases rx; exact SeqAt.EqAt.int_none a t'
    | bl b => cases rx; exact SeqAt.EqAt.int_bool a t' b
    | int b => obtain ⟨t, rfl⟩ := rx; exact SeqAt.EqAt.int_int a t' b t
    | str b => obtain ⟨t, rfl⟩ := rx; exact SeqAt.EqAt.int_str a t' b t
    | _ => exact absurd (show false = true from fx) Bool.false_ne_true
  | str a =>
    obtain ⟨t', rfl⟩ := ry
    cases x with
    | non => cases rx; exact SeqAt.EqAt.str_none a t'
    | bl b => cases rx; exact SeqAt.EqAt.str_bool a t' b
    | int b => obtain ⟨t, rfl⟩ := rx; exact SeqAt.EqAt.str_int a t' b t
    | str b => obtain ⟨t, rfl⟩ := rx; exact SeqAt.EqAt.str_str a t' b t
    | _ => exact absurd (show false = true from fx) Bool.false_ne_true
  | _ => exact absurd (show false = true from fy) Bool.false_ne_true
noncomputable def eqU (x : V) (u : Value) : Bool := match u with
  | .none => eqV .non x
  | .bool b => eqV (.bl b) x
  | .int i _ => eqV (.int i) x
  | .str z _ => eqV (.str z) x
  | _ => false
theorem eqU_of {x y : V} {u : Value} (r : RelV y u) (f : flatV y = true) : eqU x u = eqV y x := by
  cases y with
  | non => cases r; rfl
  | bl b => cases r; rfl
  | int i => obtain ⟨t, rfl⟩ := r; rfl
  | str z => obtain ⟨t, rfl⟩ := r; rfl
  | _ => exact absurd (show false = true from f) Bool.false_ne_true
theorem any_eqU {x : V} : ∀ {xs : List V} {us : List Value}, Vals xs us → xs.all flatV = true → us.any (eqU x) = xs.any fun y => eqV y x
  | _, _, .nil, _ => rfl
  | y :: xs, u :: us, .cons r t, f => by
    rw [List.all_cons, Bool.and_eq_true] at f
    rw [List.any_cons, List.any_cons, eqU_of r f.1, any_eqU t f.2]
theorem mem_eqAt {A : Around} {s : Shared} {x : V} {v : Value} (rx : RelV x v) (fx : flatV x = true) : ∀ {xs : List V} {us : List Value}, Vals xs us → xs.all flatV = true → ∀ u ∈ us, SeqAt.EqAt A s u v (eqU x u)
  | _, _, .nil, _ => fun u hu => by cases hu
  | y :: xs, u :: us, .cons r t, f => fun u' hu => by
    rw [List.all_cons, Bool.and_eq_true] at f
    rcases List.mem_cons.mp hu with rfl | hu
    · rw [eqU_of r f.1]; exact eqAt_V r rx f.1 fx
    · exact mem_eqAt rx fx t f.2 u' hu
noncomputable def inV (x : V) (xs : List V) : Bool := xs.any fun y => eqV y x
noncomputable def rIn (K : Fg) (neg : Bool) : R2 := fun x y H Q => ∃ p xs, y = .ref p ∧ (SqL K H p xs ∨ SqT K H p xs) ∧ flatV x = true ∧ xs.all flatV = true ∧ Q (.bl (if neg then !inV x xs else inV x xs)) H
theorem op_in_seq : OpR X (compareOp .In) (rIn X.K false) := by
  intro pins s σ H x y v u Q I rx ry h
  obtain ⟨p, xs, rfl, hq, fx, fs, q⟩ := h
  cases ry
  rcases hq with hq | hq
  · obtain ⟨its, r, pl, hz⟩ := I.list hq
    refine SeqAt.in_listAt (eqU x) pl.isList (fun w hw => mem_eqAt rx fx r fs w (by simpa using hw)) ⟨.bl _, H, I, rfl, ?_⟩
    rw [show its.toArray.any (eqU x) = its.any (eqU x) by simp, any_eqU r fs]
    exact q
  · obtain ⟨its, r, pl, hz⟩ := I.tuple hq
    refine SeqAt.in_tupleAt (eqU x) pl (fun w hw => mem_eqAt rx fx r fs w (by simpa using hw)) ⟨.bl _, H, I, rfl, ?_⟩
    rw [show its.toArray.any (eqU x) = its.any (eqU x) by simp, any_eqU r fs]
    exact q
theorem op_notIn_seq : OpR X (compareOp .NotIn) (rIn X.K true) := by
  intro pins s σ H x y v u Q I rx ry h
  obtain ⟨p, xs, rfl, hq, fx, fs, q⟩ := h
  cases ry
  rcases hq with hq | hq
  · obtain ⟨its, r, pl, hz⟩ := I.list hq
    refine SeqAt.notIn_listAt (eqU x) pl.isList (fun w hw => mem_eqAt rx fx r fs w (by simpa using hw)) ⟨.bl _, H, I, rfl, ?_⟩
    rw [show its.toArray.any (eqU x) = its.any (eqU x) by simp, any_eqU r fs]
    exact q
  · obtain ⟨its, r, pl, hz⟩ := I.tuple hq
    refine SeqAt.notIn_tupleAt (eqU x) pl (fun w hw => mem_eqAt rx fx r fs w (by simpa using hw)) ⟨.bl _, H, I, rfl, ?_⟩
    rw [show its.toArray.any (eqU x) = its.any (eqU x) by simp, any_eqU r fs]
    exact q
theorem call_len_seq : CallR X (.builtin "len") (fun xs H Q => ∃ p ys, xs = [.ref p] ∧ (SqL X.K H p ys ∨ SqT X.K H p ys) ∧ Q (.int ys.length) H) := by
  intro pins s σ H xs us Q I r h
  obtain ⟨p, ys, rfl, hq, q⟩ := h
  obtain ⟨u, rfl, rx⟩ := vals1 r
  cases rx
  have hn := line63
  rcases hq with hq | hq
  · obtain ⟨its, r', pl, hz⟩ := I.list hq
    have hlen := r'.length
    exact Calls.call_len_list pl.isList (by simp only [List.size_toArray] <;> omega) ⟨.int ys.length, H, I.tok _, ⟨s.toks + 1, by rw [List.size_toArray, hlen]⟩, q⟩
  · obtain ⟨its, r', pl, hz⟩ := I.tuple hq
    have hlen := r'.length
    exact len_tuple pl (by simp only [List.size_toArray] <;> omega) ⟨.int ys.length, H, I.tok _, ⟨s.toks + 1, by rw [List.size_toArray, hlen]⟩, q⟩
theorem call_len_str : CallR X (.builtin "len") (fun xs H Q => ∃ z, xs = [.str z] ∧ z.length ≤ sizeLine ∧ Q (.int z.length) H) := by
  intro pins s σ H xs us Q I r h
  obtain ⟨z, rfl, hz, q⟩ := h
  obtain ⟨u, rfl, t, rfl⟩ := vals1 r
  have hn := line63
  exact len_str (by omega) ⟨.int z.length, H, I.tok _, ⟨_, rfl⟩, q⟩
theorem CallR.or {f : Value} {r r' : List V → Hp → VK → Prop} (h : CallR X f r) (h' : CallR X f r') : CallR X f (fun xs H Q => r xs H Q ∨ r' xs H Q) := by
  intro pins s σ H xs us Q I rs q
  rcases q with q | q
  · exact h pins s σ H xs us Q I rs q
  · exact h' pins s σ H xs us Q I rs q
theorem call_tuple_of : CallR X (.type "tuple") (fun xs H Q => ∃ p ys, xs = [.ref p] ∧ ((SqL X.K H p ys ∧ ∀ l, H l = none → Q (.ref l) (upd H l (.tup ys))) ∨ (SqT X.K H p ys ∧ Q (.ref p) H))) := by
  intro pins s σ H xs us Q I r h
  obtain ⟨p, ys, rfl, h⟩ := h
  obtain ⟨u, rfl, rx⟩ := vals1 r
  cases rx
  rcases h with ⟨hq, q⟩ | ⟨hq, q⟩
  · obtain ⟨its, r', pl, hz⟩ := I.list hq
    have hlen := r'.length
    refine call_tuple_list pl.isList (fun h' kp => ?_) (by simp only [List.size_toArray] <;> omega)
    have I1 : Inv X pins σ H { s with heap := h' } := I.kept (t' := s.toks) kp
    have I2 : Inv X pins σ (upd H h'.objs.size (.tup ys)) { s with heap := h'.push { cls := .type "tuple", data := .seq its.toArray } } :=
      I1.laid (t' := s.toks) (fun b o e => Heap.get?_push_of_some _ e) (Nat.le_refl _) (show ObjOk X.prog X.w _ _ _ (.tup ys) from ⟨hz, its, r', IsTup.new _ _⟩)
    exact ⟨.ref h'.objs.size, _, I2, rfl, q _ (I1.hok.fresh (Nat.le_refl _))⟩
  · obtain ⟨its, r', pl, hz⟩ := I.tuple hq
    exact call_tuple_same pl ⟨.ref p, H, I, rfl, q⟩
noncomputable def tyV (K : Fg) (T : String) (x : V) (H : Hp) : Prop := match x with
  | .str _ => T = "str"
  | .int _ => T = "int"
  | .ref p => (T = "list" ∧ ∃ xs, SqL K H p xs) ∨ (T = "tuple" ∧ ∃ o, K.lookup p = some o ∧ o.cls = .type "tuple" ∧ o.dict = none) ∨
      (T = "dict" ∧ ((∃ kvs, H p = some (.dK kvs)) ∨ ∃ kvs, H p = some (.dT kvs))) ∨ (T = "set" ∧ ∃ S n, H p = some (.set S n))
  | _ => False
theorem tyV_is {pins : List (Addr × Obj)} {σ : St} {H : Hp} {s : Shared} {T : String} {x : V} {v : Value} (I : Inv X pins σ H s) (r : RelV x v) (ty : tyV X.K T x H) :
    s.TypeIs v T ∧ ∀ a, v = .ref a → ∃ ob, s.heap.get? a = some ob ∧ ob.dict = none := by
  cases x with
  | str z =>
    obtain ⟨t, rfl⟩ := r
    cases (show T = "str" from ty)
    exact ⟨typeIs_str s z t, fun _ e => nomatch e⟩
  | int i =>
    obtain ⟨t, rfl⟩ := r
    cases (show T = "int" from ty)
    exact ⟨typeIs_int s i t, fun _ e => nomatch e⟩
  | ref p =>
    cases r
    rcases ty with ⟨rfl, xs, hq⟩ | ⟨rfl, o, hk, hc, hd⟩ | ⟨rfl, hk⟩ | ⟨rfl, S, n, hk⟩
    · obtain ⟨its, _, pl, _⟩ := I.list hq
      refine ⟨pl.isList.typeIs, fun a e => ?_⟩
      cases e
      obtain ⟨o, n, e, c, hd, _⟩ := pl
      exact ⟨o, e, hd⟩
    · refine ⟨⟨o, I.kIn p o hk, hc⟩, fun a e => ?_⟩
      cases e
      exact ⟨o, I.kIn _ o hk, hd⟩
    · have z : ∃ o, s.heap.get? p = some o ∧ o.ExactDict := by
        rcases hk with ⟨kvs, hk⟩ | ⟨kvs, hk⟩
        · obtain ⟨_, _, _, _, o, _, _, e, ex, _⟩ := I.hok p _ hk
          exact ⟨o, e, ex⟩
        · obtain ⟨_, _, _, _, o, _, _, e, ex, _⟩ := I.hok p _ hk
          exact ⟨o, e, ex⟩
      obtain ⟨o, e, ex⟩ := z
      refine ⟨⟨o, e, ex.1⟩, fun a e2 => ?_⟩
      cases e2
      exact ⟨o, e, ex.2.1⟩
    · obtain ⟨o, _, _, _, e, ex, _⟩ := I.hok p _ hk
      refine ⟨⟨o, e, ex.1⟩, fun a e2 => ?_⟩
      cases e2
      exact ⟨o, e, ex.2.1⟩
  | _ => exact False.elim ty
noncomputable def tBM0 (K : Fg) (T : String) (r : V → List V → Hp → VK → Prop) (to : TE) : TE := fun σ H Q => to σ H fun x H1 => tyV K T x H1 ∧ r x [] H1 Q
noncomputable def tBM (K : Fg) (T : String) (r : V → List V → Hp → VK → Prop) (to : TE) (t : TA) : TE := fun σ H Q => to σ H fun x H1 => tyV K T x H1 ∧ t σ H1 fun xs H2 => r x xs H2 Q
variable {o e : Expr} {es : List Expr} {to : TE} {t : TA} {name : Str} {apos cpos : Pos} {T id : String} {r : V → List V → Hp → VK → Prop}
theorem pe_bm0 (pa : PlainAttrs T) (slot : Slot T name id) (hty : typeOf (.builtin id) = pure (.type "method_descriptor")) (hm : MtR X id r) (ho : PE X o to)
    (hbase : attributeBase o name X.env (eval o X.env) = eval o X.env := by rfl) (hline : (apos.endLine == cpos.line) = true := by rfl) : PE X (.Call (.Attribute o name apos) [] [] cpos) (tBM0 X.K T r to) := by
  intro pins s σ H Q I h
  refine wpAny_Call_method0_late hbase hline (thn (ho pins s σ H _ I h) fun v s1 ⟨x, H1, I1, r1, ty, q1⟩ => ?_)
  obtain ⟨h1, h2⟩ := tyV_is I1 r1 ty
  exact ⟨T, id, pa, slot, hty, h1, h2, Calls.callWith_builtin rfl (PySem.evalArgs_none (hm pins s1 σ H1 x [] v [] Q I1 r1 .nil q1))⟩
theorem pe_bm (pa : PlainAttrs T) (slot : Slot T name id) (hty : typeOf (.builtin id) = pure (.type "method_descriptor")) (hm : MtR X id r) (ho : PE X o to) (ha : PA X (e :: es) t)
    (hbase : attributeBase o name X.env (eval o X.env) = eval o X.env := by rfl)
    (hfew : ((backTo cpos (starEach (e :: es) X.env)).all (fun x => !x.1) && (backToKw cpos (keywordEach [] X.env)).all (fun x => x.1.isSome)
      && decide ((e :: es).length + ([] : List Keyword).length + (if ([] : List Keyword).isEmpty then 0 else 1) < 30)) = true := by rfl)
    (hline : (apos.endLine == cpos.line) = true := by rfl) (hs : starEach (e :: es) X.env = (false, eval e X.env) :: starEach es X.env := by rfl) (hplain : (backTo cpos (starEach es X.env)).any (·.1) = false := by rfl) :
    PE X (.Call (.Attribute o name apos) (e :: es) [] cpos) (tBM X.K T r to t) := by
  intro pins s σ H Q I h
  refine wpAny_Call_method_late hbase hfew hline rfl (thn (ho pins s σ H _ I h) fun v s1 ⟨x, H1, I1, r1, ty, q1⟩ => ?_)
  obtain ⟨h1, h2⟩ := tyV_is I1 r1 ty
  refine ⟨T, id, pa, slot, hty, h1, h2, ?_⟩
  have hA := ha cpos pins s1 σ H1 _ I1 q1
  rw [hs] at hA ⊢
  refine Calls.callWith_builtin (by show (false || (backTo cpos (starEach es X.env)).any (·.1)) = false; rw [hplain] <;> rfl) (Calls.evalArgs_plain ?_)
  exact thn hA fun us s2 ⟨vs, H2, I2, r2, q2⟩ => hm pins s2 σ H2 x vs v us Q I2 r1 r2 q2
end
end L2
namespace L2
open PySem PySem.Spec PyProof.Rows
noncomputable def MtM (X : Cx) (id : String) (r : V → List V → Hp → VK → Prop) : Prop :=
  ∀ (pins : List (Addr × Obj)) (s : Shared) (σ : St) (H : Hp) (x : V) (xs : List V) (v : Value) (us : List Value) (Q : VK), Inv X pins σ H s → RelV x v → Vals xs us → r x xs H Q →
    wpAny (model X.prog X.w) X.A (call (.builtin id) (v :: us)) (EP X pins σ Q) X.xe s
theorem Vals.one : ∀ {x : V} {us : List Value}, Vals [x] us → ∃ u, us = [u] ∧ RelV x u
  | _, _, .cons r .nil => ⟨_, rfl, r⟩
theorem Vals.two : ∀ {x y : V} {us : List Value}, Vals [x, y] us → ∃ u v, us = [u, v] ∧ RelV x u ∧ RelV y v
  | _, _, _, .cons r (.cons q .nil) => ⟨_, _, rfl, r, q⟩
theorem Vals.zero : ∀ {us : List Value}, Vals [] us → us = []
  | _, .nil => rfl
theorem Vals.dropLast {xs : List V} {us : List Value} (h : Vals xs us) : Vals xs.dropLast us.dropLast := by
  induction h with
  | nil => exact .nil
  | cons r t ih =>
    cases t with
    | nil => exact .nil
    | cons q t' => exact .cons r ih
theorem Vals.reverse {xs : List V} {us : List Value} (h : Vals xs us) : Vals xs.reverse us.reverse := by
  induction h with
  | nil => exact .nil
  | cons r t ih => rw [List.reverse_cons, List.reverse_cons]; exact Vals.append ih (.cons r .nil)
theorem erase_last {α : Type} (l : List α) : l.eraseIdx (l.length - 1) = l.dropLast := by
  induction l with
  | nil => rfl
  | cons a r ih =>
    cases r with
    | nil => rfl
    | cons b r =>
      have e : (a :: b :: r).length - 1 = ((b :: r).length - 1) + 1 := by
        have h1 : (a :: b :: r).length = r.length + 2 := rfl
        have h2 : (b :: r).length = r.length + 1 := rfl
        omega
      rw [e, List.eraseIdx_cons_succ, ih]
      all_goals rfl
section
variable {X : Cx} {pins : List (Addr × Obj)} {σ : St} {H : Hp} {s : Shared} {l b : Addr} {xs ys zs : List V}
theorem Inv.lset {its its' : List Value} {n : Nat} {f : Array Value → Array Value} {t' : Nat} (I : Inv X pins σ H s) (hH : H l = some (.lst xs))
    (e : s.heap.get? l = some { cls := .type "list", data := .seq its.toArray n }) (hf : f its.toArray = its'.toArray) (hv : Vals ys its') (hz : ys.length ≤ sizeLine) :
    Inv X pins σ (upd H l (.lst ys)) { s with heap := s.heap.update l (Obj.mapSeq f), toks := t' } := by
  have q := PySem.IsL.update e f
  rw [hf] at q
  refine I.write (x := l) (e := l) (by rw [hH]; exact trivial) (.inl rfl) (fun b' u hb hu => (Heap.get?_update_other s.heap (Obj.mapSeq f) (Ne.symm hb)).trans hu) ⟨_, q⟩ ?_
  exact ⟨hz, its', _, hv, q⟩
theorem Inv.lnew {its : List Value} {t' : Nat} (I : Inv X pins σ H s) (hv : Vals ys its) (hz : ys.length ≤ sizeLine) :
    Inv X pins σ (upd H s.heap.objs.size (.lst ys)) { s with heap := s.heap.push { cls := .type "list", data := .seq its.toArray }, toks := t' } :=
  I.laid (fun _ _ q => Heap.get?_push_of_some _ q) (Nat.le_refl _) ⟨hz, its, 0, hv, Heap.get?_push_size _ rfl⟩
theorem Inv.fresh (I : Inv X pins σ H s) : H s.heap.objs.size = none := I.hok.fresh (Nat.le_refl _)
theorem Inv.lstM (I : Inv X pins σ H s) (hH : H l = some (.lst xs)) : xs.length ≤ sizeLine ∧ ∃ (its : List Value) (n : Nat), Vals xs its ∧ xs.length = its.length ∧ s.heap.get? l = some { cls := .type "list", data := .seq its.toArray n } := by
  obtain ⟨z, its, n, r, e⟩ := I.hok l _ hH
  exact ⟨z, its, n, r, r.length, e⟩
theorem notLongL {n : Nat} (h : n ≤ sizeLine) : Builtin.List.listTooLong n = false := by
  unfold Builtin.List.listTooLong
  exact decide_eq_false (by omega)
end
section
variable {X : Cx}
noncomputable def rAppend : V → List V → Hp → VK → Prop := fun x vs H Q => ∃ l xs y, x = .ref l ∧ vs = [y] ∧ H l = some (.lst xs) ∧ xs.length < sizeLine ∧ Q .non (upd H l (.lst (xs ++ [y])))
theorem mt_append : MtM X "list.append" rAppend := by
  intro pins s σ H x vs v us Q I rx rv h
  obtain ⟨l, xs, y, rfl, rfl, hH, hz, q⟩ := h
  cases rx
  obtain ⟨u, rfl, ru⟩ := rv.one
  obtain ⟨z, its, n, r, hl, e⟩ := I.lstM hH
  refine call_meets F.slot_list_append ⟨_, e, rfl⟩ F.entry_list_append (F.args_list_append_2 _ _) (PySem.list_append l its.toArray n u (by rw [List.size_toArray]; omega)) ⟨e, ?_⟩
  refine ⟨.non, _, I.lset (its' := its ++ [u]) hH e (by simp) (r.append (.cons ru .nil)) ?_, rfl, q⟩
  rw [List.length_append, List.length_singleton]
  omega
noncomputable def rPop : V → List V → Hp → VK → Prop := fun x vs H Q => ∃ l xs y, x = .ref l ∧ vs = [] ∧ H l = some (.lst xs) ∧ xs[xs.length - 1]? = some y ∧ Q y (upd H l (.lst xs.dropLast))
theorem mt_pop : MtM X "list.pop" rPop := by
  intro pins s σ H x vs v us Q I rx rv h
  obtain ⟨l, xs, y, rfl, rfl, hH, hy, q⟩ := h
  cases rx
  have hus := rv.zero
  subst hus
  obtain ⟨z, its, n, r, hl, e⟩ := I.lstM hH
  obtain ⟨u, hu, ru⟩ := r.get hy
  have hy' : its.toArray[its.toArray.size - 1]? = some u := by
    show its.toArray[its.length - 1]? = some u
    rw [← Array.getElem?_toList, ← hl]
    exact hu
  refine call_meets F.slot_list_pop ⟨_, e, rfl⟩ F.entry_list_pop (F.args_list_pop_1 _) (MeetsSeq.list_pop_last l its.toArray n u hy' (by rw [List.size_toArray]; omega)) ⟨e, ?_⟩
  refine ⟨y, _, I.lset (its' := its.dropLast) hH e ?_ r.dropLast ?_, ru, q⟩
  · show its.toArray.eraseIdxIfInBounds (its.toArray.size - 1) = its.dropLast.toArray
    rw [List.size_toArray, List.eraseIdxIfInBounds_toArray, erase_last]
  · rw [List.length_dropLast]
    omega
end
end L2
namespace Att
open PySem PySem.W PySem.Calls PyProof.Rows
theorem ints_of_wellAll {P : Params} {h : Heap} : ∀ (ns : List Int) (vs : List Value), WellAll P h vs (ns.map WData.int) → IntsAre vs ns := by
  intro ns
  induction ns with
  | nil =>
    intro vs w
    rw [List.map_nil] at w
    cases w
    exact .nil
  | cons n ns ih =>
    intro vs w
    rw [List.map_cons] at w
    cases w with
    | cons a b =>
      cases a
      exact .cons _ _ (ih _ b)
theorem script_of {l : OpenLaw} {n : Nat} (hn : l.most = some n) {P : Params} {h : Heap} {args : List WData} {vals : List Value}
    (hpre : l.row.toRowW.claim.pre args = true) (hwl : WellAll P h vals args) :
    ∃ a vs ns, vals = [Value.ref a] ∧ args = [WData.list (ns.map WData.int)] ∧ h.get? a = some { cls := .type "list", data := .seq vs.toArray } ∧ IntsAre vs ns ∧ ns.length ≤ n := by
  have hsh : WShape.hasAll [] args [.list .int] = true := (pre_splitW hpre).1
  have hc : l.pre.holds [] { args := args } = true := (pre_splitW hpre).2
  obtain ⟨d, r, rfl, h1, h2⟩ := hasAllW_cons hsh
  obtain rfl := hasAllW_nil h2
  obtain ⟨xs, rfl, h3⟩ := hasW_list h1
  obtain ⟨ns, rfl⟩ := items_int h3
  have hlen : ns.length ≤ n := by
    unfold OpenLaw.pre at hc
    have h4 : (WTm.not (.lt (.lit (.int (n : Int))) (.len (.arg 0)))).holds [] { args := [.list (ns.map .int)] } = true := by
      have h4 := (holds_andW hc).1
      rw [hn] at h4
      exact h4
    have h5 := condW_of h4 (w_not (w_lt w_lit (w_len_list (w_arg rfl))))
    rw [List.length_map] at h5
    refine Nat.le_of_not_lt fun q => ?_
    have q' : (n : Int) < ((ns.length : Nat) : Int) := by omega
    first
      | (rw [decide_eq_true q'] at h5; exact absurd h5 (by decide))
      | (simp at h5; omega)
  cases hwl with
  | cons w1 w2 =>
    cases w2
    cases w1 with
    | list ho hall => exact ⟨_, _, ns, rfl, rfl, ho, ints_of_wellAll ns _ hall, hlen⟩
theorem post_true (l : OpenLaw) (args : List WData) : l.row.toRowW.claim.post args (.bool true) args = true :=
  postW_of (r := l.row.toRowW) (X := (true == true))
    (show WShape.has [] (.bool true) .bool = true by first | rfl | decide | simp [WShape.has, WShape.arms, WShape.armsAll])
    (show (WTm.eq .res (.lit (.bool true))).value [] { args := args, res := some (.bool true), after := args } = some (.bool (true == true)) from w_eq_bool (w_res rfl) w_lit) rfl
theorem attach_call {l : OpenLaw} {n : Nat} {q : Program} {loose : List Str} {XP : (Str → Option Value) → Heap → Prop} {YP : World → Heap → Prop} {d : DefRec}
    (hn : l.most = some n) (hdf : d.params.defaults = [])
    (call : ∀ (w : World) (s₀ s₁ : Shared) (mg mb : Str → Option Value) (fa : Addr) (o : Obj) (pm cd doc : Value) (a : Addr) (vs : List Value) (ns : List Int),
      Ground q loose [] XP w s₀ mg mb s₁.heap → YP w s₁.heap →
      s₁.heap.get? fa = some o → o.data = .func (docDef d.name d.params d.body d.scope pm cd doc) → s₁.heap.CodeRec cd d.name → mg d.name = some (.ref fa) →
      s₁.heap.get? a = some { cls := .type "list", data := .seq vs.toArray } → IntsAre vs ns → ns.length ≤ n → s₁.gens = #[] →
      codeAny (model l.prog w) callerA (.call (.ref fa) ⟨[.ref a], []⟩) (fun r s' => r = .ok (.ret (.bool true)) ∧ OldK s₁.heap s'.heap ∧ s'.os = s₁.os ∧ AllBare s'.gens) s₁) :
    WalkO q loose XP YP l.row.toRowW d [] (fun f vs => PySem.call f vs) := by
  intro w s₀ s₁ mg mb G Y fa o pm cd doc dV kV ho hd hcd hD hmg hg args vals as hpre hlay hrd hwl hlo
  obtain rfl : dV = .none := Dflts.none hD hdf
  obtain rfl : kV = .none := Dflts.noKw hD
  obtain ⟨a, vs, ns, rfl, rfl, hobj, hints, hlen⟩ := script_of hn hpre hwl
  refine enter_call (codeAny_mono (call w s₀ s₁ mg mb fa o pm cd doc a vs ns G Y ho (fd_plain hd) hcd hmg hobj hints hlen hg) fun r s' hq => ?_)
  obtain ⟨rfl, h2, h3, h4⟩ := hq
  exact ⟨.inl ⟨.bool true, .bool true, [], rfl, fun _ => rfl, .bool true, post_true l _, fun _ => ⟨List.Pairwise.nil, fun _ hm => (nomatch hm)⟩⟩, h2, h3, h4⟩
end Att
namespace L2
open PySem PySem.Spec PyProof.Rows
theorem vals_ints : ∀ {vs : List Value} {ns : List Int}, IntsAre vs ns → Vals (ns.map V.int) vs
  | _, _, .nil => .nil
  | _, _, .cons n t h => .cons ⟨t, rfl⟩ (vals_ints h)
noncomputable def Only (H : Hp) : Prop := ∀ b, H b = none ∨ ∃ o xs, H b = some (.frz o (.lst xs))
theorem law_call {P : Program} {w : World} {K : Fg} {mg mb : Str → Option Value} {CX : CXT} {k : Nat} {fa a : Addr} {fd : FuncData} {x : Str} {sp : Sp} {s₁ : Shared} {vs : List Value} {ns : List Int}
    (KX : K.In s₁.heap) (hns : s₁.heap.Ns mainGlobals mg) (hb : s₁.heap.Ns builtinsNs mb) (hbb : ∀ x : Str, x ≠ "__name__" → mb x = bootBuiltins x) (hlim : s₁.heap.NoLimit) (hg : s₁.gens = #[])
    (ha : s₁.heap.get? a = some { cls := .type "list", data := .seq vs.toArray }) (hi : IntsAre vs ns) (hl : ns.length ≤ sizeLine) (hr : Room k callerA)
    (F : ∀ base : Heap, K.In base → base.Ns mainGlobals mg → FnOk P w K mg base CX k fa fd [x] sp) (hbind : ∀ (s : Shared) (u : Value), BindsTo s fd ⟨[u], []⟩ [(x, u)])
    (hsp : ∀ H : Hp, Only H → SqL K H a (ns.map V.int) → sp [.ref a] H (fun v _ => v = .bl true) fun _ _ _ => False)
    (hCX : ∀ H e s', CX [] H s₁ (fun _ _ _ => False) e s' → False) :
    codeAny (model P w) callerA (.call (.ref fa) ⟨[.ref a], []⟩) (fun r s' => r = .ok (.ret (.bool true)) ∧ OldK s₁.heap s'.heap ∧ s'.os = s₁.os ∧ AllBare s'.gens) s₁ := by
  have rv := vals_ints hi
  have lenV := hi.length
  have core : ∀ H : Hp, Only H → SqL K H a (ns.map V.int) → HOk P w H s₁.heap → (∀ b, H b ≠ none → b = a) → (H a ≠ none → K.lookup a = none) →
      codeAny (model P w) callerA (.call (.ref fa) ⟨[.ref a], []⟩) (fun r s' => r = .ok (.ret (.bool true)) ∧ OldK s₁.heap s'.heap ∧ s'.os = s₁.os ∧ AllBare s'.gens) s₁ := by
    intro H hO hS hok hA hK
    have base_of : ∀ {b : Addr} {o : Obj}, s₁.heap.get? b = some o → H b = none → (hidT s₁.heap H).get? b = some o := fun e n => hidT_get e n
    have noA : ∀ {b : Addr} {o : Obj} {es : Array DictEntry} {ep : Nat}, s₁.heap.get? b = some o → o.data = .dict es ep → H b = none := fun {b o es ep} e d => by
      cases q : H b with
      | none => rfl
      | some u =>
        have e' : b = a := hA b (by rw [q]; simp)
        subst e'
        rw [ha] at e; cases e
        have d' : Data.seq vs.toArray _ = Data.dict es ep := d
        cases d'
    have nsK : ∀ {b : Addr} {m : Str → Option Value}, s₁.heap.Ns b m → (hidT s₁.heap H).Ns b m := fun {b m} ⟨o, es, ep, e, d, r⟩ => ⟨o, es, ep, base_of e (noA e d), d, r⟩
    have hKb : K.In (hidT s₁.heap H) := fun b o e => base_of (KX b o e) (by
      cases q : H b with
      | none => rfl
      | some u =>
        have e' : b = a := hA b (by rw [q]; simp)
        subst e'
        rw [hK (by rw [q]; simp)] at e; cases e)
    have hM : Mod K mg (hidT s₁.heap H) := ⟨hKb, nsK hns, ⟨mb, nsK hb, hbb⟩, let ⟨mc, h1, h2⟩ := hlim; ⟨mc, nsK h1, h2⟩⟩
    have e0 : Env0 P w K mg (hidT s₁.heap H) callerA [] s₁ H := ⟨rfl, hM, fun b o e => of_hidT e, Nat.le_of_eq (hidT_size _ _), trivial, fun b hb => absurd (show b ∈ ([] : List Addr) from hb) (by simp), hok, .of_eq hg⟩
    refine codeAny_mono ((F _ hKb (nsK hns)).run callerA [] s₁ H ⟨[.ref a], []⟩ [.ref a] [.ref a] _ _ hr e0 (hbind s₁ (.ref a)) (.cons rfl .nil) (hsp H hO hS)) fun r s' h => ?_
    cases r with
    | error e => exact (hCX H e s' h).elim
    | ok fl =>
      cases fl with
      | next => exact False.elim h
      | brk => exact False.elim h
      | cont => exact False.elim h
      | ret u =>
        obtain ⟨v, H', os, bare, un, hok', r', q⟩ := h
        have q' : v = .bl true := q
        subst q'
        obtain rfl : u = Value.bool true := r'
        refine ⟨rfl, OldK.of_keep fun b o e => ?_, os, bare⟩
        cases q : H b with
        | none => exact un.keep b o e q (by intro z; exact absurd (show b ∈ ([] : List Addr) from z) (by simp)) (by simp)
        | some u =>
          rcases hO b with z | ⟨ob, xs, z⟩
          · rw [q] at z; cases z
          · have z2 := un.frzs b ob _ z
            obtain ⟨e1, _⟩ := hok b _ z
            obtain ⟨e2, _⟩ := hok' b _ z2
            rw [e] at e1; cases e1
            exact e2
  cases hk : K.lookup a with
  | some o =>
    have e := KX a o hk
    rw [ha] at e
    cases e
    refine core (fun _ => none) (fun _ => .inl rfl) (.inr ⟨_, vs.toArray, _, hk, rfl, rfl, rfl, by rw [List.size_toArray, lenV]; exact hl, by simpa using rv⟩) (fun b u z => by have z' : (none : Option HO) = some u := z; cases z') (fun b z => absurd rfl z) fun z => absurd rfl z
  | none =>
    refine core (fun b => if b = a then some (.frz { cls := .type "list", data := .seq vs.toArray } (.lst (ns.map V.int))) else none) (fun b => ?_) (.inl (.inr ⟨{ cls := .type "list", data := .seq vs.toArray }, if_pos rfl⟩)) (fun b u z => ?_) (fun b z => ?_) fun _ => hk
    · by_cases hb : b = a
      · exact .inr ⟨_, _, if_pos hb⟩
      · exact .inl (if_neg hb)
    · by_cases hb : b = a
      · have z' := (if_pos hb).symm.trans z
        cases z'
        subst hb
        exact ⟨ha, by rw [List.length_map]; exact hl, vs, _, rv, ha⟩
      · have z' := (if_neg hb).symm.trans z
        cases z'
    · by_cases hb : b = a
      · exact hb
      · exact absurd (if_neg hb) z
end L2
namespace L2
open PySem PySem.Spec PyProof.Rows
theorem walk_of {l : PySem.W.OpenLaw} {n k : Nat} {q : Program} {loose : List Str} {XP : (Str → Option Value) → Heap → Prop} {YP : World → Heap → Prop} {d : DefRec} {K : Params → Fg} {CX : World → CXT} {sp : World → Sp} {x : Str}
    (hn : l.most = some n) (hn2 : n ≤ sizeLine) (hdf : d.params.defaults = []) (hr : Room k callerA)
    (hY : ∀ (w : World) (h : Heap), YP w h → (K w.params).In h)
    (F : ∀ (w : World) (mg : Str → Option Value) (fa : Addr) (h : Heap), (K w.params).In h → h.Ns mainGlobals mg → mg d.name = some (.ref fa) →
      ∃ fd : FuncData, (∀ (s : Shared) (u : Value), BindsTo s fd ⟨[u], []⟩ [(x, u)]) ∧
        ∀ base : Heap, (K w.params).In base → base.Ns mainGlobals mg → FnOk l.prog w (K w.params) mg base (CX w) k fa fd [x] (sp w))
    (hsp : ∀ (w : World) (H : Hp) (a : Addr) (ns : List Int), ns.length ≤ n → Only H → SqL (K w.params) H a (ns.map V.int) → sp w [.ref a] H (fun v _ => v = .bl true) fun _ _ _ => False)
    (hCX : ∀ (w : World) (H : Hp) (s : Shared) (e : Value) (s' : Shared), CX w [] H s (fun _ _ _ => False) e s' → False) :
    PySem.W.WalkO q loose XP YP l.row.toRowW d [] (fun f vs => PySem.call f vs) := by
  refine Att.attach_call hn hdf fun w s₀ s₁ mg mb fa o pm cd doc a vs ns G Y ho hd hcd hmg hobj hints hlen hg => ?_
  have KX := hY w _ Y
  obtain ⟨fd, hb, hF⟩ := F w mg fa _ KX G.T.g hmg
  exact law_call KX G.T.g G.T.b G.T.builtins G.T.nolimit hg hobj hints (Nat.le_trans hlen hn2) hr hF hb (fun H hO hS => hsp w H a ns hlen hO hS) fun H e s' => hCX w H s₁ e s'
theorem walk_ofK {l : PySem.W.OpenLaw} {n k : Nat} {q : Program} {loose : List Str} {XP : (Str → Option Value) → Heap → Prop} {YP : World → Heap → Prop} {d : DefRec} {K : Params → Fg} {CX : CXT} {sp : Fg → Sp} {x : Str}
    (hn : l.most = some n) (hn2 : n ≤ sizeLine) (hdf : d.params.defaults = []) (hr : Room k callerA)
    (hY : ∀ (w : World) (h : Heap), YP w h → (K w.params).In h)
    (F : ∀ (w : World) (mg : Str → Option Value) (fa : Addr) (h : Heap), (K w.params).In h → h.Ns mainGlobals mg → mg d.name = some (.ref fa) →
      ∃ fd : FuncData, (∀ (s : Shared) (u : Value), BindsTo s fd ⟨[u], []⟩ [(x, u)]) ∧
        ∀ base : Heap, (K w.params).In base → base.Ns mainGlobals mg → FnOk l.prog w (K w.params) mg base CX k fa fd [x] (sp (K w.params)))
    (hsp : ∀ (K : Fg) (H : Hp) (a : Addr) (ns : List Int), ns.length ≤ n → Only H → SqL K H a (ns.map V.int) → sp K [.ref a] H (fun v _ => v = .bl true) fun _ _ _ => False)
    (hCX : ∀ (H : Hp) (s : Shared) (e : Value) (s' : Shared), CX [] H s (fun _ _ _ => False) e s' → False) :
    PySem.W.WalkO q loose XP YP l.row.toRowW d [] (fun f vs => PySem.call f vs) :=
  walk_of (K := K) (CX := fun _ => CX) (sp := fun w => sp (K w.params)) hn hn2 hdf hr hY F (fun w H a ns h1 h2 h3 => hsp (K w.params) H a ns h1 h2 h3) fun _ H s e s' => hCX H s e s'
end L2
namespace L2
open PySem PySem.Spec PyProof.Rows
noncomputable def defArgs (s : Stmt) : Arguments := match s with
  | .FunctionDef _ a _ _ _ _ _ _ _ _ => a
  | _ => { posonlyargs := [], args := [], vararg := none, kwonlyargs := [], kw_defaults := [], kwarg := none, defaults := [] }
noncomputable def defBody (s : Stmt) : List Stmt := match s with
  | .FunctionDef _ _ b _ _ _ _ _ _ _ => b
  | _ => []
noncomputable def defScope (s : Stmt) : Scope := match s with
  | .FunctionDef _ _ _ _ _ _ sc _ _ _ => sc
  | _ => { kind := .function, names := [], isGenerator := false, isCoroutine := false }
noncomputable abbrev CX0 : CXT := fun _ _ _ _ _ _ => False
noncomputable abbrev E0 : XK := fun _ _ _ => False
theorem pass0 {X : Cx} : Passes CX0 X E0 := fun _ _ _ _ _ _ _ h => h.elim
structure Fun (K : Fg) (x qual : Str) (st : Stmt) (f : Addr) (fd : FuncData) : Prop where
  ex : ∃ (oc : Value) (od : Option Addr) (kV doc pm : Value) (an : Option Addr) (cdv ct : Value) (osl : Array (Option Value)),
    fd = PySem.W.fnOf x qual (defArgs st) (defBody st) (defScope st) .none kV doc pm an cdv ct ∧ K.lookup f = some ⟨oc, od, .func fd, osl⟩ ∧ PySem.W.codeIn K cdv qual = true
  kp : PySem.W.keepIn K (.ref f) = true
section
variable {P : Program} {w : World} {K : Fg} {mg : Str → Option Value} {base : Heap}
theorem Fun.ok {x qual : Str} {st : Stmt} {f : Addr} {fd : FuncData} {N ps : List Str} {k : Nat} {sp : Sp} (F : Fun K x qual st f fd) (S : FnScope N ps (defScope st)) (len : ∀ vs H Q E, sp vs H Q E → vs.length = ps.length)
    (hbody : ∀ (cdv : Value) (A : Around) (outer : List Env) (s : Shared) (H : Hp) (vs : List V) (Q : VK) (E : XK), Room k (A.deeper (envOfC qual (defScope st) s.heap.objs.size f cdv)) → sp vs H Q E →
      ∃ t, PSs (cxOf CX0 P w K mg base N qual (defScope st) f cdv A outer s H E).nox (defBody st) t ∧ t { nx := fun _ H' => Q .non H', rt := Q } (start N vs) H) : FnOk P w K mg base CX0 (k + 1) f fd ps sp := by
  obtain ⟨oc, od, kV, doc, pm, an, cdv, ct, osl, rfl, lk, hcd⟩ := F.ex
  refine fn_of lk hcd S len fun A outer s H vs Q E hr hsp => ?_
  obtain ⟨t, h, q⟩ := hbody cdv A outer s H vs Q E hr hsp
  exact ⟨t, h.nox, q⟩
theorem Fun.binds {x qual : Str} {st : Stmt} {f : Addr} {fd : FuncData} {ps : List Str} (F : Fun K x qual st f fd)
    (h : ∀ (kV doc pm : Value) (an : Option Addr) (cdv ct : Value) (us : List Value), us.length = ps.length → bindArgs (PySem.W.fnOf x qual (defArgs st) (defBody st) (defScope st) .none kV doc pm an cdv ct) ⟨us, []⟩ = pure (ps.zip us)) : Binds K fd ps [] := by
  obtain ⟨oc, od, kV, doc, pm, an, cdv, ct, osl, rfl, lk, hcd⟩ := F.ex
  exact .all (h kV doc pm an cdv ct)
theorem fun_mk {x qual : Str} {st : Stmt} {f : Addr} {oc : Value} {od an : Option Addr} {osl : Array (Option Value)} {kV doc pm cdv ct : Value} (l : K.lookup f = some ⟨oc, od, .func (PySem.W.fnOf x qual (defArgs st) (defBody st) (defScope st) .none kV doc pm an cdv ct), osl⟩)
    (c : PySem.W.codeIn K cdv qual = true) (k : PySem.W.keepIn K (.ref f) = true) : Fun K x qual st f (PySem.W.fnOf x qual (defArgs st) (defBody st) (defScope st) .none kV doc pm an cdv ct) := ⟨⟨oc, od, kV, doc, pm, an, cdv, ct, osl, rfl, l, c⟩, k⟩
end
section
variable {X : Cx}
theorem pv (i : Nat) {x : Str} {pos : Pos} (hN : X.N[i]? = some x := by rfl) (hv : Vis X.env.scope x := by first | exact Or.inl rfl | exact Or.inr (Or.inl rfl) | exact Or.inr (Or.inr rfl)) (hd : (x == ("__debug__" : Str)) = false := by decide)
    (hcd : (x == ("__classdict__" : Str)) = false := by decide) : PE X (.Name x pos) (tVar i) := pe_var hN hv hd hcd
end
theorem iteF {A B : Prop} (h : B) : if false = true then A else B := by
  rw [if_neg Bool.false_ne_true]
  exact h
theorem iteT {A B : Prop} (h : A) : if true = true then A else B := by
  rw [if_pos rfl]
  exact h
noncomputable def Same (H H' : Hp) : Prop := ∀ b o, H b = some o → H' b = some o
theorem Same.refl (H : Hp) : Same H H := fun _ _ h => h
theorem Same.trans {H H1 H2 : Hp} (a : Same H H1) (b : Same H1 H2) : Same H H2 := fun c o h => b c o (a c o h)
theorem Same.free {H H' : Hp} (e : Same H H') {l : Addr} (h : H' l = Option.none) : H l = Option.none := by
  cases q : H l with
  | none => rfl
  | some o =>
    rw [e l o q] at h
    cases h
theorem Same.seq {K : Fg} {H H' : Hp} {a : Addr} {xs : List V} (e : Same H H') (h : SqL K H a xs) : SqL K H' a xs := by
  rcases h with (h | ⟨o, h⟩) | h
  · exact .inl (.inl (e _ _ h))
  · exact .inl (.inr ⟨o, e _ _ h⟩)
  · exact .inr h
end L2
namespace DD
open PySem PySem.Spec PyProof.Rows L2
noncomputable abbrev St := L2.St
inductive D where
  | non | bl (b : Bool) | int (i : Int) | str (s : List Nat) | tup (l : List D) | lst (l : List D) | ty (n : String) | ref (a : Addr)
noncomputable def LsAt (K : Fg) (O : Addr → Prop) (H : Hp) (a : Addr) (xs : List V) : Prop :=
  (¬ O a ∧ Rd H a (.lst xs)) ∨ ∃ (o : Obj) (its : Array Value) (n : Nat), K.lookup a = some o ∧ o.cls = .type "list" ∧ o.dict = none ∧ o.data = .seq its n ∧ its.size ≤ sizeLine ∧ Vals xs its.toList
theorem LsAt.sq {K : Fg} {O : Addr → Prop} {H : Hp} {a : Addr} {xs : List V} (h : LsAt K O H a xs) : SqL K H a xs := h.imp (·.2) id
mutual
noncomputable def Is (K : Fg) (O : Addr → Prop) (H : Hp) : D → V → Prop
  | .non, v => v = .non
  | .bl b, v => v = .bl b
  | .int i, v => v = .int i
  | .str s, v => v = .str ⟨s.toArray⟩
  | .ty n, v => v = .ty n
  | .ref a, v => v = .ref a
  | .tup l, v => ∃ a xs, v = .ref a ∧ SqT K H a xs ∧ IsL K O H l xs
  | .lst l, v => ∃ a xs, v = .ref a ∧ LsAt K O H a xs ∧ IsL K O H l xs
noncomputable def IsL (K : Fg) (O : Addr → Prop) (H : Hp) : List D → List V → Prop
  | [], vs => vs = []
  | d :: l, vs => ∃ v r, vs = v :: r ∧ Is K O H d v ∧ IsL K O H l r
end
noncomputable def OLst (O : Addr → Prop) (H : Hp) : Prop := ∀ a, O a → ∃ xs, H a = some (.lst xs)
noncomputable def Keep (O : Addr → Prop) (H H' : Hp) : Prop := ∀ b o, H b = some o → ¬ O b → H' b = some o
theorem Rd.some {H : Hp} {a : Addr} {u : HO} (h : Rd H a u) : ∃ o, H a = some o := by
  rcases h with h | ⟨o, h⟩
  · exact ⟨_, h⟩
  · exact ⟨_, h⟩
theorem SqT.keep {K : Fg} {O : Addr → Prop} {H H' : Hp} {a : Addr} {xs : List V} (k : Keep O H H') (o : OLst O H) (h : SqT K H a xs) : SqT K H' a xs := by
  rcases h with (h | ⟨ob, h⟩) | h
  · exact .inl (.inl (k _ _ h fun z => by obtain ⟨ys, q⟩ := o a z; rw [h] at q; cases q))
  · exact .inl (.inr ⟨ob, k _ _ h fun z => by obtain ⟨ys, q⟩ := o a z; rw [h] at q; cases q⟩)
  · exact .inr h
theorem Rd.keep {O : Addr → Prop} {H H' : Hp} {a : Addr} {u : HO} (k : Keep O H H') (n : ¬ O a) (h : Rd H a u) : Rd H' a u := by
  rcases h with h | ⟨ob, h⟩
  · exact .inl (k _ _ h n)
  · exact .inr ⟨ob, k _ _ h n⟩
mutual
theorem Is.mono {K : Fg} {O O' : Addr → Prop} {H H' : Hp} (k : Keep O H H') (ol : OLst O H) (oo : ∀ a, O' a → H a ≠ none → O a) : ∀ (d : D) (v : V), Is K O H d v → Is K O' H' d v
  | .non, v, h => by unfold Is at h ⊢; exact h
  | .bl b, v, h => by unfold Is at h ⊢; exact h
  | .int i, v, h => by unfold Is at h ⊢; exact h
  | .str s, v, h => by unfold Is at h ⊢; exact h
  | .ty n, v, h => by unfold Is at h ⊢; exact h
  | .ref a, v, h => by unfold Is at h ⊢; exact h
  | .tup l, v, h => by
    unfold Is at h ⊢
    obtain ⟨a, xs, e, q, r⟩ := h
    exact ⟨a, xs, e, SqT.keep k ol q, IsL.mono k ol oo l xs r⟩
  | .lst l, v, h => by
    unfold Is at h ⊢
    obtain ⟨a, xs, e, nq, r⟩ := h
    refine ⟨a, xs, e, ?_, IsL.mono k ol oo l xs r⟩
    rcases nq with ⟨n, q⟩ | q
    · exact .inl ⟨fun z => n (oo a z (by obtain ⟨o, q⟩ := Rd.some q; rw [q]; simp)), Rd.keep k n q⟩
    · exact .inr q
theorem IsL.mono {K : Fg} {O O' : Addr → Prop} {H H' : Hp} (k : Keep O H H') (ol : OLst O H) (oo : ∀ a, O' a → H a ≠ none → O a) : ∀ (l : List D) (vs : List V), IsL K O H l vs → IsL K O' H' l vs
  | [], vs, h => by unfold IsL at h ⊢; exact h
  | d :: l, vs, h => by
    unfold IsL at h ⊢
    obtain ⟨v, r, e, h1, h2⟩ := h
    exact ⟨v, r, e, Is.mono k ol oo d v h1, IsL.mono k ol oo l r h2⟩
end
theorem Same.kp {H H' : Hp} (s : Same H H') (O : Addr → Prop) : Keep O H H' := fun b o e _ => s b o e
theorem Is.same {K : Fg} {O : Addr → Prop} {H H' : Hp} {d : D} {v : V} (s : Same H H') (ol : OLst O H) (h : Is K O H d v) : Is K O H' d v := Is.mono (Same.kp s O) ol (fun _ z _ => z) d v h
theorem IsL.same {K : Fg} {O : Addr → Prop} {H H' : Hp} {l : List D} {vs : List V} (s : Same H H') (ol : OLst O H) (h : IsL K O H l vs) : IsL K O H' l vs := IsL.mono (Same.kp s O) ol (fun _ z _ => z) l vs h
section
variable {K : Fg} {O : Addr → Prop} {H : Hp}
theorem IsL.length : ∀ {l : List D} {vs : List V}, IsL K O H l vs → l.length = vs.length
  | [], vs, h => by unfold IsL at h; subst h; rfl
  | d :: l, vs, h => by unfold IsL at h; obtain ⟨v, r, rfl, _, h2⟩ := h; simp [IsL.length h2]
theorem IsL.get : ∀ {l : List D} {vs : List V} {i : Nat} {d : D}, IsL K O H l vs → l[i]? = some d → ∃ v, vs[i]? = some v ∧ Is K O H d v
  | [], _, _, _, _, e => by simp at e
  | d :: l, vs, 0, d', h, e => by
    unfold IsL at h; obtain ⟨v, r, rfl, h1, h2⟩ := h
    simp at e; subst e; exact ⟨v, rfl, h1⟩
  | d :: l, vs, i + 1, d', h, e => by
    unfold IsL at h; obtain ⟨v, r, rfl, h1, h2⟩ := h
    obtain ⟨u, q1, q2⟩ := IsL.get (i := i) h2 (by simpa using e)
    exact ⟨u, by simpa using q1, q2⟩
theorem IsL.nil : IsL K O H [] [] := by unfold IsL; rfl
theorem IsL.cons {d : D} {v : V} {l : List D} {vs : List V} (h : Is K O H d v) (t : IsL K O H l vs) : IsL K O H (d :: l) (v :: vs) := by unfold IsL; exact ⟨v, vs, rfl, h, t⟩
theorem IsL.append : ∀ {l m : List D} {vs us : List V}, IsL K O H l vs → IsL K O H m us → IsL K O H (l ++ m) (vs ++ us)
  | [], _, _, _, h, t => by unfold IsL at h; subst h; exact t
  | d :: l, m, vs, us, h, t => by unfold IsL at h; obtain ⟨v, r, rfl, h1, h2⟩ := h; exact .cons h1 (IsL.append h2 t)
theorem IsL.take : ∀ {l : List D} {vs : List V} (n : Nat), IsL K O H l vs → IsL K O H (l.take n) (vs.take n)
  | _, _, 0, _ => by simpa using IsL.nil
  | [], _, _ + 1, h => by unfold IsL at h; subst h; simpa using IsL.nil
  | d :: l, vs, n + 1, h => by unfold IsL at h; obtain ⟨v, r, rfl, h1, h2⟩ := h; exact .cons h1 (IsL.take n h2)
theorem IsL.drop : ∀ {l : List D} {vs : List V} (n : Nat), IsL K O H l vs → IsL K O H (l.drop n) (vs.drop n)
  | _, _, 0, h => h
  | [], _, _ + 1, h => by unfold IsL at h; subst h; simpa using IsL.nil
  | d :: l, vs, n + 1, h => by unfold IsL at h; obtain ⟨v, r, rfl, h1, h2⟩ := h; exact IsL.drop n h2
theorem IsL.reverse : ∀ {l : List D} {vs : List V}, IsL K O H l vs → IsL K O H l.reverse vs.reverse
  | [], _, h => by unfold IsL at h; subst h; exact IsL.nil
  | d :: l, vs, h => by
    unfold IsL at h; obtain ⟨v, r, rfl, h1, h2⟩ := h
    rw [List.reverse_cons, List.reverse_cons]; exact (IsL.reverse h2).append (.cons h1 .nil)
theorem Is.int_iff {i : Int} {v : V} : Is K O H (.int i) v ↔ v = .int i := by unfold Is; exact Iff.rfl
theorem Is.bl_iff {b : Bool} {v : V} : Is K O H (.bl b) v ↔ v = .bl b := by unfold Is; exact Iff.rfl
theorem Is.str_iff {s : List Nat} {v : V} : Is K O H (.str s) v ↔ v = .str ⟨s.toArray⟩ := by unfold Is; exact Iff.rfl
theorem Is.non_iff {v : V} : Is K O H .non v ↔ v = .non := by unfold Is; exact Iff.rfl
theorem Is.ty_iff {n : String} {v : V} : Is K O H (.ty n) v ↔ v = .ty n := by unfold Is; exact Iff.rfl
theorem Is.ref_iff {a : Addr} {v : V} : Is K O H (.ref a) v ↔ v = .ref a := by unfold Is; exact Iff.rfl
theorem Is.tup_iff {l : List D} {v : V} : Is K O H (.tup l) v ↔ ∃ a xs, v = .ref a ∧ SqT K H a xs ∧ IsL K O H l xs := by unfold Is; exact Iff.rfl
theorem Is.lst_iff {l : List D} {v : V} : Is K O H (.lst l) v ↔ ∃ a xs, v = .ref a ∧ LsAt K O H a xs ∧ IsL K O H l xs := by unfold Is; exact Iff.rfl
end
inductive Sl where
  | un | v (d : D) | o (l : List D) | p (l : List D) | z (l : List D)
noncomputable abbrev En := List Sl
noncomputable def Sl.own : Sl → Option (List D)
  | .o l => some l
  | .p l => some l
  | .z l => some l
  | _ => none
noncomputable def Sl.mt : Sl → Option (List D)
  | .o l => some l
  | .p l => some l
  | _ => none
noncomputable def AtS (q : Sl → Option (List D)) (r : En) (σ : St) (a : Addr) : Prop := ∃ (i : Nat) (l : List D), (r[i]?).bind q = some l ∧ σ[i]? = some (some (.ref a))
noncomputable abbrev OwnAt := AtS Sl.own
noncomputable abbrev MutAt := AtS Sl.mt
theorem mt_own {x : Sl} {l : List D} (h : x.mt = some l) : x.own = some l := by
  cases x <;> first | (cases h; rfl) | cases h
theorem MutAt.own {r : En} {σ : St} {a : Addr} (h : MutAt r σ a) : OwnAt r σ a := by
  obtain ⟨i, l, e, q⟩ := h
  obtain ⟨x, e1, e2⟩ := Option.bind_eq_some_iff.mp e
  exact ⟨i, l, by rw [e1]; exact mt_own e2, q⟩
noncomputable def Ow (O0 : Addr → Prop) (r : En) (σ : St) : Addr → Prop := fun a => O0 a ∨ OwnAt r σ a
structure R (K : Fg) (O0 : Addr → Prop) (H : Hp) (r : En) (σ : St) : Prop where
  len : r.length = σ.length
  val : ∀ (i : Nat) (d : D), r[i]? = some (.v d) → ∃ v, σ[i]? = some (some v) ∧ Is K (Ow O0 r σ) H d v
  own : ∀ (i : Nat) (l : List D), (r[i]?).bind Sl.own = some l → ∃ a xs, σ[i]? = some (some (.ref a)) ∧ H a = some (.lst xs) ∧ IsL K (Ow O0 r σ) H l xs
  apart : ∀ (i j : Nat) (a : Addr) (l m : List D), (r[i]?).bind Sl.own = some l → (r[j]?).bind Sl.own = some m → σ[i]? = some (some (.ref a)) → σ[j]? = some (some (.ref a)) → i = j
  o0 : OLst O0 H
  loc : ∀ (i : Nat) (l : List D) (a : Addr), (r[i]? = some (.o l) ∨ r[i]? = some (.z l)) → σ[i]? = some (some (.ref a)) → ¬ O0 a
  par : ∀ (i : Nat) (l : List D) (a : Addr), r[i]? = some (.p l) → σ[i]? = some (some (.ref a)) → O0 a
theorem R.ol {K : Fg} {O0 : Addr → Prop} {H : Hp} {r : En} {σ : St} (h : R K O0 H r σ) : OLst (Ow O0 r σ) H := fun a z => by
  rcases z with z | ⟨i, l, e, q⟩
  · exact h.o0 a z
  · obtain ⟨b, xs, e1, e2, _⟩ := h.own i l e
    rw [q] at e1; cases e1
    exact ⟨xs, e2⟩
theorem R.nofresh {K : Fg} {O0 : Addr → Prop} {H : Hp} {r : En} {σ : St} (h : R K O0 H r σ) {a : Addr} (n : H a = none) : ¬ Ow O0 r σ a := fun z => by
  obtain ⟨xs, e⟩ := h.ol a z
  rw [n] at e; cases e
theorem R.same {K : Fg} {O0 : Addr → Prop} {H H' : Hp} {r : En} {σ : St} (h : R K O0 H r σ) (s : Same H H') : R K O0 H' r σ where
  len := h.len
  val := fun i d e => by obtain ⟨v, e1, q⟩ := h.val i d e; exact ⟨v, e1, q.same s h.ol⟩
  own := fun i l e => by obtain ⟨a, xs, e1, e2, q⟩ := h.own i l e; exact ⟨a, xs, e1, s _ _ e2, q.same s h.ol⟩
  apart := h.apart
  o0 := fun a z => by obtain ⟨xs, e⟩ := h.o0 a z; exact ⟨xs, s _ _ e⟩
  loc := h.loc
  par := h.par
structure Kp (H : Hp) (r : En) (σ : St) (H' : Hp) (r' : En) (σ' : St) : Prop where
  keep : Keep (MutAt r σ) H H'
  live : ∀ b, H' b = none → H b = none
  lst : ∀ b xs, H b = some (.lst xs) → ∃ ys, H' b = some (.lst ys)
  new : ∀ b, OwnAt r' σ' b → OwnAt r σ b ∨ H b = none
  mnew : ∀ b, MutAt r' σ' b → MutAt r σ b ∨ H b = none
  par : ∀ (i : Nat) (l : List D), r[i]? = some (.p l) → (∃ l', r'[i]? = some (.p l')) ∧ σ'[i]? = σ[i]?
  fz : ∀ (i : Nat) (l : List D), r[i]? = some (.z l) → r'[i]? = some (.z l) ∧ σ'[i]? = σ[i]?
theorem Kp.of_same {H H' : Hp} (r : En) (σ : St) (s : Same H H') : Kp H r σ H' r σ :=
  ⟨fun b o e _ => s b o e, fun b e => s.free e, fun b xs e => ⟨xs, s _ _ e⟩, fun b z => .inl z, fun b z => .inl z, fun i l e => ⟨⟨l, e⟩, rfl⟩, fun i l e => ⟨e, rfl⟩⟩
theorem Kp.refl (H : Hp) (r : En) (σ : St) : Kp H r σ H r σ := .of_same r σ (Same.refl H)
theorem Kp.trans {H H1 H2 : Hp} {r r1 r2 : En} {σ σ1 σ2 : St} (a : Kp H r σ H1 r1 σ1) (b : Kp H1 r1 σ1 H2 r2 σ2) : Kp H r σ H2 r2 σ2 where
  keep := fun c o e n => b.keep c o (a.keep c o e n) fun z => (a.mnew c z).elim n fun q => by rw [e] at q; cases q
  live := fun c e => a.live c (b.live c e)
  lst := fun c xs e => by obtain ⟨ys, q⟩ := a.lst c xs e; exact b.lst c ys q
  new := fun c z => (b.new c z).elim (a.new c) fun q => .inr (a.live c q)
  mnew := fun c z => (b.mnew c z).elim (a.mnew c) fun q => .inr (a.live c q)
  par := fun i l e => by
    obtain ⟨⟨l1, e1⟩, q1⟩ := a.par i l e
    obtain ⟨⟨l2, e2⟩, q2⟩ := b.par i l1 e1
    exact ⟨⟨l2, e2⟩, q2.trans q1⟩
  fz := fun i l e => by
    obtain ⟨e1, q1⟩ := a.fz i l e
    obtain ⟨e2, q2⟩ := b.fz i l e1
    exact ⟨e2, q2.trans q1⟩
theorem PE.conseq {X : Cx} {e : Expr} {t t' : TE} (h : PE X e t) (i : ∀ σ H Q, t' σ H Q → t σ H Q) : PE X e t' := fun pins s σ H Q I q => h pins s σ H Q I (i σ H Q q)
theorem PT.conseq {X : Cx} {e : Expr} {t t' : TT} (h : PT X e t) (i : ∀ σ H Q, t' σ H Q → t σ H Q) : PT X e t' := fun pins s σ H Q I q => h pins s σ H Q I (i σ H Q q)
theorem PA.conseq {X : Cx} {e : List Expr} {t t' : TA} (h : PA X e t) (i : ∀ σ H Q, t' σ H Q → t σ H Q) : PA X e t' := fun pos pins s σ H Q I q => h pos pins s σ H Q I (i σ H Q q)
theorem PS.conseq {X : Cx} {st : Stmt} {t t' : TS} (h : PS X st t) (i : ∀ D σ H, t' D σ H → t D σ H) : PS X st t' := fun pins s σ H D I q => h pins s σ H D I (i D σ H q)
theorem PSs.conseq {X : Cx} {st : List Stmt} {t t' : TS} (h : PSs X st t) (i : ∀ D σ H, t' D σ H → t D σ H) : PSs X st t' := fun pins s σ H D I q => h pins s σ H D I (i D σ H q)
noncomputable abbrev ME := En → Option D
noncomputable abbrev ML := En → Option (List D)
noncomputable abbrev MB := En → Option Bool
noncomputable def lE (K : Fg) (f : ME) : TE := fun σ H Q => ∃ O0 r d, R K O0 H r σ ∧ f r = some d ∧ ∀ v H', Same H H' → Is K (Ow O0 r σ) H' d v → Q v H'
noncomputable def lT (K : Fg) (f : MB) : TT := fun σ H Q => ∃ O0 r b, R K O0 H r σ ∧ f r = some b ∧ ∀ H', Same H H' → Q b H'
noncomputable def lA (K : Fg) (f : ML) : TA := fun σ H Q => ∃ O0 r l, R K O0 H r σ ∧ f r = some l ∧ ∀ vs H', Same H H' → IsL K (Ow O0 r σ) H' l vs → Q vs H'
noncomputable def lF (K : Fg) (f : ML) : TE := fun σ H Q => ∃ O0 r l, R K O0 H r σ ∧ f r = some l ∧ ∀ a xs H', Same H H' → H a = none → H' a = some (.lst xs) → IsL K (fun b => Ow O0 r σ b ∨ b = a) H' l xs → Q (.ref a) H'
noncomputable def lB (K : Fg) (f : ML) : TE := fun σ H Q => ∃ O0 r l, R K O0 H r σ ∧ f r = some l ∧ ∀ a xs H', Same H H' → SqL K H' a xs → IsL K (Ow O0 r σ) H' l xs → Q (.ref a) H'
noncomputable def lX (K : Fg) (f : En → Option (D × En)) : TE := fun σ H Q => ∃ O0 r d r', R K O0 H r σ ∧ f r = some (d, r') ∧ ∀ v H', R K O0 H' r' σ → Kp H r σ H' r' σ → Is K (Ow O0 r' σ) H' d v → Q v H'
noncomputable def DE (X : Cx) (e : Expr) (f : ME) : Prop := PE X e (lE X.K f)
noncomputable def DT (X : Cx) (e : Expr) (f : MB) : Prop := PT X e (lT X.K f)
noncomputable def DA (X : Cx) (es : List Expr) (f : ML) : Prop := PA X es (lA X.K f)
noncomputable def DF (X : Cx) (e : Expr) (f : ML) : Prop := PE X e (lF X.K f)
noncomputable def DB (X : Cx) (e : Expr) (f : ML) : Prop := PE X e (lB X.K f)
noncomputable def DX (X : Cx) (e : Expr) (f : En → Option (D × En)) : Prop := PE X e (lX X.K f)
inductive Fl where
  | nx (r : En) | bk (r : En) | ct (r : En) | rt (d : D) (r : En) | rf (l : List D) (r : En)
noncomputable abbrev MS := En → Option Fl
noncomputable def FrA (H : Hp) (r : En) (σ : St) (a : Addr) : Prop := H a = none ∨ ∃ (i : Nat) (l : List D), r[i]? = some (.o l) ∧ σ[i]? = some (some (.ref a))
noncomputable def PostS (K : Fg) (O0 : Addr → Prop) (H : Hp) (r : En) (σ : St) (Dn : Ends) : Fl → Prop
  | .nx r' => ∀ σ' H', R K O0 H' r' σ' → Kp H r σ H' r' σ' → Dn.nx σ' H'
  | .bk r' => ∀ σ' H', R K O0 H' r' σ' → Kp H r σ H' r' σ' → Dn.bk σ' H'
  | .ct r' => ∀ σ' H', R K O0 H' r' σ' → Kp H r σ H' r' σ' → Dn.ct σ' H'
  | .rt d r' => ∀ v σ' H', R K O0 H' r' σ' → Kp H r σ H' r' σ' → Is K O0 H' d v → Dn.rt v H'
  | .rf l r' => ∀ a xs σ' H', R K O0 H' r' σ' → Kp H r σ H' r' σ' → FrA H r σ a → ¬ O0 a → H' a = some (.lst xs) → IsL K (fun b => O0 b ∨ b = a) H' l xs → Dn.rt (.ref a) H'
noncomputable def lS (K : Fg) (g : MS) : TS := fun Dn σ H => ∃ O0 r fl, R K O0 H r σ ∧ g r = some fl ∧ PostS K O0 H r σ Dn fl
noncomputable def DS (X : Cx) (st : Stmt) (g : MS) : Prop := PS X st (lS X.K g)
noncomputable def DSs (X : Cx) (st : List Stmt) (g : MS) : Prop := PSs X st (lS X.K g)
theorem PostS.before {K : Fg} {O0 : Addr → Prop} {H H1 : Hp} {r r1 : En} {σ σ1 : St} {Dn : Ends} {fl : Fl} (R1 : R K O0 H1 r1 σ1) (k : Kp H r σ H1 r1 σ1) (h : PostS K O0 H r σ Dn fl) : PostS K O0 H1 r1 σ1 Dn fl := by
  have fra : ∀ a, FrA H1 r1 σ1 a → FrA H r σ a := fun a z => by
    rcases z with z | ⟨i, l, e, q⟩
    · exact .inl (k.live a z)
    · rcases k.new a ⟨i, l, by rw [e]; rfl, q⟩ with ⟨j, m, e2, q2⟩ | z
      · cases ej : r[j]? with
        | none => rw [ej] at e2; cases e2
        | some x =>
          rw [ej] at e2
          cases x with
          | un => cases e2
          | v d => cases e2
          | o l' => exact .inr ⟨j, l', ej, q2⟩
          | p l' =>
            obtain ⟨⟨l2, e3⟩, q3⟩ := k.par j l' ej
            have := R1.apart i j a l l2 (by rw [e]; rfl) (by rw [e3]; rfl) q (q3.trans q2)
            subst this
            rw [e] at e3; cases e3
          | z l' =>
            obtain ⟨e3, q3⟩ := k.fz j l' ej
            have := R1.apart i j a l l' (by rw [e]; rfl) (by rw [e3]; rfl) q (q3.trans q2)
            subst this
            rw [e] at e3; cases e3
      · exact .inl z
  cases fl with
  | nx r' => exact fun σ' H' h1 h2 => h σ' H' h1 (k.trans h2)
  | bk r' => exact fun σ' H' h1 h2 => h σ' H' h1 (k.trans h2)
  | ct r' => exact fun σ' H' h1 h2 => h σ' H' h1 (k.trans h2)
  | rt d r' => exact fun v σ' H' h1 h2 h3 => h v σ' H' h1 (k.trans h2) h3
  | rf l r' => exact fun a xs σ' H' h1 h2 h3 h4 h5 h6 => h a xs σ' H' h1 (k.trans h2) (fra a h3) h4 h5 h6
noncomputable def mC (d : D) : ME := fun _ => some d
noncomputable def mVar (i : Nat) : ME := fun r => match r[i]? with
  | some (.v d) => some d
  | _ => none
noncomputable def mOwn (i : Nat) : ML := fun r => (r[i]?).bind Sl.own
noncomputable def mBin (m : D → D → Option D) (f g : ME) : ME := fun r => (f r).bind fun x => (g r).bind fun y => m x y
noncomputable def mUn (m : D → Option D) (f : ME) : ME := fun r => (f r).bind m
noncomputable def mNil : ML := fun _ => some []
noncomputable def mCons (f : ME) (g : ML) : ML := fun r => (f r).bind fun x => (g r).bind fun l => some (x :: l)
noncomputable def mTup (f : ML) : ME := fun r => (f r).bind fun l => if l.length ≤ sizeLine then some (.tup l) else none
noncomputable def mLstF (f : ML) : ML := fun r => (f r).bind fun l => if l.length ≤ sizeLine then some l else none
noncomputable def mOfF (f : ML) : ME := fun r => (f r).map .lst
noncomputable def mAsL (f : ME) : ML := fun r => (f r).bind fun d => match d with
  | .lst l => some l
  | _ => none
noncomputable def mAnd (f g : ME) : ME := fun r => (f r).bind fun d => match d with
  | .bl true => g r
  | .bl false => some (.bl false)
  | _ => none
noncomputable def mOr (f g : ME) : ME := fun r => (f r).bind fun d => match d with
  | .bl true => some (.bl true)
  | .bl false => g r
  | _ => none
noncomputable def notD : D → Option D
  | .bl b => some (.bl !b)
  | _ => none
noncomputable def mAndT (f g : MB) : MB := fun r => (f r).bind fun b => if b = true then g r else some false
noncomputable def mOrT (f g : MB) : MB := fun r => (f r).bind fun b => if b = true then some true else g r
noncomputable def mNotT (f : MB) : MB := fun r => (f r).map (!·)
noncomputable def blD : D → Option Bool
  | .bl b => some b
  | _ => none
noncomputable def mBl (f : ME) : MB := fun r => (f r).bind blD
noncomputable def truD : D → Option Bool
  | .non => some false
  | .bl b => some b
  | .int i => some (i != 0)
  | .str s => if s.length ≤ sizeLine then some (!s.isEmpty) else none
  | .tup l => some (!l.isEmpty)
  | .lst l => some (!l.isEmpty)
  | _ => none
noncomputable def mTruB (fl : ML) : MB := fun r => (fl r).map fun l => !l.isEmpty
noncomputable def mTru (f : ME) : MB := fun r => (f r).bind truD
section
variable {X : Cx} {pos : Pos} {a b c : Expr} {f g : ME}
theorem bind_some {α β : Type} {o : Option α} {h : α → Option β} {y : β} (e : o.bind h = some y) : ∃ x, o = some x ∧ h x = some y := by
  cases o with
  | none => cases e
  | some x => exact ⟨x, rfl, e⟩
theorem de_of {t : TE} (h : PE X a t) (i : ∀ O0 σ H r d Q, R X.K O0 H r σ → f r = some d → (∀ v H', Same H H' → Is X.K (Ow O0 r σ) H' d v → Q v H') → t σ H Q) : DE X a f :=
  PE.conseq h fun σ H Q ⟨O0, r, d, hR, e, q⟩ => i O0 σ H r d Q hR e q
theorem de_var (i : Nat) {x : Str} (h : PE X (.Name x pos) (tVar i)) : DE X (.Name x pos) (mVar i) :=
  de_of h fun O0 σ H r d Q hR e q => by
    unfold mVar at e
    have e' : r[i]? = some (.v d) := by
      split at e
      · rename_i d' h; cases e; exact h
      · cases e
    obtain ⟨v, e1, q1⟩ := hR.val i d e'
    exact ⟨v, e1, q v H (Same.refl H) q1⟩
theorem db_own (i : Nat) {x : Str} (h : PE X (.Name x pos) (tVar i)) : DB X (.Name x pos) (mOwn i) :=
  PE.conseq h fun σ H Q ⟨O0, r, l, hR, e, q⟩ => by
    obtain ⟨a, xs, e1, e2, q1⟩ := hR.own i l e
    exact ⟨.ref a, e1, q a xs H (Same.refl H) (SqL.of e2) q1⟩
theorem de_con {v : V} {d : D} (h : PE X a (tC v)) (hd : ∀ O H, Is X.K O H d v) : DE X a (mC d) :=
  de_of h fun O0 σ H r d' Q hR e q => by
    unfold mC at e
    cases e
    exact q v H (Same.refl H) (hd _ _)
theorem de_int {i j} : DE X (.Constant (.int i) j pos) (mC (.int i)) := de_con pe_int fun O H => by unfold Is; rfl
theorem de_bl {i j} : DE X (.Constant (.bool i) j pos) (mC (.bl i)) := de_con pe_bl fun O H => by unfold Is; rfl
theorem de_non {j} : DE X (.Constant .none j pos) (mC .non) := de_con pe_non fun O H => by unfold Is; rfl
theorem de_str {x : Str} {s : List Nat} {j} (e : x.cps.toList = s := by rfl) : DE X (.Constant (.str x) j pos) (mC (.str s)) := de_con pe_str fun O H => by
  unfold Is; subst e; simp
noncomputable def OpD (K : Fg) (r2 : R2) (m : D → D → Option D) : Prop := ∀ (O : Addr → Prop) (H : Hp) (dx dy d : D) (vx vy : V) (Q : VK), OLst O H → Is K O H dx vx → Is K O H dy vy → m dx dy = some d → (∀ v H', Same H H' → Is K O H' d v → Q v H') → r2 vx vy H Q
theorem two {ta tb : TE} {r2 : R2} {m : D → D → Option D} (hd : OpD X.K r2 m) {σ : St} {H : Hp} {Q : VK} (h : lE X.K (mBin m f g) σ H Q) : tOp r2 (lE X.K f) (lE X.K g) σ H Q := by
  obtain ⟨O0, r, d, hR, e, q⟩ := h
  obtain ⟨x, e1, e⟩ := bind_some e
  obtain ⟨y, e2, e⟩ := bind_some e
  refine ⟨O0, r, x, hR, e1, fun v1 H1 s1 i1 => ⟨O0, r, y, hR.same s1, e2, fun v2 H2 s2 i2 => ?_⟩⟩
  exact hd (Ow O0 r σ) H2 x y d v1 v2 Q (hR.same (s1.trans s2)).ol (i1.same s2 (hR.same s1).ol) i2 e fun v H' s' i' => q v H' ((s1.trans s2).trans s') i'
theorem de_bin {op : Operator} {r2 : R2} {m : D → D → Option D} (ho : OpR X (binaryOp op) r2) (hd : OpD X.K r2 m) (ha : DE X a f) (hb : DE X b g) : DE X (.BinOp a op b pos) (mBin m f g) :=
  PE.conseq (pe_op ho ha hb) fun σ H Q h => two (ta := lE X.K f) (tb := lE X.K g) hd h
theorem de_cmp {op : CmpOp} {r2 : R2} {m : D → D → Option D} (ho : OpR X (compareOp op) r2) (hd : OpD X.K r2 m) (ha : DE X a f) (hb : DE X b g) (hm : behindInMarks op b = false) : DE X (.Compare a [op] [b] pos) (mBin m f g) :=
  PE.conseq (pe_cmpR ho ha hb hm) fun σ H Q h => two (ta := lE X.K f) (tb := lE X.K g) hd h
theorem dt_cmp {op : CmpOp} {r2 : R2} {m : D → D → Option D} (ho : OpR X (compareOp op) r2) (hd : OpD X.K r2 m) (ha : DE X a f) (hb : DE X b g) (hm : behindInMarks op b = false) : DT X (.Compare a [op] [b] pos) (mBl (mBin m f g)) := by
  refine PT.conseq (pt_cmpR ho ha hb hm) fun σ H Q h => ?_
  obtain ⟨O0, r, k, hR, e, q⟩ := h
  obtain ⟨d, e1, e⟩ := bind_some e
  refine two (ta := lE X.K f) (tb := lE X.K g) (m := m) hd ⟨O0, r, d, hR, e1, fun v H' s' i' => ?_⟩
  cases d <;> first | cases e | skip
  rw [Is.bl_iff] at i'
  exact ⟨_, i', q H' s'⟩
theorem de_un {op : UnaryOp} {r1 : V → Hp → VK → Prop} {m : D → Option D} (ho : UnR X (unaryOp op) r1)
    (hd : ∀ (O : Addr → Prop) (H : Hp) (dx d : D) (vx : V) (Q : VK), Is X.K O H dx vx → m dx = some d → (∀ v, Is X.K O H d v → Q v H) → r1 vx H Q) (ha : DE X a f) : DE X (.UnaryOp op a pos) (mUn m f) := by
  refine PE.conseq (pe_un ho ha) fun σ H Q h => ?_
  obtain ⟨O0, r, d, hR, e, q⟩ := h
  obtain ⟨x, e1, e⟩ := bind_some e
  exact ⟨O0, r, x, hR, e1, fun v1 H1 s1 i1 => hd _ H1 x d v1 Q i1 e fun v i => q v H1 s1 i⟩
theorem de_one {op} (h : DE X a f) : DE X (.BoolOp op [a] pos) f := pe_one h
theorem de_and {rest : List Expr} (ha : DE X a f) (hb : DE X (.BoolOp .And (b :: rest) pos) g) : DE X (.BoolOp .And (a :: b :: rest) pos) (mAnd f g) := by
  refine PE.conseq (pe_and ha hb) fun σ H Q h => ?_
  obtain ⟨O0, r, d, hR, e, q⟩ := h
  obtain ⟨x, e1, e⟩ := bind_some e
  refine ⟨O0, r, x, hR, e1, fun v1 H1 s1 i1 => ?_⟩
  cases x with
  | bl k =>
    rw [Is.bl_iff] at i1
    refine ⟨k, i1, ?_⟩
    cases k with
    | true =>
      rw [if_pos rfl]
      exact ⟨O0, r, d, hR.same s1, e, fun v H' s' i' => q v H' (s1.trans s') i'⟩
    | false =>
      rw [if_neg Bool.false_ne_true]
      cases e
      exact q _ H1 s1 (by rw [Is.bl_iff])
  | _ => cases e
theorem de_or {rest : List Expr} (ha : DE X a f) (hb : DE X (.BoolOp .Or (b :: rest) pos) g) : DE X (.BoolOp .Or (a :: b :: rest) pos) (mOr f g) := by
  refine PE.conseq (pe_or ha hb) fun σ H Q h => ?_
  obtain ⟨O0, r, d, hR, e, q⟩ := h
  obtain ⟨x, e1, e⟩ := bind_some e
  refine ⟨O0, r, x, hR, e1, fun v1 H1 s1 i1 => ?_⟩
  cases x with
  | bl k =>
    rw [Is.bl_iff] at i1
    refine ⟨k, i1, ?_⟩
    cases k with
    | true =>
      rw [if_pos rfl]
      cases e
      exact q _ H1 s1 (by rw [Is.bl_iff])
    | false =>
      rw [if_neg Bool.false_ne_true]
      exact ⟨O0, r, d, hR.same s1, e, fun v H' s' i' => q v H' (s1.trans s') i'⟩
  | _ => cases e
section
variable {tf tg : MB}
theorem dw_and1 (ha : DT X a tf) : PW X (.BoolOp .And [a] pos) (lT X.K tf) := pw_and1 ha
theorem dw_or1 (ha : DT X a tf) : PW X (.BoolOp .Or [a] pos) (lT X.K tf) := pw_or1 ha
theorem PW.conseq {e : Expr} {t t' : TT} (h : PW X e t) (i : ∀ σ H Q, t' σ H Q → t σ H Q) : PW X e t' := fun wh pins s σ H Q I q => h wh pins s σ H Q I (i σ H Q q)
theorem dw_and {rest : List Expr} (ha : DT X a tf) (hb : PW X (.BoolOp .And (b :: rest) pos) (lT X.K tg)) : PW X (.BoolOp .And (a :: b :: rest) pos) (lT X.K (mAndT tf tg)) := by
  refine PW.conseq (pw_and ha hb) fun σ H Q h => ?_
  obtain ⟨O0, r, d, hR, e, q⟩ := h
  obtain ⟨x, e1, e⟩ := bind_some e
  refine ⟨O0, r, x, hR, e1, fun H1 s1 => ?_⟩
  cases x with
  | true =>
    rw [if_pos rfl]
    exact ⟨O0, r, d, hR.same s1, e, fun H' s' => q H' (s1.trans s')⟩
  | false =>
    rw [if_neg Bool.false_ne_true]
    cases e
    exact q H1 s1
theorem dw_or {rest : List Expr} (ha : DT X a tf) (hb : PW X (.BoolOp .Or (b :: rest) pos) (lT X.K tg)) : PW X (.BoolOp .Or (a :: b :: rest) pos) (lT X.K (mOrT tf tg)) := by
  refine PW.conseq (pw_or ha hb) fun σ H Q h => ?_
  obtain ⟨O0, r, d, hR, e, q⟩ := h
  obtain ⟨x, e1, e⟩ := bind_some e
  refine ⟨O0, r, x, hR, e1, fun H1 s1 => ?_⟩
  cases x with
  | true =>
    rw [if_pos rfl]
    cases e
    exact q H1 s1
  | false =>
    rw [if_neg Bool.false_ne_true]
    exact ⟨O0, r, d, hR.same s1, e, fun H' s' => q H' (s1.trans s')⟩
theorem dt_w (h : PW X a (lT X.K tf)) : DT X a tf := h.pt
theorem dt_not (ha : DT X a tf) : DT X (.UnaryOp .Not a pos) (mNotT tf) := by
  refine PT.conseq (pt_not ha) fun σ H Q h => ?_
  obtain ⟨O0, r, d, hR, e, q⟩ := h
  unfold mNotT at e
  cases e1 : tf r with
  | none => rw [e1] at e; cases e
  | some k =>
    rw [e1] at e; cases e
    exact ⟨O0, r, k, hR, e1, fun H1 s1 => q H1 s1⟩
theorem truD_ok {K : Fg} {O : Addr → Prop} {H : Hp} {d : D} {v : V} {k : Bool} (h : Is K O H d v) (e : truD d = some k) : TruV K v H k := by
  cases d with
  | non => rw [Is.non_iff] at h; subst h; cases e; rfl
  | bl b => rw [Is.bl_iff] at h; subst h; cases e; rfl
  | int i => rw [Is.int_iff] at h; subst h; cases e; rfl
  | str s =>
    rw [Is.str_iff] at h; subst h
    simp only [truD] at e
    split at e
    · rename_i hl
      cases e
      refine ⟨by simpa [Str.length] using hl, ?_⟩
      cases s with
      | nil => rfl
      | cons c r =>
        have : ((r.length : Int) + 1) ≠ 0 := by omega
        simpa [Str.length] using this
    · cases e
  | tup l =>
    rw [Is.tup_iff] at h; obtain ⟨a, xs, rfl, hs, hl⟩ := h; cases e
    refine .inr (.inl ⟨xs, hs, ?_⟩)
    have := hl.length
    cases l <;> cases xs <;> simp_all
  | lst l =>
    rw [Is.lst_iff] at h; obtain ⟨a, xs, rfl, hs, hl⟩ := h; cases e
    refine .inl ⟨xs, hs.sq, ?_⟩
    have := hl.length
    cases l <;> cases xs <;> simp_all
  | ty n => cases e
  | ref a => cases e
theorem dt_tru (ha : DE X a f) (he : ∀ whole, isTrue a X.env whole = (do let v ← whole; standAt a.pos; holding [v] (truthy v)) := by intro _; rfl) : DT X a (mTru f) := by
  refine PT.conseq (pt_truth ha he) fun σ H Q h => ?_
  obtain ⟨O0, r, d, hR, e, q⟩ := h
  obtain ⟨x, e1, e⟩ := bind_some e
  exact ⟨O0, r, x, hR, e1, fun v1 H1 s1 i1 => ⟨d, truD_ok i1 e, q H1 s1⟩⟩
theorem dt_truB {fl : ML} (ha : DB X a fl) (he : ∀ whole, isTrue a X.env whole = (do let v ← whole; standAt a.pos; holding [v] (truthy v)) := by intro _; rfl) : DT X a (mTruB fl) := by
  refine PT.conseq (pt_truth ha he) fun σ H Q h => ?_
  obtain ⟨O0, r, d, hR, e, q⟩ := h
  unfold mTruB at e
  cases e1 : fl r with
  | none => rw [e1] at e; cases e
  | some l =>
    rw [e1] at e; cases e
    refine ⟨O0, r, l, hR, e1, fun a xs H1 s1 i1 i2 => ⟨_, .inl ⟨xs, i1, ?_⟩, q H1 s1⟩⟩
    have := i2.length
    cases l <;> cases xs <;> simp_all
end
section
variable {es : List Expr} {fs : ML}
theorem da_nil : DA X [] mNil := PA.conseq pa_nil fun σ H Q ⟨O0, r, l, hR, e, q⟩ => by
  unfold mNil at e; cases e
  exact q [] H (Same.refl H) .nil
theorem da_cons (ha : DE X a f) (hr : DA X es fs) (hs : starEach (a :: es) X.env = (false, eval a X.env) :: starEach es X.env := by rfl) : DA X (a :: es) (mCons f fs) := by
  refine PA.conseq (pa_cons ha hr hs) fun σ H Q h => ?_
  obtain ⟨O0, r, d, hR, e, q⟩ := h
  obtain ⟨x, e1, e⟩ := bind_some e
  obtain ⟨l, e2, e⟩ := bind_some e
  cases e
  exact ⟨O0, r, x, hR, e1, fun v1 H1 s1 i1 => ⟨O0, r, l, hR.same s1, e2, fun vs H2 s2 i2 => q _ H2 (s1.trans s2) (.cons (i1.same s2 (hR.same s1).ol) i2)⟩⟩
theorem same_upd {H : Hp} {p : Addr} {o : HO} (n : H p = none) : Same H (upd H p o) := fun b u e => by rw [upd_ne (ne_of_none e n)]; exact e
theorem de_tup {x1} (h : DA X es fs) : DE X (.Tuple es x1 pos) (mTup fs) := by
  refine PE.conseq (pe_tup h) fun σ H Q h => ?_
  obtain ⟨O0, r, d, hR, e, q⟩ := h
  obtain ⟨l, e1, e⟩ := bind_some e
  split at e
  · rename_i hl
    cases e
    refine ⟨O0, r, l, hR, e1, fun vs H1 s1 i1 => ⟨by rw [← i1.length]; exact hl, fun p hp => q _ _ (s1.trans (same_upd hp)) ?_⟩⟩
    rw [Is.tup_iff]
    exact ⟨p, vs, rfl, SqT.of upd_same, i1.same (same_upd hp) (hR.same s1).ol⟩
  · cases e
theorem df_lst (h : DA X es fs) : DF X (.List es pos) (mLstF fs) := by
  refine PE.conseq (pe_lst h) fun σ H Q h => ?_
  obtain ⟨O0, r, l', hR, e, q⟩ := h
  obtain ⟨l, e1, e⟩ := bind_some e
  split at e
  · rename_i hl
    have e' : l = l' := Option.some.inj e
    subst e'
    refine ⟨O0, r, l, hR, e1, fun vs H1 s1 i1 => ⟨by rw [← i1.length]; exact hl, fun p hp => q _ _ _ (s1.trans (same_upd hp)) (s1.free hp) upd_same ?_⟩⟩
    refine IsL.mono (Same.kp (same_upd hp) _) (hR.same s1).ol (fun a z n => ?_) _ vs i1
    rcases z with z | z
    · exact z
    · subst z; exact absurd hp n
  · cases e
theorem de_f {fl : ML} (h : DF X a fl) : DE X a (mOfF fl) := by
  refine PE.conseq h fun σ H Q h => ?_
  obtain ⟨O0, r, d, hR, e, q⟩ := h
  unfold mOfF at e
  cases e1 : fl r with
  | none => rw [e1] at e; cases e
  | some l =>
    rw [e1] at e; cases e
    refine ⟨O0, r, l, hR, e1, fun p xs H1 s1 n1 e2 i1 => q _ H1 s1 ?_⟩
    rw [Is.lst_iff]
    have ol : OLst (fun b => Ow O0 r σ b ∨ b = p) H1 := fun b z => z.elim (fun z => (hR.same s1).ol b z) fun z => by subst z; exact ⟨xs, e2⟩
    exact ⟨p, xs, rfl, .inl ⟨hR.nofresh n1, .inl e2⟩, IsL.mono (Same.kp (Same.refl H1) _) ol (fun a z _ => .inl z) l xs i1⟩
theorem db_e (h : DE X a f) : DB X a (mAsL f) := by
  refine PE.conseq h fun σ H Q h => ?_
  obtain ⟨O0, r, l, hR, e, q⟩ := h
  obtain ⟨d, e1, e⟩ := bind_some e
  refine ⟨O0, r, d, hR, e1, fun v H1 s1 i1 => ?_⟩
  cases d with
  | lst l' =>
    cases e
    rw [Is.lst_iff] at i1
    obtain ⟨p, xs, rfl, rd, il⟩ := i1
    exact q p xs H1 s1 rd.sq il
  | _ => cases e
end
end
noncomputable def sSkip : MS := fun r => some (.nx r)
noncomputable def sSeq (g h : MS) : MS := fun r => (g r).bind fun fl => match fl with
  | .nx r' => h r'
  | x => some x
noncomputable def setV (i : Nat) (d : D) (r : En) : Option En := match r[i]? with
  | some (.p _) => none
  | some (.z _) => none
  | some _ => some (r.set i (.v d))
  | none => none
noncomputable def setO (i : Nat) (l : List D) (r : En) : Option En := match r[i]? with
  | some (.p _) => none
  | some (.z _) => none
  | some _ => some (r.set i (.o l))
  | none => none
noncomputable def sSet (i : Nat) (f : ME) : MS := fun r => (f r).bind fun d => (setV i d r).map .nx
noncomputable def sOwn (i : Nat) (f : ML) : MS := fun r => (f r).bind fun l => (setO i l r).map .nx
noncomputable def sRet (f : ME) : MS := fun r => (f r).map fun d => .rt d r
noncomputable def sRetOwn (i : Nat) : MS := fun r => match r[i]? with
  | some (.o l) => some (.rf l r)
  | _ => none
noncomputable def sIf (c : MB) (g h : MS) : MS := fun r => (c r).bind fun b => if b = true then g r else h r
noncomputable def sExpr (f : ME) : MS := fun r => (f r).map fun _ => .nx r
noncomputable def sX (f : En → Option (D × En)) : MS := fun r => (f r).map fun p => .nx p.2
noncomputable def sSetX (i : Nat) (f : En → Option (D × En)) : MS := fun r => (f r).bind fun p => (setV i p.1 p.2).map .nx
noncomputable def sRetX (f : En → Option (D × En)) : MS := fun r => (f r).map fun p => .rt p.1 p.2
noncomputable def sWhile : Nat → MB → MS → MS
  | 0, _, _ => fun _ => none
  | n + 1, c, g => fun r => (c r).bind fun b => if b = true then (g r).bind fun fl => match fl with
      | .nx r' => sWhile n c g r'
      | .ct r' => sWhile n c g r'
      | .bk r' => some (.nx r')
      | x => some x
    else some (.nx r)
noncomputable def forL (bd : D → En → Option En) (g : MS) : List D → MS
  | [], r => some (.nx r)
  | d :: l, r => (bd d r).bind fun r1 => (g r1).bind fun fl => match fl with
      | .nx r' => forL bd g l r'
      | .ct r' => forL bd g l r'
      | .bk r' => some (.nx r')
      | x => some x
noncomputable def sFor (bd : D → En → Option En) (it : ML) (g : MS) : MS := fun r => (it r).bind fun l => forL bd g l r
theorem get_set_ne {α : Type} {l : List α} {i j : Nat} {x : α} (h : i ≠ j) : (l.set i x)[j]? = l[j]? := by rw [List.getElem?_set]; simp [h]
theorem get_set_eq {α : Type} {l : List α} {i : Nat} {x : α} (h : i < l.length) : (l.set i x)[i]? = some x := by rw [List.getElem?_set]; simp [h]
section
variable {K : Fg} {O0 : Addr → Prop} {H H1 : Hp} {r : En} {σ : St} {i : Nat} {d : D} {v : V}
theorem own_setv {q : Sl → Option (List D)} (hq : ∀ d, q (.v d) = none) {a : Addr} {x : Option V} (h : AtS q (r.set i (.v d)) (σ.set i x) a) : AtS q r σ a := by
  obtain ⟨j, l, e, q'⟩ := h
  by_cases hj : i = j
  · subst hj
    by_cases hl : i < r.length
    · rw [get_set_eq hl] at e
      have e' : q (.v d) = some l := e
      rw [hq] at e'; cases e'
    · rw [List.getElem?_eq_none (by simpa using hl)] at e; cases e
  · rw [get_set_ne hj] at e q'
    exact ⟨j, l, e, q'⟩
theorem R.setv (h : R K O0 H r σ) (hi : i < r.length) (np : ∀ l, r[i]? ≠ some (.p l) ∧ r[i]? ≠ some (.z l)) (hv : Is K (Ow O0 r σ) H d v) : R K O0 H (r.set i (.v d)) (σ.set i (some v)) ∧ Kp H r σ H (r.set i (.v d)) (σ.set i (some v)) := by
  have his : i < σ.length := by rw [← h.len]; exact hi
  have sub : ∀ a, Ow O0 (r.set i (.v d)) (σ.set i (some v)) a → H a ≠ none → Ow O0 r σ a := fun a z _ => z.elim .inl fun z => .inr (own_setv (fun _ => rfl) z)
  have ne : ∀ (j : Nat) (l : List D), ((r.set i (.v d))[j]?).bind Sl.own = some l → i ≠ j := fun j l e z => by subst z; rw [get_set_eq hi] at e; cases e
  refine ⟨⟨by simp [h.len], fun j d' e => ?_, fun j l e => ?_, fun j k a l m e1 e2 q1 q2 => ?_, h.o0, fun j l a e q => ?_, fun j l a e q => ?_⟩, ⟨fun b o e _ => e, fun b e => e, fun b xs e => ⟨xs, e⟩, fun b z => .inl (own_setv (fun _ => rfl) z), fun b z => .inl (own_setv (fun _ => rfl) z), fun j l e => ?_, fun j l e => ?_⟩⟩
  · by_cases hj : i = j
    · subst hj
      rw [get_set_eq hi] at e; cases e
      exact ⟨v, get_set_eq his, Is.mono (Same.kp (Same.refl H) _) h.ol sub _ _ hv⟩
    · rw [get_set_ne hj] at e
      obtain ⟨u, e1, q⟩ := h.val j d' e
      exact ⟨u, by rw [get_set_ne hj]; exact e1, Is.mono (Same.kp (Same.refl H) _) h.ol sub _ _ q⟩
  · have hj := ne j l e
    rw [get_set_ne hj] at e
    obtain ⟨a, xs, e1, e2, q⟩ := h.own j l e
    exact ⟨a, xs, by rw [get_set_ne hj]; exact e1, e2, IsL.mono (Same.kp (Same.refl H) _) h.ol sub _ _ q⟩
  · have hj := ne j l e1
    have hk := ne k m e2
    rw [get_set_ne hj] at e1 q1
    rw [get_set_ne hk] at e2 q2
    exact h.apart j k a l m e1 e2 q1 q2
  · have hj : i ≠ j := ne j l (by rcases e with e | e <;> rw [e] <;> rfl)
    rw [get_set_ne hj] at e q
    exact h.loc j l a e q
  · have hj : i ≠ j := ne j l (by rw [e]; rfl)
    rw [get_set_ne hj] at e q
    exact h.par j l a e q
  · have hj : i ≠ j := fun z => by subst z; exact (np l).1 e
    exact ⟨⟨l, by rw [get_set_ne hj]; exact e⟩, get_set_ne hj⟩
  · have hj : i ≠ j := fun z => by subst z; exact (np l).2 e
    exact ⟨by rw [get_set_ne hj]; exact e, get_set_ne hj⟩
theorem R.seto {l : List D} {xs : List V} {p : Addr} (h : R K O0 H r σ) (s : Same H H1) (n : H p = none) (e : H1 p = some (.lst xs)) (hl : IsL K (fun b => Ow O0 r σ b ∨ b = p) H1 l xs) (hi : i < r.length) (np : ∀ l, r[i]? ≠ some (.p l) ∧ r[i]? ≠ some (.z l)) :
    R K O0 H1 (r.set i (.o l)) (σ.set i (some (.ref p))) ∧ Kp H r σ H1 (r.set i (.o l)) (σ.set i (some (.ref p))) := by
  have his : i < σ.length := by rw [← h.len]; exact hi
  have ow : ∀ {q : Sl → Option (List D)} a, AtS q (r.set i (.o l)) (σ.set i (some (.ref p))) a → AtS q r σ a ∨ a = p := fun {q} a z => by
    obtain ⟨j, m, e1, q1⟩ := z
    by_cases hj : i = j
    · subst hj
      rw [get_set_eq his] at q1; cases q1; exact .inr rfl
    · rw [get_set_ne hj] at e1 q1
      exact .inl ⟨j, m, e1, q1⟩
  have sub : ∀ a, Ow O0 (r.set i (.o l)) (σ.set i (some (.ref p))) a → H a ≠ none → Ow O0 r σ a := fun a z nn => z.elim .inl fun z => (ow a z).elim .inr fun z => by subst z; exact absurd n nn
  have olp : OLst (fun b => Ow O0 r σ b ∨ b = p) H1 := fun b z => z.elim (fun z => (h.same s).ol b z) fun z => by subst z; exact ⟨xs, e⟩
  refine ⟨⟨by simp [h.len], fun j d' e1 => ?_, fun j m e1 => ?_, fun j k a l1 m e1 e2 q1 q2 => ?_, (h.same s).o0, fun j m a e1 q => ?_, fun j m a e1 q => ?_⟩, ⟨fun b o e1 _ => s b o e1, fun b e1 => s.free e1, fun b ys e1 => ⟨ys, s _ _ e1⟩, fun b z => (ow b z).imp id fun z => by subst z; exact n, fun b z => (ow b z).imp id fun z => by subst z; exact n, fun j m e1 => ?_, fun j m e1 => ?_⟩⟩
  · have hj : i ≠ j := fun z => by subst z; rw [get_set_eq hi] at e1; cases e1
    rw [get_set_ne hj] at e1
    obtain ⟨u, e2, q⟩ := h.val j d' e1
    exact ⟨u, by rw [get_set_ne hj]; exact e2, Is.mono (Same.kp s _) h.ol sub _ _ q⟩
  · by_cases hj : i = j
    · subst hj
      rw [get_set_eq hi] at e1; cases e1
      refine ⟨p, xs, get_set_eq his, e, IsL.mono (Same.kp (Same.refl H1) _) olp (fun a z _ => z.elim (fun z => .inl (.inl z)) fun z => (ow a z).imp .inr id) _ _ hl⟩
    · rw [get_set_ne hj] at e1
      obtain ⟨a, ys, e2, e3, q⟩ := h.own j m e1
      exact ⟨a, ys, by rw [get_set_ne hj]; exact e2, s _ _ e3, IsL.mono (Same.kp s _) h.ol sub _ _ q⟩
  · have out : ∀ (j : Nat) (m : List D) (a : Addr), i ≠ j → ((r.set i (.o l))[j]?).bind Sl.own = some m → (σ.set i (some (.ref p)))[j]? = some (some (.ref a)) → a ≠ p := fun j m a hj e1 q1 z => by
      rw [get_set_ne hj] at e1 q1
      obtain ⟨b, ys, e2, e3, _⟩ := h.own j m e1
      rw [q1] at e2; cases e2
      subst z
      rw [n] at e3; cases e3
    by_cases hj : i = j
    · by_cases hk : i = k
      · exact hj.symm.trans hk
      · subst hj
        rw [get_set_eq his] at q1; cases q1
        exact absurd rfl (out k m p hk e2 q2)
    · by_cases hk : i = k
      · subst hk
        rw [get_set_eq his] at q2; cases q2
        exact absurd rfl (out j l1 p hj e1 q1)
      · rw [get_set_ne hj] at e1 q1
        rw [get_set_ne hk] at e2 q2
        exact h.apart j k a l1 m e1 e2 q1 q2
  · by_cases hj : i = j
    · subst hj
      rw [get_set_eq his] at q; cases q
      exact fun z => by obtain ⟨ys, e3⟩ := h.o0 p z; rw [n] at e3; cases e3
    · rw [get_set_ne hj] at e1 q
      exact h.loc j m a e1 q
  · have hj : i ≠ j := fun z => by subst z; rw [get_set_eq hi] at e1; cases e1
    rw [get_set_ne hj] at e1 q
    exact h.par j m a e1 q
  · have hj : i ≠ j := fun z => by subst z; exact (np m).1 e1
    exact ⟨⟨m, by rw [get_set_ne hj]; exact e1⟩, get_set_ne hj⟩
  · have hj : i ≠ j := fun z => by subst z; exact (np m).2 e1
    exact ⟨by rw [get_set_ne hj]; exact e1, get_set_ne hj⟩
theorem setV_some {r' : En} (e : setV i d r = some r') : i < r.length ∧ (∀ l, r[i]? ≠ some (.p l) ∧ r[i]? ≠ some (.z l)) ∧ r' = r.set i (.v d) := by
  unfold setV at e
  cases e1 : r[i]? with
  | none => rw [e1] at e; cases e
  | some x =>
    have hi : i < r.length := (List.getElem?_eq_some_iff.mp e1).1
    rw [e1] at e
    cases x with
    | p l => cases e
    | z l => cases e
    | _ => cases e; exact ⟨hi, fun l => ⟨(fun z => by cases z), (fun z => by cases z)⟩, rfl⟩
theorem setO_some {r' : En} {l : List D} (e : setO i l r = some r') : i < r.length ∧ (∀ l, r[i]? ≠ some (.p l) ∧ r[i]? ≠ some (.z l)) ∧ r' = r.set i (.o l) := by
  unfold setO at e
  cases e1 : r[i]? with
  | none => rw [e1] at e; cases e
  | some x =>
    have hi : i < r.length := (List.getElem?_eq_some_iff.mp e1).1
    rw [e1] at e
    cases x with
    | p l => cases e
    | z l => cases e
    | _ => cases e; exact ⟨hi, fun l => ⟨(fun z => by cases z), (fun z => by cases z)⟩, rfl⟩
theorem map_some {α β : Type} {o : Option α} {h : α → β} {y : β} (e : o.map h = some y) : ∃ x, o = some x ∧ h x = y := by
  cases o with
  | none => cases e
  | some x => exact ⟨x, rfl, Option.some.inj e⟩
theorem Is.less {O : Addr → Prop} (h : R K O0 H r σ) (hi : Is K (Ow O0 r σ) H1 d v) (s : Same H H1) : Is K O0 H1 d v := Is.mono (Same.kp (Same.refl H1) _) (h.same s).ol (fun _ z _ => .inl z) _ _ hi
end
section
variable {X : Cx} {pos : Pos} {e : Expr} {f : ME} {fl : ML} {g h : MS} {st : Stmt} {rest : List Stmt}
theorem ds_nil : DSs X [] sSkip := PSs.conseq pss_nil fun Dn σ H ⟨O0, r, f', hR, e, q⟩ => by
  unfold sSkip at e; cases e
  exact q σ H hR (Kp.refl H r σ)
theorem ds_cons (h1 : DS X st g) (h2 : DSs X rest h) : DSs X (st :: rest) (sSeq g h) := by
  refine PSs.conseq (pss_cons h1 h2) fun Dn σ H hq => ?_
  obtain ⟨O0, r, fl, hR, e, q⟩ := hq
  obtain ⟨f1, e1, e2⟩ := bind_some e
  cases f1 with
  | nx r1 => exact ⟨O0, r, .nx r1, hR, e1, fun σ' H' R' k => ⟨O0, r1, fl, R', e2, q.before R' k⟩⟩
  | bk r1 => cases e2; exact ⟨O0, r, _, hR, e1, q⟩
  | ct r1 => cases e2; exact ⟨O0, r, _, hR, e1, q⟩
  | rt d r1 => cases e2; exact ⟨O0, r, _, hR, e1, q⟩
  | rf l r1 => cases e2; exact ⟨O0, r, _, hR, e1, q⟩
theorem ds_one (h1 : DS X st g) : DSs X [st] g := pss_one h1
theorem ds_set (i : Nat) {x : Str} {pos' : Pos} (he : DE X e f) (hN : X.N.Nodup) (hi : X.N[i]? = some x := by rfl) (hx : Loc X.env.scope x := by first | exact Or.inl rfl | exact Or.inr rfl) (hs : swapsWith e (some (.Name x pos')) pos.line X.env = pure false := by rfl) (hf : X.fn x = true ∨ X.env.scope.names.lookup x = some .local := by first | exact .inl rfl | exact .inr rfl) :
    DS X (.Assign [.Name x pos'] e pos) (sSet i f) := by
  refine PS.conseq (ps_set hN hi hx he hs hf) fun Dn σ H hq => ?_
  obtain ⟨O0, r, fl, hR, e, q⟩ := hq
  obtain ⟨d, e1, e2⟩ := bind_some e
  obtain ⟨r', e3, rfl⟩ := map_some e2
  obtain ⟨hl, np, rfl⟩ := setV_some e3
  refine ⟨O0, r, d, hR, e1, fun v H1 s1 i1 => ?_⟩
  obtain ⟨R1, k1⟩ := (hR.same s1).setv hl np i1
  exact q _ H1 R1 ((Kp.of_same r σ s1).trans k1)
theorem ds_own (i : Nat) {x : Str} {pos' : Pos} (he : DF X e fl) (hN : X.N.Nodup) (hi : X.N[i]? = some x := by rfl) (hx : Loc X.env.scope x := by first | exact Or.inl rfl | exact Or.inr rfl) (hs : swapsWith e (some (.Name x pos')) pos.line X.env = pure false := by rfl) (hf : X.fn x = true ∨ X.env.scope.names.lookup x = some .local := by first | exact .inl rfl | exact .inr rfl) :
    DS X (.Assign [.Name x pos'] e pos) (sOwn i fl) := by
  refine PS.conseq (ps_set hN hi hx he hs hf) fun Dn σ H hq => ?_
  obtain ⟨O0, r, fl', hR, e, q⟩ := hq
  obtain ⟨l, e1, e2⟩ := bind_some e
  obtain ⟨r', e4, rfl⟩ := map_some e2
  obtain ⟨hl, np, rfl⟩ := setO_some e4
  refine ⟨O0, r, l, hR, e1, fun p xs H1 s1 n1 e3 i1 => ?_⟩
  obtain ⟨R1, k1⟩ := hR.seto s1 n1 e3 i1 hl np
  exact q _ H1 R1 k1
theorem ds_ret (he : DE X e f) : DS X (.Return (some e) pos) (sRet f) := by
  refine PS.conseq (ps_ret he) fun Dn σ H hq => ?_
  obtain ⟨O0, r, fl, hR, e, q⟩ := hq
  obtain ⟨d, e1, rfl⟩ := map_some e
  exact ⟨O0, r, d, hR, e1, fun v H1 s1 i1 => q v σ H1 (hR.same s1) (Kp.of_same r σ s1) (Is.less (O := O0) hR i1 s1)⟩
theorem ds_retOwn (i : Nat) {x : Str} {pos' : Pos} (h : PE X (.Name x pos') (tVar i)) : DS X (.Return (some (.Name x pos')) pos) (sRetOwn i) := by
  refine PS.conseq (ps_ret h) fun Dn σ H hq => ?_
  obtain ⟨O0, r, fl', hR, e, q⟩ := hq
  unfold sRetOwn at e
  have ⟨l, e1, e2⟩ : ∃ l, r[i]? = some (.o l) ∧ fl' = .rf l r := by
    split at e
    · rename_i l h; cases e; exact ⟨l, h, rfl⟩
    · cases e
  subst e2
  obtain ⟨a, xs, q1, q2, q3⟩ := hR.own i l (by rw [e1]; rfl)
  refine ⟨.ref a, q1, q a xs σ H hR (Kp.refl H r σ) (.inr ⟨i, l, e1, q1⟩) (hR.loc i l a (.inl e1) q1) q2 ?_⟩
  exact IsL.mono (Same.kp (Same.refl H) _) hR.ol (fun b z _ => z.elim .inl fun z => by subst z; exact .inr ⟨i, l, by rw [e1]; rfl, q1⟩) _ _ q3
theorem ds_if {c : Expr} {sa sb : List Stmt} {tc : MB} (hc : DT X c tc) (ha : DSs X sa g) (hb : DSs X sb h) : DS X (.If c sa sb pos) (sIf tc g h) := by
  refine PS.conseq (ps_if hc ha hb) fun Dn σ H hq => ?_
  obtain ⟨O0, r, fl', hR, e, q⟩ := hq
  obtain ⟨k, e1, e2⟩ := bind_some e
  refine ⟨O0, r, k, hR, e1, fun H1 s1 => ?_⟩
  have R1 := hR.same s1
  have q1 := PostS.before R1 (Kp.of_same r σ s1) q
  cases k with
  | true => rw [if_pos rfl] at e2; exact iteT ⟨O0, r, fl', R1, e2, q1⟩
  | false => rw [if_neg Bool.false_ne_true] at e2; exact iteF ⟨O0, r, fl', R1, e2, q1⟩
theorem ds_expr (he : DE X e f) (hs : swapsWith e none pos.line X.env = pure false := by rfl) : DS X (.Expr e pos) (sExpr f) := by
  refine PS.conseq (ps_expr he hs) fun Dn σ H hq => ?_
  obtain ⟨O0, r, fl', hR, e, q⟩ := hq
  obtain ⟨d, e1, rfl⟩ := map_some e
  exact ⟨O0, r, d, hR, e1, fun v H1 s1 i1 => q σ H1 (hR.same s1) (Kp.of_same r σ s1)⟩
theorem ds_x {fx : En → Option (D × En)} (he : DX X e fx) (hs : swapsWith e none pos.line X.env = pure false := by rfl) : DS X (.Expr e pos) (sX fx) := by
  refine PS.conseq (ps_expr he hs) fun Dn σ H hq => ?_
  obtain ⟨O0, r, fl', hR, e, q⟩ := hq
  obtain ⟨⟨d, r'⟩, e1, rfl⟩ := map_some e
  exact ⟨O0, r, d, r', hR, e1, fun v H1 R1 k1 i1 => q σ H1 R1 k1⟩
theorem ds_setX (i : Nat) {x : Str} {pos' : Pos} {fx : En → Option (D × En)} (he : DX X e fx) (hN : X.N.Nodup) (hi : X.N[i]? = some x := by rfl) (hx : Loc X.env.scope x := by first | exact Or.inl rfl | exact Or.inr rfl) (hs : swapsWith e (some (.Name x pos')) pos.line X.env = pure false := by rfl) (hf : X.fn x = true ∨ X.env.scope.names.lookup x = some .local := by first | exact .inl rfl | exact .inr rfl) :
    DS X (.Assign [.Name x pos'] e pos) (sSetX i fx) := by
  refine PS.conseq (ps_set hN hi hx he hs hf) fun Dn σ H hq => ?_
  obtain ⟨O0, r, fl, hR, e, q⟩ := hq
  obtain ⟨⟨d, r1⟩, e1, e2⟩ := bind_some e
  obtain ⟨r', e3, rfl⟩ := map_some e2
  obtain ⟨hl, np, rfl⟩ := setV_some e3
  refine ⟨O0, r, d, r1, hR, e1, fun v H1 R1 k1 i1 => ?_⟩
  obtain ⟨R2, k2⟩ := R1.setv hl np i1
  exact q _ H1 R2 (k1.trans k2)
theorem ds_retX {fx : En → Option (D × En)} (he : DX X e fx) : DS X (.Return (some e) pos) (sRetX fx) := by
  refine PS.conseq (ps_ret he) fun Dn σ H hq => ?_
  obtain ⟨O0, r, fl, hR, e, q⟩ := hq
  obtain ⟨⟨d, r1⟩, e1, rfl⟩ := map_some e
  exact ⟨O0, r, d, r1, hR, e1, fun v H1 R1 k1 i1 => q v σ H1 R1 k1 (Is.less (O := O0) R1 i1 (Same.refl H1))⟩
theorem ds_while (n : Nat) {c : Expr} {body : List Stmt} {tc : MB} (hp : PassesOwn (model X.prog X.w) X.A X.env X.xe) (hc : DT X c tc) (hb : DSs X body g) : DS X (.While c body [] pos) (sWhile n tc g) := by
  refine PS.conseq (ps_while hp hc hb) fun Dn σ H hq => ?_
  obtain ⟨O0, r, fl, hR, e, q⟩ := hq
  refine ⟨fun m σ1 H1 => ∃ r1, R X.K O0 H1 r1 σ1 ∧ Kp H r σ H1 r1 σ1 ∧ sWhile m tc g r1 = some fl, ⟨n, r, hR, Kp.refl H r σ, e⟩, ?_⟩
  rintro m σ1 H1 ⟨r1, R1, k1, e1⟩
  cases m with
  | zero => cases e1
  | succ m =>
    obtain ⟨b, e2, e3⟩ := bind_some e1
    refine ⟨O0, r1, b, R1, e2, fun H2 s2 => ?_⟩
    have R2 := R1.same s2
    have k2 := k1.trans (Kp.of_same r1 σ1 s2)
    cases b with
    | false =>
      rw [if_neg Bool.false_ne_true] at e3
      cases e3
      exact iteF (q σ1 H2 R2 k2)
    | true =>
      rw [if_pos rfl] at e3
      obtain ⟨f1, e4, e5⟩ := bind_some e3
      refine iteT ⟨fun σ3 H3 => ∃ r3, R X.K O0 H3 r3 σ3 ∧ Kp H r σ H3 r3 σ3 ∧ sWhile m tc g r3 = some fl, fun σ3 H3 z => ⟨m, Nat.lt_succ_self m, z⟩, O0, r1, f1, R2, e4, ?_⟩
      cases f1 with
      | nx r3 => exact fun σ3 H3 R3 k3 => ⟨r3, R3, k2.trans k3, e5⟩
      | ct r3 => exact fun σ3 H3 R3 k3 => ⟨r3, R3, k2.trans k3, e5⟩
      | bk r3 => cases e5; exact fun σ3 H3 R3 k3 => q σ3 H3 R3 (k2.trans k3)
      | rt d r3 => cases e5; exact PostS.before R2 k2 q
      | rf l r3 => cases e5; exact PostS.before R2 k2 q
end
noncomputable def lG (K : Fg) (bd : D → En → Option En) : TG := fun v σ H Q => ∃ O0 r d r', R K O0 H r σ ∧ Is K (Ow O0 r σ) H d v ∧ bd d r = some r' ∧ ∀ σ', R K O0 H r' σ' → Kp H r σ H r' σ' → Q σ' H
noncomputable def DG (X : Cx) (tg : Expr) (bd : D → En → Option En) : Prop := PG X tg (lG X.K bd)
noncomputable def Ylds (K : Fg) (O M : Addr → Prop) (H0 : Hp) (J : It) (l : List D) : Prop := ∀ (i : Nat) (H : Hp) (O' : Addr → Prop), Keep M H0 H → (∀ a, O' a → H0 a ≠ none → O a) →
  (i < l.length → J.go i H ∧ ∀ x H', J.yld i H x H' → Same H H' ∧ ∀ d, l[i]? = some d → Is K O' H' d x) ∧ (i = l.length → J.stop i H)
noncomputable def lI (K : Fg) (it : ML) : TI := fun σ H Rr => ∃ O0 r l, R K O0 H r σ ∧ it r = some l ∧ ∀ J H', Same H H' → Ylds K (Ow O0 r σ) (MutAt r σ) H' J l → Rr J H'
noncomputable def DI (X : Cx) (tg iter : Expr) (it : ML) : Prop := PI X tg iter (lI X.K it)
theorem PG.conseq {X : Cx} {e : Expr} {t t' : TG} (h : PG X e t) (i : ∀ v σ H Q, t' v σ H Q → t v σ H Q) : PG X e t' := fun pins s σ H v u Q I r q => h pins s σ H v u Q I r (i v σ H Q q)
theorem PI.conseq {X : Cx} {tg e : Expr} {t t' : TI} (h : PI X tg e t) (i : ∀ σ H Q, t' σ H Q → t σ H Q) : PI X tg e t' := fun pins s σ H Q I q => h pins s σ H Q I (i σ H Q q)
theorem drop_cons {α : Type} {l : List α} {i : Nat} {d : α} (h : l[i]? = some d) : l.drop i = d :: l.drop (i + 1) := by
  obtain ⟨lt, eq⟩ := List.getElem?_eq_some_iff.mp h
  rw [← eq, List.drop_eq_getElem_cons lt]
section
variable {X : Cx} {pos : Pos} {tg iter : Expr} {bd : D → En → Option En} {it : ML} {g : MS} {body : List Stmt}
theorem ds_for (hp : PassesOwn (model X.prog X.w) X.A X.env X.xe) (hc : X.calm = true) (hi : DI X tg iter it) (hg : DG X tg bd) (hb : DSs X body g) (hs : ∀ x, foldedSetIterable iter X.env x = pure x := by intro _; rfl) :
    DS X (.For tg iter body [] pos) (sFor bd it g) := by
  refine PS.conseq (ps_for hp hc hi hg hb hs) fun Dn σ H hq => ?_
  obtain ⟨O0, r, fl, hR, e, q⟩ := hq
  obtain ⟨l, e1, e2⟩ := bind_some e
  refine ⟨O0, r, l, hR, e1, fun J H0 s0 yl => ?_⟩
  have R0 := hR.same s0
  refine ⟨fun i m σ1 H1 => m = l.length - i ∧ i ≤ l.length ∧ ∃ r1, R X.K O0 H1 r1 σ1 ∧ Kp H0 r σ H1 r1 σ1 ∧ forL bd g (l.drop i) r1 = some fl, ⟨l.length, by simp, Nat.zero_le _, r, R0, Kp.refl H0 r σ, by simpa using e2⟩, ?_⟩
  rintro i m σ1 H1 ⟨rfl, hil, r1, R1, k1, e3⟩
  have k0 := (Kp.of_same r σ s0).trans k1
  obtain ⟨y1, y2⟩ := yl i H1 (Ow O0 r1 σ1) k1.keep fun a z n => z.elim .inl fun z => (k1.new a z).elim .inr fun z => absurd z n
  by_cases hlt : i < l.length
  · obtain ⟨go, yd⟩ := y1 hlt
    have hd : l[i]? = some l[i] := by simp [hlt]
    rw [drop_cons hd] at e3
    obtain ⟨r2, e4, e5⟩ := bind_some e3
    obtain ⟨f1, e6, e7⟩ := bind_some e5
    refine .inr ⟨go, fun σ3 H3 => ∃ r3, R X.K O0 H3 r3 σ3 ∧ Kp H0 r σ H3 r3 σ3 ∧ forL bd g (l.drop (i + 1)) r3 = some fl, fun σ3 H3 z => ⟨l.length - (i + 1), by omega, rfl, hlt, z⟩, fun x H2 yx => ?_⟩
    obtain ⟨s2, ix⟩ := yd x H2 yx
    have R2 := R1.same s2
    refine ⟨O0, r1, l[i], r2, R2, ix _ hd, e4, fun σ2 R2' k2 => ⟨O0, r2, f1, R2', e6, ?_⟩⟩
    have k3 := (k1.trans (Kp.of_same r1 σ1 s2)).trans k2
    have k4 := (k0.trans (Kp.of_same r1 σ1 s2)).trans k2
    cases f1 with
    | nx r3 => exact fun σ3 H3 R3 kk => ⟨r3, R3, k3.trans kk, e7⟩
    | ct r3 => exact fun σ3 H3 R3 kk => ⟨r3, R3, k3.trans kk, e7⟩
    | bk r3 => cases e7; exact fun σ3 H3 R3 kk => q σ3 H3 R3 (k4.trans kk)
    | rt d r3 => cases e7; exact PostS.before R2' k4 q
    | rf l' r3 => cases e7; exact PostS.before R2' k4 q
  · have hl : l.drop i = [] := List.drop_eq_nil_of_le (by omega)
    rw [hl] at e3
    cases e3
    exact .inl ⟨y2 (by omega), q σ1 H1 R1 k0⟩
theorem dg_name (i : Nat) {x : Str} (hN : X.N.Nodup) (hi : X.N[i]? = some x := by rfl) (hx : Loc X.env.scope x := by first | exact Or.inl rfl | exact Or.inr rfl) (hf : X.fn x = true ∨ X.env.scope.names.lookup x = some .local := by first | exact .inl rfl | exact .inr rfl) : DG X (.Name x pos) (setV i) := by
  refine PG.conseq (pg_name hN hi hx hf) fun v σ H Q h => ?_
  obtain ⟨O0, r, d, r', hR, iv, e, q⟩ := h
  obtain ⟨hl, np, rfl⟩ := setV_some e
  obtain ⟨R1, k1⟩ := hR.setv hl np iv
  exact q _ R1 k1
end
inductive Rs where
  | v (d : D) | f (l : List D)
noncomputable abbrev MF := List Sl → Option (Rs × List Sl)
structure PostF (K : Fg) (O0 : Addr → Prop) (H : Hp) (as : List Sl) (vs : List V) (H' : Hp) (as' : List Sl) : Prop where
  keep : Keep (MutAt as (vs.map some)) H H'
  live : ∀ b, H' b = none → H b = none
  lst : ∀ b xs, H b = some (.lst xs) → ∃ ys, H' b = some (.lst ys)
  par : ∀ (i : Nat) (l : List D), as[i]? = some (.p l) → ∃ l' a xs, as'[i]? = some (.p l') ∧ vs[i]? = some (.ref a) ∧ H' a = some (.lst xs) ∧ IsL K O0 H' l' xs
noncomputable def RsP (K : Fg) (O0 : Addr → Prop) (H : Hp) (as : List Sl) (vs : List V) (as' : List Sl) (Q : VK) : Rs → Prop
  | .v d => ∀ v H', PostF K O0 H as vs H' as' → Is K O0 H' d v → Q v H'
  | .f l => ∀ a xs H', PostF K O0 H as vs H' as' → H a = none → H' a = some (.lst xs) → IsL K (fun b => O0 b ∨ b = a) H' l xs → Q (.ref a) H'
noncomputable def spD (K : Fg) (n : Nat) (m : MF) : Sp := fun vs H Q _ => ∃ O0 as rs as', as.length = n ∧ R K O0 H as (vs.map some) ∧ (∀ (i : Nat) (l : List D), as[i]? ≠ some (.o l) ∧ as[i]? ≠ some (.z l)) ∧ m as = some (rs, as') ∧ RsP K O0 H as vs as' Q rs
noncomputable def mkF (n N : Nat) (g : MS) : MF := fun as => (g (as ++ List.replicate (N - n) .un)).bind fun fl => match fl with
  | .rt d r' => some (.v d, r'.take n)
  | .rf l r' => some (.f l, r'.take n)
  | .nx r' => some (.v .non, r'.take n)
  | _ => none
section
variable {P : Program} {w : World} {K : Fg} {mg : Str → Option Value} {base : Heap}
theorem own_start {q : Sl → Option (List D)} (hq : q .un = none) {as : List Sl} {vs : List V} {k n : Nat} {a : Addr} (hl : as.length = vs.length) : AtS q (as ++ List.replicate k .un) (vs.map some ++ List.replicate n none) a ↔ AtS q as (vs.map some) a := by
  constructor
  · rintro ⟨i, l, e, q'⟩
    by_cases hi : i < as.length
    · rw [List.getElem?_append_left hi] at e
      rw [List.getElem?_append_left (by simp; omega)] at q'
      exact ⟨i, l, e, q'⟩
    · rw [List.getElem?_append_right (by omega), List.getElem?_replicate] at e
      split at e
      · have e' : q .un = some l := e
        rw [hq] at e'; cases e'
      · cases e
  · rintro ⟨i, l, e, q'⟩
    have hi : i < as.length := by
      cases e1 : as[i]? with
      | none => rw [e1] at e; cases e
      | some x => exact (List.getElem?_eq_some_iff.mp e1).1
    exact ⟨i, l, by rw [List.getElem?_append_left hi]; exact e, by rw [List.getElem?_append_left (by simp; omega)]; exact q'⟩
theorem R.start {O0 : Addr → Prop} {H : Hp} {as : List Sl} {vs : List V} {k : Nat} (h : R K O0 H as (vs.map some)) : R K O0 H (as ++ List.replicate k .un) (vs.map some ++ List.replicate k none) := by
  have hl : as.length = vs.length := by simpa using h.len
  have own : ∀ a, Ow O0 (as ++ List.replicate k .un) (vs.map some ++ List.replicate k none) a → H a ≠ none → Ow O0 as (vs.map some) a := fun a z _ => z.imp id (own_start rfl hl).mp
  have pre : ∀ (i : Nat) (x : Sl), (as ++ List.replicate k .un)[i]? = some x → x ≠ .un → as[i]? = some x ∧ (vs.map some ++ List.replicate k none)[i]? = (vs.map some)[i]? := fun i x e n => by
    by_cases hi : i < as.length
    · rw [List.getElem?_append_left hi] at e
      exact ⟨e, List.getElem?_append_left (by simp; omega)⟩
    · rw [List.getElem?_append_right (by omega), List.getElem?_replicate] at e
      split at e
      · cases e; exact absurd rfl n
      · cases e
  have preO : ∀ (i : Nat) (l : List D), ((as ++ List.replicate k .un)[i]?).bind Sl.own = some l → (as[i]?).bind Sl.own = some l ∧ (vs.map some ++ List.replicate k none)[i]? = (vs.map some)[i]? := fun i l e => by
    cases e1 : (as ++ List.replicate k .un)[i]? with
    | none => rw [e1] at e; cases e
    | some x =>
      obtain ⟨q1, q2⟩ := pre i x e1 (by rintro rfl; rw [e1] at e; cases e)
      rw [e1] at e
      exact ⟨by rw [q1]; exact e, q2⟩
  refine ⟨by simp [hl], fun i d e => ?_, fun i l e => ?_, fun i j a l m e1 e2 q1 q2 => ?_, h.o0, fun i l a e q => ?_, fun i l a e q => ?_⟩
  · obtain ⟨q1, q2⟩ := pre i _ e (by intro z; cases z)
    obtain ⟨v, e3, q3⟩ := h.val i d q1
    exact ⟨v, q2.trans e3, Is.mono (Same.kp (Same.refl H) _) h.ol own _ _ q3⟩
  · obtain ⟨q1, q2⟩ := preO i l e
    obtain ⟨a, xs, e3, e4, q3⟩ := h.own i l q1
    exact ⟨a, xs, q2.trans e3, e4, IsL.mono (Same.kp (Same.refl H) _) h.ol own _ _ q3⟩
  · obtain ⟨p1, p2⟩ := preO i l e1
    obtain ⟨p3, p4⟩ := preO j m e2
    exact h.apart i j a l m p1 p3 (p2 ▸ q1) (p4 ▸ q2)
  · rcases e with e | e
    · obtain ⟨p1, p2⟩ := pre i _ e (by intro z; cases z)
      exact h.loc i l a (.inl p1) (p2 ▸ q)
    · obtain ⟨p1, p2⟩ := pre i _ e (by intro z; cases z)
      exact h.loc i l a (.inr p1) (p2 ▸ q)
  · obtain ⟨p1, p2⟩ := pre i _ e (by intro z; cases z)
    exact h.par i l a p1 (p2 ▸ q)
theorem fn_d {x qual : Str} {st : Stmt} {f : Addr} {fd : FuncData} {N ps : List Str} {k : Nat} {g : MS} (F : Fun K x qual st f fd) (S : FnScope N ps (defScope st)) (n : Nat) (nN : Nat) (hn : ps.length = n := by rfl) (hN : N.length = nN := by rfl)
    (hb : ∀ (cdv : Value) (A : Around) (outer : List Env) (s : Shared) (H : Hp) (E : XK), Room k (A.deeper (envOfC qual (defScope st) s.heap.objs.size f cdv)) →
      DSs (cxOf CX0 P w K mg base N qual (defScope st) f cdv A outer s H E).nox (defBody st) g) : FnOk P w K mg base CX0 (k + 1) f fd ps (spD K n (mkF n nN g)) := by
  subst hn hN
  refine F.ok S (fun vs H Q E h => ?_) (fun cdv A outer s H vs Q E hr h => ?_)
  · obtain ⟨O0, as, rs, as', hl, hR, _⟩ := h
    have := hR.len
    simp at this; omega
  · obtain ⟨O0, as, rs, as', hl, hR, no, e, q⟩ := h
    have hlv : as.length = vs.length := by simpa using hR.len
    refine ⟨_, hb cdv A outer s H E hr, ?_⟩
    obtain ⟨fl, e1, e2⟩ := bind_some e
    have hst : L2.start N vs = vs.map some ++ List.replicate (N.length - ps.length) none := by unfold L2.start; rw [← hlv, hl]
    rw [hst]
    have R0 := R.start (k := N.length - ps.length) hR
    have fin : ∀ (σ' : St) (H' : Hp) (r' : En), R K O0 H' r' σ' → Kp H (as ++ List.replicate (N.length - ps.length) .un) (vs.map some ++ List.replicate (N.length - ps.length) none) H' r' σ' → PostF K O0 H as vs H' (r'.take ps.length) := fun σ' H' r' R' k' => by
      refine ⟨fun b o eb nb => k'.keep b o eb fun z => nb ((own_start rfl hlv).mp z), k'.live, k'.lst, fun i l ei => ?_⟩
      have hi : i < as.length := (List.getElem?_eq_some_iff.mp ei).1
      obtain ⟨⟨l', e3⟩, e4⟩ := k'.par i l (by rw [List.getElem?_append_left hi]; exact ei)
      rw [List.getElem?_append_left (by simp; omega)] at e4
      obtain ⟨a, xs, e5, e6, e7⟩ := R'.own i l' (by rw [e3]; rfl)
      rw [e4] at e5
      have ev : vs[i]? = some (.ref a) := by
        rw [List.getElem?_map] at e5
        cases e8 : vs[i]? with
        | none => rw [e8] at e5; cases e5
        | some y => rw [e8] at e5; cases e5; rfl
      exact ⟨l', a, xs, by rw [List.getElem?_take_of_lt (by omega)]; exact e3, ev, e6, IsL.mono (Same.kp (Same.refl H') _) R'.ol (fun _ z _ => .inl z) _ _ e7⟩
    refine ⟨O0, _, fl, R0, e1, ?_⟩
    cases fl with
    | nx r' => cases e2; exact fun σ' H' R' k' => q .non H' (fin σ' H' r' R' k') (by rw [Is.non_iff])
    | bk r' => cases e2
    | ct r' => cases e2
    | rt d r' => cases e2; exact fun v σ' H' R' k' i' => q v H' (fin σ' H' r' R' k') i'
    | rf l r' =>
      cases e2
      refine fun a xs σ' H' R' k' fr no0 ea il => q a xs H' (fin σ' H' r' R' k') ?_ ea il
      rcases fr with z | ⟨i, m, ei, _⟩
      · exact z
      · exfalso
        by_cases hi : i < as.length
        · rw [List.getElem?_append_left hi] at ei; exact (no i m).1 ei
        · rw [List.getElem?_append_right (by omega), List.getElem?_replicate] at ei
          split at ei <;> cases ei
theorem fn_0 {f : Addr} {fd : FuncData} {ps : List Str} {k : Nat} (n : Nat) : FnOk P w K mg base CX0 k f fd ps (spD K n fun _ => none) :=
  ⟨(fun vs H Q E h => by obtain ⟨_, _, _, _, _, _, _, e, _⟩ := h; cases e), (fun A outer s H args us vs Q E _ _ _ _ h => by obtain ⟨_, _, _, _, _, _, _, e, _⟩ := h; cases e)⟩
end
noncomputable def rsD : Rs → D
  | .v d => d
  | .f l => .lst l
noncomputable def mCall (n : Nat) (m : MF) (fs : ML) : ME := fun r => (fs r).bind fun ds => if ds.length = n then (m (ds.map .v)).map fun p => rsD p.1 else none
noncomputable def mCallF (n : Nat) (m : MF) (fs : ML) : ML := fun r => (fs r).bind fun ds => if ds.length = n then (m (ds.map .v)).bind fun p => match p.1 with
  | .f l => some l
  | _ => none
  else none
section
variable {K : Fg}
theorem R.args {O : Addr → Prop} {H : Hp} {ds : List D} {vs : List V} (ol : OLst O H) (h : IsL K O H ds vs) : R K O H (ds.map .v) (vs.map some) := by
  have no : ∀ (i : Nat) (l : List D), ((ds.map Sl.v)[i]?).bind Sl.own ≠ some l := fun i l e => by
    rw [List.getElem?_map] at e
    cases e1 : ds[i]? with
    | none => rw [e1] at e; cases e
    | some x => rw [e1] at e; cases e
  refine ⟨by simp [h.length], fun i d e => ?_, fun i l e => absurd e (no i l), fun i j a l m e1 => absurd e1 (no i l), ol, fun i l a e => absurd (show ((ds.map Sl.v)[i]?).bind Sl.own = some l by rcases e with e | e <;> rw [e] <;> rfl) (no i l), fun i l a e => absurd (show ((ds.map Sl.v)[i]?).bind Sl.own = some l by rw [e]; rfl) (no i l)⟩
  rw [List.getElem?_map] at e
  cases e1 : ds[i]? with
  | none => rw [e1] at e; cases e
  | some x =>
    rw [e1] at e; cases e
    obtain ⟨v, e2, q⟩ := h.get e1
    exact ⟨v, by rw [List.getElem?_map, e2]; rfl, Is.mono (Same.kp (Same.refl H) _) ol (fun a z _ => z.elim id fun ⟨j, l, ej, _⟩ => absurd ej (no j l)) _ _ q⟩
theorem own_none {ds : List D} {σ : St} {a : Addr} : ¬ MutAt (ds.map .v) σ a := fun ⟨i, l, e, _⟩ => by
  rw [List.getElem?_map] at e
  cases e1 : ds[i]? with
  | none => rw [e1] at e; cases e
  | some x => rw [e1] at e; cases e
theorem PostF.same {O0 : Addr → Prop} {H H' : Hp} {ds : List D} {vs : List V} {as' : List Sl} (h : PostF K O0 H (ds.map .v) vs H' as') : Same H H' := fun b o e => h.keep b o e own_none
end
section
variable {X : Cx} {k n : Nat} {f : Addr} {fd : FuncData} {ps : List Str} {m : MF} {x : Str} {p pos : Pos} {e : Expr} {es : List Expr} {fs : ML}
theorem sp_pure {O0 : Addr → Prop} {r : En} {σ : St} {H H1 : Hp} {ds : List D} {vs : List V} {rs : Rs} {as' : List Sl} {Q : VK} {E : XK} (hR : R X.K O0 H r σ) (s1 : Same H H1) (il : IsL X.K (Ow O0 r σ) H1 ds vs) (hl : ds.length = n) (em : m (ds.map .v) = some (rs, as'))
    (q : RsP X.K (Ow O0 r σ) H1 (ds.map .v) vs as' Q rs) : spD X.K n m (vs ++ []) H1 Q E := by
  rw [List.append_nil]
  refine ⟨Ow O0 r σ, ds.map .v, rs, as', by simpa using hl, R.args (hR.same s1).ol il, fun i l => ?_, em, q⟩
  rw [List.getElem?_map]
  cases e1 : ds[i]? with
  | none => exact ⟨(fun z => by cases z), (fun z => by cases z)⟩
  | some y => exact ⟨(fun z => by cases z), (fun z => by cases z)⟩
theorem de_call (F : FnOk X.prog X.w X.K X.mg X.base CX0 k f fd ps (spD X.K n m)) (hr : Room k X.A) (hg : Gl X x) (hm : X.mg x = some (.ref f)) (hk : PySem.W.keepIn X.K (.ref f) = true) (hb : Binds X.K fd ps []) (ha : DA X (e :: es) fs)
    (hdb : (x == ("__debug__" : Str)) = false := by decide) (he : starEach (e :: es) X.env = (false, eval e X.env) :: starEach es X.env := by rfl) (hpl : (backTo pos (starEach es X.env)).any (·.1) = false := by rfl) :
    DE X (.Call (.Name x p) (e :: es) [] pos) (mCall n m fs) := by
  refine PE.conseq (pe_call (E := fun _ _ _ => False) (dvs := []) F hr hg hm hk hb .nil pass0 ha hdb he hpl) fun σ H Q h => ?_
  obtain ⟨O0, r, d, hR, e, q⟩ := h
  obtain ⟨ds, e1, e2⟩ := bind_some e
  split at e2
  · rename_i hl
    obtain ⟨⟨rs, as'⟩, e3, rfl⟩ := map_some e2
    refine ⟨O0, r, ds, hR, e1, fun vs H1 s1 il => sp_pure hR s1 il hl e3 ?_⟩
    cases rs with
    | v d => exact fun v H2 pf iv => q v H2 (s1.trans pf.same) iv
    | f l =>
      refine fun a xs H2 pf na ea il2 => q _ H2 (s1.trans pf.same) ?_
      have R1 := hR.same s1
      have olp : OLst (fun b => Ow O0 r σ b ∨ b = a) H2 := fun b z => z.elim (fun z => (R1.same pf.same).ol b z) fun z => by subst z; exact ⟨xs, ea⟩
      show Is X.K (Ow O0 r σ) H2 (.lst l) (.ref a)
      rw [Is.lst_iff]
      exact ⟨a, xs, rfl, .inl ⟨R1.nofresh na, .inl ea⟩, IsL.mono (Same.kp (Same.refl H2) _) olp (fun _ z _ => .inl z) _ _ il2⟩
  · cases e2
theorem df_call (F : FnOk X.prog X.w X.K X.mg X.base CX0 k f fd ps (spD X.K n m)) (hr : Room k X.A) (hg : Gl X x) (hm : X.mg x = some (.ref f)) (hk : PySem.W.keepIn X.K (.ref f) = true) (hb : Binds X.K fd ps []) (ha : DA X (e :: es) fs)
    (hdb : (x == ("__debug__" : Str)) = false := by decide) (he : starEach (e :: es) X.env = (false, eval e X.env) :: starEach es X.env := by rfl) (hpl : (backTo pos (starEach es X.env)).any (·.1) = false := by rfl) :
    DF X (.Call (.Name x p) (e :: es) [] pos) (mCallF n m fs) := by
  refine PE.conseq (pe_call (E := fun _ _ _ => False) (dvs := []) F hr hg hm hk hb .nil pass0 ha hdb he hpl) fun σ H Q h => ?_
  obtain ⟨O0, r, l, hR, e, q⟩ := h
  obtain ⟨ds, e1, e2⟩ := bind_some e
  split at e2
  · rename_i hl
    obtain ⟨⟨rs, as'⟩, e3, e4⟩ := bind_some e2
    refine ⟨O0, r, ds, hR, e1, fun vs H1 s1 il => sp_pure hR s1 il hl e3 ?_⟩
    cases rs with
    | v d => cases e4
    | f l' => cases e4; exact fun a xs H2 pf na ea il2 => q a xs H2 (s1.trans pf.same) (s1.free na) ea il2
  · cases e2
end
section
variable {X : Cx} {tg l : Expr} {f : ME} {p pos : Pos}
noncomputable def itemsD : D → Option (List D)
  | .lst l => some l
  | .tup l => some l
  | _ => none
noncomputable def mIt (f : ME) : ML := fun r => (f r).bind itemsD
theorem get_of_lt {l : List D} {i : Nat} (h : i < l.length) : ∃ d, l[i]? = some d := ⟨l[i], by simp [h]⟩
theorem yl_list {K : Fg} {O M : Addr → Prop} (mo : ∀ a, M a → O a) {H : Hp} {a : Addr} {xs : List V} {ds : List D} (ol : OLst O H) (rd : ∀ H1, Keep M H H1 → SqL K H1 a xs) (il : IsL K O H ds xs): Ylds K O M H (Itl K a) ds := by
  intro i H1 O' kp oo
  have kp' : Keep O H H1 := fun b o e n => kp b o e fun z => n (mo b z)
  have rd1 : SqL K H1 a xs := rd H1 kp
  refine ⟨fun hi => ⟨?_, fun x H' y => ?_⟩, fun hi => ⟨xs, rd1, by rw [← il.length]; exact Nat.le_of_eq hi.symm⟩⟩
  · obtain ⟨d, e⟩ := get_of_lt hi
    obtain ⟨v, e1, _⟩ := il.get e
    exact ⟨xs, v, rd1, e1⟩
  · obtain ⟨rfl, y⟩ := y
    refine ⟨Same.refl _, fun d e => ?_⟩
    obtain ⟨v, e1, q⟩ := il.get e
    have := y xs rd1
    rw [e1] at this; cases this
    exact Is.mono kp' ol oo _ _ q
theorem yl_tup {K : Fg} {O M : Addr → Prop} (mo : ∀ a, M a → O a) {H : Hp} {a : Addr} {xs : List V} {ds : List D} (ol : OLst O H) (rd : SqT K H a xs) (il : IsL K O H ds xs) : Ylds K O M H (Itt K a) ds := by
  intro i H1 O' kp oo
  have kp' : Keep O H H1 := fun b o e n => kp b o e fun z => n (mo b z)
  have rd1 : SqT K H1 a xs := SqT.keep kp' ol rd
  refine ⟨fun hi => ⟨?_, fun x H' y => ?_⟩, fun hi => ⟨xs, rd1, by rw [← il.length]; exact Nat.le_of_eq hi.symm⟩⟩
  · obtain ⟨d, e⟩ := get_of_lt hi
    obtain ⟨v, e1, _⟩ := il.get e
    exact ⟨xs, v, rd1, e1⟩
  · obtain ⟨rfl, y⟩ := y
    refine ⟨Same.refl _, fun d e => ?_⟩
    obtain ⟨v, e1, q⟩ := il.get e
    have := y xs rd1
    rw [e1] at this; cases this
    exact Is.mono kp' ol oo _ _ q
theorem pi_seq {tl : TE} (hl : PE X l tl) : PI X tg l (fun σ H Rr => tl σ H fun x H1 => ∃ a, x = .ref a ∧ (((∃ xs, SqL X.K H1 a xs) ∧ Rr (Itl X.K a) H1) ∨ ((∃ xs, SqT X.K H1 a xs) ∧ Rr (Itt X.K a) H1))) := by
  intro pins s σ H R I h
  refine thn (hl pins s σ H _ I h) fun v s1 ⟨x, H1, I1, r1, q1⟩ => ?_
  obtain ⟨a, e, q⟩ := q1
  subst e
  cases r1
  rcases q with ⟨⟨xs, hq⟩, q⟩ | ⟨⟨xs, hq⟩, q⟩
  · obtain ⟨its, rv, p, hz⟩ := I1.list hq
    refine wpAny_pyIter_list p.isList ?_
    refine ⟨s1.heap.objs.size, [s1.heap.objs.size], _, _, H1, rfl, I1.kept (t' := s1.toks) fun b o e => Heap.get?_push_of_some _ e, turn_list a _, ⟨_, Heap.get?_push_size _ rfl, rfl, rfl⟩, fun b hb => ?_, q⟩
    have e : b = s1.heap.objs.size := by simpa using hb
    subst e
    exact I1.fpOk (Nat.le_refl _) (I1.hok.fresh (Nat.le_refl _))
  · obtain ⟨its, rv, p, hz⟩ := I1.tuple hq
    refine wpAny_pyIter_tuple (show s1.heap.IsTuple a its.toArray from p) ?_
    refine ⟨s1.heap.objs.size, [s1.heap.objs.size], _, _, H1, rfl, I1.kept (t' := s1.toks) fun b o e => Heap.get?_push_of_some _ e, turn_tuple a _, ⟨_, Heap.get?_push_size _ rfl, rfl, rfl⟩, fun b hb => ?_, q⟩
    have e : b = s1.heap.objs.size := by simpa using hb
    subst e
    exact I1.fpOk (Nat.le_refl _) (I1.hok.fresh (Nat.le_refl _))
theorem di_seq (hl : DE X l f) : DI X tg l (mIt f) := by
  refine PI.conseq (pi_seq hl) fun σ H Rr h => ?_
  obtain ⟨O0, r, ds, hR, e, q⟩ := h
  obtain ⟨d, e1, e2⟩ := bind_some e
  refine ⟨O0, r, d, hR, e1, fun v H1 s1 i1 => ?_⟩
  have ol := (hR.same s1).ol
  cases d with
  | lst l' =>
    cases e2
    rw [Is.lst_iff] at i1
    obtain ⟨a, xs, rfl, rd, il⟩ := i1
    exact ⟨a, rfl, .inl ⟨⟨xs, rd.sq⟩, q _ H1 s1 (yl_list (fun a z => .inr z.own) ol (fun H2 k2 => rd.imp (fun z => Rd.keep k2 (fun y => z.1 (.inr y.own)) z.2) id) il)⟩⟩
  | tup l' =>
    cases e2
    rw [Is.tup_iff] at i1
    obtain ⟨a, xs, rfl, rd, il⟩ := i1
    exact ⟨a, rfl, .inr ⟨⟨xs, rd⟩, q _ H1 s1 (yl_tup (fun a z => .inr z.own) ol rd il)⟩⟩
  | _ => cases e2
noncomputable def rngD (lo : Int) (n : Nat) : List D := (List.range n).map fun i => .int (lo + (i : Nat))
theorem yl_rng {K : Fg} {O M : Addr → Prop} {H : Hp} (lo : Int) (n : Nat) : Ylds K O M H (Itr lo n) (rngD lo n) := by
  intro i H1 O' kp oo
  have hl : (rngD lo n).length = n := by simp [rngD]
  refine ⟨fun hi => ⟨by rw [hl] at hi; exact hi, fun x H' y => ?_⟩, fun hi => by rw [hl] at hi; exact Nat.le_of_eq hi.symm⟩
  obtain ⟨rfl, rfl⟩ := y
  refine ⟨Same.refl _, fun d e => ?_⟩
  rw [hl] at hi
  unfold rngD at e
  rw [List.getElem?_map, List.getElem?_range hi] at e
  cases e
  rw [Is.int_iff]
noncomputable def intD : D → Option Int
  | .int i => some i
  | _ => none
noncomputable def mRng1 (f : ME) : ML := fun r => (f r).bind fun d => (intD d).bind fun j => if -(2 ^ 62) ≤ j ∧ j < 2 ^ 62 then some (rngD 0 j.toNat) else none
theorem intD_some {d : D} {i : Int} (e : intD d = some i) : d = .int i := by
  cases d <;> first | cases e; rfl | cases e
theorem di_rng1 (hg : Gl X "range") (hm : X.mg "range" = none) (ha : DE X l f) (hs : starEach [l] X.env = [(false, eval l X.env)] := by rfl) : DI X tg (.Call (.Name "range" p) [l] [] pos) (mRng1 f) := by
  refine PI.conseq (pi_range1 hg hm (pa_cons ha pa_nil hs) hs) fun σ H Rr h => ?_
  obtain ⟨O0, r, ds, hR, e, q⟩ := h
  obtain ⟨d, e1, e2⟩ := bind_some e
  obtain ⟨j, e3, e4⟩ := bind_some e2
  cases intD_some e3
  split at e4
  · rename_i hj
    cases e4
    refine ⟨O0, r, _, hR, e1, fun v H1 s1 i1 => ?_⟩
    rw [Is.int_iff] at i1
    exact ⟨j, by rw [i1], hj.1, hj.2, q _ H1 s1 (yl_rng 0 _)⟩
  · cases e4
end
noncomputable def clOf (env : Env) : List (Str × NameKind) → List (Str × Addr) → List (Str × Addr)
  | [], acc => acc
  | (n, k) :: r, acc => if k = .free then clOf env r ((n, (env.cells.lookup n).getD 0) :: acc) else clOf env r acc
theorem closure_eq {env : Env} : ∀ (names : List (Str × NameKind)) (acc : List (Str × Addr)), (∀ y ∈ names, y.2 = .free → ∃ c, env.cells.lookup y.1 = some c) →
    (forIn names acc (fun (x : Str × NameKind) (cs : List (Str × Addr)) => match x with
      | (name, kind) => if (kind == NameKind.free) = true then do let a ← cellOf env name; pure (ForInStep.yield ((name, a) :: cs)) else pure (ForInStep.yield cs)) : Sem (List (Str × Addr))) = pure (clOf env names acc)
  | [], acc, _ => rfl
  | (n, k) :: r, acc, h => by
    rw [List.forIn_cons]
    by_cases hk : k = .free
    · obtain ⟨c, hc⟩ := h (n, k) List.mem_cons_self hk
      have ih := closure_eq r ((n, c) :: acc) fun y hy => h y (List.mem_cons_of_mem _ hy)
      subst hk
      show ((do let a ← cellOf env n; pure (ForInStep.yield ((n, a) :: acc))) >>= _ : Sem _) = _
      unfold cellOf
      rw [hc]
      unfold clOf
      rw [if_pos rfl, hc]
      exact ih
    · have hb : (k == NameKind.free) = false := by simpa using hk
      have ih := closure_eq r acc fun y hy => h y (List.mem_cons_of_mem _ hy)
      unfold clOf
      rw [if_neg hk]
      simp only [hb]
      exact ih
theorem closureFor_eq {scope : Scope} {env : Env} (h : ∀ y ∈ scope.names, y.2 = .free → ∃ c, env.cells.lookup y.1 = some c) : closureFor scope env = pure (clOf env scope.names []) := by
  unfold closureFor
  have := closure_eq (env := env) scope.names [] h
  first
    | exact this
    | (simp only [bind_pure]; exact this)
    | (rw [← this]; rfl)
theorem clOf_sub {env : Env} {x : Str} {c : Addr} : ∀ (names : List (Str × NameKind)) (acc : List (Str × Addr)), (∀ y ∈ names, y.2 = .free → ∃ c, env.cells.lookup y.1 = some c) → (∀ c, acc.lookup x = some c → env.cells.lookup x = some c) →
    (clOf env names acc).lookup x = some c → env.cells.lookup x = some c
  | [], acc, _, ha, e => ha c e
  | (n, k) :: r, acc, h, ha, e => by
    unfold clOf at e
    split at e
    · rename_i hk
      refine clOf_sub r _ (fun y hy => h y (List.mem_cons_of_mem _ hy)) (fun c' e' => ?_) e
      rw [List.lookup_cons] at e'
      split at e'
      · rename_i hx
        have hx' : x = n := by simpa using hx
        subst hx'
        obtain ⟨c2, q⟩ := h (x, k) List.mem_cons_self hk
        rw [q] at e' ⊢
        simpa using e'
      · exact ha c' e'
    · exact clOf_sub r _ (fun y hy => h y (List.mem_cons_of_mem _ hy)) ha e
theorem clOf_acc {env : Env} {x : Str} : ∀ (names : List (Str × NameKind)) (acc : List (Str × Addr)), (∃ c, acc.lookup x = some c) → ∃ c, (clOf env names acc).lookup x = some c
  | [], acc, h => h
  | (n, k) :: r, acc, h => by
    unfold clOf
    split
    · refine clOf_acc r _ ?_
      rw [List.lookup_cons]
      split
      · exact ⟨_, rfl⟩
      · exact h
    · exact clOf_acc r _ h
theorem clOf_has {env : Env} {x : Str} : ∀ (names : List (Str × NameKind)) (acc : List (Str × Addr)), (x, NameKind.free) ∈ names → ∃ c, (clOf env names acc).lookup x = some c
  | [], _, h => nomatch h
  | (n, k) :: r, acc, h => by
    unfold clOf
    rcases List.mem_cons.mp h with z | z
    · cases z
      rw [if_pos rfl]
      refine clOf_acc r _ ?_
      rw [List.lookup_cons]
      simp
    · split
      · exact clOf_has r _ z
      · exact clOf_has r _ z
theorem relabel_inv {env : Env} : ∀ {names : List (Str × NameKind)} {x : Str} {k : NameKind}, (names.map fun (n, k) => if (k == NameKind.free && env.scope.kind == .function && env.kindOf n == some .cell) then (n, NameKind.cell) else (n, k)).lookup x = some k →
    ∃ k', names.lookup x = some k' ∧ (k = k' ∨ (k' = .free ∧ k = .cell))
  | [], _, _, h => by simp at h
  | (n, k0) :: r, x, k, h => by
    have h' : List.lookup x ((if (k0 == NameKind.free && env.scope.kind == .function && env.kindOf n == some .cell) = true then (n, NameKind.cell) else (n, k0)) :: (r.map fun (n, k) => if (k == NameKind.free && env.scope.kind == .function && env.kindOf n == some .cell) then (n, NameKind.cell) else (n, k))) = some k := h
    rw [List.lookup_cons]
    by_cases hc : (k0 == NameKind.free && env.scope.kind == .function && env.kindOf n == some .cell) = true
    · rw [if_pos hc, List.lookup_cons] at h'
      split at h'
      · rename_i hx
        cases h'
        refine ⟨k0, rfl, .inr ⟨?_, rfl⟩⟩
        simp only [Bool.and_eq_true, beq_iff_eq] at hc
        exact hc.1.1
      · rename_i hx
        exact relabel_inv h'
    · rw [if_neg hc, List.lookup_cons] at h'
      split at h'
      · rename_i hx
        cases h'
        exact ⟨k0, rfl, .inl rfl⟩
      · rename_i hx
        exact relabel_inv h'
theorem relabel_free {env : Env} : ∀ {names : List (Str × NameKind)} {x : Str}, names.lookup x = some .free →
    let l := (names.map fun (n, k) => if (k == NameKind.free && env.scope.kind == .function && env.kindOf n == some .cell) then (n, NameKind.cell) else (n, k)); l.lookup x = some .cell ∨ l.lookup x = some .free
  | [], _, h => by simp at h
  | (n, k0) :: r, x, h => by
    show List.lookup x ((if (k0 == NameKind.free && env.scope.kind == .function && env.kindOf n == some .cell) = true then (n, NameKind.cell) else (n, k0)) :: _) = _ ∨ List.lookup x ((if (k0 == NameKind.free && env.scope.kind == .function && env.kindOf n == some .cell) = true then (n, NameKind.cell) else (n, k0)) :: _) = _
    rw [List.lookup_cons] at h
    cases hx : x == n with
    | true =>
      rw [hx] at h
      cases h
      split
      · left; rw [List.lookup_cons, hx]
      · right; rw [List.lookup_cons, hx]
    | false =>
      rw [hx] at h
      have ih := relabel_free (env := env) h
      split
      · rw [List.lookup_cons, hx]; exact ih
      · rw [List.lookup_cons, hx]; exact ih
noncomputable def cxC (X : Cx) (N' : List Str) (scope : Scope) (C : Addr) (fp : List Addr) (s : Shared) (H : Hp) : Cx where
  prog := X.prog
  w := X.w
  K := X.K
  mg := X.mg
  base := X.base
  A := X.A
  N := N'
  s₀ := s
  H₀ := H
  env := compEnvC scope (clOf X.env scope.names []) C X.env
  outer := X.stack
  stack := X.stack
  ex := fp
  fn := fun _ => false
  calm := X.calm
  pn := []
  xe := fun _ _ => False
structure CmpOk (X : Cx) (N' : List Str) (cap : List Nat) (scope : Scope) : Prop where
  kind : scope.kind = .function
  nc : ∀ y ∈ scope.names, y.2 ≠ .cell
  nm : ∀ y ∈ scope.names, y.2 = .local → scope.names.lookup y.1 = some .local
  fr : ∀ y ∈ scope.names, y.2 = .free → X.env.kindOf y.1 = some .cell ∨ X.env.kindOf y.1 = some .free
  capt : ∀ (i j : Nat), cap[i]? = some j → ∃ x, N'[i]? = some x ∧ X.N[j]? = some x ∧ scope.names.lookup x = some .free
  len : cap.length ≤ N'.length
noncomputable def sigC (cap : List Nat) (n : Nat) (σ : St) : St := (cap.map fun j => (σ[j]?).getD none) ++ List.replicate (n - cap.length) none
section
variable {X : Cx} {pins : List (Addr × Obj)} {σ : St} {H : Hp} {s : Shared} {N' : List Str} {cap : List Nat} {scope : Scope} {fp : List Addr}
theorem CmpOk.hasc (o : CmpOk X N' cap scope) (ok : X.Ok) : ∀ y ∈ scope.names, y.2 = .free → ∃ c, X.env.cells.lookup y.1 = some c := fun y hy e => ok.has y.1 (o.fr y hy e)
theorem CmpOk.sub (o : CmpOk X N' cap scope) (ok : X.Ok) {x : Str} {c : Addr} (e : (clOf X.env scope.names []).lookup x = some c) : X.env.cells.lookup x = some c := clOf_sub scope.names [] (o.hasc ok) (fun _ z => by simp at z) e
theorem inv_comp (o : CmpOk X N' cap scope) (I : Inv X pins σ H s) (hfp : ∀ b ∈ fp, FpOk X pins H b) (hlt : ∀ b ∈ fp, b < s.heap.objs.size) {h' : Heap} {t' : Nat} (ns : h'.Ns s.heap.objs.size (fun _ => none)) (kp : ∀ b u, s.heap.get? b = some u → h'.get? b = some u) :
    Inv (cxC X N' scope s.heap.objs.size fp s H) [] (sigC cap N'.length σ) H { s with heap := h', toks := t' } := by
  have hf : H s.heap.objs.size = none := I.hok.fresh (Nat.le_refl _)
  have nofp : ∀ b ∈ fp, b ∉ frs X.stack := fun b hb z => by
    obtain ⟨f0, f1, f2, f3, f4, f5⟩ := hfp b hb
    rcases List.mem_cons.mp (I.stkSub b z) with q | q
    · exact f1 q
    · exact f2 q
  have ok' : (cxC X N' scope s.heap.objs.size fp s H).Ok := by
    refine ⟨I.ok.mod, o.kind, I.ok.glob, I.ok.blt, Nat.le_refl _, fun x y c e1 e2 => I.ok.inj x y c (o.sub I.ok e1) (o.sub I.ok e2), fun x hx => ?_, fun x c z => (by cases z), I.ok.hd, I.ok.frames, .inl rfl, fun b hb => ⟨Nat.ne_of_lt (hlt b hb), fun x c e => (hfp b hb).2.2.2.2.1 x c (o.sub I.ok e)⟩,
      fun b ob e => I.bs b ob e, Nat.le_trans I.ok.bsz I.sz, fun b ob e hb => ?_, nofp, I.stack, I.stkFree⟩
    · have key : scope.names.lookup x = some .free := by
        rcases hx with hx | hx
        · obtain ⟨k', e1, e2⟩ := relabel_inv (env := X.env) (names := scope.names) (x := x) (k := .cell) hx
          rcases e2 with e2 | e2
          · subst e2; exact absurd rfl (o.nc _ (PySem.mem_of_lookup e1))
          · rw [e2.1] at e1; exact e1
        · obtain ⟨k', e1, e2⟩ := relabel_inv (env := X.env) (names := scope.names) (x := x) (k := .free) hx
          rcases e2 with e2 | e2
          · subst e2; exact e1
          · exact absurd e2.2 (by decide)
      exact clOf_has scope.names [] (PySem.mem_of_lookup key)
    · rcases (hfp b hb).2.2.2.1 with z | z
      · exact I.ok.noex b ob e z
      · exact absurd (Nat.lt_of_lt_of_le (Nat.lt_of_lt_of_le (Heap.lt_size e) I.ok.bsz) z) (Nat.lt_irrefl _)
  refine ⟨ok', rfl, I.bare, Un.kept kp, ⟨fun _ => none, ns, fun i x v hN hs hv => ?_⟩, fun x c e => ?_, hf, fun x c e => I.freeC x c (o.sub I.ok e), fun p hp => ?_, I.hok.kept kp, ?_⟩
  · have hN : N'[i]? = some x := hN
    by_cases hi : i < cap.length
    · unfold sigC at hs
      rw [List.getElem?_append_left (by simpa using hi), List.getElem?_map] at hs
      obtain ⟨j, hj⟩ : ∃ j, cap[i]? = some j := ⟨cap[i], by simp [hi]⟩
      rw [hj] at hs
      have hs' : σ[j]? = some (some v) := by
        have hs'' : (σ[j]?).getD none = some v := Option.some.inj hs
        cases e : σ[j]? with
        | none => rw [e] at hs''; cases hs''
        | some y => rw [e] at hs''; have : y = some v := hs''; rw [this]
      obtain ⟨x', e1, e2, e3⟩ := o.capt i j hj
      rw [hN] at e1; cases e1
      have hk := o.fr (x, .free) (PySem.mem_of_lookup e3) rfl
      obtain ⟨m, hn, hl⟩ := I.loc
      have hvis : Vis X.env.scope x := hk.elim (fun z => .inr (.inl z)) fun z => .inr (.inr z)
      obtain ⟨u, r, lk⟩ := hl j x v e2 hs' hvis
      refine ⟨u, r, .inr ⟨relabel_free (env := X.env) e3, ?_⟩⟩
      rcases lk with ⟨z, _⟩ | ⟨_, c, hc, hcell⟩
      · have z' : X.env.kindOf x = some .local := z
        rw [z'] at hk
        rcases hk with hk | hk <;> cases hk
      · obtain ⟨c', hc'⟩ := clOf_has (env := X.env) scope.names [] (PySem.mem_of_lookup e3)
        have hcc := o.sub I.ok hc'
        rw [hc] at hcc; cases hcc
        obtain ⟨ob, q1, q2⟩ := hcell
        exact ⟨c, hc', ob, kp _ _ q1, q2⟩
    · unfold sigC at hs
      rw [List.getElem?_append_right (by simpa using Nat.le_of_not_lt hi), List.getElem?_replicate] at hs
      split at hs <;> cases hs
  · obtain ⟨v, ob, q1, q2⟩ := I.cell x c (o.sub I.ok e)
    exact ⟨v, ob, kp _ _ q1, q2⟩
  · exact absurd (show p ∈ ([] : List (Addr × Obj)) from hp) (by simp)
  · unfold sigC
    show _ = N'.length
    rw [List.length_append, List.length_map, List.length_replicate]
    have := o.len
    omega
theorem inv_comp_end {H2 : Hp} {σ2 : St} {s2 : Shared} {h' : Heap} (I : Inv X pins σ H s) (hfp : ∀ b ∈ fp, FpOk X pins H b) (J : Inv (cxC X N' scope s.heap.objs.size fp s H) [] σ2 H2 s2) (sb : Heap.SameBut s.heap.objs.size s2.heap h') : Inv X pins σ H2 { s2 with heap := h' } := by
  have hb : Un (frs X.stack) fp H H2 s.heap s2.heap := J.base
  have ne : ∀ b o, s.heap.get? b = some o → b ≠ s.heap.objs.size := fun b o e => Nat.ne_of_lt (Heap.lt_size e)
  have fr : H2 s.heap.objs.size = none := J.free
  refine I.call' (s' := { s2 with heap := h' }) (ch := fp) J.os ?_ ?_ J.bare fun b hb => ⟨(hfp b hb).2.2.2.1, (hfp b hb).2.1, (hfp b hb).2.2.2.2.1, (hfp b hb).2.2.2.2.2⟩
  · refine ⟨fun b o e n h1 h2 => ?_, fun b o e n h1 h2 => ?_, fun b o e n h2 => hb.free b o e n h2, fun b o e h2 => ?_, hb.tups, hb.frzs, hb.tbls⟩
    · exact sb.extBut b o (ne b o e) (hb.keep b o e n h1 h2)
    · obtain ⟨sl, q⟩ := hb.slot b o e n h1 h2
      exact ⟨sl, sb.extBut b _ (ne b o e) q⟩
    · obtain ⟨o', q⟩ := hb.there b o e h2
      exact ⟨o', sb.extBut b _ (ne b o e) q⟩
  · intro b u e
    have nb : ∀ c w, H2 c = some w → c ≠ s.heap.objs.size := fun c w q z => by rw [z, fr] at q; cases q
    refine (J.hok b u e).stay (fun c v hc q => sb.extBut c v ?_ q) (fun _ q => q) fun _ _ q => q
    rcases hc with z | z
    · rw [z]; exact nb b u e
    · exact nb c _ z
noncomputable def tComp1 (tc : Option TT) (te : TE) (K1 : V → Hp → Prop) (K0 : Hp → Prop) : St → Hp → Prop := fun σ H => match tc with
  | none => te σ H K1
  | some c => c σ H fun b H1 => if b = true then te σ H1 K1 else K0 H1
noncomputable def tComp (cap : List Nat) (n : Nat) (wi : TI) (g : TG) (tc : Option TT) (te : TE) : TE := fun σ H Q => wi σ H fun J H1 => ∀ p, H1 p = none → ∃ W : Nat → Nat → List V → St → Hp → Prop, (∃ m, W 0 m [] (sigC cap n σ) (upd H1 p (.lst []))) ∧ ∀ i m ys σ2 H2, W i m ys σ2 H2 → H2 p = some (.lst ys) ∧ ys.length < sizeLine ∧
  ((J.stop i H2 ∧ Q (.ref p) H2) ∨ (J.go i H2 ∧ ∀ x H3, J.yld i H2 x H3 → g x σ2 H3 fun σ4 H4 => tComp1 tc te (fun y H5 => H5 p = some (.lst ys) ∧ ∃ m', m' < m ∧ W (i + 1) m' (ys ++ [y]) σ4 (upd H5 p (.lst (ys ++ [y])))) (fun H5 => ∃ m', m' < m ∧ W (i + 1) m' ys σ4 H5) σ4 H4))
theorem compLoop_go {prog : Program} {w : World} {A : Around} {Z : Result → Shared → Prop} {t0 : Shared} {elt tgt src : Expr} {tests : List Expr} {scope : Scope} {pos : Pos} {it out : Value} {env : Env} (W : Nat → Shared → Prop)
    (each : ∀ k t, W k t → wpAny (model prog w) A (pyNext it) (fun got t1 => match got with
      | none => Z (.ok .next) t1
      | some y => wpAny (model prog w) A (letOwnedTupleGo tgt it y) (fun _ t2 => wpAny (model prog w) A (assign tgt env y) (fun _ t3 =>
          wpAny (model prog w) A (forIn tests true fun c b => if b = true then do let ok ← isTrue c env (eval c env); pure (ForInStep.yield ok) else pure (ForInStep.yield b)) (fun good t4 =>
            if good = true then wpAny (model prog w) A (eval elt env) (fun x t5 =>
              wpAny (model prog w) A (call (.builtin "list.append") [out, x]) (fun _ t6 => ∃ j, j < k ∧ W j t6) (fun _ _ => False) t5) (fun _ _ => False) t4
            else ∃ j, j < k ∧ W j t4) (fun _ _ => False) t3) (fun _ _ => False) t2) (fun _ _ => False) t1) (fun _ _ => False) t)
    (k : Nat) (h0 : W k t0) : codeAny (model prog w) A (.compLoop (.ListComp elt [⟨tgt, src, tests, 0⟩] scope pos) 0 it out env) Z t0 := by
  refine codeAny_loop rfl W (fun k t hW => ?_) k h0
  show wpAny _ A ((compTurn (.ListComp elt [⟨tgt, src, tests, 0⟩] scope pos) 0 it out env).onRaise (fun x => do noteFrame x env; theTreesLotGoes x)) _ _ t
  refine wpAny_noted ?_
  rw [compTurn_list]
  refine wpAny_bind (wpAny_standAt (wpAny_bind (wpAny_mono (each k t hW) (fun got t1 g1 => ?_) fun _ _ no => no.elim)))
  cases got with
  | none => exact wpAny_pure g1
  | some y =>
    refine wpAny_bind (wpAny_mono g1 (fun _ t2 g2 => wpAny_bind (wpAny_mono g2 (fun _ t3 g3 => wpAny_bind (wpAny_mono g3 (fun good t4 g4 => ?_) fun _ _ no => no.elim)) fun _ _ no => no.elim)) fun _ _ no => no.elim)
    cases good with
    | false => exact wpAny_pure ⟨rfl, g4⟩
    | true =>
      exact wpAny_bind (wpAny_bind (wpAny_mono g4 (fun x t5 g5 => wpAny_bind (wpAny_mono g5 (fun _ t6 g6 => wpAny_pure (wpAny_pure ⟨rfl, g6⟩)) fun _ _ no => no.elim)) fun _ _ no => no.elim))
theorem comp_core {elt tg iter : Expr} {ifs : List Expr} {pos : Pos} {g : TG} {tc : Option TT} {te : TE} {J : It} {it : Addr} {tn : Nat → Heap → Prop} {Q : VK} {RR : Value → Addr → Result → Shared → Prop} (hc : X.calm = true) (o : CmpOk X N' cap scope)
    (hg : ∀ C fp s H, PG (cxC X N' scope C fp s H) tg g) (ht : match (generalizing := false) tc with | none => ifs = [] | some c => ∃ e, ifs = [e] ∧ ∀ C fp s H, PT (cxC X N' scope C fp s H) e c) (he : ∀ C fp s H, PE (cxC X N' scope C fp s H) elt te)
    (I : Inv X pins σ H s) (T : Turn X.prog X.w X.K tg J fp it tn) (st : tn 0 s.heap) (hfp : ∀ b ∈ fp, FpOk X pins H b)
    (hw : ∀ p, H p = none → ∃ W : Nat → Nat → List V → St → Hp → Prop, (∃ m, W 0 m [] (sigC cap N'.length σ) (upd H p (.lst []))) ∧ ∀ i m ys σ2 H2, W i m ys σ2 H2 → H2 p = some (.lst ys) ∧ ys.length < sizeLine ∧
      ((J.stop i H2 ∧ Q (.ref p) H2) ∨ (J.go i H2 ∧ ∀ x H3, J.yld i H2 x H3 → g x σ2 H3 fun σ4 H4 => tComp1 tc te (fun y H5 => H5 p = some (.lst ys) ∧ ∃ m', m' < m ∧ W (i + 1) m' (ys ++ [y]) σ4 (upd H5 p (.lst (ys ++ [y])))) (fun H5 => ∃ m', m' < m ∧ W (i + 1) m' ys σ4 H5) σ4 H4)))
    (hRR : ∀ (p : Addr) (s3 s' : Shared) (H3 H2 : Hp) (σ2 : St), Inv X pins σ H3 s3 → (∀ b ∈ fp, FpOk X pins H3 b) → Inv (cxC X N' scope s3.heap.objs.size fp s3 H3) [] σ2 H2 s' → Q (.ref p) H2 → RR (.ref p) s3.heap.objs.size (.ok .next) s') :
    wpAny (model X.prog X.w) X.A (newList []) (fun acc s₃ => wpAny (model X.prog X.w) X.A (newFunctionEnv scope X.env.globals (clOf X.env scope.names []) [] X.env.qual none .none (some X.env)) (fun cenv s₄ =>
      codeAny (model X.prog X.w) X.A (.compStart (.ListComp elt [⟨tg, iter, ifs, 0⟩] scope pos) 0 (.ref it) acc { cenv with scope := relabel scope X.env }) (RR acc cenv.locals) s₄) X.xe s₃) X.xe s := by
  refine wpAny_newObj_type ?_
  obtain ⟨W, ⟨m0, w0⟩, turn⟩ := hw s.heap.objs.size (I.hok.fresh (Nat.le_refl _))
  have nfp : ∀ b ∈ fp, b < s.heap.objs.size := fun b hb => by
    obtain ⟨ob, e, _⟩ := T.obj 0 _ st b hb
    exact Heap.lt_size e
  have I3 := I.lnew (its := []) (ys := []) (t' := s.toks) .nil (Nat.zero_le _)
  generalize hs3 : ({ s with heap := s.heap.push { cls := .type "list", data := .seq ([] : List Value).toArray }, toks := s.toks } : Shared) = s3 at I3
  have hs3' : ({ s with heap := s.heap.push { cls := .type "list", dict := none, data := .seq ([] : List Value).toArray } } : Shared) = s3 := hs3
  have hf3 : ∀ b ∈ fp, FpOk X pins (upd H s.heap.objs.size (.lst [])) b := fun b hb => ⟨by rw [upd_ne (Nat.ne_of_lt (nfp b hb))]; exact (hfp b hb).1, (hfp b hb).2⟩
  have st3 : tn 0 s3.heap := T.keep 0 _ _ st fun b _ ob e => by rw [← hs3]; exact Heap.get?_push_of_some _ e
  have nfp3 : ∀ b ∈ fp, b < s3.heap.objs.size := fun b hb => by
    obtain ⟨ob, e, _⟩ := T.obj 0 _ st3 b hb
    exact Heap.lt_size e
  refine wpAny_newFunctionEnv o.nc (by intro y hy; simp at hy) (fun h₁ hns₁ hsb₁ => ?_) o.kind
  have old : ∀ b ob, s3.heap.get? b = some ob → h₁.get? b = some ob := fun b ob e => hsb₁.extBut b ob (Nat.ne_of_lt (Heap.lt_size e)) (Heap.get?_push_of_some _ e)
  have I4 := inv_comp (t' := s3.toks + ([] : List (Str × Value)).length) o I3 hf3 nfp3 (by simpa using hns₁) old
  have st4 : tn 0 h₁ := T.keep 0 _ _ st3 fun b _ ob e => old b ob e
  have fpC : ∀ H', (∀ b ∈ fp, H' b = none) → ∀ b ∈ fp, FpOk (cxC X N' scope s3.heap.objs.size fp s3 (upd H s.heap.objs.size (.lst []))) [] H' b := fun H' hn b hb => by
    refine ⟨hn b hb, Nat.ne_of_lt (nfp3 b hb), I4.ok.exfs b hb, .inl hb, (I4.ok.exf b hb).2, fun p hp => absurd (show p ∈ ([] : List (Addr × Obj)) from hp) (by simp)⟩
  have loop : codeAny (model X.prog X.w) X.A (.compLoop (.ListComp elt [⟨tg, iter, ifs, 0⟩] scope pos) 0 (.ref it) (.ref s.heap.objs.size) (compEnvC scope (clOf X.env scope.names []) s3.heap.objs.size X.env)) (RR (.ref s.heap.objs.size) s3.heap.objs.size) { s3 with heap := h₁, toks := s3.toks + ([] : List (Str × Value)).length } := by
    refine compLoop_go (fun n s' => ∃ i ys σ' H', Inv (cxC X N' scope s3.heap.objs.size fp s3 (upd H s.heap.objs.size (.lst []))) [] σ' H' s' ∧ tn i s'.heap ∧ (∀ b ∈ fp, H' b = none) ∧ W i n ys σ' H') ?_ m0 ⟨0, [], _, _, I4, st4, fun b hb => (hf3 b hb).1, w0⟩
    rintro n s5 ⟨i, ys, σ5, H5, I5, st5, fr5, w5⟩
    obtain ⟨hp5, hz5, br⟩ := turn i n ys σ5 H5 w5
    rcases br with ⟨stop, q⟩ | ⟨go, step⟩
    · refine thn (T.done (cxC X N' scope s3.heap.objs.size fp s3 (upd H s.heap.objs.size (.lst []))) rfl rfl rfl hc i [] s5 _ H5 (fun _ _ => False) I5 (fpC H5 fr5) st5 stop) fun r s6 ⟨hr, I6⟩ => ?_
      subst hr
      exact hRR _ s3 s6 _ H5 _ I3 hf3 I6 q
    · refine thn (T.item (cxC X N' scope s3.heap.objs.size fp s3 (upd H s.heap.objs.size (.lst []))) rfl rfl rfl hc i [] s5 _ H5 (fun _ _ => False) I5 (fpC H5 fr5) st5 go) fun r s6 ⟨u, hr, h6⟩ => ?_
      subst hr
      refine thn h6 fun _ s7 ⟨x, H7, I7, r7, y7, st7, fr7⟩ => ?_
      have I7' := I7.pinned (fpC H7 fr7) (T.obj _ _ st7)
      refine thn (hg _ _ _ _ _ s7 _ H7 x u _ I7' r7 (step x H7 y7)) fun _ s8 ⟨σ8, H8, I8, q8⟩ => ?_
      have again : ∀ {H9 : Hp} {σ9 : St} {s9 : Shared} {ys' : List V}, Inv (cxC X N' scope s3.heap.objs.size fp s3 (upd H s.heap.objs.size (.lst []))) ([] ++ pinsAt fp s7.heap) σ9 H9 s9 → (∃ m', m' < n ∧ W (i + 1) m' ys' σ9 H9) →
          ∃ m, m < n ∧ ∃ i ys σ' H', Inv (cxC X N' scope s3.heap.objs.size fp s3 (upd H s.heap.objs.size (.lst []))) [] σ' H' s9 ∧ tn i s9.heap ∧ (∀ b ∈ fp, H' b = none) ∧ W i m ys σ' H' := fun {H9 σ9 s9 ys'} I9 z => by
        obtain ⟨m', hm, w9⟩ := z
        refine ⟨m', hm, i + 1, ys', σ9, H9, I9.unpinned, T.keep _ _ _ st7 fun b hb ob e => (I9.pin (b, ob) (List.mem_append_right _ (List.mem_append_right _ (mem_pinsAt hb e)))).1, fun b hb => ?_, w9⟩
        obtain ⟨ob, e, d⟩ := T.obj _ _ st7 b hb
        exact (I9.pin (b, ob) (List.mem_append_right _ (List.mem_append_right _ (mem_pinsAt hb e)))).2.1
      have app : ∀ {s9 : Shared} {H9 : Hp} {y : V} {u9 : Value}, Inv (cxC X N' scope s3.heap.objs.size fp s3 (upd H s.heap.objs.size (.lst []))) ([] ++ pinsAt fp s7.heap) σ8 H9 s9 → RelV y u9 → (H9 s.heap.objs.size = some (.lst ys) ∧ ∃ m', m' < n ∧ W (i + 1) m' (ys ++ [y]) σ8 (upd H9 s.heap.objs.size (.lst (ys ++ [y])))) →
          wpAny (model X.prog X.w) X.A (call (.builtin "list.append") [.ref s.heap.objs.size, u9]) (fun _ s₅ => ∃ m, m < n ∧ ∃ i ys σ' H', Inv (cxC X N' scope s3.heap.objs.size fp s3 (upd H s.heap.objs.size (.lst []))) [] σ' H' s₅ ∧ tn i s₅.heap ∧ (∀ b ∈ fp, H' b = none) ∧ W i m ys σ' H') (fun _ _ => False) s9 := fun {s9 H9 y u9} I9 r9 z9 => by
        refine thn (mt_append (X := cxC X N' scope s3.heap.objs.size fp s3 (upd H s.heap.objs.size (.lst []))) _ s9 σ8 H9 (.ref s.heap.objs.size) [y] (.ref s.heap.objs.size) [u9] (fun _ H' => ∃ m', m' < n ∧ W (i + 1) m' (ys ++ [y]) σ8 H') I9 rfl (.cons r9 .nil) ⟨_, ys, y, rfl, rfl, z9.1, hz5, z9.2⟩) fun _ s10 ⟨_, H10, I10, _, z10⟩ => ?_
        exact again I10 z10
      cases tc with
      | none =>
        have hi : ifs = [] := ht
        subst hi
        refine wpAny_tests_nil ?_
        rw [if_pos rfl]
        exact thn (he _ _ _ _ _ s8 σ8 H8 _ I8 q8) fun u9 s9 ⟨y, H9, I9, r9, z9⟩ => app I9 r9 z9
      | some c =>
        obtain ⟨e, he1, hce⟩ := ht
        subst he1
        refine wpAny_tests_one (thn (hce _ _ _ _ _ s8 σ8 H8 _ I8 q8) fun b s9 ⟨H9, I9, q9⟩ => ?_)
        cases b with
        | false =>
          rw [if_neg Bool.false_ne_true] at q9 ⊢
          exact again I9 q9
        | true =>
          rw [if_pos rfl] at q9 ⊢
          exact thn (he _ _ _ _ _ s9 σ8 H9 _ I9 q9) fun u10 s10 ⟨y, H10, I10, r10, z10⟩ => app I10 r10 z10
  exact codeAny_compStart_list loop (T.self X.A 0 _ _ _ st4 loop)
end
section
variable {X : Cx} {N' : List Str} {cap : List Nat} {scope : Scope} {elt tg iter : Expr} {ifs : List Expr} {pos : Pos} {wi : TI} {g : TG} {tc : Option TT} {te : TE}
theorem pe_lcomp (hc : X.calm = true) (o : CmpOk X N' cap scope) (hi : PI X tg iter wi)
    (hg : ∀ C fp s H, PG (cxC X N' scope C fp s H) tg g) (ht : match (generalizing := false) tc with | none => ifs = [] | some c => ∃ e, ifs = [e] ∧ ∀ C fp s H, PT (cxC X N' scope C fp s H) e c) (he : ∀ C fp s H, PE (cxC X N' scope C fp s H) elt te)
    (hs : ∀ x, foldedSetIterable iter X.env x = pure x := by intro _; rfl) : PE X (.ListComp elt [⟨tg, iter, ifs, 0⟩] scope pos) (tComp cap N'.length wi g tc te) := by
  intro pins s σ H Q I h
  rw [eval_ListComp]
  refine wpAny_comprehension_free (use := none) rfl hs (closureFor_eq (o.hasc I.ok)) o.kind o.nm (thn (hi pins s σ H _ I h) fun xv s1 h1 => thn h1 fun itv s2 h2 => ?_)
  obtain ⟨it, fp, tn, J, H2, rfl, I2, T, st2, f2, hw⟩ := h2
  refine comp_core (Q := Q) hc o hg ht he I2 T st2 f2 hw ?_
  intro p s3 s' H3 H4 σ4 I3 f3 J4 q
  obtain ⟨m, hn, _⟩ := J4.loc
  exact ⟨m, hn, fun h' sb => ⟨.ref p, H4, inv_comp_end I3 f3 J4 sb, rfl, q⟩⟩
end
noncomputable def addD : D → D → Option D
  | .int i, .int j => some (.int (i + j))
  | .str s, .str t => if s.length + t.length ≤ sizeLine then some (.str (s ++ t)) else none
  | .lst l, .lst m => if l.length + m.length ≤ sizeLine then some (.lst (l ++ m)) else none
  | .tup l, .tup m => if l.length + m.length ≤ sizeLine ∧ l.isEmpty = false ∧ m.isEmpty = false then some (.tup (l ++ m)) else none
  | _, _ => none
noncomputable def subD : D → D → Option D
  | .int i, .int j => some (.int (i - j))
  | _, _ => none
noncomputable def mulD : D → D → Option D
  | .int i, .int j => if (-(2 ^ 64) < i ∧ i < 2 ^ 64) ∨ (-(2 ^ 64) < j ∧ j < 2 ^ 64) then some (.int (i * j)) else none
  | _, _ => none
noncomputable def fdivD : D → D → Option D
  | .int i, .int j => if 0 < j ∧ j < 1073741824 then some (.int (i / j)) else none
  | _, _ => none
noncomputable def modD : D → D → Option D
  | .int i, .int j => if 0 < j then some (.int (i % j)) else none
  | _, _ => none
noncomputable def negD : D → Option D
  | .int i => some (.int (-i))
  | _ => none
noncomputable def gtD : D → D → Option D
  | .int i, .int j => some (.bl (decide (j < i)))
  | _, _ => none
noncomputable def eqS : D → D → Option Bool
  | .int i, .int j => some (decide (i = j))
  | .str s, .str t => some (decide (s = t))
  | .bl a, .bl b => some (decide (a = b))
  | .non, .non => some true
  | .non, .int _ => some false
  | .int _, .non => some false
  | .non, .str _ => some false
  | .str _, .non => some false
  | .int _, .str _ => some false
  | .str _, .int _ => some false
  | _, _ => none
noncomputable def eqD (x y : D) : Option D := (eqS x y).map .bl
noncomputable def neD (x y : D) : Option D := (eqS x y).map fun b => .bl !b
noncomputable def isND (x y : D) : Option D := match y with
  | .non => match x with
    | .non => some (.bl true)
    | _ => some (.bl false)
  | _ => none
section
variable {X : Cx}
noncomputable def rCatR (K : Fg) : R2 := fun x y H Q => ∃ l b xs zs, x = .ref l ∧ y = .ref b ∧ SqL K H l xs ∧ SqL K H b zs ∧ xs.length + zs.length ≤ sizeLine ∧ ∀ p, H p = none → Q (.ref p) (upd H p (.lst (xs ++ zs)))
theorem op_catR : OpR X (binaryOp .Add) (rCatR X.K) := by
  intro pins s σ H x y v u Q I rx ry h
  obtain ⟨l, b, xs, zs, rfl, rfl, hH, hB, hz, q⟩ := h
  cases rx
  cases ry
  obtain ⟨its, r, ⟨⟨cls, dd, data, sl⟩, n, e, hc, hd0, hd⟩, z⟩ := I.list hH
  obtain ⟨its2, r2, ⟨⟨cls2, dd2, data2, sl2⟩, n2, e2, hc2, hd02, hd2⟩, z2⟩ := I.list hB
  have hl := r.length
  have hl2 := r2.length
  cases (show cls = _ from hc); cases (show dd = _ from hd0); cases (show data = _ from hd)
  cases (show cls2 = _ from hc2); cases (show dd2 = _ from hd02); cases (show data2 = _ from hd2)
  refine concat_meets ⟨_, e, rfl⟩ ⟨_, e2, rfl⟩ noFill_list_add seq_list_add PySem.F.slot_list_add PySem.F.entry_list_add (PySem.F.args_list_add_2 _ _) (list_addW l b its.toArray its2.toArray n n2 none none sl sl2 (by rw [List.size_toArray, List.size_toArray]; omega)) ⟨e, e2, ?_⟩
  have ea : its.toArray ++ its2.toArray = (its ++ its2).toArray := by simp
  rw [ea]
  exact ⟨.ref _, _, I.lnew (t' := s.toks) (r.append r2) (by rw [List.length_append]; omega), rfl, q _ I.fresh⟩
noncomputable def rPlus (K : Fg) : R2 := fun x y H Q => rI0 (fun i j => .int (i + j)) x y H Q ∨ (∃ i j, x = .str i ∧ y = .str j ∧ i.length + j.length ≤ sizeLine ∧ Q (.str (i ++ j)) H) ∨ rCatR K x y H Q ∨ rCatT K x y H Q
theorem op_plus : OpR X (binaryOp .Add) (rPlus X.K) := op_add.or (op_add_str.or (op_catR.or op_catT))
theorem str_app (s t : List Nat) : ((⟨s.toArray⟩ : Str) ++ (⟨t.toArray⟩ : Str)) = (⟨(s ++ t).toArray⟩ : Str) := by
  show (⟨s.toArray ++ t.toArray⟩ : Str) = _
  simp
theorem str_len (s : List Nat) : (⟨s.toArray⟩ : Str).length = s.length := by simp [Str.length]
theorem od_plus {K : Fg} : OpD K (rPlus K) addD := by
  intro O H dx dy d vx vy Q ol ix iy e q
  cases dx <;> cases dy <;> first | (simp only [addD, reduceCtorEq] at e; done) | skip
  · simp only [addD, Option.some.injEq] at e
    subst e
    rw [Is.int_iff] at ix iy
    exact .inl ⟨_, _, ix, iy, q _ H (Same.refl H) (by rw [Is.int_iff])⟩
  · rename_i s t
    simp only [addD] at e
    split at e
    · rename_i hl
      cases e
      rw [Is.str_iff] at ix iy
      refine .inr (.inl ⟨_, _, ix, iy, by rw [str_len, str_len]; exact hl, q _ H (Same.refl H) ?_⟩)
      rw [Is.str_iff, str_app]
    · cases e
  · rename_i l m
    simp only [addD] at e
    split at e
    · rename_i hl
      cases e
      rw [Is.tup_iff] at ix iy
      obtain ⟨a, xs, rfl, hs, il⟩ := ix
      obtain ⟨b, ys, rfl, hs2, il2⟩ := iy
      have e1 := il.length
      have e2 := il2.length
      refine .inr (.inr (.inr ⟨a, b, xs, ys, rfl, rfl, hs, hs2, ?_, by omega, fun z => ?_, fun _ p hp => q _ _ (same_upd hp) ?_⟩))
      · rintro rfl
        have : l = [] := by simpa using e1
        subst this
        simp at hl
      · subst z
        have : m = [] := by simpa using e2
        subst this
        simp at hl
      · rw [Is.tup_iff]
        exact ⟨p, _, rfl, SqT.of upd_same, (il.append il2).same (same_upd hp) ol⟩
    · cases e
  · rename_i l m
    simp only [addD] at e
    split at e
    · rename_i hl
      cases e
      rw [Is.lst_iff] at ix iy
      obtain ⟨a, xs, rfl, hs, il⟩ := ix
      obtain ⟨b, ys, rfl, hs2, il2⟩ := iy
      have e1 := il.length
      have e2 := il2.length
      refine .inr (.inr (.inl ⟨a, b, xs, ys, rfl, rfl, hs.sq, hs2.sq, by omega, fun p hp => q _ _ (same_upd hp) ?_⟩))
      rw [Is.lst_iff]
      refine ⟨p, _, rfl, .inl ⟨fun z => ?_, .inl upd_same⟩, (il.append il2).same (same_upd hp) ol⟩
      obtain ⟨zs, ez⟩ := ol p z
      rw [hp] at ez; cases ez
    · cases e
theorem od_I {K : Fg} {C : Int → Int → Prop} {g : Int → Int → V} {m : D → D → Option D} (h : ∀ dx dy d, m dx dy = some d → ∃ i j, dx = .int i ∧ dy = .int j ∧ C i j ∧ ∀ O H, Is K O H d (g i j)) : OpD K (rI C g) m := by
  intro O H dx dy d vx vy Q ol ix iy e q
  obtain ⟨i, j, rfl, rfl, hc, hd⟩ := h dx dy d e
  rw [Is.int_iff] at ix iy
  exact ⟨i, j, ix, iy, hc, q _ H (Same.refl H) (hd O H)⟩
theorem od_I0 {K : Fg} {g : Int → Int → V} {m : D → D → Option D} (h : ∀ dx dy d, m dx dy = some d → ∃ i j, dx = .int i ∧ dy = .int j ∧ ∀ O H, Is K O H d (g i j)) : OpD K (rI0 g) m := by
  intro O H dx dy d vx vy Q ol ix iy e q
  obtain ⟨i, j, rfl, rfl, hd⟩ := h dx dy d e
  rw [Is.int_iff] at ix iy
  exact ⟨i, j, ix, iy, q _ H (Same.refl H) (hd O H)⟩
theorem od_sub {K : Fg} : OpD K (rI0 fun i j => .int (i - j)) subD := od_I0 fun dx dy d e => by
  cases dx <;> cases dy <;> first | (simp only [subD, reduceCtorEq] at e; done) | skip
  simp only [subD, Option.some.injEq] at e
  subst e
  exact ⟨_, _, rfl, rfl, fun O H => by rw [Is.int_iff]⟩
theorem od_mul {K : Fg} : OpD K (rI CMul fun i j => .int (i * j)) mulD := od_I fun dx dy d e => by
  cases dx <;> cases dy <;> first | (simp only [mulD, reduceCtorEq] at e; done) | skip
  simp only [mulD] at e
  split at e
  · rename_i hc; cases e; exact ⟨_, _, rfl, rfl, hc, fun O H => by rw [Is.int_iff]⟩
  · cases e
theorem od_fdiv {K : Fg} : OpD K (rI CDiv fun i j => .int (i / j)) fdivD := od_I fun dx dy d e => by
  cases dx <;> cases dy <;> first | (simp only [fdivD, reduceCtorEq] at e; done) | skip
  simp only [fdivD] at e
  split at e
  · rename_i hc; cases e; exact ⟨_, _, rfl, rfl, hc, fun O H => by rw [Is.int_iff]⟩
  · cases e
theorem od_mod {K : Fg} : OpD K (rI (fun _ j => 0 < j) fun i j => .int (i % j)) modD := od_I fun dx dy d e => by
  cases dx <;> cases dy <;> first | (simp only [modD, reduceCtorEq] at e; done) | skip
  simp only [modD] at e
  split at e
  · rename_i hc; cases e; exact ⟨_, _, rfl, rfl, hc, fun O H => by rw [Is.int_iff]⟩
  · cases e
theorem od_gt {K : Fg} : OpD K (rI0 fun i j => .bl (decide (j < i))) gtD := od_I0 fun dx dy d e => by
  cases dx <;> cases dy <;> first | (simp only [gtD, reduceCtorEq] at e; done) | skip
  simp only [gtD, Option.some.injEq] at e
  subst e
  exact ⟨_, _, rfl, rfl, fun O H => by rw [Is.bl_iff]⟩
theorem eqS_ok {K : Fg} {O : Addr → Prop} {H : Hp} {dx dy : D} {vx vy : V} {b : Bool} (ix : Is K O H dx vx) (iy : Is K O H dy vy) (e : eqS dx dy = some b) : scal vx vy = true ∧ decide (vx = vy) = b := by
  cases dx <;> cases dy <;> first | (simp only [eqS, reduceCtorEq] at e; done) | skip
  all_goals simp only [eqS, Option.some.injEq] at e
  all_goals subst e
  all_goals first | rw [Is.int_iff] at ix | rw [Is.str_iff] at ix | rw [Is.bl_iff] at ix | rw [Is.non_iff] at ix
  all_goals first | rw [Is.int_iff] at iy | rw [Is.str_iff] at iy | rw [Is.bl_iff] at iy | rw [Is.non_iff] at iy
  all_goals subst ix iy
  all_goals refine ⟨rfl, ?_⟩
  all_goals simp
theorem od_eq {K : Fg} : OpD K rEq eqD := by
  intro O H dx dy d vx vy Q ol ix iy e q
  obtain ⟨b, e1, rfl⟩ := map_some e
  obtain ⟨h1, h2⟩ := eqS_ok ix iy e1
  exact ⟨h1, q _ H (Same.refl H) (by rw [Is.bl_iff, h2])⟩
theorem od_ne {K : Fg} : OpD K rNe neD := by
  intro O H dx dy d vx vy Q ol ix iy e q
  obtain ⟨b, e1, rfl⟩ := map_some e
  obtain ⟨h1, h2⟩ := eqS_ok ix iy e1
  exact ⟨h1, q _ H (Same.refl H) (by rw [Is.bl_iff, h2])⟩
theorem Is.non_only {K : Fg} {O : Addr → Prop} {H : Hp} {d : D} {v : V} (h : Is K O H d v) : decide (v = .non) = (match d with | .non => true | _ => false) := by
  cases d with
  | non => rw [Is.non_iff] at h; subst h; rfl
  | bl b => rw [Is.bl_iff] at h; subst h; rfl
  | int i => rw [Is.int_iff] at h; subst h; rfl
  | str s => rw [Is.str_iff] at h; subst h; rfl
  | ty n => rw [Is.ty_iff] at h; subst h; rfl
  | ref a => rw [Is.ref_iff] at h; subst h; rfl
  | tup l => rw [Is.tup_iff] at h; obtain ⟨a, xs, rfl, _⟩ := h; rfl
  | lst l => rw [Is.lst_iff] at h; obtain ⟨a, xs, rfl, _⟩ := h; rfl
theorem od_isN {K : Fg} : OpD K (fun x y H Q => y = .non ∧ Q (.bl (decide (x = .non))) H) isND := by
  intro O H dx dy d vx vy Q ol ix iy e q
  unfold isND at e
  cases dy <;> first | (cases e; done) | skip
  rw [Is.non_iff] at iy
  refine ⟨iy, q _ H (Same.refl H) ?_⟩
  have h := ix.non_only
  cases dx <;> cases e <;> rw [Is.bl_iff, h]
noncomputable def flatD : D → Bool
  | .int _ => true
  | .str _ => true
  | _ => false
noncomputable def eqF : D → D → Bool
  | .int i, .int j => decide (i = j)
  | .str s, .str t => decide (s = t)
  | _, _ => false
noncomputable def inD (neg : Bool) (x y : D) : Option D := match y with
  | .lst l => if flatD x = true ∧ l.all flatD = true then some (.bl (if neg then !(l.any fun z => eqF z x) else l.any fun z => eqF z x)) else none
  | .tup l => if flatD x = true ∧ l.all flatD = true then some (.bl (if neg then !(l.any fun z => eqF z x) else l.any fun z => eqF z x)) else none
  | _ => none
theorem flat_ok {K : Fg} {O : Addr → Prop} {H : Hp} {d : D} {v : V} (h : Is K O H d v) (f : flatD d = true) : flatV v = true := by
  cases d <;> first | (cases f; done) | skip
  · rw [Is.int_iff] at h; subst h; rfl
  · rw [Is.str_iff] at h; subst h; rfl
theorem eqF_ok {K : Fg} {O : Addr → Prop} {H : Hp} {d e : D} {v u : V} (h : Is K O H d v) (f : flatD d = true) (h' : Is K O H e u) (f' : flatD e = true) : eqV v u = eqF d e := by
  cases d <;> first | (cases f; done) | skip
  all_goals cases e <;> first | (cases f'; done) | skip
  all_goals first | rw [Is.int_iff] at h | rw [Is.str_iff] at h
  all_goals first | rw [Is.int_iff] at h' | rw [Is.str_iff] at h'
  all_goals subst h h'
  · simp [eqV, eqF]
    rw [Bool.beq_eq_decide_eq]
  · rfl
  · rfl
  · rename_i s t
    simp only [eqV, eqF]
    by_cases z : s = t
    · subst z; simp
    · rw [decide_eq_false z, beq_eq_false_iff_ne]
      intro z'
      have : s.toArray = t.toArray := by injection z'
      exact z (by simpa using this)
theorem in_ok {K : Fg} {O : Addr → Prop} {H : Hp} {d : D} {v : V} (h : Is K O H d v) (f : flatD d = true) : ∀ {l : List D} {xs : List V}, IsL K O H l xs → l.all flatD = true → xs.all flatV = true ∧ inV v xs = l.any fun z => eqF z d
  | [], xs, il, _ => by unfold IsL at il; subst il; exact ⟨rfl, rfl⟩
  | e :: l, xs, il, fa => by
    unfold IsL at il
    obtain ⟨u, r, rfl, i1, i2⟩ := il
    rw [List.all_cons, Bool.and_eq_true] at fa
    obtain ⟨q1, q2⟩ := in_ok h f i2 fa.2
    refine ⟨by rw [List.all_cons, flat_ok i1 fa.1, q1]; rfl, ?_⟩
    unfold inV at q2 ⊢
    rw [List.any_cons, List.any_cons, q2, eqF_ok i1 fa.1 h f]
theorem od_in {K : Fg} (neg : Bool) : OpD K (rIn K neg) (inD neg) := by
  intro O H dx dy d vx vy Q ol ix iy e q
  unfold inD at e
  cases dy <;> first | (cases e; done) | skip
  · rename_i l
    simp only at e
    split at e
    · rename_i hl
      cases e
      rw [Is.tup_iff] at iy
      obtain ⟨a, xs, rfl, hs, il⟩ := iy
      obtain ⟨q1, q2⟩ := in_ok ix hl.1 il hl.2
      exact ⟨a, xs, rfl, .inr hs, flat_ok ix hl.1, q1, q _ H (Same.refl H) (by rw [Is.bl_iff, q2])⟩
    · cases e
  · rename_i l
    simp only at e
    split at e
    · rename_i hl
      cases e
      rw [Is.lst_iff] at iy
      obtain ⟨a, xs, rfl, hs, il⟩ := iy
      obtain ⟨q1, q2⟩ := in_ok ix hl.1 il hl.2
      exact ⟨a, xs, rfl, .inl hs.sq, flat_ok ix hl.1, q1, q _ H (Same.refl H) (by rw [Is.bl_iff, q2])⟩
    · cases e
end
noncomputable def ixD : D → D → Option D
  | .lst l, .int i => atI l i
  | .tup l, .int i => atI l i
  | .str s, .int i => if s.length ≤ sizeLine then (atI s i).map fun c => .str [c] else none
  | _, _ => none
theorem atI_len {α β : Type} {l : List α} {m : List β} {i : Int} {x : α} (hl : l.length = m.length) (e : atI l i = some x) : ∃ j : Nat, l[j]? = some x ∧ ∀ y, m[j]? = some y → atI m i = some y := by
  unfold atI at e ⊢
  obtain ⟨j, e1, e2⟩ := bind_some e
  exact ⟨j, e2, fun y ey => by rw [← hl, e1]; exact ey⟩
noncomputable def mIxB (fl : ML) (g : ME) : ME := fun r => (fl r).bind fun l => (g r).bind fun d => (intD d).bind fun i => atI l i
section
variable {X : Cx} {pos : Pos} {a b : Expr} {f g : ME}
theorem od_ix {K : Fg} : OpD K (rIx K) ixD := by
  intro O H dx dy d vx vy Q ol ix iy e q
  cases dx <;> cases dy <;> first | (simp only [ixD, reduceCtorEq] at e; done) | skip
  · rename_i s i
    simp only [ixD] at e
    split at e
    · rename_i hl
      obtain ⟨c, e1, rfl⟩ := map_some e
      rw [Is.str_iff] at ix
      rw [Is.int_iff] at iy
      exact .inr (.inr ⟨_, i, c, ix, iy, by rw [str_len]; exact hl, by simpa using e1, q _ H (Same.refl H) (by rw [Is.str_iff])⟩)
    · cases e
  · rename_i l i
    simp only [ixD] at e
    rw [Is.tup_iff] at ix
    rw [Is.int_iff] at iy
    obtain ⟨p, xs, rfl, hs, il⟩ := ix
    obtain ⟨j, e1, e2⟩ := atI_len il.length e
    obtain ⟨v, e3, iv⟩ := il.get e1
    exact .inr (.inl ⟨p, xs, i, v, rfl, iy, hs, e2 v e3, q _ H (Same.refl H) iv⟩)
  · rename_i l i
    simp only [ixD] at e
    rw [Is.lst_iff] at ix
    rw [Is.int_iff] at iy
    obtain ⟨p, xs, rfl, hs, il⟩ := ix
    obtain ⟨j, e1, e2⟩ := atI_len il.length e
    obtain ⟨v, e3, iv⟩ := il.get e1
    exact .inl ⟨p, xs, i, v, rfl, iy, hs.sq, e2 v e3, q _ H (Same.refl H) iv⟩
theorem de_ix (ha : DE X a f) (hb : DE X b g) (hs : PlainIx b := by intro _ _; rfl) : DE X (.Subscript a b pos) (mBin ixD f g) :=
  PE.conseq (pe_ix ix_seq ha hb hs) fun σ H Q h => two (ta := lE X.K f) (tb := lE X.K g) od_ix h
theorem de_ixB {fl : ML} (ha : DB X a fl) (hb : DE X b g) (hs : PlainIx b := by intro _ _; rfl) : DE X (.Subscript a b pos) (mIxB fl g) := by
  refine PE.conseq (pe_ix ix_list ha hb hs) fun σ H Q h => ?_
  obtain ⟨O0, r, d, hR, e, q⟩ := h
  obtain ⟨l, e1, e⟩ := bind_some e
  obtain ⟨d', e2, e⟩ := bind_some e
  obtain ⟨i, e3, e⟩ := bind_some e
  cases intD_some e3
  refine ⟨O0, r, l, hR, e1, fun p xs H1 s1 rd il => ⟨O0, r, _, hR.same s1, e2, fun v2 H2 s2 i2 => ?_⟩⟩
  rw [Is.int_iff] at i2
  obtain ⟨j, e4, e5⟩ := atI_len il.length e
  obtain ⟨v, e6, iv⟩ := il.get e4
  exact ⟨p, xs, i, v, rfl, i2, s2.seq rd, e5 v e6, q v H2 (s1.trans s2) (iv.same s2 (hR.same s1).ol)⟩
noncomputable def lenD : D → Option D
  | .lst l => some (.int l.length)
  | .tup l => some (.int l.length)
  | .str s => if s.length ≤ sizeLine then some (.int s.length) else none
  | _ => none
theorem call_lenA : CallR X (.builtin "len") (fun xs H Q => (∃ p ys, xs = [.ref p] ∧ (SqL X.K H p ys ∨ SqT X.K H p ys) ∧ Q (.int ys.length) H) ∨ (∃ z, xs = [.str z] ∧ z.length ≤ sizeLine ∧ Q (.int z.length) H)) := call_len_seq.or call_len_str
theorem lenD_ok {K : Fg} {O : Addr → Prop} {H : Hp} {x d : D} {v : V} {Q : VK} (i1 : Is K O H x v) (e : lenD x = some d) (q : ∀ v, Is K O H d v → Q v H) :
    (∃ p ys, [v] = [.ref p] ∧ (SqL K H p ys ∨ SqT K H p ys) ∧ Q (.int ys.length) H) ∨ (∃ z, [v] = [.str z] ∧ z.length ≤ sizeLine ∧ Q (.int z.length) H) := by
  cases x <;> first | (simp only [lenD, reduceCtorEq] at e; done) | skip
  · simp only [lenD] at e
    split at e
    · rename_i hl
      cases e
      rw [Is.str_iff] at i1
      subst i1
      exact .inr ⟨_, rfl, by rw [str_len]; exact hl, q _ (by rw [Is.int_iff, str_len])⟩
    · cases e
  · simp only [lenD, Option.some.injEq] at e
    subst e
    rw [Is.tup_iff] at i1
    obtain ⟨p, ys, rfl, hs, il⟩ := i1
    exact .inl ⟨p, ys, rfl, .inr hs, q _ (by rw [Is.int_iff, il.length])⟩
  · simp only [lenD, Option.some.injEq] at e
    subst e
    rw [Is.lst_iff] at i1
    obtain ⟨p, ys, rfl, hs, il⟩ := i1
    exact .inl ⟨p, ys, rfl, .inl hs.sq, q _ (by rw [Is.int_iff, il.length])⟩
theorem de_len {p' : Pos} (hg : Gl X "len") (hm : X.mg "len" = none) (ha : DE X a f) (hs : starEach [a] X.env = (false, eval a X.env) :: starEach [] X.env := by rfl) : DE X (.Call (.Name "len" p') [a] [] pos) (mUn lenD f) := by
  refine PE.conseq (pe_callB call_lenA hg hm PySem.boot_len (pa_cons ha pa_nil hs) (he := hs)) fun σ H Q h => ?_
  obtain ⟨O0, r, d, hR, e, q⟩ := h
  obtain ⟨x, e1, e2⟩ := bind_some e
  exact ⟨O0, r, x, hR, e1, fun v H1 s1 i1 => lenD_ok i1 e2 fun v' iv => q v' H1 s1 iv⟩
noncomputable def tyN : D → Option String
  | .non => some "NoneType"
  | .bl _ => some "bool"
  | .int _ => some "int"
  | .str _ => some "str"
  | .tup _ => some "tuple"
  | .lst _ => some "list"
  | _ => none
noncomputable def subN : List (String × String × Bool) := [("bool", "int", true), ("NoneType", "int", false), ("NoneType", "str", false), ("NoneType", "bool", false), ("NoneType", "tuple", false), ("NoneType", "list", false),
  ("bool", "str", false), ("bool", "tuple", false), ("bool", "list", false), ("int", "bool", false), ("int", "str", false), ("int", "tuple", false), ("int", "list", false),
  ("str", "int", false), ("str", "bool", false), ("str", "tuple", false), ("str", "list", false), ("tuple", "int", false), ("tuple", "bool", false), ("tuple", "str", false), ("tuple", "list", false),
  ("list", "int", false), ("list", "bool", false), ("list", "str", false), ("list", "tuple", false)]
noncomputable def instN (t T : String) : Option Bool := if t = T then some true else (subN.find? fun x => x.1 == t && x.2.1 == T).map (·.2.2)
noncomputable def instD (T : String) (d : D) : Option D := (tyN d).bind fun t => (instN t T).map .bl
theorem kit_ok (K : Fg) {t T : String} {b : Bool} (e : instN t T = some b) : PySem.W.kitOne K (.type t) (.type T) = some b := by
  unfold instN at e
  split at e
  · rename_i h; subst h; cases e; unfold PySem.W.kitOne; rw [if_pos (by simp)]
  · obtain ⟨⟨x, y, c⟩, e1, e2⟩ := map_some e
    have hm := List.mem_of_find?_eq_some e1
    have hp := List.find?_some e1
    simp only [Bool.and_eq_true, beq_iff_eq] at hp
    obtain ⟨rfl, rfl⟩ := hp
    subst e2
    unfold subN at hm
    simp only [List.mem_cons, List.not_mem_nil, or_false, Prod.mk.injEq] at hm
    rcases hm with ⟨rfl, rfl, rfl⟩ | ⟨rfl, rfl, rfl⟩ | ⟨rfl, rfl, rfl⟩ | ⟨rfl, rfl, rfl⟩ | ⟨rfl, rfl, rfl⟩ | ⟨rfl, rfl, rfl⟩ | ⟨rfl, rfl, rfl⟩ | ⟨rfl, rfl, rfl⟩ | ⟨rfl, rfl, rfl⟩ | ⟨rfl, rfl, rfl⟩ | ⟨rfl, rfl, rfl⟩ | ⟨rfl, rfl, rfl⟩ | ⟨rfl, rfl, rfl⟩ | ⟨rfl, rfl, rfl⟩ | ⟨rfl, rfl, rfl⟩ | ⟨rfl, rfl, rfl⟩ | ⟨rfl, rfl, rfl⟩ | ⟨rfl, rfl, rfl⟩ | ⟨rfl, rfl, rfl⟩ | ⟨rfl, rfl, rfl⟩ | ⟨rfl, rfl, rfl⟩ | ⟨rfl, rfl, rfl⟩ | ⟨rfl, rfl, rfl⟩ | ⟨rfl, rfl, rfl⟩ | ⟨rfl, rfl, rfl⟩ <;> kernel_rfl
noncomputable def TyA (K : Fg) (H : Hp) (x : V) (t : String) : Prop := match x with
  | .non => t = "NoneType"
  | .bl _ => t = "bool"
  | .int _ => t = "int"
  | .str _ => t = "str"
  | .ref a => (t = "list" ∧ ∃ xs, SqL K H a xs) ∨ (t = "tuple" ∧ ∃ xs, SqT K H a xs)
  | _ => False
theorem call_isinst : CallR X (.builtin "isinstance") (fun xs H Q => ∃ x t T b, xs = [x, .ty T] ∧ TyA X.K H x t ∧ instN t T = some b ∧ Q (.bl b) H) := by
  intro pins s σ H xs us Q I r h
  obtain ⟨x, t, T, b, rfl, ht, e, q⟩ := h
  obtain ⟨u, v, rfl, r1, r2⟩ := Vals.two r
  cases (show v = Value.type T from r2)
  have e' := kit_ok X.K e
  have fin : ∀ tk, EP X pins σ Q (.bool b) { s with toks := tk } := fun tk => ⟨.bl b, H, I.tok tk, rfl, q⟩
  cases x with
  | non => cases (show t = _ from ht); exact isinst_ok I r1 (.non) e' fin
  | bl y => cases (show t = _ from ht); exact isinst_ok I r1 (.bl y) e' fin
  | int i => cases (show t = _ from ht); exact isinst_ok I r1 (.int i) e' fin
  | str y => cases (show t = _ from ht); exact isinst_ok I r1 (.str y) e' fin
  | ref a =>
    cases (show u = Value.ref a from r1)
    rcases (show (t = "list" ∧ ∃ xs, SqL X.K H a xs) ∨ (t = "tuple" ∧ ∃ xs, SqT X.K H a xs) from ht) with ⟨rfl, xs, hs⟩ | ⟨rfl, xs, hs⟩
    · obtain ⟨its, _, ⟨o, n, h1, h2, _⟩, _⟩ := I.list hs
      exact PySem.W.kia_one PySem.W.kitx_list I.kIn ⟨o, h1, h2⟩ e' (fun z => nomatch z) fin
    · obtain ⟨its, _, ⟨o, h1, h2, _⟩, _⟩ := I.tuple hs
      exact PySem.W.kia_one PySem.W.kitx_tuple I.kIn ⟨o, h1, h2⟩ e' (fun z => nomatch z) fin
  | _ => exact False.elim ht
theorem tyA_ok {K : Fg} {O : Addr → Prop} {H : Hp} {d : D} {v : V} {t : String} (h : Is K O H d v) (e : tyN d = some t) : TyA K H v t := by
  cases d <;> first | (simp only [tyN, reduceCtorEq] at e; done) | skip
  all_goals simp only [tyN, Option.some.injEq] at e
  all_goals subst e
  · rw [Is.non_iff] at h; subst h; rfl
  · rw [Is.bl_iff] at h; subst h; rfl
  · rw [Is.int_iff] at h; subst h; rfl
  · rw [Is.str_iff] at h; subst h; rfl
  · rw [Is.tup_iff] at h; obtain ⟨a, xs, rfl, hs, _⟩ := h; exact .inr ⟨rfl, xs, hs⟩
  · rw [Is.lst_iff] at h; obtain ⟨a, xs, rfl, hs, _⟩ := h; exact .inl ⟨rfl, xs, hs.sq⟩
theorem de_isinst {p' pt : Pos} {x : Str} {T : String} (hg : Gl X "isinstance") (hm : X.mg "isinstance" = none) (ha : DE X a f) (hT : PE X (.Name x pt) (tC (.ty T))) (hs : starEach [a, .Name x pt] X.env = (false, eval a X.env) :: starEach [.Name x pt] X.env := by rfl) (hs2 : starEach [.Name x pt] X.env = (false, eval (.Name x pt) X.env) :: starEach [] X.env := by rfl) : DE X (.Call (.Name "isinstance" p') [a, .Name x pt] [] pos) (mUn (instD T) f) := by
  refine PE.conseq (pe_callB call_isinst hg hm PyProof.Rows.boot_isinstance (pa_cons ha (pa_cons hT pa_nil hs2) hs) (he := hs)) fun σ H Q h => ?_
  obtain ⟨O0, r, d, hR, e, q⟩ := h
  obtain ⟨x, e1, e2⟩ := bind_some e
  obtain ⟨t, e3, e4⟩ := bind_some e2
  obtain ⟨b, e5, rfl⟩ := map_some e4
  exact ⟨O0, r, x, hR, e1, fun v H1 s1 i1 => ⟨v, t, T, b, rfl, tyA_ok i1 e3, e5, q _ H1 s1 (by rw [Is.bl_iff])⟩⟩
end
noncomputable def mtOf (r : En) (i : Nat) : Option (List D) := (r[i]?).bind Sl.mt
noncomputable def putO (i : Nat) (l : List D) (r : En) : Option En := match r[i]? with
  | some (.o _) => some (r.set i (.o l))
  | some (.p _) => some (r.set i (.p l))
  | _ => none
section
variable {K : Fg} {O0 : Addr → Prop} {H H' : Hp} {r : En} {σ : St} {i : Nat} {a : Addr} {l l' : List D}
theorem putO_some {r' : En} (e : putO i l' r = some r') : ∃ x y, r[i]? = some x ∧ r' = r.set i y ∧ y.own = some l' ∧ y.mt = some l' ∧ (∃ l, x.mt = some l) ∧ (∀ m, y = .p m ↔ m = l' ∧ ∃ n, x = .p n) ∧ (∀ m, y = .o m ↔ m = l' ∧ ∃ n, x = .o n) ∧ ∀ m, y ≠ .z m := by
  unfold putO at e
  cases e1 : r[i]? with
  | none => rw [e1] at e; cases e
  | some x =>
    rw [e1] at e
    cases x with
    | o n => cases e; exact ⟨.o n, .o l', rfl, rfl, rfl, rfl, ⟨n, rfl⟩, fun m => ⟨(fun z => by cases z), (fun ⟨_, _, z⟩ => by cases z)⟩, fun m => ⟨(fun z => by cases z; exact ⟨rfl, n, rfl⟩), (fun ⟨z, _⟩ => by subst z; rfl)⟩, (fun m z => by cases z)⟩
    | p n => cases e; exact ⟨.p n, .p l', rfl, rfl, rfl, rfl, ⟨n, rfl⟩, fun m => ⟨(fun z => by cases z; exact ⟨rfl, n, rfl⟩), (fun ⟨z, _⟩ => by subst z; rfl)⟩, fun m => ⟨(fun z => by cases z), (fun ⟨_, _, z⟩ => by cases z)⟩, (fun m z => by cases z)⟩
    | _ => cases e
theorem R.put {r' : En} {xs' : List V} (h : R K O0 H r σ) (e : putO i l' r = some r') (ha : σ[i]? = some (some (.ref a))) (kp : ∀ b o, b ≠ a → H b = some o → H' b = some o) (lv : ∀ b, b ≠ a → H' b = none → H b = none) (e' : H' a = some (.lst xs')) (il : IsL K (Ow O0 r σ) H' l' xs') :
    R K O0 H' r' σ ∧ Kp H r σ H' r' σ := by
  obtain ⟨x, y, ex, rfl, yo, ym, ⟨l0, xm⟩, yp, yoo, yz⟩ := putO_some e
  have hi : i < r.length := (List.getElem?_eq_some_iff.mp ex).1
  have own_i : OwnAt r σ a := ⟨i, l0, by rw [ex]; exact mt_own xm, ha⟩
  have mut_i : MutAt r σ a := ⟨i, l0, by rw [ex]; exact xm, ha⟩
  have atO : ∀ b, OwnAt (r.set i y) σ b → OwnAt r σ b := fun b ⟨j, m, e1, q1⟩ => by
    by_cases hj : i = j
    · subst hj; rw [ha] at q1; cases q1; exact own_i
    · rw [get_set_ne hj] at e1; exact ⟨j, m, e1, q1⟩
  have atM : ∀ b, MutAt (r.set i y) σ b → MutAt r σ b := fun b ⟨j, m, e1, q1⟩ => by
    by_cases hj : i = j
    · subst hj; rw [ha] at q1; cases q1; exact mut_i
    · rw [get_set_ne hj] at e1; exact ⟨j, m, e1, q1⟩
  have sub : ∀ b, Ow O0 (r.set i y) σ b → H b ≠ none → Ow O0 r σ b := fun b z _ => z.imp id (atO b)
  have sub' : ∀ b, Ow O0 (r.set i y) σ b → H' b ≠ none → Ow O0 r σ b := fun b z _ => z.imp id (atO b)
  have keep : Keep (Ow O0 r σ) H H' := fun b o e1 n => kp b o (fun z => n (by subst z; exact .inr own_i)) e1
  have lst : ∀ b xs, H b = some (.lst xs) → ∃ ys, H' b = some (.lst ys) := fun b xs e1 => by
    by_cases hb : b = a
    · subst hb; exact ⟨xs', e'⟩
    · exact ⟨xs, kp b _ hb e1⟩
  have ol' : OLst (Ow O0 r σ) H' := fun b z => by obtain ⟨xs, q⟩ := h.ol b z; exact lst b xs q
  refine ⟨⟨by simp [h.len], fun j d e1 => ?_, fun j m e1 => ?_, fun j k b m n e1 e2 q1 q2 => ?_, fun b z => ?_, fun j m b e1 q1 => ?_, fun j m b e1 q1 => ?_⟩, ⟨fun b o e1 n => kp b o (fun z => n (by subst z; exact mut_i)) e1, fun b e1 => ?_, lst, fun b z => .inl (atO b z), fun b z => .inl (atM b z), fun j m e1 => ?_, fun j m e1 => ?_⟩⟩
  · have hj : i ≠ j := fun z => by subst z; rw [get_set_eq hi] at e1; cases e1; cases yo
    rw [get_set_ne hj] at e1
    obtain ⟨v, q1, q2⟩ := h.val j d e1
    exact ⟨v, q1, Is.mono keep h.ol sub _ _ q2⟩
  · by_cases hj : i = j
    · subst hj
      rw [get_set_eq hi] at e1
      have : l' = m := by have e1' : y.own = some m := e1; rw [yo] at e1'; exact Option.some.inj e1'
      subst this
      exact ⟨a, xs', ha, e', IsL.mono (Same.kp (Same.refl H') _) ol' sub' _ _ il⟩
    · rw [get_set_ne hj] at e1
      obtain ⟨b, ys, q1, q2, q3⟩ := h.own j m e1
      have hb : b ≠ a := fun z => by
        subst z
        exact hj (h.apart i j b l0 m (by rw [ex]; exact mt_own xm) e1 ha q1)
      exact ⟨b, ys, q1, kp b _ hb q2, IsL.mono keep h.ol sub _ _ q3⟩
  · have get : ∀ (j : Nat) (m : List D), ((r.set i y)[j]?).bind Sl.own = some m → ∃ m', (r[j]?).bind Sl.own = some m' := fun j m e1 => by
      by_cases hj : i = j
      · subst hj; exact ⟨l0, by rw [ex]; exact mt_own xm⟩
      · rw [get_set_ne hj] at e1; exact ⟨m, e1⟩
    obtain ⟨m', z1⟩ := get j m e1
    obtain ⟨n', z2⟩ := get k n e2
    exact h.apart j k b m' n' z1 z2 q1 q2
  · obtain ⟨xs, q⟩ := h.o0 b z; exact lst b xs q
  · by_cases hj : i = j
    · subst hj
      rw [get_set_eq hi] at e1
      rcases e1 with e1 | e1
      · obtain ⟨_, n, z⟩ := (yoo m).mp (Option.some.inj e1)
        exact h.loc i n b (.inl (by rw [ex, z])) q1
      · exact absurd (Option.some.inj e1) (yz m)
    · rw [get_set_ne hj] at e1
      exact h.loc j m b e1 q1
  · by_cases hj : i = j
    · subst hj
      rw [get_set_eq hi] at e1
      obtain ⟨_, n, z⟩ := (yp m).mp (Option.some.inj e1)
      exact h.par i n b (by rw [ex, z]) q1
    · rw [get_set_ne hj] at e1
      exact h.par j m b e1 q1
  · by_cases hb : b = a
    · subst hb; rw [e'] at e1; cases e1
    · exact lv b hb e1
  · by_cases hj : i = j
    · subst hj
      rw [ex] at e1
      exact ⟨⟨l', by rw [get_set_eq hi, (yp l').mpr ⟨rfl, m, Option.some.inj e1⟩]⟩, rfl⟩
    · exact ⟨⟨m, by rw [get_set_ne hj]; exact e1⟩, rfl⟩
  · have hj : i ≠ j := fun z => by subst z; rw [ex] at e1; cases e1; cases xm
    exact ⟨by rw [get_set_ne hj]; exact e1, rfl⟩
theorem R.upd {r' : En} {xs xs' : List V} (h : R K O0 H r σ) (e : putO i l' r = some r') (ha : σ[i]? = some (some (.ref a))) (hx : H a = some (.lst xs)) (il : IsL K (Ow O0 r σ) H l' xs') : R K O0 (upd H a (.lst xs')) r' σ ∧ Kp H r σ (upd H a (.lst xs')) r' σ := by
  have own_a : Ow O0 r σ a := by
    obtain ⟨x, y, ex, _, _, _, ⟨l0, xm⟩, _⟩ := putO_some e
    exact .inr ⟨i, l0, by rw [ex]; exact mt_own xm, ha⟩
  refine h.put e ha (fun b o hb e1 => by rw [upd_ne hb]; exact e1) (fun b hb e1 => by rw [upd_ne hb] at e1; exact e1) upd_same ?_
  exact IsL.mono (fun b o e1 n => by rw [upd_ne (fun z => n (by subst z; exact own_a))]; exact e1) h.ol (fun _ z _ => z) _ _ il
end
noncomputable def mApp (i : Nat) (f : ME) : En → Option (D × En) := fun r => (f r).bind fun d => (mtOf r i).bind fun l => if l.length < sizeLine then (putO i (l ++ [d]) r).map fun r' => (.non, r') else none
noncomputable def mAppX (i : Nat) (f : En → Option (D × En)) : En → Option (D × En) := fun r0 => (f r0).bind fun p => (mtOf r0 i).bind fun _ => (mtOf p.2 i).bind fun l => if l.length < sizeLine then (putO i (l ++ [p.1]) p.2).map fun r' => (.non, r') else none
noncomputable def mPop (i : Nat) : En → Option (D × En) := fun r => (mtOf r i).bind fun l => (l[l.length - 1]?).bind fun d => (putO i l.dropLast r).map fun r' => (d, r')
noncomputable def mExt (i : Nat) (f : ME) : En → Option (D × En) := fun r => (f r).bind fun d => (itemsD d).bind fun m => (mtOf r i).bind fun l => if l.length + m.length ≤ sizeLine then (putO i (l ++ m) r).map fun r' => (.non, r') else none
theorem IsL.dropLast {K : Fg} {O : Addr → Prop} {H : Hp} {l : List D} {vs : List V} (h : IsL K O H l vs) : IsL K O H l.dropLast vs.dropLast := by
  rw [List.dropLast_eq_take, List.dropLast_eq_take, h.length]
  exact h.take _
section
variable {X : Cx} {apos cpos pn : Pos} {e : Expr} {f : ME} {x : Str} {i : Nat}
theorem mt_at {K : Fg} {O0 : Addr → Prop} {H : Hp} {r : En} {σ : St} {l : List D} (h : R K O0 H r σ) (e : mtOf r i = some l) : ∃ a xs, σ[i]? = some (some (.ref a)) ∧ H a = some (.lst xs) ∧ IsL K (Ow O0 r σ) H l xs := by
  obtain ⟨y, e1, e2⟩ := bind_some e
  exact h.own i l (by rw [e1]; exact mt_own e2)
theorem dx_append (i : Nat) {x : Str} (h : PE X (.Name x pn) (tVar i)) (he : DE X e f)
    (hline : (apos.endLine == cpos.line) = true := by rfl) (hbase : attributeBase (.Name x pn) "append" X.env (eval (.Name x pn) X.env) = eval (.Name x pn) X.env := by rfl)
    (hfew : ((backTo cpos (starEach [e] X.env)).all (fun x => !x.1) && (backToKw cpos (keywordEach [] X.env)).all (fun x => x.1.isSome) && decide ([e].length + ([] : List Keyword).length + (if ([] : List Keyword).isEmpty then 0 else 1) < 30)) = true := by rfl)
    (hs : starEach [e] X.env = (false, eval e X.env) :: starEach [] X.env := by rfl) :
    DX X (.Call (.Attribute (.Name x pn) "append" apos) [e] [] cpos) (mApp i f) := by
  refine PE.conseq (pe_bm PySem.F.plainAttrs_list PySem.F.slot_list_append PySem.F.type_list_append mt_append h (pa_cons he pa_nil hs) hbase hfew hline hs) fun σ H Q hq => ?_
  obtain ⟨O0, r, d', r', hR, e, q⟩ := hq
  obtain ⟨d, e1, e⟩ := bind_some e
  obtain ⟨l, e2, e⟩ := bind_some e
  split at e
  · rename_i hl
    obtain ⟨r2, e3, e4⟩ := map_some e
    cases e4
    obtain ⟨a, xs, q1, q2, q3⟩ := mt_at hR e2
    refine ⟨.ref a, q1, .inl ⟨rfl, xs, SqL.of q2⟩, O0, r, d, hR, e1, fun v H1 s1 i1 => ?_⟩
    have R1 := hR.same s1
    obtain ⟨R2, k2⟩ := R1.upd (xs' := xs ++ [v]) e3 q1 (s1 _ _ q2) ((q3.same s1 hR.ol).append (.cons i1 .nil))
    exact ⟨a, xs, v, rfl, rfl, s1 _ _ q2, by rw [← q3.length]; exact hl, q _ _ R2 ((Kp.of_same r σ s1).trans k2) (by rw [Is.non_iff])⟩
  · cases e
theorem dx_appendX (i : Nat) {x : Str} {fx : En → Option (D × En)} (h : PE X (.Name x pn) (tVar i)) (he : DX X e fx)
    (hline : (apos.endLine == cpos.line) = true := by rfl) (hbase : attributeBase (.Name x pn) "append" X.env (eval (.Name x pn) X.env) = eval (.Name x pn) X.env := by rfl)
    (hfew : ((backTo cpos (starEach [e] X.env)).all (fun x => !x.1) && (backToKw cpos (keywordEach [] X.env)).all (fun x => x.1.isSome) && decide ([e].length + ([] : List Keyword).length + (if ([] : List Keyword).isEmpty then 0 else 1) < 30)) = true := by rfl)
    (hs : starEach [e] X.env = (false, eval e X.env) :: starEach [] X.env := by rfl) :
    DX X (.Call (.Attribute (.Name x pn) "append" apos) [e] [] cpos) (mAppX i fx) := by
  refine PE.conseq (pe_bm PySem.F.plainAttrs_list PySem.F.slot_list_append PySem.F.type_list_append mt_append h (pa_cons he pa_nil hs) hbase hfew hline hs) fun σ H Q hq => ?_
  obtain ⟨O0, r, d', r', hR, e, q⟩ := hq
  obtain ⟨⟨d, r1⟩, e1, e⟩ := bind_some e
  obtain ⟨l0, e0, e⟩ := bind_some e
  obtain ⟨l, e2, e⟩ := bind_some e
  split at e
  · rename_i hl
    obtain ⟨r2, e3, e4⟩ := map_some e
    cases e4
    obtain ⟨a0, xs0, p1, p2, p3⟩ := mt_at hR e0
    refine ⟨.ref a0, p1, .inl ⟨rfl, xs0, SqL.of p2⟩, O0, r, d, r1, hR, e1, fun v H1 R1 k1 i1 => ?_⟩
    obtain ⟨a, xs, q1, q2, q3⟩ := mt_at R1 e2
    rw [p1] at q1; cases q1
    obtain ⟨R2, k2⟩ := R1.upd (xs' := xs ++ [v]) e3 p1 q2 (q3.append (.cons i1 .nil))
    exact ⟨_, xs, v, rfl, rfl, q2, by rw [← q3.length]; exact hl, q _ _ R2 (k1.trans k2) (by rw [Is.non_iff])⟩
  · cases e
theorem dx_pop (i : Nat) {x : Str} (h : PE X (.Name x pn) (tVar i)) (hbase : attributeBase (.Name x pn) "pop" X.env (eval (.Name x pn) X.env) = eval (.Name x pn) X.env := by rfl) (hline : (apos.endLine == cpos.line) = true := by rfl) :
    DX X (.Call (.Attribute (.Name x pn) "pop" apos) [] [] cpos) (mPop i) := by
  refine PE.conseq (pe_bm0 PySem.F.plainAttrs_list PySem.F.slot_list_pop PySem.F.type_list_pop mt_pop h hbase hline) fun σ H Q hq => ?_
  obtain ⟨O0, r, d', r', hR, e, q⟩ := hq
  obtain ⟨l, e2, e⟩ := bind_some e
  obtain ⟨d, e1, e⟩ := bind_some e
  obtain ⟨r2, e3, e4⟩ := map_some e
  have e5 : d = d' := congrArg Prod.fst e4
  have e6 : r2 = r' := congrArg Prod.snd e4
  subst e5 e6
  obtain ⟨a, xs, q1, q2, q3⟩ := mt_at hR e2
  obtain ⟨v, ev, iv⟩ := q3.get e1
  obtain ⟨R2, k2⟩ := hR.upd (xs' := xs.dropLast) e3 q1 q2 q3.dropLast
  refine ⟨.ref a, q1, .inl ⟨rfl, xs, SqL.of q2⟩, a, xs, v, rfl, rfl, q2, by rw [← q3.length]; exact ev, q _ _ R2 k2 ?_⟩
  have own_a : Ow O0 r σ a := by
    obtain ⟨y, z1, z2⟩ := bind_some e2
    exact .inr ⟨i, l, by rw [z1]; exact mt_own z2, q1⟩
  have ow2 : ∀ b, Ow O0 r2 σ b → H b ≠ none → Ow O0 r σ b := fun b z n => z.imp id fun z => (k2.new b z).elim id fun z => absurd z n
  exact Is.mono (fun b o e1 n => by rw [upd_ne (fun z => n (by subst z; exact own_a))]; exact e1) hR.ol ow2 _ _ iv
end
noncomputable def capS : Option Sl → Sl
  | some (.v d) => .v d
  | _ => .un
noncomputable def capR (cap : List Nat) (n : Nat) (r : En) : En := (cap.map fun j => capS r[j]?) ++ List.replicate (n - cap.length) .un
noncomputable def compL (bd : D → En → Option En) (c : MB) (x : ME) : List D → En → Option (List D)
  | [], _ => some []
  | d :: t, r => (bd d r).bind fun r1 => (c r1).bind fun b => if b = true then (x r1).bind fun y => (compL bd c x t r1).map (y :: ·) else compL bd c x t r1
noncomputable def mTrue : MB := fun _ => some true
noncomputable def mCompIf (cap : List Nat) (n : Nat) (it : ML) (bd : D → En → Option En) (c : MB) (x : ME) : ML := fun r => (it r).bind fun l => if l.length < sizeLine then compL bd c x l (capR cap n r) else none
noncomputable def mComp (cap : List Nat) (n : Nat) (it : ML) (bd : D → En → Option En) (x : ME) : ML := mCompIf cap n it bd mTrue x
theorem R.cap {K : Fg} {O0 : Addr → Prop} {H H2 : Hp} {r : En} {σ : St} {cap : List Nat} {n : Nat} {p : Addr} {ys : List V} (h : R K O0 H r σ) (s : Same H H2) (hp : H p = none) (ep : H2 p = some (.lst ys)) :
    R K (fun b => Ow O0 r σ b ∨ b = p) H2 (capR cap n r) (sigC cap n σ) := by
  have noO : ∀ (i : Nat) (l : List D), ((capR cap n r)[i]?).bind Sl.own ≠ some l := fun i l e => by
    unfold capR at e
    by_cases hi : i < cap.length
    · rw [List.getElem?_append_left (by simpa using hi), List.getElem?_map] at e
      obtain ⟨j, hj⟩ : ∃ j, cap[i]? = some j := ⟨cap[i], by simp [hi]⟩
      rw [hj] at e
      have e' : (capS r[j]?).own = some l := e
      cases ej : r[j]? with
      | none => rw [ej] at e'; cases e'
      | some y => rw [ej] at e'; cases y <;> cases e'
    · rw [List.getElem?_append_right (by simpa using Nat.le_of_not_lt hi), List.getElem?_replicate] at e
      split at e <;> cases e
  have ol : OLst (fun b => Ow O0 r σ b ∨ b = p) H2 := fun b z => z.elim (fun z => (h.same s).ol b z) fun z => by subst z; exact ⟨ys, ep⟩
  refine ⟨by simp [capR, sigC], fun i d e => ?_, fun i l e => absurd e (noO i l), fun i j a l m e1 => absurd e1 (noO i l), ol, fun i l a e => absurd (show ((capR cap n r)[i]?).bind Sl.own = some l by rcases e with e | e <;> rw [e] <;> rfl) (noO i l), fun i l a e => absurd (show ((capR cap n r)[i]?).bind Sl.own = some l by rw [e]; rfl) (noO i l)⟩
  unfold capR at e
  by_cases hi : i < cap.length
  · rw [List.getElem?_append_left (by simpa using hi), List.getElem?_map] at e
    obtain ⟨j, hj⟩ : ∃ j, cap[i]? = some j := ⟨cap[i], by simp [hi]⟩
    rw [hj] at e
    have e' : capS r[j]? = .v d := Option.some.inj e
    have ej : r[j]? = some (.v d) := by
      cases ej : r[j]? with
      | none => rw [ej] at e'; cases e'
      | some y => rw [ej] at e'; cases y <;> cases e'; rfl
    obtain ⟨v, e1, q⟩ := h.val j d ej
    refine ⟨v, ?_, ?_⟩
    · unfold sigC
      rw [List.getElem?_append_left (by simpa using hi), List.getElem?_map, hj]
      show some ((σ[j]?).getD none) = _
      rw [e1]; rfl
    · refine Is.mono (Same.kp s _) h.ol (fun a z nn => ?_) _ _ q
      rcases z with (z | z) | ⟨k, l, ek, _⟩
      · exact z
      · subst z; exact absurd hp nn
      · exact absurd ek (noO k l)
  · rw [List.getElem?_append_right (by simpa using Nat.le_of_not_lt hi), List.getElem?_replicate] at e
    split at e <;> cases e
section
variable {X : Cx} {N' : List Str} {cap : List Nat} {scope : Scope} {elt tg iter : Expr} {ifs : List Expr} {pos : Pos} {it : ML} {bd : D → En → Option En} {c : MB} {x : ME}
theorem comp_read {tc : Option TT} (htc : ∀ {σ : St} {H : Hp} {K1 : V → Hp → Prop} {K0 : Hp → Prop} {te : TE}, (lT X.K c σ H fun b H1 => if b = true then te σ H1 K1 else K0 H1) → tComp1 tc te K1 K0 σ H)
    (n : Nat) {σ : St} {H : Hp} {Q : VK} (h : lF X.K (mCompIf cap n it bd c x) σ H Q) : tComp cap n (lI X.K it) (lG X.K bd) tc (lE X.K x) σ H Q := by
  obtain ⟨O0, r, out, hR, e, q⟩ := h
  obtain ⟨l, e1, e2⟩ := bind_some e
  split at e2
  · rename_i hlen
    refine ⟨O0, r, l, hR, e1, fun J H1 s1 yl p hp => ?_⟩
    have hpH : H p = none := s1.free hp
    refine ⟨fun i m ys σ2 H2 => m = l.length - i ∧ i ≤ l.length ∧ ys.length ≤ i ∧ H2 p = some (.lst ys) ∧ Same H1 H2 ∧ ∃ r2 dn rest, R X.K (fun b => Ow O0 r σ b ∨ b = p) H2 r2 σ2 ∧ (∀ a, ¬ OwnAt r2 σ2 a) ∧ IsL X.K (fun b => Ow O0 r σ b ∨ b = p) H2 dn ys ∧ compL bd c x (l.drop i) r2 = some rest ∧ dn ++ rest = out,
      ⟨l.length, by simp, Nat.zero_le _, Nat.le_refl _, upd_same, same_upd hp, capR cap n r, [], out, ?_, ?_, .nil, by simpa using e2, rfl⟩, ?_⟩
    · exact R.cap hR (s1.trans (same_upd hp)) hpH upd_same
    · rintro a ⟨i, l', e', _⟩
      obtain ⟨b, xs, _, _⟩ := (R.cap (cap := cap) (n := n) hR (s1.trans (same_upd hp)) hpH (upd_same (o := .lst []))).own i l' e'
      unfold capR at e'
      by_cases hi : i < cap.length
      · rw [List.getElem?_append_left (by simpa using hi), List.getElem?_map] at e'
        obtain ⟨j, hj⟩ : ∃ j, cap[i]? = some j := ⟨cap[i], by simp [hi]⟩
        rw [hj] at e'
        have e'' : (capS r[j]?).own = some l' := e'
        cases ej : r[j]? with
        | none => rw [ej] at e''; cases e''
        | some y => rw [ej] at e''; cases y <;> cases e''
      · rw [List.getElem?_append_right (by simpa using Nat.le_of_not_lt hi), List.getElem?_replicate] at e'
        split at e' <;> cases e'
    · rintro i m ys σ2 H2 ⟨rfl, hil, hyl, hp2, s2, r2, dn, rest, R2, no2, il2, e3, eo⟩
      refine ⟨hp2, by omega, ?_⟩
      obtain ⟨y1, y2⟩ := yl i H2 (fun b => Ow O0 r σ b ∨ b = p) (Same.kp s2 _) fun a z nn => z.elim id fun z => by subst z; exact absurd hp nn
      by_cases hlt : i < l.length
      · obtain ⟨go, yd⟩ := y1 hlt
        have hd : l[i]? = some l[i] := by simp [hlt]
        rw [drop_cons hd] at e3
        obtain ⟨r3, e4, e5⟩ := bind_some e3
        obtain ⟨b, e6, e7⟩ := bind_some e5
        refine .inr ⟨go, fun v H3 yv => ?_⟩
        obtain ⟨s3, iv⟩ := yd v H3 yv
        have R3 := R2.same s3
        have ow2 : ∀ a, Ow (fun b => Ow O0 r σ b ∨ b = p) r2 σ2 a → Ow O0 r σ a ∨ a = p := fun a z => z.elim id fun z => absurd z (no2 a)
        refine ⟨_, r2, l[i], r3, R3, ?_, e4, fun σ4 R4 k4 => ?_⟩
        · exact Is.mono (Same.kp (Same.refl H3) _) R3.o0 (fun a z _ => ow2 a z) _ _ (iv _ hd)
        have no4 : ∀ a, ¬ OwnAt r3 σ4 a := fun a z => by
          rcases k4.new a z with z' | z'
          · exact no2 a z'
          · obtain ⟨xs, ex⟩ := R4.ol a (.inr z)
            rw [z'] at ex; cases ex
        have ow4 : ∀ a, Ow (fun b => Ow O0 r σ b ∨ b = p) r3 σ4 a → Ow O0 r σ a ∨ a = p := fun a z => z.elim id fun z => absurd z (no4 a)
        refine htc ⟨_, r3, b, R4, e6, fun H5 s5 => ?_⟩
        have R5 := R4.same s5
        cases b with
        | false =>
          rw [if_neg Bool.false_ne_true] at e7
          refine iteF ⟨l.length - (i + 1), by omega, rfl, hlt, by omega, (s3.trans s5) _ _ hp2, s2.trans (s3.trans s5), r3, dn, rest, R5, no4, ?_, e7, eo⟩
          exact il2.same (s3.trans s5) R2.o0
        | true =>
          rw [if_pos rfl] at e7
          obtain ⟨y, e8, e9⟩ := bind_some e7
          obtain ⟨rest', e10, e11⟩ := map_some e9
          refine iteT ⟨_, r3, y, R5, e8, fun u H6 s6 iu => ?_⟩
          have s26 := s3.trans (s5.trans s6)
          have hp6 := s26 _ _ hp2
          have R6 := R5.same s6
          have kk : Keep (fun b => Ow O0 r σ b ∨ b = p) H6 (upd H6 p (.lst (ys ++ [u]))) := fun b' o e' nn => by rw [upd_ne (fun z => nn (.inr z))]; exact e'
          refine ⟨hp6, l.length - (i + 1), by omega, rfl, hlt, by simp; omega, upd_same, ?_, r3, dn ++ [y], rest', ?_, no4, ?_, e10, ?_⟩
          · intro b' o e'
            have hb : b' ≠ p := fun z => by subst z; rw [hp] at e'; cases e'
            rw [upd_ne hb]
            exact s26 _ _ (s2 _ _ e')
          · refine ⟨R6.len, fun j d ej => ?_, fun j m ej => ?_, R6.apart, fun b' z => ?_, R6.loc, R6.par⟩
            · obtain ⟨w, q1, q2⟩ := R6.val j d ej
              exact ⟨w, q1, Is.mono (fun b' o e' nn => kk b' o e' fun z => nn (.inl z)) R6.ol (fun _ z _ => z) _ _ q2⟩
            · obtain ⟨a', xs', q1, q2, _⟩ := R6.own j m ej
              exact absurd ⟨j, m, ej, q1⟩ (no4 a')
            · rcases z with z | z
              · by_cases hb : b' = p
                · subst hb; exact ⟨_, upd_same⟩
                · rw [upd_ne hb]; exact R6.o0 b' (.inl z)
              · subst z; exact ⟨_, upd_same⟩
          · have i1 := il2.same s26 R2.o0
            have i2 : Is X.K (fun b => Ow O0 r σ b ∨ b = p) H6 y u := Is.mono (Same.kp (Same.refl H6) _) R6.ol (fun a z _ => .inl z) _ _ iu
            exact IsL.mono kk R6.o0 (fun _ z _ => z) _ _ (i1.append (.cons i2 .nil))
          · rw [← eo, ← e11]; simp
      · have hl : l.drop i = [] := List.drop_eq_nil_of_le (by omega)
        rw [hl] at e3
        have e3' : some [] = some rest := e3
        cases e3'
        rw [List.append_nil] at eo
        subst eo
        exact .inl ⟨y2 (by omega), q p ys H2 (s1.trans s2) hpH hp2 il2⟩
  · cases e2
theorem df_comp (hc : X.calm = true) (o : CmpOk X N' cap scope) (hi : DI X tg iter it) (hg : ∀ C fp s H, DG (cxC X N' scope C fp s H) tg bd) (he : ∀ C fp s H, DE (cxC X N' scope C fp s H) elt x)
    (n : Nat) (hn : N'.length = n := by rfl) (hs : ∀ x, foldedSetIterable iter X.env x = pure x := by intro _; rfl) : DF X (.ListComp elt [⟨tg, iter, [], 0⟩] scope pos) (mComp cap n it bd x) := by
  subst hn
  exact PE.conseq (pe_lcomp (g := lG X.K bd) (te := lE X.K x) (tc := none) hc o hi hg rfl he hs) fun σ H Q h => comp_read (tc := none) (fun {σ H K1 K0 te} z => by
    obtain ⟨O0, r, b, hR, e, q⟩ := z
    unfold mTrue at e; cases e
    have z1 : (if true = true then te σ H K1 else K0 H) := q H (Same.refl H)
    rw [if_pos rfl] at z1
    exact z1) N'.length h
theorem df_compIf {ce : Expr} (hc : X.calm = true) (o : CmpOk X N' cap scope) (hi : DI X tg iter it) (hg : ∀ C fp s H, DG (cxC X N' scope C fp s H) tg bd) (ht : ∀ C fp s H, DT (cxC X N' scope C fp s H) ce c) (he : ∀ C fp s H, DE (cxC X N' scope C fp s H) elt x)
    (n : Nat) (hn : N'.length = n := by rfl) (hs : ∀ x, foldedSetIterable iter X.env x = pure x := by intro _; rfl) : DF X (.ListComp elt [⟨tg, iter, [ce], 0⟩] scope pos) (mCompIf cap n it bd c x) := by
  subst hn
  exact PE.conseq (pe_lcomp (g := lG X.K bd) (te := lE X.K x) (tc := some (lT X.K c)) hc o hi hg ⟨ce, rfl, ht⟩ he hs) fun σ H Q h => comp_read (tc := some (lT X.K c)) (fun z => z) N'.length h
end
noncomputable def CapOk (X : Cx) (scope : Scope) : List Nat → List Str → Prop
  | [], _ => True
  | j :: t, x :: r => X.N[j]? = some x ∧ scope.names.lookup x = some .free ∧ CapOk X scope t r
  | _ :: _, [] => False
theorem CapOk.get {X : Cx} {scope : Scope} : ∀ {cap : List Nat} {N' : List Str}, CapOk X scope cap N' → ∀ (i j : Nat), cap[i]? = some j → ∃ x, N'[i]? = some x ∧ X.N[j]? = some x ∧ scope.names.lookup x = some .free
  | [], _, _, i, j, e => by simp at e
  | k :: t, [], h, _, _, _ => False.elim h
  | k :: t, x :: r, h, 0, j, e => by
    have e' : k = j := by simpa using e
    subst e'
    exact ⟨x, rfl, h.1, h.2.1⟩
  | k :: t, x :: r, h, i + 1, j, e => by
    obtain ⟨y, q1, q2⟩ := CapOk.get h.2.2 i j (by simpa using e)
    exact ⟨y, by simpa using q1, q2⟩
theorem CapOk.len {X : Cx} {scope : Scope} : ∀ {cap : List Nat} {N' : List Str}, CapOk X scope cap N' → cap.length ≤ N'.length
  | [], _, _ => Nat.zero_le _
  | k :: t, [], h => False.elim h
  | k :: t, x :: r, h => Nat.succ_le_succ (CapOk.len h.2.2)
theorem cmp_mk {X : Cx} {N' : List Str} {cap : List Nat} {scope : Scope} (kind : scope.kind = .function := by rfl) (nc : ∀ y ∈ scope.names, y.2 ≠ .cell := by decide +kernel) (nm : ∀ y ∈ scope.names, y.2 = .local → scope.names.lookup y.1 = some .local := by decide +kernel)
    (fr : ∀ y ∈ scope.names, y.2 = .free → X.env.kindOf y.1 = some .cell ∨ X.env.kindOf y.1 = some .free := by repeat (first | exact List.forall_mem_nil _ | refine List.forall_mem_cons.mpr ⟨fun e => (by first | exact absurd e (by decide) | exact .inl rfl | exact .inr rfl), ?_⟩))
    (capt : CapOk X scope cap N' := by repeat (first | exact trivial | refine ⟨rfl, rfl, ?_⟩)) : CmpOk X N' cap scope := ⟨kind, nc, nm, fr, capt.get, capt.len⟩
end DD
namespace ZZ
open PySem
open PySem
end ZZ
namespace DD
open PySem PySem.Spec PyProof.Rows L2
section
variable {X : Cx} {pos : Pos} {a b c : Expr} {f g h : ME}
theorem de_neg (ha : DE X a f) : DE X (.UnaryOp .USub a pos) (mUn negD f) := de_un un_neg (fun O H dx d vx Q i e q => by
  cases dx <;> first | (simp only [negD, reduceCtorEq] at e; done) | skip
  simp only [negD, Option.some.injEq] at e
  subst e
  rw [Is.int_iff] at i
  exact ⟨_, i, q _ (by rw [Is.int_iff])⟩) ha
noncomputable def leA : D → D → Option D
  | .int i, .int j => some (.bl (decide (i ≤ j)))
  | .str s, .str t => some (.bl (!decide (t < s)))
  | _, _ => none
theorem op_leS : OpR X (compareOp .LtE) (fun x y H Q => ∃ i j, x = .str i ∧ y = .str j ∧ Q (.bl (!decide (j.cps.toList < i.cps.toList))) H) := by
  intro pins s σ H x y v u Q I rx ry hq
  obtain ⟨i, j, rfl, rfl, q⟩ := hq
  obtain ⟨t, rfl⟩ := rx
  obtain ⟨t', rfl⟩ := ry
  exact PySem.P.le_str ⟨.bl _, H, I, rfl, q⟩
noncomputable def rLeA : R2 := fun x y H Q => rI0 (fun i j => .bl (decide (i ≤ j))) x y H Q ∨ ∃ i j, x = .str i ∧ y = .str j ∧ Q (.bl (!decide (j.cps.toList < i.cps.toList))) H
theorem op_leA : OpR X (compareOp .LtE) rLeA := op_le.or op_leS
theorem od_leA {K : Fg} : OpD K rLeA leA := by
  intro O H dx dy d vx vy Q ol ix iy e q
  cases dx <;> cases dy <;> first | (simp only [leA, reduceCtorEq] at e; done) | skip
  · simp only [leA, Option.some.injEq] at e
    subst e
    rw [Is.int_iff] at ix iy
    exact .inl ⟨_, _, ix, iy, q _ H (Same.refl H) (by rw [Is.bl_iff])⟩
  · simp only [leA, Option.some.injEq] at e
    subst e
    rw [Is.str_iff] at ix iy
    exact .inr ⟨_, _, ix, iy, q _ H (Same.refl H) (by rw [Is.bl_iff])⟩
noncomputable def mChain (m m' : D → D → Option D) (f g h : ME) : ME := fun r => (f r).bind fun x => (g r).bind fun y => (m x y).bind fun k => match k with
  | .bl true => (h r).bind fun z => m' y z
  | .bl false => some (.bl false)
  | _ => none
theorem chain_read {r2 r3 : R2} {m m' : D → D → Option D} (hd : OpD X.K r2 m) (hd' : OpD X.K r3 m') {σ : St} {H : Hp} {Q : VK} (hq : lE X.K (mChain m m' f g h) σ H Q) : tChain r2 r3 (lE X.K f) (lE X.K g) (lE X.K h) σ H Q := by
  obtain ⟨O0, r, d, hR, e, q⟩ := hq
  obtain ⟨x, e1, e⟩ := bind_some e
  obtain ⟨y, e2, e⟩ := bind_some e
  obtain ⟨k, e3, e⟩ := bind_some e
  refine ⟨O0, r, x, hR, e1, fun v1 H1 s1 i1 => ⟨O0, r, y, hR.same s1, e2, fun v2 H2 s2 i2 => ?_⟩⟩
  have R2 := hR.same (s1.trans s2)
  refine hd (Ow O0 r σ) H2 x y k v1 v2 _ R2.ol (i1.same s2 (hR.same s1).ol) i2 e3 fun v H3 s3 i3 => ?_
  have s13 := (s1.trans s2).trans s3
  cases k with
  | bl kb =>
    rw [Is.bl_iff] at i3
    refine ⟨kb, i3, ?_⟩
    cases kb with
    | true =>
      obtain ⟨z, e4, e5⟩ := bind_some e
      refine iteT ⟨O0, r, z, hR.same s13, e4, fun v3 H4 s4 i4 => ?_⟩
      exact hd' (Ow O0 r σ) H4 y z d v2 v3 Q (hR.same (s13.trans s4)).ol (i2.same (s3.trans s4) R2.ol) i4 e5 fun v' H' s' i' => q v' H' ((s13.trans s4).trans s') i'
    | false =>
      cases e
      exact iteF (q _ H3 s13 (by rw [Is.bl_iff]))
  | _ => cases e
theorem de_chain {op op' : CmpOp} {r2 r3 : R2} {m m' : D → D → Option D} (ho : OpR X (compareOp op) r2) (hd : OpD X.K r2 m) (ho' : OpR X (compareOp op') r3) (hd' : OpD X.K r3 m') (ha : DE X a f) (hb : DE X b g) (hc : DE X c h)
    (hm : lastMarks [op, op'] [b, c] = false := by with_unfolding_all rfl) : DE X (.Compare a [op, op'] [b, c] pos) (mChain m m' f g h) :=
  PE.conseq (pe_chain ho ho' ha hb hc hm) fun σ H Q hq => chain_read hd hd' hq
theorem dt_chain {op op' : CmpOp} {r2 r3 : R2} {m m' : D → D → Option D} (ho : OpR X (compareOp op) r2) (hd : OpD X.K r2 m) (ho' : OpR X (compareOp op') r3) (hd' : OpD X.K r3 m') (ha : DE X a f) (hb : DE X b g) (hc : DE X c h)
    (hm : lastMarks [op, op'] [b, c] = false := by with_unfolding_all rfl) : DT X (.Compare a [op, op'] [b, c] pos) (mBl (mChain m m' f g h)) := by
  refine PT.conseq (pt_chain ho ho' ha hb hc hm) fun σ H Q hq => ?_
  obtain ⟨O0, r, k, hR, e, q⟩ := hq
  obtain ⟨d, e1, e⟩ := bind_some e
  refine chain_read (m := m) (m' := m') hd hd' ⟨O0, r, d, hR, e1, fun v H' s' i' => ?_⟩
  cases d <;> first | cases e | skip
  rw [Is.bl_iff] at i'
  exact ⟨_, i', q H' s'⟩
noncomputable def mTupOf (fl : ML) : ME := fun r => (fl r).map .tup
theorem de_tupleOf {p' : Pos} {fl : ML} (hg : Gl X "tuple") (hm : X.mg "tuple" = none) (ha : DB X a fl) (hs : starEach [a] X.env = (false, eval a X.env) :: starEach [] X.env := by rfl) : DE X (.Call (.Name "tuple" p') [a] [] pos) (mTupOf fl) := by
  refine PE.conseq (pe_callTy call_tuple_of hg hm PyProof.Rows.boot_tuple (pa_cons ha pa_nil hs) (he := hs)) fun σ H Q hq => ?_
  obtain ⟨O0, r, d, hR, e, q⟩ := hq
  obtain ⟨l, e1, rfl⟩ := map_some e
  refine ⟨O0, r, l, hR, e1, fun p xs H1 s1 sq il => ⟨p, xs, rfl, .inl ⟨sq, fun t ht => q _ _ (s1.trans (same_upd ht)) ?_⟩⟩⟩
  rw [Is.tup_iff]
  exact ⟨t, xs, rfl, SqT.of upd_same, il.same (same_upd ht) (hR.same s1).ol⟩
theorem db_f {fl : ML} (h : DF X a fl) : DB X a fl := by
  refine PE.conseq h fun σ H Q hq => ?_
  obtain ⟨O0, r, l, hR, e, q⟩ := hq
  refine ⟨O0, r, l, hR, e, fun p xs H1 s1 n1 e1 il => q p xs H1 s1 (SqL.of e1) ?_⟩
  have ol : OLst (fun b => Ow O0 r σ b ∨ b = p) H1 := fun b z => z.elim (fun z => (hR.same s1).ol b z) fun z => by subst z; exact ⟨xs, e1⟩
  exact IsL.mono (Same.kp (Same.refl H1) _) ol (fun a z _ => .inl z) l xs il
end
open PySem PySem.Spec PyProof.Rows L2 PySem.StrLaws
noncomputable def cutL {α : Type} (xs : List α) (lo hi : Option Int) : List α := (xs.drop (HT.sIx xs.length 0 lo)).take (HT.sIx xs.length xs.length hi - HT.sIx xs.length 0 lo)
theorem sIx_le' (n d : Nat) (hd : d ≤ n) (o : Option Int) : HT.sIx n d o ≤ n := HT.sIx_le n d hd o
theorem sliceIdx_eq (lo hi : Option Int) (n : Nat) : Builtin.Str.strSliceIndices lo hi 1 n = Builtin.Str.strSliceIndices (some ((HT.sIx n 0 lo : Nat) : Int)) (some ((HT.sIx n n hi : Nat) : Int)) 1 n := by
  have key : ∀ (v : Option Int) (d : Nat), d ≤ n → (match v with | none => (d : Int) | some i => max 0 (min (if i < 0 then i + (n : Int) else i) (n : Int))) = max 0 (min (if ((HT.sIx n d v : Nat) : Int) < 0 then ((HT.sIx n d v : Nat) : Int) + (n : Int) else ((HT.sIx n d v : Nat) : Int)) (n : Int)) := by
    intro v d hd
    have hle := sIx_le' n d hd v
    have h0 : ¬ (((HT.sIx n d v : Nat) : Int) < 0) := by omega
    rw [if_neg h0]
    cases v with
    | none =>
      have e : HT.sIx n d none = d := rfl
      rw [e]; show (d : Int) = _; omega
    | some i =>
      have e : HT.sIx n d (some i) = if i < 0 then (i + (n : Int)).toNat else min i.toNat n := rfl
      show max 0 (min (if i < 0 then i + (n : Int) else i) (n : Int)) = _
      rw [e] at hle ⊢
      split <;> split at hle <;> omega
  have e1 : (1 : Int) > 0 := by omega
  unfold PySem.Builtin.Str.strSliceIndices
  simp only [e1, if_true]
  have k1 := key lo 0 (Nat.zero_le _)
  have k2 := key hi n (Nat.le_refl _)
  cases lo <;> cases hi <;> simp only at k1 k2 ⊢ <;> rw [← k1, ← k2] <;> rfl
theorem sliceText_eq (x : Str) (lo hi : Option Int) : sliceText x lo hi = ⟨(cutL x.cps.toList lo hi).toArray⟩ := by
  have hl : x.cps.toList.length = x.length := by simp [Str.length]
  unfold cutL
  rw [hl]
  have ha := sIx_le' x.length 0 (Nat.zero_le _) lo
  have hb := sIx_le' x.length x.length (Nat.le_refl _) hi
  have e : sliceText x lo hi = sliceText x (some ((HT.sIx x.length 0 lo : Nat) : Int)) (some ((HT.sIx x.length x.length hi : Nat) : Int)) := by
    unfold sliceText
    rw [sliceIdx_eq lo hi x.length]
  rw [e]
  by_cases hab : HT.sIx x.length 0 lo ≤ HT.sIx x.length x.length hi
  · exact sliceText_nat x hab hb
  · have z : HT.sIx x.length x.length hi - HT.sIx x.length 0 lo = 0 := by omega
    rw [z, List.take_zero]
    have em : Builtin.Str.strSliceIndices (some ((HT.sIx x.length 0 lo : Nat) : Int)) (some ((HT.sIx x.length x.length hi : Nat) : Int)) 1 x.length = [] := by
      have e1 : (1 : Int) > 0 := by omega
      unfold PySem.Builtin.Str.strSliceIndices
      simp only [e1, if_true]
      have h0 : ¬ (((HT.sIx x.length 0 lo : Nat) : Int) < 0) := by omega
      have h1 : ¬ (((HT.sIx x.length x.length hi : Nat) : Int) < 0) := by omega
      rw [if_neg h0, if_neg h1]
      unfold PySem.sliceRange
      simp only [e1, if_true]
      split
      · omega
      · rfl
    unfold sliceText
    rw [em]
    split
    · rename_i q
      have q' : x.length = 0 := by have : 0 = x.length := by simpa using q
                                   exact this.symm
      apply Str.ext'
      have : x.cps.size = 0 := q'
      exact Array.eq_empty_of_size_eq_zero this
    · rfl
section
variable {X : Cx} {pos p2 : Pos} {a b : Expr} {f g : ME}
noncomputable def rSlS : V → Option Int → Option Int → Hp → VK → Prop := fun x lo hi H Q => ∃ z, x = .str z ∧ z.length ≤ sizeLine ∧ Q (.str ⟨(cutL z.cps.toList lo hi).toArray⟩) H
theorem cutL_len {α : Type} (xs : List α) (lo hi : Option Int) : (cutL xs lo hi).length ≤ xs.length := by
  unfold cutL
  rw [List.length_take, List.length_drop]
  omega
theorem sl_str : SlR X rSlS := by
  intro pins s σ H x v vl vu lo hi sl Q I rx hs pl pu hq
  obtain ⟨z, rfl, hz, q⟩ := hq
  obtain ⟨t, rfl⟩ := rx
  refine ⟨"str", _, PySem.F.slot_str_getitem.lookup, typeIs_str _ _ _, ?_⟩
  have main : ∀ (l u : Option (Int × Tok)), l.map (·.1) = lo → u.map (·.1) = hi → s.heap.IsSlice sl l u none → wpAny (model X.prog X.w) X.A (getItem (.str z t) (.ref sl)) (EP X pins σ Q) X.xe s := by
    intro l u hl hu hsl
    refine wpAny_getItem_str_slice hsl rfl ?_
    have e : ∀ t' k, EP X pins σ Q (.str (sliceText z lo hi) t') { s with toks := k } := fun t' k => ⟨.str _, H, I.tok k, ⟨t', rfl⟩, by rw [sliceText_eq]; exact q⟩
    have hle : (sliceText z lo hi).length ≤ sizeLine := by
      rw [sliceText_eq, str_len]
      have := cutL_len z.cps.toList lo hi
      have h2 : z.cps.toList.length = z.length := by simp [Str.length]
      omega
    unfold sliceMade slicePicked
    rw [hl, hu]
    exact post_val_or_str ⟨hle, e⟩
  obtain ⟨o, h1, h2, h3⟩ := hs
  cases pl with
  | none => cases pu with
    | none => exact main none none rfl rfl ⟨o, h1, h2, h3⟩
    | int j tj => exact main none (some (j, tj)) rfl rfl ⟨o, h1, h2, h3⟩
  | int i ti => cases pu with
    | none => exact main (some (i, ti)) none rfl rfl ⟨o, h1, h2, h3⟩
    | int j tj => exact main (some (i, ti)) (some (j, tj)) rfl rfl ⟨o, h1, h2, h3⟩
noncomputable abbrev MO := En → Option (Option Int)
noncomputable def oNone : MO := fun _ => some none
noncomputable def oSome (f : ME) : MO := fun r => (f r).bind fun d => (intD d).map some
noncomputable def lO (K : Fg) (f : MO) : TO := fun σ H Q => ∃ O0 r o, R K O0 H r σ ∧ f r = some o ∧ ∀ H', Same H H' → Q o H'
noncomputable def DO (X : Cx) (e : Option Expr) (f : MO) : Prop := PO X e (lO X.K f)
theorem PO.conseq {e : Option Expr} {t t' : TO} (h : PO X e t) (i : ∀ σ H Q, t' σ H Q → t σ H Q) : PO X e t' := fun pins s σ H Q I q => h pins s σ H Q I (i σ H Q q)
theorem do_none : DO X none oNone := PO.conseq po_none fun σ H Q ⟨O0, r, o, hR, e, q⟩ => by
  unfold oNone at e; cases e
  exact q H (Same.refl H)
theorem do_some (ha : DE X a f) : DO X (some a) (oSome f) := PO.conseq (po_some ha) fun σ H Q ⟨O0, r, o, hR, e, q⟩ => by
  obtain ⟨d, e1, e2⟩ := bind_some e
  obtain ⟨i, e3, rfl⟩ := map_some e2
  cases intD_some e3
  exact ⟨O0, r, _, hR, e1, fun v H1 s1 i1 => ⟨i, by rw [Is.int_iff] at i1; exact i1, q H1 s1⟩⟩
noncomputable def slD (d : D) (lo hi : Option Int) : Option D := match d with
  | .lst l => some (.lst (cutL l lo hi))
  | .tup l => if HT.sIx l.length 0 lo = 0 ∧ HT.sIx l.length l.length hi = l.length then none else some (.tup (cutL l lo hi))
  | .str s => if s.length ≤ sizeLine then some (.str (cutL s lo hi)) else none
  | _ => none
noncomputable def mSl (f : ME) (lo hi : MO) : ME := fun r => (f r).bind fun d => (lo r).bind fun i => (hi r).bind fun j => slD d i j
noncomputable def rSlA (K : Fg) : V → Option Int → Option Int → Hp → VK → Prop := fun x lo hi H Q => rSlL K x lo hi H Q ∨ rSlT K x lo hi H Q ∨ rSlS x lo hi H Q
theorem IsL.cut {K : Fg} {O : Addr → Prop} {H : Hp} {l : List D} {xs : List V} (h : IsL K O H l xs) (lo hi : Option Int) : IsL K O H (cutL l lo hi) (cutV xs lo hi) := by
  unfold cutL cutV
  rw [h.length]
  exact (h.drop _).take _
theorem de_sl {lo hi : Option Expr} {fl fh : MO} (ha : DE X a f) (hl : DO X lo fl) (hh : DO X hi fh) : DE X (.Subscript a (.Slice lo hi none p2) pos) (mSl f fl fh) := by
  refine PE.conseq (pe_slice (r := rSlA X.K) (sl_list.or (sl_tup.or sl_str)) ha hl hh) fun σ H Q hq => ?_
  obtain ⟨O0, r, d, hR, e, q⟩ := hq
  obtain ⟨x, e1, e⟩ := bind_some e
  obtain ⟨i, e2, e⟩ := bind_some e
  obtain ⟨j, e3, e⟩ := bind_some e
  refine ⟨O0, r, x, hR, e1, fun v H1 s1 i1 => ⟨O0, r, i, hR.same s1, e2, fun H2 s2 => ⟨O0, r, j, hR.same (s1.trans s2), e3, fun H3 s3 => ?_⟩⟩⟩
  have s13 := (s1.trans s2).trans s3
  have R3 := hR.same s13
  have i3 := i1.same (s2.trans s3) (hR.same s1).ol
  cases x <;> first | (simp only [slD, reduceCtorEq] at e; done) | skip
  · simp only [slD] at e
    split at e
    · rename_i hl'
      cases e
      rw [Is.str_iff] at i3
      refine .inr (.inr ⟨_, i3, by rw [str_len]; exact hl', q _ H3 s13 (by rw [Is.str_iff])⟩)
    · cases e
  · simp only [slD] at e
    split at e
    · cases e
    · rename_i hw
      cases e
      rw [Is.tup_iff] at i3
      obtain ⟨p, xs, rfl, hs, il⟩ := i3
      refine .inr (.inl ⟨p, xs, rfl, hs, by rw [← il.length]; exact hw, fun t ht => q _ _ (s13.trans (same_upd ht)) ?_⟩)
      rw [Is.tup_iff]
      exact ⟨t, _, rfl, SqT.of upd_same, (il.cut i j).same (same_upd ht) R3.ol⟩
  · simp only [slD, Option.some.injEq] at e
    subst e
    rw [Is.lst_iff] at i3
    obtain ⟨p, xs, rfl, hs, il⟩ := i3
    refine .inl ⟨p, xs, rfl, hs.sq, fun t ht => q _ _ (s13.trans (same_upd ht)) ?_⟩
    rw [Is.lst_iff]
    exact ⟨t, _, rfl, .inl ⟨R3.nofresh ht, .inl upd_same⟩, (il.cut i j).same (same_upd ht) R3.ol⟩
end
open PySem PySem.Spec PyProof.Rows L2 PySem.StrLaws
section
variable {prog : Program} {w : World} {A : Around} {E : Value → Shared → Prop} {s : Shared}
theorem rev_ad (n : Nat) : Builtin.Slice.sliceAdjust none none (-1) (n : Int) = ((n : Int) - 1, -1) := by
  unfold Builtin.Slice.sliceAdjust
  simp
theorem rev_pl (n : Nat) : Builtin.Slice.slicePlaces ((n : Int) - 1) (-1) (-1) = n := by
  unfold Builtin.Slice.slicePlaces
  have h1 : ¬ ((-1 : Int) > 0) := by omega
  simp only [h1, if_false]
  split
  · have : -(-1 : Int) = 1 := by omega
    rw [this, Int.ediv_one]; omega
  · omega
theorem rev_ap {sl : Addr} {t : Tok} {n : Nat} {Q : Int × Int × Nat → Shared → Prop} (hs : s.heap.IsSliceOf sl .none .none (.int (-1) t)) (h : Q ((n : Int) - 1, -1, n) s) : wpAny (model prog w) A (Builtin.Slice.sliceApplied (.ref sl) (pure (n : Int))) Q E s := by
  obtain ⟨os, ho, hc, hd⟩ := id hs
  unfold Builtin.Slice.sliceApplied Builtin.Slice.sliceFields
  refine wpAny_bind (wpAny_bind (wpAny_field ho hd (x := .none) rfl (wpAny_bind (wpAny_field ho hd (x := .none) rfl (wpAny_bind (wpAny_field ho hd (x := .int (-1) t) rfl (wpAny_pure (?_))))))))
  refine wpAny_bind (slicePart_int (?_)); show wpAny _ _ (if ((-1 : Int) == 0) = true then _ else _) _ _ s; rw [if_neg (by decide)]
  refine wpAny_bind (slicePart_none (wpAny_bind (slicePart_none (wpAny_bind (wpAny_pure (?_))))))
  show wpAny _ _ (match Builtin.Slice.sliceAdjust none none (-1) (n : Int) with | (lo, hi) => pure (lo, (-1 : Int), Builtin.Slice.slicePlaces lo hi (-1))) _ _ s
  rw [rev_ad n]; show wpAny _ _ (pure ((n : Int) - 1, (-1 : Int), Builtin.Slice.slicePlaces ((n : Int) - 1) (-1) (-1))) _ _ s; rw [rev_pl]
  exact wpAny_pure h
theorem fm_map {α β : Type} {F : α → Option β} {G : α → β} : ∀ (l : List α), (∀ m ∈ l, F m = some (G m)) → l.filterMap F = l.map G
  | [], _ => rfl
  | a :: l, h => by
    rw [List.filterMap_cons, h a List.mem_cons_self, List.map_cons, fm_map l fun m hm => h m (List.mem_cons_of_mem _ hm)]
theorem rev_pick (xs : Array Value) : ((List.range xs.size).filterMap fun (m : Nat) => xs[((xs.size : Int) - 1 + (m : Int) * (-1)).toNat]?).toArray = xs.toList.reverse.toArray := by
  congr 1
  apply List.ext_getElem?
  intro k
  have e : ∀ m, m < xs.size → xs[((xs.size : Int) - 1 + (m : Int) * (-1)).toNat]? = some (xs.toList.reverse.getD m .none) := by
    intro m hm
    have h1 : ((xs.size : Int) - 1 + (m : Int) * (-1)).toNat = xs.size - 1 - m := by omega
    rw [h1, List.getD_eq_getElem?_getD, List.getElem?_reverse (by simpa using hm)]
    have h2 : xs.size - 1 - m < xs.size := by omega
    simp [h2]
  have e2 : (List.range xs.size).filterMap (fun (m : Nat) => xs[((xs.size : Int) - 1 + (m : Int) * (-1)).toNat]?) = (List.range xs.size).map fun m => xs.toList.reverse.getD m .none := by
    exact fm_map _ fun m hm => e m (List.mem_range.mp hm)
  rw [e2, List.getElem?_map]
  by_cases hk : k < xs.size
  · rw [List.getElem?_range hk, List.getElem?_eq_getElem (by simpa using hk)]
    simp [List.getD_eq_getElem?_getD, hk]
  · rw [List.getElem?_eq_none (by simpa using hk), List.getElem?_eq_none (by simpa using hk)]; rfl
theorem rev_tup {t sl : Addr} {its : Array Value} {tk : Tok} {Q : Value → Shared → Prop} (ht : IsTup s.heap t its) (hs : s.heap.IsSliceOf sl .none .none (.int (-1) tk)) (hsz : its.size ≤ sizeLine)
    (h : Q (.ref s.heap.objs.size) { s with heap := s.heap.push { cls := .type "tuple", data := .seq its.toList.reverse.toArray } }) : wpAny (model prog w) A (getItem (.ref t) (.ref sl)) Q E s := by
  have hz : sizeOk (.seq its.toList.reverse.toArray) := by show its.toList.reverse.toArray.size ≤ sizeLine; simpa using hsz
  obtain ⟨os, ho, hc, hd⟩ := id hs
  have hT : s.TypeIs (.ref sl) "slice" := ⟨os, ho, hc⟩
  unfold getItem
  try with_reducible refine wpAny_holding ?_
  first | refine wpAny_bind (wpAny_pure ?_) | skip
  refine wpAny_bind (wpAny_sequenceKey ht.typeIs (by decide) ?_)
  refine wpAny_bind (wpAny_callSpecial?_slot (name := Str.ofString "__getitem__") ht.typeIs PyProof.Rows.slot_tuple_getitem (wpAny_call_entry PyProof.Rows.slot_tuple_getitem ht.typeIs entry_tuple_getitem (?_) (args_tuple_getitem _ _)))
  show wpAny _ _ (Builtin.Tuple.tupleItemsOf (.ref t) >>= _) _ _ s; refine wpAny_bind (tupleItemsOf_ ht (wpAny_bind (wpAny_typeOf hT (?_)))); rw [if_pos (by decide)]; refine wpAny_bind (rev_ap hs (?_))
  show wpAny _ _ (if (((its.size : Int) - 1) == 0 && (-1 : Int) == 1 && its.size == its.size) = true then _ else _) _ _ s
  rw [if_neg (by simp), rev_pick]
  first
    | exact wpAny_bind (m := Builtin.Tuple.tupleExact _) (wpAny_newObj_type (wpAny_pure ⟨_, rfl, wpAny_pure h⟩) hz)
    | exact wpAny_bind (m := Builtin.Tuple.tupleExact _) (wpAny_newObj_type (wpAny_bind (wpAny_pure (wpAny_pure ⟨_, rfl, wpAny_pure h⟩))) hz)
    | exact wpAny_bind (wpAny_bind (m := Builtin.Tuple.tupleExact _) (wpAny_newObj_type (wpAny_pure (wpAny_pure ⟨_, rfl, wpAny_pure h⟩)) hz))
    | exact wpAny_bind (wpAny_bind (m := Builtin.Tuple.tupleExact _) (wpAny_newObj_type (wpAny_pure ⟨_, rfl, wpAny_pure h⟩) hz))
end
section
variable {X : Cx} {pos p2 p3 : Pos} {a b : Expr} {f g : ME} {j : Nat}
noncomputable def tRev (K : Fg) (ta : TE) : TE := fun σ H Q => ta σ H fun x H1 => (∃ p xs, x = .ref p ∧ SqL K H1 p xs ∧ ∀ q, H1 q = none → Q (.ref q) (upd H1 q (.lst xs.reverse))) ∨ (∃ p xs, x = .ref p ∧ SqT K H1 p xs ∧ ∀ q, H1 q = none → Q (.ref q) (upd H1 q (.tup xs.reverse)))
theorem pe_rev {ta : TE} (he : PE X a ta) : PE X (.Subscript a (.Slice none none (some (.UnaryOp .USub (.Constant (.int 1) j p3) pos)) p2) pn) (tRev X.K ta) := by
  intro pins s σ H Q I h
  refine Subscript_ (thn (he pins s σ H _ I h) fun v s1 ⟨x, H1, I1, r1, q1⟩ => ?_)
  refine wpAny_Slice ?_
  rw [evalPart_none]
  refine wpAny_pure (wpAny_pure ?_); rw [evalPart_some]
  have hst : PE X (.UnaryOp .USub (.Constant (.int 1) j p3) pos) (tUn (rU fun i => .int (-i)) (tC (.int 1))) := pe_un un_neg pe_int
  refine thn (hst pins s1 σ H1 (fun w H' => w = .int (-1) ∧ H' = H1) I1 ⟨1, rfl, rfl, rfl⟩) fun u s2 ⟨y, H2, I2, r2, q2, eH⟩ => ?_
  subst eH q2
  obtain ⟨t, rfl⟩ := r2
  have I4 : Inv X pins σ H2 { s2 with heap := s2.heap.push { cls := .type "slice", data := .fields #[.none, .none, .int (-1) t] } } := I2.kept (t' := s2.toks) fun b ob q => Heap.get?_push_of_some _ q
  have hsl : ({ s2 with heap := s2.heap.push { cls := .type "slice", data := .fields #[.none, .none, .int (-1) t] } } : Shared).heap.IsSliceOf s2.heap.objs.size .none .none (.int (-1) t) := Heap.IsSliceOf.new ..
  rcases q1 with ⟨p, xs, rfl, hx, q⟩ | ⟨p, xs, rfl, hx, q⟩
  · cases r1
    obtain ⟨its, r, pl, hz⟩ := I4.list hx
    have hlen := r.length
    refine tail_any (ops := [.ref p, .ref s2.heap.objs.size]) pl.isList.typeIs slot_list_getitem.lookup (wpAny_getItem_list_slice pl.isList hsl .none .none (.int (-1) t) (by simp) ?_ (by simp only [List.size_toArray]; omega)) (by with_unfolding_all rfl)
    rw [PySem.W.krv_pick]
    exact ⟨.ref _, _, I4.lnew (t' := s2.toks) r.reverse (by rw [List.length_reverse]; exact hz), rfl, q _ I4.fresh⟩
  · cases r1
    obtain ⟨its, r, pl, hz⟩ := I4.tuple hx
    have hlen := r.length
    refine tail_any (ops := [.ref p, .ref s2.heap.objs.size]) pl.typeIs PyProof.Rows.slot_tuple_getitem.lookup (rev_tup pl hsl (by simp only [List.size_toArray]; omega) ?_) (by with_unfolding_all rfl)
    refine ⟨.ref _, _, I4.laid (t' := s2.toks) (o := .tup xs.reverse) (fun b ob q => Heap.get?_push_of_some _ q) (Nat.le_refl _) ?_, rfl, q _ (I4.hok.fresh (Nat.le_refl _))⟩
    exact ⟨by rw [List.length_reverse]; exact hz, _, r.reverse, IsTup.new _ _⟩
noncomputable def revD : D → Option D
  | .lst l => some (.lst l.reverse)
  | .tup l => some (.tup l.reverse)
  | _ => none
theorem de_rev (ha : DE X a f) : DE X (.Subscript a (.Slice none none (some (.UnaryOp .USub (.Constant (.int 1) j p3) pos)) p2) pn) (mUn revD f) := by
  refine PE.conseq (pe_rev ha) fun σ H Q hq => ?_
  obtain ⟨O0, r, d, hR, e, q⟩ := hq
  obtain ⟨x, e1, e2⟩ := bind_some e
  refine ⟨O0, r, x, hR, e1, fun v H1 s1 i1 => ?_⟩
  have R1 := hR.same s1
  cases x <;> first | (simp only [revD, reduceCtorEq] at e2; done) | skip
  · simp only [revD, Option.some.injEq] at e2
    subst e2
    rw [Is.tup_iff] at i1
    obtain ⟨p, xs, rfl, hs, il⟩ := i1
    refine .inr ⟨p, xs, rfl, hs, fun t ht => q _ _ (s1.trans (same_upd ht)) ?_⟩
    rw [Is.tup_iff]
    exact ⟨t, _, rfl, SqT.of upd_same, il.reverse.same (same_upd ht) R1.ol⟩
  · simp only [revD, Option.some.injEq] at e2
    subst e2
    rw [Is.lst_iff] at i1
    obtain ⟨p, xs, rfl, hs, il⟩ := i1
    refine .inl ⟨p, xs, rfl, hs.sq, fun t ht => q _ _ (s1.trans (same_upd ht)) ?_⟩
    rw [Is.lst_iff]
    exact ⟨t, _, rfl, .inl ⟨R1.nofresh ht, .inl upd_same⟩, il.reverse.same (same_upd ht) R1.ol⟩
noncomputable def mRevF (fl : ML) : ML := fun r => (fl r).map List.reverse
theorem df_rev {fl : ML} (ha : DB X a fl) : DF X (.Subscript a (.Slice none none (some (.UnaryOp .USub (.Constant (.int 1) j p3) pos)) p2) pn) (mRevF fl) := by
  refine PE.conseq (pe_rev ha) fun σ H Q hq => ?_
  obtain ⟨O0, r, l', hR, e, q⟩ := hq
  obtain ⟨l, e1, rfl⟩ := map_some e
  refine ⟨O0, r, l, hR, e1, fun p xs H1 s1 sq il => .inl ⟨p, xs, rfl, sq, fun t ht => q t _ _ (s1.trans (same_upd ht)) (s1.free ht) upd_same ?_⟩⟩
  refine IsL.mono (Same.kp (same_upd ht) _) (hR.same s1).ol (fun b z n => ?_) _ _ il.reverse
  rcases z with z | z
  · exact z
  · subst z; exact absurd ht n
noncomputable def strsD : List D → Option (List (List Nat))
  | [] => some []
  | .str s :: r => (strsD r).map (s :: ·)
  | _ => none
noncomputable def joinC (sep : List Nat) : List (List Nat) → List Nat
  | [] => []
  | [s] => s
  | s :: r => s ++ sep ++ joinC sep r
theorem strsD_ok {K : Fg} {O : Addr → Prop} {H : Hp} : ∀ {l : List D} {ss : List (List Nat)} {vs : List V}, strsD l = some ss → IsL K O H l vs → vs = ss.map fun s => V.str ⟨s.toArray⟩
  | [], ss, vs, e, il => by cases e; unfold IsL at il; subst il; rfl
  | d :: l, ss, vs, e, il => by
    unfold IsL at il
    obtain ⟨v, r, rfl, i1, i2⟩ := il
    cases d <;> first | (simp only [strsD, reduceCtorEq] at e; done) | skip
    simp only [strsD] at e
    obtain ⟨ms, e1, rfl⟩ := map_some e
    rw [Is.str_iff] at i1
    rw [i1, strsD_ok e1 i2]; rfl
theorem strsAre_of : ∀ {ss : List (List Nat)} {us : List Value}, Vals (ss.map fun s => V.str ⟨s.toArray⟩) us → StrsAre us (ss.map fun s => (⟨s.toArray⟩ : Str))
  | [], us, r => by rw [List.map_nil] at r; cases r; exact .nil
  | s :: ss, us, r => by
    rw [List.map_cons] at r
    cases r with
    | cons r1 r2 =>
      obtain ⟨t, e⟩ := r1
      subst e
      exact .cons _ t (strsAre_of r2)
theorem join_eq (sep : List Nat) : ∀ ss : List (List Nat), Str.join (⟨sep.toArray⟩ : Str) (ss.map fun s => (⟨s.toArray⟩ : Str)) = ⟨(joinC sep ss).toArray⟩
  | [] => rfl
  | [s] => rfl
  | s :: t :: r => by
    have ih := join_eq sep (t :: r)
    show (⟨s.toArray⟩ : Str) ++ ⟨sep.toArray⟩ ++ Str.join _ ((t :: r).map fun s => (⟨s.toArray⟩ : Str)) = _
    rw [ih, str_app, str_app]
    rfl
noncomputable def rJoin (K : Fg) : V → List V → Hp → VK → Prop := fun x vs H Q => ∃ sep p ss, x = .str ⟨sep.toArray⟩ ∧ vs = [.ref p] ∧ SqL K H p (ss.map fun s => V.str ⟨s.toArray⟩) ∧ (ss.map List.length).sum + ss.length * sep.length ≤ 16777216 ∧ Q (.str ⟨(joinC sep ss).toArray⟩) H
theorem mt_join : MtR X "str.join" (rJoin X.K) := by
  intro pins s σ H x vs v us Q I rx rv hq
  obtain ⟨sep, p, ss, rfl, rfl, hs, hl, q⟩ := hq
  obtain ⟨t, rfl⟩ := rx
  obtain ⟨u, rfl, ru⟩ := Vals.one rv
  cases ru
  obtain ⟨its, r, pl, hz⟩ := I.list hs
  refine join_list pl.isList (ys := ss.map fun s => (⟨s.toArray⟩ : Str)) (by simpa using strsAre_of r) ?_ fun t' k => ⟨.str _, H, I.tok k, ⟨t', rfl⟩, ?_⟩
  · have e : (ss.map fun s => (⟨s.toArray⟩ : Str)).map (·.length) = ss.map List.length := by rw [List.map_map]; exact List.map_congr_left fun s _ => str_len s
    rw [e, List.length_map, str_len]; exact hl
  · show Q (.str (Txt.join _ _)) H
    unfold Txt.join
    rw [glued_eq_join, join_eq]; exact q
noncomputable def mJoin (f : ME) (fl : ML) : ME := fun r => (f r).bind fun d => match d with
  | .str sep => (fl r).bind fun l => (strsD l).bind fun ss => if (ss.map List.length).sum + ss.length * sep.length ≤ 16777216 then some (.str (joinC sep ss)) else none
  | _ => none
theorem de_join {fl : ML} {apos cpos : Pos} (ho : DE X a f) (ha : DB X b fl) (hbase : attributeBase a "join" X.env (eval a X.env) = eval a X.env := by rfl) (hline : (apos.endLine == cpos.line) = true := by rfl)
    (hfew : ((backTo cpos (starEach [b] X.env)).all (fun x => !x.1) && (backToKw cpos (keywordEach [] X.env)).all (fun x => x.1.isSome) && decide ([b].length + ([] : List Keyword).length + (if ([] : List Keyword).isEmpty then 0 else 1) < 30)) = true := by rfl)
    (hs : starEach [b] X.env = (false, eval b X.env) :: starEach [] X.env := by rfl) : DE X (.Call (.Attribute a "join" apos) [b] [] cpos) (mJoin f fl) := by
  refine PE.conseq (pe_bm PySem.F.plainAttrs_str PySem.F.slot_str_join PySem.F.type_str_join mt_join ho (pa_cons ha pa_nil hs) hbase hfew hline hs) fun σ H Q hq => ?_
  obtain ⟨O0, r, d, hR, e, q⟩ := hq
  obtain ⟨x, e1, e2⟩ := bind_some e
  refine ⟨O0, r, x, hR, e1, fun v H1 s1 i1 => ?_⟩
  cases x <;> first | (simp only [reduceCtorEq] at e2; done) | skip
  simp only at e2
  obtain ⟨l, e3, e4⟩ := bind_some e2
  obtain ⟨ss, e5, e6⟩ := bind_some e4
  rw [Is.str_iff] at i1
  subst i1
  split at e6
  · rename_i hl
    cases e6
    refine ⟨rfl, O0, r, l, hR.same s1, e3, fun p xs H2 s2 sq il => ?_⟩
    have ex := strsD_ok e5 il
    subst ex
    exact ⟨_, p, ss, rfl, rfl, sq, hl, q _ H2 (s1.trans s2) (by rw [Is.str_iff])⟩
  · cases e6
end
open PySem PySem.Spec PyProof.Rows L2 PySem.StrLaws PySem.Builtin.Str
section
variable {X : Cx} {pos : Pos} {a b : Expr} {f g : ME}
noncomputable def rSplit : V → List V → Hp → VK → Prop := fun x vs H Q => ∃ z y, x = .str z ∧ vs = [.str y] ∧ (y.length == 0) = false ∧ z.length ≤ sizeLine ∧ (partsBetween z (occurrences z y 0 z.length (z.length + 1)) y.length).length ≤ sizeLine ∧ ∀ p, H p = none → Q (.ref p) (upd H p (.lst ((Txt.split z y).map V.str)))
theorem vals_strs : ∀ (l : List (Str × Tok)), Vals ((l.map (·.1)).map V.str) (strValues l)
  | [] => .nil
  | (x, t) :: l => .cons ⟨t, rfl⟩ (vals_strs l)
theorem split_len (z y : Str) (h : (partsBetween z (occurrences z y 0 z.length (z.length + 1)) y.length).length ≤ sizeLine) : (Txt.split z y).length ≤ sizeLine := by
  unfold Txt.split
  have h1 : 1 ≤ sizeLine := by decide
  split
  · exact h1
  · split
    · exact h1
    · exact h
theorem mt_split : MtR X "str.split" rSplit := by
  intro pins s σ H x vs v us Q I rx rv hq
  obtain ⟨z, y, rfl, rfl, hy, hz, hn, q⟩ := hq
  obtain ⟨t, rfl⟩ := rx
  obtain ⟨uu, rfl, u, rfl⟩ := Vals.one rv
  have lay : ∀ (l : List (Str × Tok)) (tk : Nat), l.map (·.1) = Txt.split z y → EP X pins σ Q (.ref s.heap.objs.size) { s with heap := s.heap.push { cls := .type "list", data := .seq (strValues l).toArray }, toks := tk } := fun l tk e => by
    have hv := vals_strs l
    rw [e] at hv
    exact ⟨.ref _, _, I.lnew (t' := tk) hv (by rw [List.length_map]; exact split_len z y hn), rfl, q _ I.fresh⟩
  cases h1 : (decide (z.length < y.length) || decide (strKind z < strKind y)) with
  | true => exact call_meets F.slot_str_split (typeIs_str _ _ _) F.entry_str_split (F.args_str_split_2 _ _) (meets_str_split_cannot_occur z y t u h1) (lay [(z, t)] s.toks (by unfold Txt.split; rw [if_pos h1]; rfl))
  | false =>
    cases hf : (occurrences z y 0 z.length (z.length + 1)).isEmpty with
    | true => exact call_meets F.slot_str_split (typeIs_str _ _ _) F.entry_str_split (F.args_str_split_2 _ _) (meets_str_split_not_found z y t u h1 hy hf) (lay [(z, t)] s.toks (by unfold Txt.split; rw [if_neg (ne_true_of_eq_false h1), if_pos hf]; rfl))
    | false =>
      refine call_meets F.slot_str_split (typeIs_str _ _ _) F.entry_str_split (F.args_str_split_2 _ _) (meets_str_split_sep z y t u h1 hy hf hz hn) ?_
      show EP X pins σ Q _ { s with toks := _, heap := s.heap.push { cls := .type "list", data := .seq (strsFrom s.toks (partsBetween z (occurrences z y 0 z.length (z.length + 1)) y.length)).toArray } }
      rw [strsFrom_eq]
      exact lay (numbered s.toks _) _ ((numbered_texts _ _).trans (by unfold Txt.split; rw [if_neg (ne_true_of_eq_false h1), if_neg (ne_true_of_eq_false hf)]))
noncomputable def splitC (c : Nat) : List Nat → List (List Nat)
  | [] => [[]]
  | x :: r => if x = c then [] :: splitC c r else match splitC c r with
    | [] => [[x]]
    | s :: t => (x :: s) :: t
noncomputable def splitS (s sep : List Nat) : List (List Nat) := (Txt.split ⟨s.toArray⟩ ⟨sep.toArray⟩).map fun x => x.cps.toList
noncomputable def mSplit (f g : ME) : ML := fun r => (f r).bind fun d => (g r).bind fun e => match d, e with
  | .str s, .str sep => if sep.length ≠ 0 ∧ s.length < sizeLine then some ((splitS s sep).map .str) else none
  | _, _ => none
theorem chain_len {z y : Str} {n : Nat} (hy : 1 ≤ y.length) : ∀ (cuts : List Nat) (a f : Nat), ChainTo z y n a cuts f → a ≤ n → a + cuts.length ≤ n
  | [], a, f, _, h => h
  | c :: r, a, f, h, _ => by
    obtain ⟨h1, ⟨h2, _⟩, h3⟩ := h
    have := chain_len hy r (c + y.length) f h3 h2
    rw [List.length_cons]; omega
theorem occ_len (z y : Str) (hy : (y.length == 0) = false) : (partsBetween z (occurrences z y 0 z.length (z.length + 1)) y.length).length ≤ z.length + 1 := by
  rw [len_partsBetween]
  obtain ⟨e, hc⟩ := occ_chain z y (z.length + 1)
  have hy1 : 1 ≤ y.length := by
    have : y.length ≠ 0 := by simpa using hy
    omega
  have := chain_len hy1 _ 0 e hc (Nat.zero_le _)
  omega
theorem isL_strs {K : Fg} {O : Addr → Prop} {H : Hp} : ∀ (ts : List Str), IsL K O H ((ts.map fun x => x.cps.toList).map D.str) (ts.map V.str)
  | [] => .nil
  | t :: ts => .cons (by rw [Is.str_iff]) (isL_strs ts)
theorem df_split {apos cpos : Pos} (ho : DE X a f) (ha : DE X b g) (hbase : attributeBase a "split" X.env (eval a X.env) = eval a X.env := by rfl) (hline : (apos.endLine == cpos.line) = true := by rfl)
    (hfew : ((backTo cpos (starEach [b] X.env)).all (fun x => !x.1) && (backToKw cpos (keywordEach [] X.env)).all (fun x => x.1.isSome) && decide ([b].length + ([] : List Keyword).length + (if ([] : List Keyword).isEmpty then 0 else 1) < 30)) = true := by rfl)
    (hs : starEach [b] X.env = (false, eval b X.env) :: starEach [] X.env := by rfl) : DF X (.Call (.Attribute a "split" apos) [b] [] cpos) (mSplit f g) := by
  refine PE.conseq (pe_bm PySem.F.plainAttrs_str PySem.F.slot_str_split PySem.F.type_str_split mt_split ho (pa_cons ha pa_nil hs) hbase hfew hline hs) fun σ H Q hq => ?_
  obtain ⟨O0, r, l, hR, e, q⟩ := hq
  obtain ⟨x, e1, e2⟩ := bind_some e
  obtain ⟨y, e3, e4⟩ := bind_some e2
  refine ⟨O0, r, x, hR, e1, fun v H1 s1 i1 => ?_⟩
  cases x <;> first | (simp only [reduceCtorEq] at e4; done) | skip
  cases y <;> first | (simp only [reduceCtorEq] at e4; done) | skip
  rename_i s sep
  simp only at e4
  split at e4
  · rename_i hl
    have e5 : (splitS s sep).map D.str = l := Option.some.inj e4
    subst e5
    rw [Is.str_iff] at i1
    subst i1
    refine ⟨rfl, O0, r, _, hR.same s1, e3, fun v2 H2 s2 i2 => ?_⟩
    rw [Is.str_iff] at i2
    have hy : ((⟨sep.toArray⟩ : Str).length == 0) = false := by rw [str_len]; simpa using hl.1
    have h5 := occ_len (⟨s.toArray⟩ : Str) ⟨sep.toArray⟩ hy
    have h6 : (⟨s.toArray⟩ : Str).length = s.length := str_len s
    refine ⟨_, _, rfl, by rw [i2], hy, by rw [h6]; omega, by omega, fun p hp => q p _ _ ((s1.trans s2).trans (same_upd hp)) ((s1.trans s2).free hp) upd_same ?_⟩
    exact isL_strs _
  · cases e4
end
section
variable {X : Cx} {a b : Expr} {f g : ME} {p pos : Pos} {elts : List Expr} {k : Nat} {tp : Pos}
noncomputable def z1 (F : V → Hp → Prop) : List V → Hp → Prop
  | [x], H => F x H
  | _, _ => False
theorem z1_inv {F : V → Hp → Prop} : ∀ {vs : List V} {H : Hp}, z1 F vs H → ∃ x, vs = [x] ∧ F x H
  | [x], _, h => ⟨x, rfl, h⟩
  | [], _, h => h.elim
  | _ :: _ :: _, _, h => h.elim
end
noncomputable def frZ (i : Nat) (r : En) : Option En := match r[i]? with
  | some (.o l) => some (r.set i (.z l))
  | _ => none
theorem R.swap {K : Fg} {O0 : Addr → Prop} {H : Hp} {r : En} {σ : St} {i : Nat} {l : List D} {y : Sl} (h : R K O0 H r σ) (hy : (r[i]? = some (.o l) ∧ y = .z l) ∨ (r[i]? = some (.z l) ∧ y = .o l)) : R K O0 H (r.set i y) σ ∧ ∀ b, OwnAt (r.set i y) σ b ↔ OwnAt r σ b := by
  have eo : (r[i]?).bind Sl.own = some l := by rcases hy with ⟨e, _⟩ | ⟨e, _⟩ <;> rw [e] <;> rfl
  have yo : y.own = some l := by rcases hy with ⟨_, e⟩ | ⟨_, e⟩ <;> rw [e] <;> rfl
  have hi : i < r.length := by
    rcases hy with ⟨e, _⟩ | ⟨e, _⟩ <;> exact (List.getElem?_eq_some_iff.mp e).1
  have own : ∀ j, ((r.set i y)[j]?).bind Sl.own = (r[j]?).bind Sl.own := fun j => by
    by_cases hj : i = j
    · subst hj; rw [get_set_eq hi, eo]; exact yo
    · rw [get_set_ne hj]
  have at_ : ∀ b, OwnAt (r.set i y) σ b ↔ OwnAt r σ b := fun b => ⟨fun ⟨j, m, e, q⟩ => ⟨j, m, by rw [← own j]; exact e, q⟩, fun ⟨j, m, e, q⟩ => ⟨j, m, by rw [own j]; exact e, q⟩⟩
  have ow : ∀ b, Ow O0 (r.set i y) σ b → H b ≠ none → Ow O0 r σ b := fun b z _ => z.imp id (at_ b).mp
  refine ⟨⟨by simp [h.len], fun j d ej => ?_, fun j m ej => ?_, fun j k b m n e4 e5 => ?_, h.o0, fun j m b ej q => ?_, fun j m b ej q => ?_⟩, at_⟩
  · have hj : i ≠ j := fun z => by subst z; rw [get_set_eq hi] at ej; cases ej; cases yo
    rw [get_set_ne hj] at ej
    obtain ⟨v, q1, q2⟩ := h.val j d ej
    exact ⟨v, q1, Is.mono (Same.kp (Same.refl H) _) h.ol ow _ _ q2⟩
  · rw [own j] at ej
    obtain ⟨b, ys, q1, q2, q3⟩ := h.own j m ej
    exact ⟨b, ys, q1, q2, IsL.mono (Same.kp (Same.refl H) _) h.ol ow _ _ q3⟩
  · rw [own j] at e4
    rw [own k] at e5
    exact h.apart j k b m n e4 e5
  · by_cases hj : i = j
    · subst hj
      rcases hy with ⟨e, _⟩ | ⟨e, _⟩
      · exact h.loc i l b (.inl e) q
      · exact h.loc i l b (.inr e) q
    · rw [get_set_ne hj] at ej
      exact h.loc j m b ej q
  · by_cases hj : i = j
    · subst hj
      rw [get_set_eq hi] at ej
      rcases hy with ⟨_, e⟩ | ⟨_, e⟩ <;> rw [e] at ej <;> cases ej
    · rw [get_set_ne hj] at ej
      exact h.par j m b ej q
theorem frZ_some {i : Nat} {r r1 : En} (e : frZ i r = some r1) : ∃ l, r[i]? = some (.o l) ∧ r1 = r.set i (.z l) := by
  unfold frZ at e
  split at e
  · rename_i l h; cases e; exact ⟨l, h, rfl⟩
  · cases e
section
variable {X : Cx} {a b : Expr} {f g : ME} {p pos : Pos} {elts : List Expr} {k : Nat} {tp : Pos}
noncomputable def lK (K : Fg) (f : ML) : TE := fun σ H Q => ∃ O0 r l, R K O0 H r σ ∧ f r = some l ∧ ∀ u xs H', Same H H' → (∀ H1, Keep (MutAt r σ) H' H1 → SqL K H1 u xs) → IsL K (Ow O0 r σ) H' l xs → Q (.ref u) H'
noncomputable def DK (X : Cx) (e : Expr) (f : ML) : Prop := PE X e (lK X.K f)
noncomputable def mZs (i : Nat) : ML := fun r => match r[i]? with
  | some (.z l) => some l
  | _ => none
theorem dk_z (i : Nat) {x : Str} (h : PE X (.Name x pos) (tVar i)) : DK X (.Name x pos) (mZs i) := by
  refine PE.conseq h fun σ H Q hq => ?_
  obtain ⟨O0, r, l, hR, e, q⟩ := hq
  have e' : r[i]? = some (.z l) := by
    unfold mZs at e
    split at e
    · rename_i l' h; cases e; exact h
    · cases e
  obtain ⟨u, xs, e1, e2, e3⟩ := hR.own i l (by rw [e']; rfl)
  refine ⟨.ref u, e1, q u xs H (Same.refl H) (fun H1 k1 => SqL.of (k1 _ _ e2 fun ⟨j, m, ej, qj⟩ => ?_)) e3⟩
  obtain ⟨y, ey, ym⟩ := bind_some ej
  have := hR.apart i j u l m (by rw [e']; rfl) (by rw [ey]; exact mt_own ym) e1 qj
  subst this
  rw [e'] at ey; cases ey; cases ym
theorem noF {H : Hp} : OLst (fun _ => False) H := fun _ z => z.elim
end
set_option maxRecDepth 9000 in
theorem extT (l : Addr) (xs : Array Value) (n : Nat) (b : Addr) (cl : Value) (dd : Option Addr) (ys : Array Value) (n2 : Nat) (sl : Array (Option Value)) (hcl : cl = .type "tuple") (h0 : ¬(!xs.isEmpty && Builtin.List.listTooLong (xs.size + ys.size)) = true) (h1 : xs.size ≤ sizeLine) (h2 : xs.size + ys.size ≤ sizeLine + 1) :
    Meets (Builtin.«list.extend» ⟨[.ref l, .ref b], []⟩) (fun _ R s => s.heap.get? l = some { cls := .type "list", dict := none, data := .seq xs n, slots := #[] } ∧ s.heap.get? b = some { cls := cl, dict := dd, data := .seq ys n2, slots := sl } ∧ R (.ok (.ret Value.none)) { s with heap := s.heap.update l (Obj.mapSeq fun x => x ++ ys), toks := s.toks }) :=
  .of_wp fun prog w A R s h => by
    subst hcl
    obtain ⟨hp, g, d, tk, os⟩ := s; obtain ⟨hl, hb, h⟩ := h; have f1 := AutoSeq1.idx_int; have f2 := AutoSeq1.sub_tuple_tuple; have f3 := AutoSeq1.sub_list_list; have f4 := AutoSeq1.sub_tuple_list; have f5 := AutoSeq1.sub_list_tuple
    have hz : (xs ++ ys).size ≤ sizeLine + 1 := by rw [Array.size_append]; exact h2
    wp_walk using (wpAny_updateSeq hl rfl (hz := h1) (_hz' := hz)), wpAny_loadPart' hl, wpAny_loadPart' hb; exact ⟨_, rfl, h⟩
set_option maxRecDepth 9000 in
theorem extL (l : Addr) (xs : Array Value) (n : Nat) (b : Addr) (cl : Value) (dd : Option Addr) (ys : Array Value) (n2 : Nat) (sl : Array (Option Value)) (hcl : cl = .type "list") (h0 : ¬(!xs.isEmpty && Builtin.List.listTooLong (xs.size + ys.size)) = true) (h1 : xs.size ≤ sizeLine) (h2 : xs.size + ys.size ≤ sizeLine + 1) :
    Meets (Builtin.«list.extend» ⟨[.ref l, .ref b], []⟩) (fun _ R s => s.heap.get? l = some { cls := .type "list", dict := none, data := .seq xs n, slots := #[] } ∧ s.heap.get? b = some { cls := cl, dict := dd, data := .seq ys n2, slots := sl } ∧ R (.ok (.ret Value.none)) { s with heap := s.heap.update l (Obj.mapSeq fun x => x ++ ys), toks := s.toks }) :=
  .of_wp fun prog w A R s h => by
    subst hcl
    obtain ⟨hp, g, d, tk, os⟩ := s; obtain ⟨hl, hb, h⟩ := h; have f1 := AutoSeq1.idx_int; have f2 := AutoSeq1.sub_tuple_tuple; have f3 := AutoSeq1.sub_list_list; have f4 := AutoSeq1.sub_tuple_list; have f5 := AutoSeq1.sub_list_tuple
    have hz : (xs ++ ys).size ≤ sizeLine + 1 := by rw [Array.size_append]; exact h2
    wp_walk using (wpAny_updateSeq hl rfl (hz := h1) (_hz' := hz)), wpAny_loadPart' hl, wpAny_loadPart' hb; exact ⟨_, rfl, h⟩
section
variable {X : Cx}
noncomputable def rExtA (K : Fg) : V → List V → Hp → VK → Prop := fun x vs H Q => ∃ l b xs zs, x = .ref l ∧ vs = [.ref b] ∧ H l = some (.lst xs) ∧ (SqL K H b zs ∨ SqT K H b zs) ∧ xs.length + zs.length ≤ sizeLine ∧ Q .non (upd H l (.lst (xs ++ zs)))
theorem mt_extA : MtR X "list.extend" (rExtA X.K) := by
  intro pins s σ H x vs v us Q I rx rv h
  obtain ⟨l, b, xs, zs, rfl, rfl, hH, hB, hz, q⟩ := h
  cases rx
  obtain ⟨u, rfl, ru⟩ := rv.one
  cases ru
  obtain ⟨z, its, n, r, hl, e⟩ := I.lstM hH
  have fin : ∀ (its2 : List Value), Vals zs its2 → ¬ (!its.toArray.isEmpty && Builtin.List.listTooLong (its.toArray.size + its2.toArray.size)) = true ∧ its.toArray.size ≤ sizeLine ∧ its.toArray.size + its2.toArray.size ≤ sizeLine + 1 ∧
      EP X pins σ Q Value.none { s with heap := s.heap.update l (Obj.mapSeq fun x => x ++ its2.toArray), toks := s.toks } := fun its2 r2 => by
    have hl2 := r2.length
    have hsz : its.toArray.size + its2.toArray.size ≤ sizeLine := by rw [List.size_toArray, List.size_toArray]; omega
    refine ⟨by rw [notLongL hsz, Bool.and_false]; exact Bool.false_ne_true, by rw [List.size_toArray]; omega, by omega, .non, _, I.lset (its' := its ++ its2) hH e (by simp) (r.append r2) ?_, rfl, q⟩
    rw [List.length_append]; omega
  rcases hB with hB | hB
  · obtain ⟨its2, r2, ⟨⟨c2, d2, dt2, sl2⟩, n2, g2, hc, hd, hs⟩, z2⟩ := I.list hB
    simp only at hc hd hs
    subst hs
    obtain ⟨f1, f2, f3, f4⟩ := fin its2 r2
    exact call_meets F.slot_list_extend ⟨_, e, rfl⟩ F.entry_list_extend (F.args_list_extend_2 _ _) (extL l its.toArray n b _ _ its2.toArray n2 _ hc f1 f2 f3) ⟨e, g2, f4⟩
  · obtain ⟨its2, r2, ⟨⟨c2, d2, dt2, sl2⟩, g2, hc, n2, hs⟩, z2⟩ := I.tuple hB
    simp only at hc hs
    subst hs
    obtain ⟨f1, f2, f3, f4⟩ := fin its2 r2
    exact call_meets F.slot_list_extend ⟨_, e, rfl⟩ F.entry_list_extend (F.args_list_extend_2 _ _) (extT l its.toArray n b _ _ its2.toArray n2 _ hc f1 f2 f3) ⟨e, g2, f4⟩
variable {apos cpos pn : Pos} {e : Expr} {f : ME}
theorem dx_extend (i : Nat) {x : Str} (h : PE X (.Name x pn) (tVar i)) (he : DE X e f)
    (hline : (apos.endLine == cpos.line) = true := by rfl) (hbase : attributeBase (.Name x pn) "extend" X.env (eval (.Name x pn) X.env) = eval (.Name x pn) X.env := by rfl)
    (hfew : ((backTo cpos (starEach [e] X.env)).all (fun x => !x.1) && (backToKw cpos (keywordEach [] X.env)).all (fun x => x.1.isSome) && decide ([e].length + ([] : List Keyword).length + (if ([] : List Keyword).isEmpty then 0 else 1) < 30)) = true := by rfl)
    (hs : starEach [e] X.env = (false, eval e X.env) :: starEach [] X.env := by rfl) :
    DX X (.Call (.Attribute (.Name x pn) "extend" apos) [e] [] cpos) (mExt i f) := by
  refine PE.conseq (pe_bm PySem.F.plainAttrs_list PySem.F.slot_list_extend PySem.F.type_list_extend mt_extA h (pa_cons he pa_nil hs) hbase hfew hline hs) fun σ H Q hq => ?_
  obtain ⟨O0, r, d', r', hR, e, q⟩ := hq
  obtain ⟨d, e1, e⟩ := bind_some e
  obtain ⟨m, em, e⟩ := bind_some e
  obtain ⟨l, e2, e⟩ := bind_some e
  split at e
  · rename_i hl
    obtain ⟨r2, e3, e4⟩ := map_some e
    cases e4
    obtain ⟨a, xs, q1, q2, q3⟩ := mt_at hR e2
    refine ⟨.ref a, q1, .inl ⟨rfl, xs, SqL.of q2⟩, O0, r, d, hR, e1, fun v H1 s1 i1 => ?_⟩
    have R1 := hR.same s1
    have key : ∃ b zs, v = .ref b ∧ (SqL X.K H1 b zs ∨ SqT X.K H1 b zs) ∧ IsL X.K (Ow O0 r σ) H1 m zs := by
      cases d <;> first | (cases em; done) | skip
      · cases em; rw [Is.tup_iff] at i1; obtain ⟨b, zs, rfl, h1, h2⟩ := i1; exact ⟨b, zs, rfl, .inr h1, h2⟩
      · cases em; rw [Is.lst_iff] at i1; obtain ⟨b, zs, rfl, h1, h2⟩ := i1; exact ⟨b, zs, rfl, .inl h1.sq, h2⟩
    obtain ⟨b, zs, rfl, hb, il⟩ := key
    obtain ⟨R2, k2⟩ := R1.upd (xs' := xs ++ zs) e3 q1 (s1 _ _ q2) ((q3.same s1 hR.ol).append il)
    exact ⟨a, b, xs, zs, rfl, rfl, s1 _ _ q2, hb, by rw [← q3.length, ← il.length]; exact hl, q _ _ R2 ((Kp.of_same r σ s1).trans k2) (by rw [Is.non_iff])⟩
  · cases e
end
noncomputable def eqLV : List V → List V → Bool
  | [], [] => true
  | x :: xs, y :: ys => eqV x y && eqLV xs ys
  | _, _ => false
noncomputable def eqLF : List D → List D → Bool
  | [], [] => true
  | x :: xs, y :: ys => eqF x y && eqLF xs ys
  | _, _ => false
noncomputable def eqAtJ (xs ys : List V) (j : Nat) : Bool := match xs[j]?, ys[j]? with
  | some x, some y => eqV x y
  | _, _ => false
theorem range_eqJ : ∀ (xs ys : List V), xs.length = ys.length → (List.range xs.length).all (eqAtJ xs ys) = eqLV xs ys
  | [], [], _ => rfl
  | x :: xs, y :: ys, h => by
    rw [List.length_cons, List.range_succ_eq_map, List.all_cons, List.all_map, eqLV, ← range_eqJ xs ys (by simpa using h)]
    rfl
  | [], y :: ys, h => by simp at h
  | x :: xs, [], h => by simp at h
theorem eqLV_len : ∀ (xs ys : List V), xs.length ≠ ys.length → eqLV xs ys = false
  | [], [], h => by simp at h
  | x :: xs, y :: ys, h => by rw [eqLV, eqLV_len xs ys (by simpa using h), Bool.and_false]
  | [], y :: ys, h => rfl
  | x :: xs, [], h => rfl
theorem eqLF_ok {K : Fg} {O : Addr → Prop} {H : Hp} : ∀ {l m : List D} {xs ys : List V}, IsL K O H l xs → IsL K O H m ys → l.all flatD = true → m.all flatD = true → xs.all flatV = true ∧ ys.all flatV = true ∧ eqLV xs ys = eqLF l m
  | [], [], xs, ys, h, h', _, _ => by unfold IsL at h h'; subst h h'; exact ⟨rfl, rfl, rfl⟩
  | [], e :: m, xs, ys, h, h', _, f' => by
    unfold IsL at h; subst h
    rw [List.all_cons, Bool.and_eq_true] at f'
    unfold IsL at h'; obtain ⟨v, r, rfl, h1, h2⟩ := h'
    exact ⟨rfl, by rw [List.all_cons, flat_ok h1 f'.1, (eqLF_ok (l := []) IsL.nil h2 rfl f'.2).2.1]; rfl, rfl⟩
  | d :: l, [], xs, ys, h, h', f, _ => by
    unfold IsL at h'; subst h'
    rw [List.all_cons, Bool.and_eq_true] at f
    unfold IsL at h; obtain ⟨v, r, rfl, h1, h2⟩ := h
    exact ⟨by rw [List.all_cons, flat_ok h1 f.1, (eqLF_ok (m := []) h2 IsL.nil f.2 rfl).1]; rfl, rfl, rfl⟩
  | d :: l, e :: m, xs, ys, h, h', f, f' => by
    rw [List.all_cons, Bool.and_eq_true] at f f'
    unfold IsL at h; obtain ⟨v, r, rfl, h1, h2⟩ := h
    unfold IsL at h'; obtain ⟨v', r', rfl, h1', h2'⟩ := h'
    obtain ⟨a, b, c⟩ := eqLF_ok h2 h2' f.2 f'.2
    exact ⟨by rw [List.all_cons, flat_ok h1 f.1, a]; rfl, by rw [List.all_cons, flat_ok h1' f'.1, b]; rfl, by rw [eqLV, eqLF, c, eqF_ok h1 f.1 h1' f'.1]⟩
section
variable {X : Cx}
noncomputable def rEqL (K : Fg) (neg : Bool) : R2 := fun x y H Q => ∃ p q xs ys, x = .ref p ∧ y = .ref q ∧ SqL K H p xs ∧ SqL K H q ys ∧ xs.all flatV = true ∧ ys.all flatV = true ∧ Q (.bl (if neg then !eqLV xs ys else eqLV xs ys)) H
theorem all_get {xs : List V} {j : Nat} {x : V} (h : xs.all flatV = true) (e : xs[j]? = some x) : flatV x = true := List.all_eq_true.mp h x (List.mem_of_getElem? e)
theorem vals_at {xs : List V} {its : List Value} (r : Vals xs its) {j : Nat} (h : j < its.toArray.size) : ∃ x, xs[j]? = some x ∧ RelV x its.toArray[j] := by
  have hj : j < xs.length := by rw [r.length]; simpa using h
  obtain ⟨u, e, q⟩ := r.get (i := j) (x := xs[j]) (by simp [hj])
  refine ⟨xs[j], by simp [hj], ?_⟩
  have : its.toArray[j] = u := by
    have h' : j < its.length := by simpa using h
    simp only [List.getElem_toArray]
    rw [List.getElem?_eq_getElem h'] at e
    exact Option.some.inj e
  rw [this]; exact q
theorem items_eq {A : Around} {s : Shared} {xs ys : List V} {its its2 : List Value} (r : Vals xs its) (r2 : Vals ys its2) (fx : xs.all flatV = true) (fy : ys.all flatV = true) : ∀ j (h1 : j < its.toArray.size) (h2 : j < its2.toArray.size), SeqAt.EqAt A s its.toArray[j] its2.toArray[j] (eqAtJ xs ys j) := by
  intro j h1 h2
  obtain ⟨x, e1, q1⟩ := vals_at r h1
  obtain ⟨y, e2, q2⟩ := vals_at r2 h2
  have : eqAtJ xs ys j = eqV x y := by unfold eqAtJ; rw [e1, e2]
  rw [this]
  exact eqAt_V q1 q2 (all_get fx e1) (all_get fy e2)
theorem op_eqL (hu : X.A.units < cLine) : OpR X (compareOp .Eq) (rEqL X.K false) := by
  intro pins s σ H x y v u Q I rx ry h
  obtain ⟨p, q', xs, ys, rfl, rfl, h1, h2, fx, fy, q⟩ := h
  cases rx; cases ry
  obtain ⟨its, r, pl, hz⟩ := I.list h1
  obtain ⟨its2, r2, pl2, hz2⟩ := I.list h2
  have n1 := r.length
  have n2 := r2.length
  by_cases hl : xs.length = ys.length
  · refine SeqAt.eq_listAt pl.isList pl2.isList (by simp only [List.size_toArray]; omega) hu (items_eq r r2 fx fy) (fin_bl I q ?_)
    rw [List.size_toArray, ← n1, range_eqJ xs ys hl]; rfl
  · refine SeqAt.eq_list_lengthsAt pl.isList pl2.isList (by simp only [List.size_toArray, bne_iff_ne]; omega) hu (fin_bl I q ?_)
    rw [eqLV_len xs ys hl]; rfl
theorem op_neL (hu : X.A.units < cLine) : OpR X (compareOp .NotEq) (rEqL X.K true) := by
  intro pins s σ H x y v u Q I rx ry h
  obtain ⟨p, q', xs, ys, rfl, rfl, h1, h2, fx, fy, q⟩ := h
  cases rx; cases ry
  obtain ⟨its, r, pl, hz⟩ := I.list h1
  obtain ⟨its2, r2, pl2, hz2⟩ := I.list h2
  have n1 := r.length
  have n2 := r2.length
  by_cases hl : xs.length = ys.length
  · refine SeqAt.RcNeAt.lists pl.isList pl2.isList (by simp only [List.size_toArray]; omega) hu (items_eq r r2 fx fy) _ _ _ _ (fin_bl I q ?_)
    rw [List.size_toArray, ← n1, range_eqJ xs ys hl]; rfl
  · refine SeqAt.RcNeAt.lists_lengths pl.isList pl2.isList (by simp only [List.size_toArray, bne_iff_ne]; omega) hu _ _ _ _ (fin_bl I q ?_)
    rw [eqLV_len xs ys hl]; rfl
noncomputable def eqA (x y : D) : Option D := match x, y with
  | .lst l, .lst m => if l.all flatD = true ∧ m.all flatD = true then some (.bl (eqLF l m)) else none
  | x, y => eqD x y
noncomputable def neA (x y : D) : Option D := match x, y with
  | .lst l, .lst m => if l.all flatD = true ∧ m.all flatD = true then some (.bl (!eqLF l m)) else none
  | x, y => neD x y
noncomputable def rEqA (K : Fg) : R2 := fun x y H Q => rEqL K false x y H Q ∨ rEq x y H Q
noncomputable def rNeA (K : Fg) : R2 := fun x y H Q => rEqL K true x y H Q ∨ rNe x y H Q
theorem op_eqA (hu : X.A.units < cLine) : OpR X (compareOp .Eq) (rEqA X.K) := (op_eqL hu).or op_eq
theorem op_neA (hu : X.A.units < cLine) : OpR X (compareOp .NotEq) (rNeA X.K) := (op_neL hu).or op_ne
theorem od_eqA {K : Fg} : OpD K (rEqA K) eqA := by
  intro O H dx dy d vx vy Q ol ix iy e q
  unfold eqA at e
  split at e
  · rename_i l m
    split at e
    · rename_i hf
      cases e
      rw [Is.lst_iff] at ix iy
      obtain ⟨a, xs, rfl, hs, il⟩ := ix
      obtain ⟨b, ys, rfl, hs', il'⟩ := iy
      obtain ⟨f1, f2, f3⟩ := eqLF_ok il il' hf.1 hf.2
      exact .inl ⟨a, b, xs, ys, rfl, rfl, hs.sq, hs'.sq, f1, f2, q _ H (Same.refl H) (by rw [Is.bl_iff, f3]; rfl)⟩
    · cases e
  · exact .inr (od_eq O H dx dy d vx vy Q ol ix iy e q)
theorem od_neA {K : Fg} : OpD K (rNeA K) neA := by
  intro O H dx dy d vx vy Q ol ix iy e q
  unfold neA at e
  split at e
  · rename_i l m
    split at e
    · rename_i hf
      cases e
      rw [Is.lst_iff] at ix iy
      obtain ⟨a, xs, rfl, hs, il⟩ := ix
      obtain ⟨b, ys, rfl, hs', il'⟩ := iy
      obtain ⟨f1, f2, f3⟩ := eqLF_ok il il' hf.1 hf.2
      exact .inl ⟨a, b, xs, ys, rfl, rfl, hs.sq, hs'.sq, f1, f2, q _ H (Same.refl H) (by rw [Is.bl_iff, f3]; rfl)⟩
    · cases e
  · exact .inr (od_ne O H dx dy d vx vy Q ol ix iy e q)
end
section
variable {X : Cx} {a b l tg : Expr} {f : ME} {pos p : Pos}
theorem di_k {fl : ML} (hl : DK X l fl) : DI X tg l fl := by
  refine PI.conseq (pi_seq hl) fun σ H Rr h => ?_
  obtain ⟨O0, r, ds, hR, e, q⟩ := h
  refine ⟨O0, r, ds, hR, e, fun u xs H1 s1 kp il => ?_⟩
  exact ⟨u, rfl, .inl ⟨⟨xs, kp H1 fun b o e _ => e⟩, q _ H1 s1 (yl_list (fun a z => .inr z.own) (hR.same s1).ol kp il)⟩⟩
end
section
variable {X : Cx} {a : Expr} {es : List Expr} {f : ME} {fs : ML} {i : Nat} {pos p pn : Pos}
noncomputable abbrev MZ := En → Option (List D × List D)
noncomputable def zP (fs : ML) : MZ := fun r => (fs r).map fun es => ([], es)
noncomputable def lZ (K : Fg) (i : Nat) (f : MZ) : TA := fun σ H Q => ∃ O0 r l ds es, R K O0 H r σ ∧ mtOf r i = some l ∧ f r = some (ds, es) ∧ ∀ vs a us H', Same H H' → σ[i]? = some (some (.ref a)) → IsL K (Ow O0 r σ) H' ds vs → IsL K (Ow O0 r σ) H' es us → Q (vs ++ .ref a :: us) H'
noncomputable def DZ (X : Cx) (i : Nat) (es : List Expr) (f : MZ) : Prop := PA X es (lZ X.K i f)
theorem dz_p {x : Str} (h : PE X (.Name x pn) (tVar i)) (hr : DA X es fs) (hs : starEach (.Name x pn :: es) X.env = (false, eval (.Name x pn) X.env) :: starEach es X.env := by rfl) : DZ X i (.Name x pn :: es) (zP fs) := by
  refine PA.conseq (pa_cons h hr hs) fun σ H Q hq => ?_
  obtain ⟨O0, r, l, ds, us, hR, em, e, q⟩ := hq
  obtain ⟨us', e1, e2⟩ := map_some e
  cases e2
  obtain ⟨c, xs, q1, q2, q3⟩ := mt_at hR em
  exact ⟨.ref c, q1, O0, r, _, hR, e1, fun vs H1 s1 i1 => q [] c vs H1 s1 q1 .nil i1⟩
noncomputable def zArgs (ds : List D) (l : List D) (es : List D) : List Sl := ds.map .v ++ .p l :: es.map .v
theorem zArgs_get {ds l es : List D} {j : Nat} {x : Sl} (e : (zArgs ds l es)[j]? = some x) : (∃ d, x = .v d ∧ (ds ++ .non :: es)[j]? = some d ∧ j ≠ ds.length) ∨ (x = .p l ∧ j = ds.length) := by
  unfold zArgs at e
  by_cases h : j < ds.length
  · rw [List.getElem?_append_left (by simpa using h), List.getElem?_map] at e
    rw [List.getElem?_append_left h]
    cases e1 : ds[j]? with
    | none => rw [e1] at e; cases e
    | some d => rw [e1] at e; cases e; exact .inl ⟨d, rfl, rfl, by omega⟩
  · rw [List.getElem?_append_right (by simpa using h)] at e
    rw [List.getElem?_append_right (by omega)]
    simp only [List.length_map] at e
    cases e2 : j - ds.length with
    | zero => rw [e2] at e; cases e; exact .inr ⟨rfl, by omega⟩
    | succ k =>
      rw [e2, List.getElem?_cons_succ, List.getElem?_map] at e
      rw [List.getElem?_cons_succ]
      cases e1 : es[k]? with
      | none => rw [e1] at e; cases e
      | some d => rw [e1] at e; cases e; exact .inl ⟨d, rfl, rfl, by omega⟩
theorem zArgs_own {ds l es m : List D} {j : Nat} {q : Sl → Option (List D)} (hq : ∀ d, q (.v d) = none) (e : ((zArgs ds l es)[j]?).bind q = some m) : j = ds.length ∧ q (.p l) = some m := by
  obtain ⟨x, e1, e2⟩ := bind_some e
  rcases zArgs_get e1 with ⟨d, rfl, _⟩ | ⟨rfl, h⟩
  · rw [hq] at e2; cases e2
  · exact ⟨h, e2⟩
theorem zVs_get {vs us : List V} {c : Addr} : (vs ++ V.ref c :: us)[vs.length]? = some (.ref c) := by rw [List.getElem?_append_right (Nat.le_refl _), Nat.sub_self]; rfl
theorem zIs_get {K : Fg} {O : Addr → Prop} {H : Hp} {ds es : List D} {vs us : List V} {c : Addr} {j : Nat} {d : D} (h1 : IsL K O H ds vs) (h2 : IsL K O H es us) (e : (ds ++ .non :: es)[j]? = some d) (hj : j ≠ ds.length) : ∃ v, (vs ++ V.ref c :: us)[j]? = some v ∧ Is K O H d v := by
  have hl := h1.length
  by_cases h : j < ds.length
  · rw [List.getElem?_append_left h] at e
    obtain ⟨v, e1, i1⟩ := h1.get e
    exact ⟨v, by rw [List.getElem?_append_left (by omega)]; exact e1, i1⟩
  · rw [List.getElem?_append_right (by omega)] at e
    rw [List.getElem?_append_right (by omega)]
    obtain ⟨k, hk⟩ : ∃ k, j - ds.length = k + 1 := ⟨j - ds.length - 1, by omega⟩
    rw [hk, List.getElem?_cons_succ] at e
    rw [← hl, hk, List.getElem?_cons_succ]
    exact h2.get e
theorem R.zargs {K : Fg} {O : Addr → Prop} {H : Hp} {ds l es : List D} {vs us xs : List V} {c : Addr} (ol : OLst O H) (hc : O c) (ec : H c = some (.lst xs)) (il : IsL K O H l xs) (h1 : IsL K O H ds vs) (h2 : IsL K O H es us) : R K O H (zArgs ds l es) ((vs ++ V.ref c :: us).map some) := by
  have hl := h1.length
  have hl2 := h2.length
  have ow : ∀ b, Ow O (zArgs ds l es) ((vs ++ V.ref c :: us).map some) b → H b ≠ none → O b := fun b z _ => z.elim id fun ⟨j, m, ej, qj⟩ => by
    obtain ⟨rfl, _⟩ := zArgs_own (fun _ => rfl) ej
    rw [List.getElem?_map, hl, zVs_get] at qj
    cases qj; exact hc
  refine ⟨by simp [zArgs, hl, hl2], fun j d e => ?_, fun j m e => ?_, fun j k b m m' e1 e2 q1 q2 => ?_, ol, fun j m b e q => ?_, fun j m b e q => ?_⟩
  · rcases zArgs_get e with ⟨d', e', e2, e3⟩ | ⟨e', _⟩
    · cases e'
      obtain ⟨v, e4, i4⟩ := zIs_get (c := c) h1 h2 e2 e3
      exact ⟨v, by rw [List.getElem?_map, e4]; rfl, Is.mono (Same.kp (Same.refl H) _) ol ow _ _ i4⟩
    · cases e'
  · obtain ⟨rfl, e2⟩ := zArgs_own (fun _ => rfl) e
    cases e2
    exact ⟨c, xs, by rw [List.getElem?_map, hl, zVs_get]; rfl, ec, IsL.mono (Same.kp (Same.refl H) _) ol ow _ _ il⟩
  · rw [(zArgs_own (fun _ => rfl) e1).1, (zArgs_own (fun _ => rfl) e2).1]
  · exfalso
    rcases e with e | e <;> rcases zArgs_get e with ⟨d', e', _⟩ | ⟨e', _⟩ <;> cases e'
  · obtain ⟨rfl, _⟩ := zArgs_own (q := Sl.own) (fun _ => rfl) (m := m) (by rw [e]; rfl)
    rw [List.getElem?_map, hl, zVs_get] at q
    cases q; exact hc
noncomputable def mCallX (n : Nat) (m : MF) (i : Nat) (z : MZ) : En → Option (D × En) := fun r => (mtOf r i).bind fun l => (z r).bind fun q => if q.1.length + 1 + q.2.length = n then (m (zArgs q.1 l q.2)).bind fun p => match p.1 with
  | .v d => match p.2[q.1.length]? with
    | some (.p l') => (putO i l' r).map fun r' => (d, r')
    | _ => none
  | _ => none
  else none
theorem own_put {r r' : En} {σ : St} {l' : List D} {b : Addr} (e : putO i l' r = some r') (h : OwnAt r' σ b) : OwnAt r σ b := by
  obtain ⟨x, y, ex, rfl, yo, ym, ⟨l0, xm⟩, _⟩ := putO_some e
  obtain ⟨j, m, ej, qj⟩ := h
  by_cases hj : j = i
  · subst hj; exact ⟨j, l0, by rw [ex]; exact mt_own xm, qj⟩
  · rw [get_set_ne (fun z => hj z.symm)] at ej; exact ⟨j, m, ej, qj⟩
theorem dx_call {k n : Nat} {fa : Addr} {fd : FuncData} {ps : List Str} {m : MF} {x : Str} {z : MZ} (F : FnOk X.prog X.w X.K X.mg X.base CX0 k fa fd ps (spD X.K n m)) (hr : Room k X.A) (hg : Gl X x) (hm : X.mg x = some (.ref fa)) (hk : PySem.W.keepIn X.K (.ref fa) = true) (hb : Binds X.K fd ps []) (ha : DZ X i (a :: es) z)
    (hdb : (x == ("__debug__" : Str)) = false := by decide) (he : starEach (a :: es) X.env = (false, eval a X.env) :: starEach es X.env := by rfl) (hpl : (backTo pos (starEach es X.env)).any (·.1) = false := by rfl) :
    DX X (.Call (.Name x p) (a :: es) [] pos) (mCallX n m i z) := by
  refine PE.conseq (pe_call (E := fun _ _ _ => False) (dvs := []) F hr hg hm hk hb .nil pass0 ha hdb he hpl) fun σ H Q hq => ?_
  obtain ⟨O0, r, d, r', hR, e, q⟩ := hq
  obtain ⟨l, e1, e⟩ := bind_some e
  obtain ⟨⟨ds, us⟩, e2, e⟩ := bind_some e
  split at e
  · rename_i hn
    obtain ⟨⟨rs, as'⟩, e3, e⟩ := bind_some e
    refine ⟨O0, r, l, ds, us, hR, e1, e2, fun vs c ws H1 s1 hc i1 i2 => ?_⟩
    show spD X.K n m ((vs ++ .ref c :: ws) ++ []) H1 Q _
    rw [List.append_nil]
    have R1 := hR.same s1
    obtain ⟨c', xs, p1, p2, p3⟩ := mt_at R1 e1
    rw [hc] at p1; cases p1
    have hoc : Ow O0 r σ c := by
      obtain ⟨y, z1, z2⟩ := bind_some e1
      exact .inr ⟨i, l, by rw [z1]; exact mt_own z2, hc⟩
    refine ⟨Ow O0 r σ, zArgs ds l us, rs, as', by simp [zArgs]; simp only at hn; omega, R.zargs R1.ol hoc p2 p3 i1 i2, fun j m' => ⟨fun e => ?_, fun e => ?_⟩, e3, ?_⟩
    · rcases zArgs_get e with ⟨d', e', _⟩ | ⟨e', _⟩ <;> cases e'
    · rcases zArgs_get e with ⟨d', e', _⟩ | ⟨e', _⟩ <;> cases e'
    · cases rs with
      | f l => cases e
      | v d' =>
        simp only at e
        split at e
        · rename_i l' ek
          obtain ⟨r2, e5, e6⟩ := map_some e
          have hd1 : d' = d := congrArg Prod.fst e6
          have hr1 : r2 = r' := congrArg Prod.snd e6
          subst hd1 hr1
          refine fun v H2 pf iv => ?_
          have hkk : (zArgs ds l us)[ds.length]? = some (.p l) := by unfold zArgs; rw [List.getElem?_append_right (by simp)]; simp
          obtain ⟨l2, c2, xs2, f1, f2, f3, f4⟩ := pf.par ds.length l hkk
          rw [ek] at f1; cases f1
          rw [i1.length, zVs_get] at f2; cases f2
          have mutc : ∀ b, MutAt (zArgs ds l us) ((vs ++ V.ref c :: ws).map some) b → b = c := fun b ⟨j, m', ej, qj⟩ => by
            obtain ⟨rfl, _⟩ := zArgs_own (fun _ => rfl) ej
            rw [List.getElem?_map, i1.length, zVs_get] at qj
            cases qj; rfl
          obtain ⟨R2, k2⟩ := R1.put e5 hc (fun b o hb eb => pf.keep b o eb fun z => hb (mutc b z)) (fun b hb eb => pf.live b eb) f3 f4
          exact q v H2 R2 ((Kp.of_same r σ s1).trans k2) (Is.mono (Same.kp (Same.refl H2) _) (fun b zb => zb.elim (R2.o0 b) fun zb => by
            obtain ⟨ys, ey⟩ := R1.ol b (.inr zb); exact pf.lst b ys ey) (fun b zb _ => zb.imp id (own_put e5)) _ _ iv)
        · cases e
  · cases e
end
section
variable {es : List Expr} {env : Env} {p : Pos}
theorem stConst {c k} : starEach (.Constant c k p :: es) env = (false, eval (.Constant c k p) env) :: starEach es env := rfl
theorem stName {x} : starEach (.Name x p :: es) env = (false, eval (.Name x p) env) :: starEach es env := rfl
theorem stTuple {l k} : starEach (.Tuple l k p :: es) env = (false, eval (.Tuple l k p) env) :: starEach es env := rfl
theorem stCall {f l k} : starEach (.Call f l k p :: es) env = (false, eval (.Call f l k p) env) :: starEach es env := rfl
theorem stSub {a b} : starEach (.Subscript a b p :: es) env = (false, eval (.Subscript a b p) env) :: starEach es env := rfl
theorem stBin {a o b} : starEach (.BinOp a o b p :: es) env = (false, eval (.BinOp a o b p) env) :: starEach es env := rfl
end
section
variable {X : Cx} {pos : Pos} {a b tg : Expr} {f g : ME}
noncomputable def sNever : MS := fun _ => none
theorem ds_never {st : Stmt} : DS X st sNever := fun _ _ _ _ _ _ q => by
  obtain ⟨O0, r, fl, hR, e, q⟩ := q
  cases e
noncomputable def Its (x : Str) : It := ⟨fun i _ => i < x.cps.size, fun i H v H' => H' = H ∧ ∃ c, x.cps[i]? = some c ∧ v = .str ⟨#[c]⟩, fun i _ => x.cps.size ≤ i⟩
theorem turn_str {P : Program} {w : World} {K : Fg} (x : Str) (t : Tok) (it : Addr) : Turn P w K tg (Its x) [it] it (fun i h => h.IsStrIter it (strIterType x) x t i) where
  mem := by simp
  obj := fun i h st b hb => by
    obtain rfl : b = it := by simpa using hb
    obtain ⟨o, e, c, d⟩ := st
    exact ⟨o, e, fun v z => by rw [d] at z; cases z⟩
  keep := fun i h h' st k => by
    obtain ⟨o, e, c, d⟩ := st
    exact ⟨o, k it (by simp) o e, c, d⟩
  item := by
    intro X hP hw hK hc i pins s σ H E I hf st hg
    subst hP hw hK
    obtain ⟨f0, f1, f2, f3, f4, f5⟩ := hf it (by simp)
    have hg : i < x.cps.size := hg
    have hx : x.cps[i]? = some (x.cps[i]'hg) := Array.getElem?_eq_getElem hg
    have fin : ∀ h', h'.IsStrIter it (strIterType x) x t (i + 1) → Heap.SameBut it s.heap h' → ∃ u, some (Value.str ⟨#[x.cps[i]'hg]⟩ s.toks) = some u ∧
        wpAny (model X.prog X.w) X.A (letOwnedTupleGo tg (.ref it) u) (fun _ s2 => ∃ x' H', Inv X pins σ H' s2 ∧ RelV x' u ∧ (Its x).yld i H x' H' ∧ s2.heap.IsStrIter it (strIterType x) x t (i + 1) ∧ ∀ b ∈ [it], H' b = none) E { s with heap := h', toks := s.toks + 1 } := fun h' st' sb => by
      have I1 : Inv X pins σ H { s with heap := h', toks := s.toks + 1 } := I.turned (t' := s.toks + 1) (fun b o hb e => (sb.2 b hb).trans e) f0 f1 f3 f4 f5
      obtain ⟨o, e, c, d⟩ := id st'
      refine ⟨_, rfl, go_of (s := { s with heap := h', toks := s.toks + 1 }) e c d ?_ ⟨.str ⟨#[x.cps[i]'hg]⟩, H, I1, ⟨_, rfl⟩, ⟨rfl, _, hx, rfl⟩, st', fun b hb => (hf b hb).1⟩⟩
      unfold strIterType
      split <;> decide
    rcases ha : x.cps.all (· < 128) with _ | _
    · have ht : strIterType x = "str_iterator" := by unfold strIterType; rw [ha]; rfl
      rw [ht] at st
      exact wpAny_pyNext_wide_item st hx fun h' st' sb => fin h' (by rw [ht]; exact st') sb
    · have ht : strIterType x = "str_ascii_iterator" := by unfold strIterType; rw [ha]; rfl
      rw [ht] at st
      exact wpAny_pyNext_ascii_item st hx fun h' st' sb => fin h' (by rw [ht]; exact st') sb
  done := by
    intro X hP hw hK hc i pins s σ H E I hf st hg
    subst hP hw hK
    obtain ⟨f0, f1, f2, f3, f4, f5⟩ := hf it (by simp)
    have hx : x.cps[i]? = none := by
      have : x.cps.size ≤ i := hg
      simp [this]
    rcases ha : x.cps.all (· < 128) with _ | _
    · have ht : strIterType x = "str_iterator" := by unfold strIterType; rw [ha]; rfl
      rw [ht] at st
      exact wpAny_pyNext_wide_end (I.ok.hd hc) st hx fun h' eb => ⟨rfl, I.turned (t' := s.toks) (fun b o hb e => eb b o hb e) f0 f1 f3 f4 f5⟩
    · have ht : strIterType x = "str_ascii_iterator" := by unfold strIterType; rw [ha]; rfl
      rw [ht] at st
      exact wpAny_pyNext_ascii_end (I.ok.hd hc) st hx fun h' eb => ⟨rfl, I.turned (t' := s.toks) (fun b o hb e => eb b o hb e) f0 f1 f3 f4 f5⟩
  self := fun A i s Q E st h => by
    rcases ha : x.cps.all (· < 128) with _ | _
    · have ht : strIterType x = "str_iterator" := by unfold strIterType; rw [ha]; rfl
      rw [ht] at st
      exact wpAny_pyIter_striter_wide st h
    · have ht : strIterType x = "str_ascii_iterator" := by unfold strIterType; rw [ha]; rfl
      rw [ht] at st
      exact wpAny_pyIter_striter_ascii st h
noncomputable def signsD : D → Option (List D)
  | .str s => some (s.map fun c => .str [c])
  | _ => none
noncomputable def mItS (f : ME) : ML := fun r => (f r).bind signsD
theorem yl_str {K : Fg} {O M : Addr → Prop} {H : Hp} (s : List Nat) : Ylds K O M H (Its ⟨s.toArray⟩) (s.map fun c => .str [c]) := by
  intro i H1 O' kp oo
  refine ⟨fun hi => ⟨by rw [List.length_map] at hi; show i < s.toArray.size; simpa using hi, fun x H' y => ?_⟩, fun hi => by rw [List.length_map] at hi; show s.toArray.size ≤ i; simp; omega⟩
  obtain ⟨rfl, c, ec, rfl⟩ := y
  refine ⟨Same.refl _, fun d e => ?_⟩
  rw [List.getElem?_map] at e
  have ec' : s[i]? = some c := by simpa using ec
  rw [ec'] at e
  cases e
  rw [Is.str_iff]
theorem di_str (hl : DE X a f) : DI X tg a (mItS f) := by
  intro pins s σ H Rr I h
  obtain ⟨O0, r, ds, hR, e, q⟩ := h
  obtain ⟨d, e1, e2⟩ := bind_some e
  cases d <;> first | (cases e2; done) | skip
  rename_i y
  cases e2
  refine thn (hl pins s σ H (fun v H1 => Same H H1 ∧ v = .str ⟨y.toArray⟩) I ⟨O0, r, _, hR, e1, fun v H1 s1 i1 => ⟨s1, by rw [Is.str_iff] at i1; exact i1⟩⟩) fun v s1 ⟨x, H1, I1, r1, s1', ex⟩ => ?_
  subst ex
  obtain ⟨t, rfl⟩ := r1
  refine wpAny_pyIter_strU ?_
  refine ⟨s1.heap.objs.size, [s1.heap.objs.size], _, _, H1, rfl, I1.kept (t' := s1.toks) fun b o e => Heap.get?_push_of_some _ e, turn_str _ t _, ⟨_, Heap.get?_push_size _ rfl, rfl, rfl⟩, fun b hb => ?_, q _ H1 s1' (yl_str y)⟩
  obtain rfl : b = s1.heap.objs.size := by simpa using hb
  exact I1.fpOk (Nat.le_refl _) (I1.hok.fresh (Nat.le_refl _))
noncomputable def blsD : List D → Option (List Bool)
  | [] => some []
  | .bl i :: r => (blsD r).map (i :: ·)
  | _ => none
noncomputable def mAll (fl : ML) : ME := fun r => (fl r).bind fun l => (blsD l).map fun bs => .bl (bs.all id)
theorem blsD_ok {K : Fg} {O : Addr → Prop} {H : Hp} : ∀ {l : List D} {ns : List Bool} {vs : List V}, blsD l = some ns → IsL K O H l vs → vs = ns.map V.bl
  | [], ns, vs, e, il => by cases e; unfold IsL at il; subst il; rfl
  | d :: l, ns, vs, e, il => by
    unfold IsL at il
    obtain ⟨v, r, rfl, i1, i2⟩ := il
    cases d <;> first | (simp only [blsD, reduceCtorEq] at e; done) | skip
    simp only [blsD] at e
    obtain ⟨ms, e1, rfl⟩ := map_some e
    rw [Is.bl_iff] at i1
    rw [i1, blsD_ok e1 i2]; rfl
theorem call_allB (hc : X.calm = true) : CallR X (.builtin "all") (fun xs H Q => ∃ (p : Addr) (bs : List Bool), xs = [.ref p] ∧ SqL X.K H p (bs.map V.bl) ∧ Q (.bl (bs.all id)) H) := by
  intro pins s σ H xs us Q I r hq
  obtain ⟨p, bs, rfl, hS, q⟩ := hq
  obtain ⟨u, rfl, ru⟩ := Vals.one r
  cases ru
  obtain ⟨its, rv, pl, hz⟩ := I.list hS
  have hl := pl.isList
  have hlt : p < s.heap.objs.size := by obtain ⟨_, e, _⟩ := hl; exact Heap.lt_size e
  have ln : its.length = bs.length := by have := rv.length; rw [List.length_map] at this; exact this.symm
  refine call_all_walk (wpAny_pyIter_list hl ?_); refine ⟨s.heap.objs.size, [s.heap.objs.size, p], [s.heap.objs.size], its.toArray.size, _, _, fun i => (bs[i]?).getD true, rfl, Walks.list (A := X.A.in1) (I.ok.hd hc) _ p (Nat.ne_of_lt hlt) its.toArray, ⟨⟨_, Heap.get?_push_size _ rfl, rfl, rfl⟩, hl.push _⟩, fun i v s' Q' E' hP hQ => ?_, fun h' tk hk => ?_⟩
  · have hv : its[i]? = some v := by simpa using hP
    have hi : i < bs.length := by have := (List.getElem?_eq_some_iff.mp hv).1; omega
    have e : bs[i]? = some (bs[i]'hi) := List.getElem?_eq_getElem hi
    obtain ⟨w', e1, e2⟩ := rv.get (i := i) (x := .bl (bs[i]'hi)) (by rw [List.getElem?_map, e]; rfl)
    rw [hv] at e1
    cases e1
    obtain rfl : v = .bool (bs[i]'hi) := e2
    simp only [Option.getD_some, e] at hQ
    exact wpAny_truthy_bool hQ
  · have e : ((List.range its.toArray.size).all fun i => (bs[i]?).getD true) = bs.all id := by
      rw [List.size_toArray, ln]; exact LSm.range_all bs
    rw [e]
    exact ⟨.bl _, H, I.kept (LSm.kept_iter hk), rfl, q⟩
theorem de_all {p' : Pos} {fl : ML} (hg : Gl X "all") (hm : X.mg "all" = none) (ha : DB X a fl) (hc : X.calm = true := by rfl)
    (hs : starEach [a] X.env = (false, eval a X.env) :: starEach [] X.env := by rfl) : DE X (.Call (.Name "all" p') [a] [] pos) (mAll fl) := by
  refine PE.conseq (pe_callB (call_allB hc) hg hm PyProof.Rows.boot_all (pa_cons ha pa_nil hs) (he := hs)) fun σ H Q hq => ?_
  obtain ⟨O0, r, d, hR, e, q⟩ := hq
  obtain ⟨l, e1, e2⟩ := bind_some e
  obtain ⟨bs, e3, rfl⟩ := map_some e2
  refine ⟨O0, r, l, hR, e1, fun p xs H1 s1 sq il => ?_⟩
  have ex := blsD_ok e3 il
  subst ex
  exact ⟨p, bs, rfl, sq, q _ H1 s1 (by rw [Is.bl_iff])⟩
noncomputable def intOfD : D → Option D
  | .str s => if s ≠ [] ∧ s.length ≤ 600 ∧ (s.all fun c => decide (48 ≤ c) && decide (c ≤ 57)) = true then some (.int (PySem.NumText.digitsVal s : Nat)) else none
  | _ => none
theorem call_intS : CallR X (.type "int") (fun xs H Q => ∃ s : List Nat, xs = [.str ⟨s.toArray⟩] ∧ s ≠ [] ∧ s.length ≤ 600 ∧ (s.all fun c => decide (48 ≤ c) && decide (c ≤ 57)) = true ∧ Q (.int (PySem.NumText.digitsVal s : Nat)) H) := by
  intro pins s σ H xs us Q I r hq
  obtain ⟨y, rfl, y0, y1, y2, q⟩ := hq
  obtain ⟨u, rfl, t, rfl⟩ := Vals.one r
  have hd : PySem.NumText.AllDigits y := fun c hc => by
    have := List.all_eq_true.mp y2 c hc
    simpa using this
  refine PySem.W.KIN.call_text (n := (PySem.NumText.digitsVal y : Nat)) ?_ ?_ ⟨.int _, H, I.tok _, ⟨_, rfl⟩, q⟩
  · have := PySem.intText_digits (x := ⟨y.toArray⟩) (by simpa using hd) (by simpa using y0) (by rw [str_len]; omega)
    simpa using this
  · rw [str_len]; omega
theorem de_intOf {p' : Pos} (hg : Gl X "int") (hm : X.mg "int" = none) (ha : DE X a f) (hs : starEach [a] X.env = (false, eval a X.env) :: starEach [] X.env := by rfl) : DE X (.Call (.Name "int" p') [a] [] pos) (mUn intOfD f) := by
  refine PE.conseq (pe_callTy call_intS hg hm PyProof.Rows.boot_int (pa_cons ha pa_nil hs) (he := hs)) fun σ H Q hq => ?_
  obtain ⟨O0, r, d, hR, e, q⟩ := hq
  obtain ⟨x, e1, e2⟩ := bind_some e
  refine ⟨O0, r, x, hR, e1, fun v H1 s1 i1 => ?_⟩
  cases x <;> first | (simp only [intOfD, reduceCtorEq] at e2; done) | skip
  simp only [intOfD] at e2
  split at e2
  · rename_i hl
    cases e2
    rw [Is.str_iff] at i1
    exact ⟨_, by rw [i1], hl.1, hl.2.1, hl.2.2, q _ H1 s1 (by rw [Is.int_iff])⟩
  · cases e2
theorem de_gint {x : Str} {i : Int} (h : ∃ t, X.mg x = some (.int i t)) (hg : Gl X x) (hd : (x == ("__debug__" : Str)) = false := by decide) : DE X (.Name x pos) (mC (.int i)) := by
  obtain ⟨t, h⟩ := h
  exact de_con (pe_glob (v := .int i) hg h ⟨t, rfl⟩ hd) fun O H => by rw [Is.int_iff]
noncomputable def GTup (mg : Str → Option Value) (K : Fg) (x : Str) (ss : List (List Nat)) : Prop := ∃ (p : Addr) (o : Obj) (its : Array Value) (n : Nat), mg x = some (.ref p) ∧ K.lookup p = some o ∧ o.cls = .type "tuple" ∧ o.data = .seq its n ∧ its.size ≤ sizeLine ∧ Vals (ss.map fun s => V.str ⟨s.toArray⟩) its.toList
theorem isl_strs {K : Fg} {O : Addr → Prop} {H : Hp} : ∀ ss : List (List Nat), IsL K O H (ss.map D.str) (ss.map fun s => V.str ⟨s.toArray⟩)
  | [] => IsL.nil
  | s :: ss => .cons (by rw [Is.str_iff]) (isl_strs ss)
theorem de_gtup {x : Str} {ss : List (List Nat)} (h : GTup X.mg X.K x ss) (hg : Gl X x) (hd : (x == ("__debug__" : Str)) = false := by decide) : DE X (.Name x pos) (mC (.tup (ss.map D.str))) := by
  obtain ⟨p, o, its, n, h1, h2, h3, h4, h5, h6⟩ := h
  refine de_con (pe_glob (v := .ref p) hg h1 rfl hd) fun O H => ?_
  rw [Is.tup_iff]
  exact ⟨p, _, rfl, .inr ⟨o, its, n, h2, h3, h4, h5, h6⟩, isl_strs ss⟩
noncomputable def Ent (e : DictEntry) (q : List Nat × List Nat) : Prop := ∃ t u, e.key = .str ⟨q.1.toArray⟩ t ∧ e.val = .str ⟨q.2.toArray⟩ u
noncomputable def Ents : List DictEntry → List (List Nat × List Nat) → Prop
  | [], l => l = []
  | e :: es, l => ∃ q r, l = q :: r ∧ Ent e q ∧ Ents es r
noncomputable def GDict (mg : Str → Option Value) (K : Fg) (Ps : Params) (x : Str) (tbl : List (List Nat × List Nat)) : Prop := ∃ (p : Addr) (es : Array DictEntry) (n : Nat), mg x = some (.ref p) ∧ (p == sysModules) = false ∧ K.lookup p = some ⟨.type "dict", none, .dict es n, #[]⟩ ∧ PySem.W.KeysLit Ps es.toList ∧ Ents es.toList tbl
noncomputable def look (tbl : List (List Nat × List Nat)) (s : List Nat) : Option (List Nat) := (tbl.find? fun q => decide (q.1 = s)).map (·.2)
theorem ents_find : ∀ {es : List DictEntry} {tbl : List (List Nat × List Nat)} (s : List Nat), Ents es tbl → match look tbl s with
    | some v => ∃ u, (es.find? fun d => Value.isStrOf ⟨s.toArray⟩ d.key).map (·.val) = some (.str ⟨v.toArray⟩ u)
    | none => (es.find? fun d => Value.isStrOf ⟨s.toArray⟩ d.key).map (·.val) = none
  | [], tbl, s, h => by unfold Ents at h; subst h; rfl
  | e :: es, tbl, s, h => by
    unfold Ents at h
    obtain ⟨q, r, rfl, ⟨t, u, h1, h2⟩, h3⟩ := h
    have ih := ents_find s h3
    have k : Value.isStrOf (⟨s.toArray⟩ : Str) e.key = decide (q.1 = s) := by
      rw [h1]
      show ((⟨q.1.toArray⟩ : Str) == ⟨s.toArray⟩) = _
      by_cases c : q.1 = s
      · rw [decide_eq_true c, c]; simp
      · rw [decide_eq_false c]
        refine beq_eq_false_iff_ne.mpr fun z => c ?_
        have z2 := congrArg (fun x : Str => x.cps.toList) z
        simpa using z2
    unfold look at ih ⊢
    rw [List.find?_cons, List.find?_cons, k]
    cases hc : decide (q.1 = s)
    · exact ih
    · exact ⟨u, by rw [Option.map_some, h2]⟩
theorem gd_map {Ps : Params} {x : Str} {tbl : List (List Nat × List Nat)} {pins : List (Addr × Obj)} {σ : St} {H : Hp} {s : Shared} {p : Addr} {es : Array DictEntry} {n : Nat} (I : Inv X pins σ H s) (hl : X.K.lookup p = some ⟨.type "dict", none, .dict es n, #[]⟩) (hk : PySem.W.KeysLit X.w.params es.toList) : s.heap.MapOf (strKind X.prog X.w) p (fun k => findBy Value.isStrOf es k) := PySem.W.mapOf_K (I.mod.kin.keeps I.bk) hl hk
noncomputable def rHas (p : Addr) (tbl : List (List Nat × List Nat)) (neg : Bool) : R2 := fun x y H Q => ∃ s : List Nat, x = .str ⟨s.toArray⟩ ∧ y = .ref p ∧ Q (.bl (if neg then !(look tbl s).isSome else (look tbl s).isSome)) H
theorem find_toArr (es : Array DictEntry) (k : Str) : findBy Value.isStrOf es k = (es.toList.find? fun d => Value.isStrOf k d.key).map (·.val) := by
  obtain ⟨l⟩ := es
  unfold findBy
  rw [List.find?_toArray]
theorem has_look {es : Array DictEntry} {tbl : List (List Nat × List Nat)} (s : List Nat) (h : Ents es.toList tbl) : (findBy Value.isStrOf es ⟨s.toArray⟩).isSome = (look tbl s).isSome := by
  have q := ents_find s h
  rw [find_toArr]
  cases e : look tbl s with
  | none => rw [e] at q; rw [q]; rfl
  | some v => rw [e] at q; obtain ⟨u, q⟩ := q; rw [q]; rfl
theorem op_notHas {p : Addr} {tbl : List (List Nat × List Nat)} {es : Array DictEntry} {n : Nat} (hp : (p == sysModules) = false) (hl : X.K.lookup p = some ⟨.type "dict", none, .dict es n, #[]⟩) (hk : PySem.W.KeysLit X.w.params es.toList) (he : Ents es.toList tbl) : OpR X (compareOp .NotIn) (rHas p tbl true) := by
  intro pins s σ H x y v u Q I rx ry h
  obtain ⟨z, rfl, rfl, q⟩ := h
  obtain ⟨t, rfl⟩ := rx
  cases ry
  refine wpAny_notIn_of (strKind_is _ _ _ t) hp (gd_map (tbl := tbl) (Ps := X.w.params) (x := "") I hl hk) ⟨.bl _, H, I.tok _, rfl, ?_⟩
  simp only [has_look z he]
  exact q
noncomputable def hasT (tbl : List (List Nat × List Nat)) (neg : Bool) : D → Option D
  | .str s => some (.bl (if neg then !(look tbl s).isSome else (look tbl s).isSome))
  | _ => none
noncomputable def hasB (p : Addr) (tbl : List (List Nat × List Nat)) (neg : Bool) (x y : D) : Option D := match y with
  | .ref b => if b = p then hasT tbl neg x else none
  | _ => none
theorem od_has (p : Addr) (tbl : List (List Nat × List Nat)) (neg : Bool) : OpD X.K (rHas p tbl neg) (hasB p tbl neg) := by
  intro O H dx dy d vx vy Q ol ix iy e q
  cases dy <;> first | (simp only [hasB, reduceCtorEq] at e; done) | skip
  simp only [hasB] at e
  split at e
  · rename_i hb
    subst hb
    cases dx <;> first | (simp only [hasT, reduceCtorEq] at e; done) | skip
    simp only [hasT, Option.some.injEq] at e
    subst e
    rw [Is.str_iff] at ix
    rw [Is.ref_iff] at iy
    exact ⟨_, ix, iy, q _ H (Same.refl H) (by rw [Is.bl_iff])⟩
  · cases e
theorem de_gref {x : Str} {p : Addr} (h : X.mg x = some (.ref p)) (hg : Gl X x) (hd : (x == ("__debug__" : Str)) = false := by decide) : DE X (.Name x pos) (mC (.ref p)) :=
  de_con (pe_glob (v := .ref p) hg h rfl hd) fun O H => by rw [Is.ref_iff]
theorem mB_has {p : Addr} {tbl : List (List Nat × List Nat)} {neg : Bool} : mBin (hasB p tbl neg) f (mC (.ref p)) = mUn (hasT tbl neg) f := by
  funext r
  unfold mBin mUn mC
  cases f r with
  | none => rfl
  | some x => exact if_pos rfl
theorem dt_notHas {x : Str} {tbl : List (List Nat × List Nat)} {p' : Pos} (h : GDict X.mg X.K X.w.params x tbl) (hg : Gl X x) (ha : DE X a f) (hm : behindInMarks .NotIn (.Name x p') = false := by rfl) (hd : (x == ("__debug__" : Str)) = false := by decide) : DT X (.Compare a [.NotIn] [.Name x p'] pos) (mBl (mUn (hasT tbl true) f)) := by
  obtain ⟨p, es, n, h1, h2, h3, h4, h5⟩ := h
  rw [← mB_has (p := p)]
  exact dt_cmp (op_notHas h2 h3 h4 h5) (od_has p tbl true) ha (de_gref h1 hg hd) hm
noncomputable def rAt (p : Addr) (tbl : List (List Nat × List Nat)) : R2 := fun x y H Q => ∃ s v : List Nat, x = .ref p ∧ y = .str ⟨s.toArray⟩ ∧ look tbl s = some v ∧ Q (.str ⟨v.toArray⟩) H
theorem ix_gd {p : Addr} {tbl : List (List Nat × List Nat)} {es : Array DictEntry} {n : Nat} (hl : X.K.lookup p = some ⟨.type "dict", none, .dict es n, #[]⟩) (hk : PySem.W.KeysLit X.w.params es.toList) (he : Ents es.toList tbl) : IxR X (rAt p tbl) := by
  intro value slice pins s σ H x y v u Q I rx ry h hs
  obtain ⟨z, c, rfl, rfl, e, q⟩ := h
  cases rx
  obtain ⟨t, rfl⟩ := ry
  have hmap := gd_map (tbl := tbl) (Ps := X.w.params) (x := "") I hl hk
  have fnd := ents_find z he
  rw [e] at fnd
  obtain ⟨u', fnd⟩ := fnd
  rw [← find_toArr] at fnd
  exact subscriptTail_builtinR (x := .str ⟨c.toArray⟩ u') hmap.typeIs slot_dict_getitem.lookup (wpAny_getItem_of (Q := fun r s' => r = Value.str ⟨c.toArray⟩ u' ∧ EP X pins σ Q r s') (strKind_is _ _ _ t) hmap fnd ⟨rfl, .str ⟨c.toArray⟩, H, I.tok _, ⟨u', rfl⟩, q⟩) hs
noncomputable def atT (tbl : List (List Nat × List Nat)) : D → Option D
  | .str s => (look tbl s).map .str
  | _ => none
theorem de_gat {x : Str} {tbl : List (List Nat × List Nat)} {p' : Pos} (h : GDict X.mg X.K X.w.params x tbl) (hg : Gl X x) (hb : DE X b f) (hs : PlainIx b := by intro _ _; rfl) (hd : (x == ("__debug__" : Str)) = false := by decide) : DE X (.Subscript (.Name x p') b pos) (mUn (atT tbl) f) := by
  obtain ⟨p, es, n, h1, h2, h3, h4, h5⟩ := h
  refine PE.conseq (pe_ix (ix_gd h3 h4 h5) (de_gref (p := p) h1 hg hd) hb hs) fun σ H Q hq => ?_
  obtain ⟨O0, r, d, hR, e, q⟩ := hq
  obtain ⟨k, e1, e2⟩ := bind_some e
  cases k <;> first | (simp only [atT, reduceCtorEq] at e2; done) | skip
  simp only [atT] at e2
  obtain ⟨v, e3, rfl⟩ := map_some e2
  refine ⟨O0, r, _, hR, rfl, fun v1 H1 s1 i1 => ⟨O0, r, _, hR.same s1, e1, fun v2 H2 s2 i2 => ?_⟩⟩
  rw [Is.ref_iff] at i1
  rw [Is.str_iff] at i2
  exact ⟨_, v, i1, i2, e3, q _ H2 (s1.trans s2) (by rw [Is.str_iff])⟩
end
open Builtin.Str
section
variable {X : Cx} {pos pn apos cpos : Pos} {a b e : Expr} {f g : ME}
noncomputable def mAppZ (i : Nat) (f : ME) : En → Option (D × En) := fun r => (frZ i r).bind fun r1 => (f r1).bind fun d => (mtOf r i).bind fun l => if l.length < sizeLine then (putO i (l ++ [d]) r).map fun r' => (.non, r') else none
theorem dx_appendZ (i : Nat) {x : Str} (h : PE X (.Name x pn) (tVar i)) (he : DE X e f)
    (hline : (apos.endLine == cpos.line) = true := by rfl) (hbase : attributeBase (.Name x pn) "append" X.env (eval (.Name x pn) X.env) = eval (.Name x pn) X.env := by rfl)
    (hfew : ((backTo cpos (starEach [e] X.env)).all (fun x => !x.1) && (backToKw cpos (keywordEach [] X.env)).all (fun x => x.1.isSome) && decide ([e].length + ([] : List Keyword).length + (if ([] : List Keyword).isEmpty then 0 else 1) < 30)) = true := by rfl)
    (hs : starEach [e] X.env = (false, eval e X.env) :: starEach [] X.env := by rfl) :
    DX X (.Call (.Attribute (.Name x pn) "append" apos) [e] [] cpos) (mAppZ i f) := by
  refine PE.conseq (pe_bm PySem.F.plainAttrs_list PySem.F.slot_list_append PySem.F.type_list_append mt_append h (pa_cons he pa_nil hs) hbase hfew hline hs) fun σ H Q hq => ?_
  obtain ⟨O0, r, d', r', hR, e, q⟩ := hq
  obtain ⟨rz, ez, e⟩ := bind_some e
  obtain ⟨d, e1, e⟩ := bind_some e
  obtain ⟨l, e2, e⟩ := bind_some e
  split at e
  · rename_i hl
    obtain ⟨r2, e3, e4⟩ := map_some e
    cases e4
    obtain ⟨lz, elz, rfl⟩ := frZ_some ez
    obtain ⟨Rz, oz⟩ := hR.swap (y := .z lz) (.inl ⟨elz, rfl⟩)
    obtain ⟨a, xs, q1, q2, q3⟩ := mt_at hR e2
    refine ⟨.ref a, q1, .inl ⟨rfl, xs, SqL.of q2⟩, O0, _, d, Rz, e1, fun v H1 s1 i1 => ?_⟩
    have R1 := hR.same s1
    have i2 : Is X.K (Ow O0 r σ) H1 d v := Is.mono (fun b o e' _ => e') (Rz.same s1).ol (fun b z _ => z.imp id (oz b).mpr) _ _ i1
    obtain ⟨R2, k2⟩ := R1.upd (xs' := xs ++ [v]) e3 q1 (s1 _ _ q2) ((q3.same s1 hR.ol).append (.cons i2 .nil))
    exact ⟨a, xs, v, rfl, rfl, s1 _ _ q2, by rw [← q3.length]; exact hl, q _ _ R2 ((Kp.of_same r σ s1).trans k2) (by rw [Is.non_iff])⟩
  · cases e
noncomputable def intBD : D → Option D
  | .bl b => some (.int (if b then 1 else 0))
  | _ => none
theorem call_intB : CallR X (.type "int") (fun xs H Q => ∃ b : Bool, xs = [.bl b] ∧ Q (.int (if b then 1 else 0)) H) := by
  intro pins s σ H xs us Q I r hq
  obtain ⟨y, rfl, q⟩ := hq
  obtain ⟨u, rfl, ru⟩ := Vals.one r
  obtain rfl : u = .bool y := ru
  exact call_int_bool ⟨.int _, H, I.tok _, ⟨_, rfl⟩, q⟩
theorem de_intB {p' : Pos} (hg : Gl X "int") (hm : X.mg "int" = none) (ha : DE X a f) (hs : starEach [a] X.env = (false, eval a X.env) :: starEach [] X.env := by rfl) : DE X (.Call (.Name "int" p') [a] [] pos) (mUn intBD f) := by
  refine PE.conseq (pe_callTy call_intB hg hm PyProof.Rows.boot_int (pa_cons ha pa_nil hs) (he := hs)) fun σ H Q hq => ?_
  obtain ⟨O0, r, d, hR, e, q⟩ := hq
  obtain ⟨x, e1, e2⟩ := bind_some e
  refine ⟨O0, r, x, hR, e1, fun v H1 s1 i1 => ?_⟩
  cases x <;> first | (simp only [intBD, reduceCtorEq] at e2; done) | skip
  cases e2
  rw [Is.bl_iff] at i1
  exact ⟨_, by rw [i1], q _ H1 s1 (by rw [Is.int_iff])⟩
noncomputable def rSplitM : V → List V → Hp → VK → Prop := fun x vs H Q => ∃ z y k, x = .str z ∧ vs = [.str y, .int k] ∧ (y.length == 0) = false ∧ (decide (k < -(2 ^ 63 : Int)) || decide (k ≥ 2 ^ 63)) = false ∧ z.length ≤ sizeLine ∧ (partsBetween z (occurrences z y 0 z.length (limitOf z k)) y.length).length ≤ sizeLine ∧ ∀ p, H p = none → Q (.ref p) (upd H p (.lst ((Txt.splitMax z y k).map V.str)))
theorem splitM_len (z y : Str) (k : Int) (h : (partsBetween z (occurrences z y 0 z.length (limitOf z k)) y.length).length ≤ sizeLine) : (Txt.splitMax z y k).length ≤ sizeLine := by
  unfold Txt.splitMax
  have h1 : 1 ≤ sizeLine := by decide
  split
  · exact h1
  · split
    · exact h1
    · exact h
theorem vals2 {x y : V} {us : List Value} (r : Vals [x, y] us) : ∃ u v, us = [u, v] ∧ RelV x u ∧ RelV y v := by
  cases r with
  | cons r1 r2 =>
    obtain ⟨v, rfl, rv⟩ := Vals.one r2
    exact ⟨_, v, rfl, r1, rv⟩
theorem mt_splitM : MtR X "str.split" rSplitM := by
  intro pins s σ H x vs v us Q I rx rv hq
  obtain ⟨z, y, k, rfl, rfl, hy, hk, hz, hn, q⟩ := hq
  obtain ⟨t, rfl⟩ := rx
  obtain ⟨u1, u2, rfl, ⟨u, rfl⟩, ⟨kt, rfl⟩⟩ := vals2 rv
  have lay : ∀ (l : List (Str × Tok)) (tk : Nat), l.map (·.1) = Txt.splitMax z y k → EP X pins σ Q (.ref s.heap.objs.size) { s with heap := s.heap.push { cls := .type "list", data := .seq (strValues l).toArray }, toks := tk } := fun l tk e => by
    have hv := vals_strs l
    rw [e] at hv
    exact ⟨.ref _, _, I.lnew (t' := tk) hv (by rw [List.length_map]; exact splitM_len z y k hn), rfl, q _ I.fresh⟩
  cases h1 : (decide (z.length < y.length) || decide (strKind z < strKind y)) with
  | true => exact call_meets F.slot_str_split (typeIs_str _ _ _) F.entry_str_split (F.args_str_split_3 _ _ _) (meets_str_split_max_cannot_occur z y k t u kt hk h1) (lay [(z, t)] s.toks (by unfold Txt.splitMax; rw [if_pos h1]; rfl))
  | false =>
    cases hf : (occurrences z y 0 z.length (limitOf z k)).isEmpty with
    | true => exact call_meets F.slot_str_split (typeIs_str _ _ _) F.entry_str_split (F.args_str_split_3 _ _ _) (meets_str_split_max_not_found z y k t u kt hk h1 hy hf) (lay [(z, t)] s.toks (by unfold Txt.splitMax; rw [if_neg (ne_true_of_eq_false h1), if_pos hf]; rfl))
    | false =>
      refine call_meets F.slot_str_split (typeIs_str _ _ _) F.entry_str_split (F.args_str_split_3 _ _ _) (meets_str_split_sep_max z y k t u kt hk h1 hy hf hz hn) ?_
      show EP X pins σ Q _ { s with toks := _, heap := s.heap.push { cls := .type "list", data := .seq (strsFrom s.toks (partsBetween z (occurrences z y 0 z.length (limitOf z k)) y.length)).toArray } }
      rw [strsFrom_eq]
      exact lay (numbered s.toks _) _ ((numbered_texts _ _).trans (by unfold Txt.splitMax; rw [if_neg (ne_true_of_eq_false h1), if_neg (ne_true_of_eq_false hf)]))
theorem occ_lenM (z y : Str) (lim : Nat) (hy : (y.length == 0) = false) : (partsBetween z (occurrences z y 0 z.length lim) y.length).length ≤ z.length + 1 := by
  rw [len_partsBetween]
  obtain ⟨e, hc⟩ := StrLaws.occ_chain z y lim
  have hy1 : y.length ≠ 0 := by simpa using hy
  have := chain_len (by omega) _ 0 e hc (Nat.zero_le _)
  omega
noncomputable def splitMS (s sep : List Nat) (k : Int) : List (List Nat) := (Txt.splitMax ⟨s.toArray⟩ ⟨sep.toArray⟩ k).map fun x => x.cps.toList
noncomputable def mSplitM (f g : ME) (k : Int) : ML := fun r => (f r).bind fun d => (g r).bind fun e => match d, e with
  | .str s, .str sep => if sep.length ≠ 0 ∧ s.length < sizeLine ∧ 0 ≤ k ∧ k < 1000 then some ((splitMS s sep k).map .str) else none
  | _, _ => none
theorem df_splitM {k : Int} {j : Nat} {kp : Pos} (ho : DE X a f) (ha : DE X b g) (hbase : attributeBase a "split" X.env (eval a X.env) = eval a X.env := by rfl) (hline : (apos.endLine == cpos.line) = true := by rfl)
    (hfew : ((backTo cpos (starEach [b, .Constant (.int k) j kp] X.env)).all (fun x => !x.1) && (backToKw cpos (keywordEach [] X.env)).all (fun x => x.1.isSome) && decide ([b, .Constant (.int k) j kp].length + ([] : List Keyword).length + (if ([] : List Keyword).isEmpty then 0 else 1) < 30)) = true := by rfl)
    (hs : starEach [b, .Constant (.int k) j kp] X.env = (false, eval b X.env) :: starEach [.Constant (.int k) j kp] X.env := by rfl)
    (hs2 : starEach [.Constant (.int k) j kp] X.env = (false, eval (.Constant (.int k) j kp) X.env) :: starEach [] X.env := by rfl) : DF X (.Call (.Attribute a "split" apos) [b, .Constant (.int k) j kp] [] cpos) (mSplitM f g k) := by
  refine PE.conseq (pe_bm PySem.F.plainAttrs_str PySem.F.slot_str_split PySem.F.type_str_split mt_splitM ho (pa_cons ha (pa_cons (de_int (X := X) (i := k) (j := j) (pos := kp)) pa_nil hs2) hs) hbase hfew hline hs) fun σ H Q hq => ?_
  obtain ⟨O0, r, l, hR, e, q⟩ := hq
  obtain ⟨x, e1, e2⟩ := bind_some e
  obtain ⟨y, e3, e4⟩ := bind_some e2
  refine ⟨O0, r, x, hR, e1, fun v H1 s1 i1 => ?_⟩
  cases x <;> first | (simp only [reduceCtorEq] at e4; done) | skip
  cases y <;> first | (simp only [reduceCtorEq] at e4; done) | skip
  rename_i s sep
  simp only at e4
  split at e4
  · rename_i hl
    have e5 : (splitMS s sep k).map D.str = l := Option.some.inj e4
    subst e5
    rw [Is.str_iff] at i1
    subst i1
    refine ⟨rfl, O0, r, _, hR.same s1, e3, fun v2 H2 s2 i2 => ?_⟩
    rw [Is.str_iff] at i2
    refine ⟨O0, r, .int k, hR.same (s1.trans s2), rfl, fun v3 H3 s3 i3 => ?_⟩
    rw [Is.int_iff] at i3
    have hy : ((⟨sep.toArray⟩ : Str).length == 0) = false := by rw [str_len]; simpa using hl.1
    have h5 := occ_lenM (⟨s.toArray⟩ : Str) ⟨sep.toArray⟩ (limitOf ⟨s.toArray⟩ k) hy
    have h6 : (⟨s.toArray⟩ : Str).length = s.length := str_len s
    have h7 := hl.2.1
    refine ⟨_, _, k, rfl, by rw [i2, i3], hy, by simp; omega, by rw [h6]; omega, by omega, fun p hp => q p _ _ (((s1.trans s2).trans s3).trans (same_upd hp)) (((s1.trans s2).trans s3).free hp) upd_same ?_⟩
    exact isL_strs _
  · cases e4
noncomputable abbrev MJ := En → Option (List (List Nat))
noncomputable def jNil : MJ := fun _ => some []
noncomputable def jE (f : ME) (g : MJ) : MJ := fun r => (f r).bind fun d => match d with
  | .str s => (g r).map (s :: ·)
  | _ => none
noncomputable def lJ (K : Fg) (f : MJ) (out : Str) : TE := fun σ H Q => ∃ O0 r l, R K O0 H r σ ∧ f r = some l ∧ out.length + (l.map List.length).sum ≤ sizeLine ∧ ∀ H', Same H H' → Q (.str (out ++ ⟨l.flatten.toArray⟩)) H'
noncomputable def DJ (X : Cx) (es : List Expr) (f : MJ) : Prop := ∀ (pins : List (Addr × Obj)) (s : Shared) (σ : St) (H : Hp) (Q : VK) (out : Str), Inv X pins σ H s → lJ X.K f out σ H Q → wpAny (model X.prog X.w) X.A (joinParts out (evalEach es X.env)) (EP X pins σ Q) X.xe s
theorem str_app0 (x : Str) : x ++ (⟨([] : List Nat).toArray⟩ : Str) = x := by
  show (⟨x.cps ++ #[]⟩ : Str) = x
  simp
theorem dj_nil : DJ X [] jNil := by
  intro pins s σ H Q out I h
  obtain ⟨O0, r, l, hR, e, hl, q⟩ := h
  cases e
  have q' := q H (Same.refl H)
  rw [List.flatten_nil, str_app0] at q'
  exact joinParts_nil ⟨.str out, H, I.tok _, ⟨_, rfl⟩, q'⟩ (by simpa using hl)
theorem app_cons (x : Str) (y z : List Nat) : (x ++ (⟨y.toArray⟩ : Str)) ++ (⟨z.toArray⟩ : Str) = x ++ (⟨(y ++ z).toArray⟩ : Str) := by
  show (⟨(x.cps ++ y.toArray) ++ z.toArray⟩ : Str) = ⟨x.cps ++ (y ++ z).toArray⟩
  simp
theorem app_len (x : Str) (y : List Nat) : (x ++ (⟨y.toArray⟩ : Str)).length = x.length + y.length := by
  show (x.cps ++ y.toArray).size = x.cps.size + y.length
  simp
theorem dj_of {es : List Expr} {gj : MJ} (heval : ∀ (pins : List (Addr × Obj)) (s : Shared) (σ : St) (H : Hp) (Q : VK), Inv X pins σ H s → lE X.K f σ H (fun v H1 => ∃ x : Str, v = .str x ∧ x.length ≤ sizeLine ∧ Q v H1) → wpAny (model X.prog X.w) X.A (eval a X.env) (EP X pins σ Q) X.xe s) (h2 : DJ X es gj) : DJ X (a :: es) (jE f gj) := by
  intro pins s σ H Q out I h
  obtain ⟨O0, r, l, hR, e, hl, q⟩ := h
  obtain ⟨d, e1, e2⟩ := bind_some e
  cases d <;> first | (cases e2; done) | skip
  rename_i y
  simp only at e2
  obtain ⟨t, e3, rfl⟩ := map_some e2
  rw [List.map_cons, List.sum_cons] at hl
  refine joinParts_cons (wpAny_mono (heval pins s σ H (fun v H1 => Same H H1 ∧ v = .str ⟨y.toArray⟩) I ⟨O0, r, _, hR, e1, fun v H1 s1 i1 => ?_⟩) (fun v s1 ⟨x, H1, I1, r1, sm, ex⟩ => ?_) fun _ _ z => z)
  · rw [Is.str_iff] at i1
    exact ⟨_, i1, by rw [str_len]; omega, s1, i1⟩
  · subst ex
    obtain ⟨tk, rfl⟩ := r1
    refine ⟨by rw [app_len]; omega, h2 pins s1 σ H1 Q _ I1 ⟨O0, r, t, hR.same sm, e3, by rw [app_len]; omega, fun H' s' => ?_⟩⟩
    rw [app_cons]
    exact q H' (sm.trans s')
theorem dj_c {es : List Expr} {gj : MJ} (h : DE X a f) (h2 : DJ X es gj) : DJ X (a :: es) (jE f gj) := dj_of (fun pins s σ H Q I ⟨O0, r, d, hR, e, q⟩ => h pins s σ H Q I ⟨O0, r, d, hR, e, fun v H1 s1 i1 => (q v H1 s1 i1).elim fun _ z => z.2.2⟩) h2
theorem dj_v {es : List Expr} {gj : MJ} {fp : Pos} (h : DE X a f) (h2 : DJ X es gj) : DJ X (.FormattedValue a (-1) none fp :: es) (jE f gj) := dj_of (fun pins s σ H Q I ⟨O0, r, d, hR, e, q⟩ => by
  refine FormattedValue_plain (wpAny_mono (h pins s σ H (fun v H1 => ∃ x : Str, v = .str x ∧ x.length ≤ sizeLine ∧ Q v H1) I ⟨O0, r, d, hR, e, q⟩) (fun v s1 ⟨x, H1, I1, r1, y, ey, hy, q1⟩ => ?_) fun _ _ z => z)
  subst ey
  obtain ⟨tk, rfl⟩ := r1
  exact formatField_str (fun t' tk' => ⟨.str y, H1, I1.tok _, ⟨_, rfl⟩, q1⟩) hy) h2
noncomputable def mFstr (g : MJ) : ME := fun r => (g r).bind fun l => if (l.map List.length).sum ≤ sizeLine then some (.str l.flatten) else none
theorem de_fstr {v1 v2 : Expr} {rest : List Expr} {gj : MJ} (h : DJ X (v1 :: v2 :: rest) gj) : DE X (.JoinedStr (v1 :: v2 :: rest) pos) (mFstr gj) := by
  intro pins s σ H Q I hq
  obtain ⟨O0, r, d, hR, e, q⟩ := hq
  obtain ⟨l, e1, e2⟩ := bind_some e
  split at e2
  · rename_i hl
    cases e2
    refine JoinedStr_many (h pins s σ H Q Str.empty I ⟨O0, r, l, hR, e1, by show 0 + _ ≤ _; omega, fun H' s' => ?_⟩)
    have e0 : (Str.empty ++ (⟨l.flatten.toArray⟩ : Str)) = ⟨l.flatten.toArray⟩ := by
      show (⟨#[] ++ l.flatten.toArray⟩ : Str) = _
      simp
    rw [e0]
    exact q _ H' s' (by rw [Is.str_iff])
  · cases e2
end
end DD
namespace TS
open PySem PyProof.Rows
open PySem PyProof.Rows
open PySem PyProof.Rows
open PySem PyProof.Rows
open PySem PyProof.Rows
open PySem PyProof.Rows
open PySem PyProof.Rows
open PySem PyProof.Rows
open PySem PyProof.Rows
open PySem PyProof.Rows PySem.W
end TS
namespace DD
open PySem PySem.Spec PyProof.Rows L2
noncomputable def ltA : D → D → Option D
  | .int i, .int j => some (.bl (decide (i < j)))
  | .str s, .str t => some (.bl (decide (s < t)))
  | _, _ => none
section
variable {X : Cx}
theorem op_ltS : OpR X (compareOp .Lt) (fun x y H Q => ∃ i j, x = .str i ∧ y = .str j ∧ Q (.bl (decide (i.cps.toList < j.cps.toList))) H) := by
  intro pins s σ H x y v u Q I rx ry hq
  obtain ⟨i, j, rfl, rfl, q⟩ := hq
  obtain ⟨t, rfl⟩ := rx
  obtain ⟨t', rfl⟩ := ry
  exact PySem.P.lt_str ⟨.bl _, H, I, rfl, q⟩
noncomputable def rLtA : R2 := fun x y H Q => rI0 (fun i j => .bl (decide (i < j))) x y H Q ∨ ∃ i j, x = .str i ∧ y = .str j ∧ Q (.bl (decide (i.cps.toList < j.cps.toList))) H
theorem op_ltA : OpR X (compareOp .Lt) rLtA := op_lt.or op_ltS
theorem od_ltA {K : Fg} : OpD K rLtA ltA := by
  intro O H dx dy d vx vy Q ol ix iy e q
  cases dx <;> cases dy <;> first | (simp only [ltA, reduceCtorEq] at e; done) | skip
  · simp only [ltA, Option.some.injEq] at e
    subst e
    rw [Is.int_iff] at ix iy
    exact .inl ⟨_, _, ix, iy, q _ H (Same.refl H) (by rw [Is.bl_iff])⟩
  · simp only [ltA, Option.some.injEq] at e
    subst e
    rw [Is.str_iff] at ix iy
    exact .inr ⟨_, _, ix, iy, q _ H (Same.refl H) (by rw [Is.bl_iff])⟩
end
noncomputable def fre : Sl → Prop
  | .un => True
  | .v _ => True
  | _ => False
theorem setV_fre {i : Nat} {d : D} {r : En} {x : Sl} (e : r[i]? = some x) (h : fre x) : setV i d r = some (r.set i (.v d)) := by
  unfold setV
  rw [e]
  cases x <;> first | rfl | cases h
theorem pop_of {i : Nat} {r : En} {S : List D} {d : D} (e : r[i]? = some (.o (S ++ [d]))) : mPop i r = some (d, r.set i (.o S)) := by
  simp [mPop, mtOf, e, Sl.mt, putO]
theorem app_of {i : Nat} {f : ME} {r : En} {S : List D} {d : D} (e : r[i]? = some (.o S)) (e2 : f r = some d) (h : S.length < sizeLine) : mApp i f r = some (.non, r.set i (.o (S ++ [d]))) := by
  simp [mApp, mtOf, e, Sl.mt, putO, e2, h]
theorem var_of {i : Nat} {r : En} {d : D} (e : r[i]? = some (.v d)) : mVar i r = some d := by
  unfold mVar; rw [e]
theorem seq_of {g h : MS} {r r' : En} (e : g r = some (.nx r')) : sSeq g h r = h r' := by
  unfold sSeq; rw [e]; rfl
theorem seq_rt {g h : MS} {r r' : En} {d : D} (e : g r = some (.rt d r')) : sSeq g h r = some (.rt d r') := by
  unfold sSeq; rw [e]; rfl
theorem sX_of {f : En → Option (D × En)} {r r' : En} {d : D} (e : f r = some (d, r')) : sX f r = some (.nx r') := by
  unfold sX; rw [e]; rfl
theorem sSet_of {i : Nat} {f : ME} {r r2 : En} {d : D} (e : f r = some d) (e2 : setV i d r = some r2) : sSet i f r = some (.nx r2) := by
  unfold sSet; rw [e]; show (setV i d r).map Fl.nx = _; rw [e2]; rfl
theorem sIf_t {c : MB} {g h : MS} {r : En} (e : c r = some true) : sIf c g h r = g r := by
  unfold sIf; rw [e]; rfl
theorem sIf_f {c : MB} {g h : MS} {r : En} (e : c r = some false) : sIf c g h r = h r := by
  unfold sIf; rw [e]; rfl
theorem while_go {n : Nat} {c : MB} {g : MS} {r r' : En} (h : c r = some true) (e : g r = some (.nx r')) : sWhile (n + 1) c g r = sWhile n c g r' := by
  show (c r).bind _ = _
  rw [h, Option.bind_some, if_pos rfl, e, Option.bind_some]
theorem while_end {n : Nat} {c : MB} {g : MS} {r : En} (h : c r = some false) : sWhile (n + 1) c g r = some (.nx r) := by
  show (c r).bind _ = _
  rw [h, Option.bind_some, if_neg (by simp)]
theorem at_zero {α : Type} (x : α) (l : List α) : atI (x :: l) 0 = some x := atI_nat (j := 0) rfl
theorem for_go {bd : D → En → Option En} {g : MS} {d : D} {l : List D} {r r1 r' : En} (h : bd d r = some r1) (e : g r1 = some (.nx r')) : forL bd g (d :: l) r = forL bd g l r' := by
  show (bd d r).bind _ = _
  rw [h, Option.bind_some, e, Option.bind_some]
section
variable {f g : ME} {fl gl : ML} {r : En} {x y d : D} {i j : Int}
theorem bin_of {m : D → D → Option D} (e1 : f r = some x) (e2 : g r = some y) (e : m x y = some d) : mBin m f g r = some d := by
  unfold mBin; rw [e1, Option.bind_some, e2]; exact e
theorem un_of {m : D → Option D} (e1 : f r = some x) (e : m x = some d) : mUn m f r = some d := by
  unfold mUn; rw [e1]; exact e
theorem add_of (e1 : f r = some (.int i)) (e2 : g r = some (.int j)) : mBin addD f g r = some (.int (i + j)) := bin_of e1 e2 rfl
theorem mod_of (e1 : f r = some (.int i)) (e2 : g r = some (.int j)) (h : 0 < j) : mBin modD f g r = some (.int (i % j)) := bin_of e1 e2 (if_pos h)
theorem mul_of (e1 : f r = some (.int i)) (e2 : g r = some (.int j)) (h : -(2 ^ 64) < i ∧ i < 2 ^ 64) : mBin mulD f g r = some (.int (i * j)) := bin_of e1 e2 (if_pos (.inl h))
theorem fdiv_of (e1 : f r = some (.int i)) (e2 : g r = some (.int j)) (h : 0 < j ∧ j < 1073741824) : mBin fdivD f g r = some (.int (i / j)) := bin_of e1 e2 (if_pos h)
theorem con_of : mC d r = some d := rfl
theorem cons_of {l : List D} (e1 : f r = some x) (e2 : fl r = some l) : mCons f fl r = some (x :: l) := by
  unfold mCons; rw [e1, Option.bind_some, e2]; rfl
theorem nil_of : mNil r = some [] := rfl
theorem lstF_of {l : List D} (e : fl r = some l) (h : l.length ≤ 100) : mOfF (mLstF fl) r = some (.lst l) := by
  unfold mOfF mLstF; rw [e, Option.bind_some, if_pos (Nat.le_trans h (by decide))]; rfl
theorem tup_of {l : List D} (e : fl r = some l) (h : l.length ≤ 100) : mTup fl r = some (.tup l) := by
  unfold mTup; rw [e, Option.bind_some, if_pos (Nat.le_trans h (by decide))]
theorem call_of {n : Nat} {m : MF} {l : List D} {p : Rs} (e : fl r = some l) (hl : l.length = n) (h : ∃ as, m (l.map .v) = some (p, as)) : mCall n m fl r = some (rsD p) := by
  obtain ⟨as, h⟩ := h
  unfold mCall; rw [e, Option.bind_some, if_pos hl, h]; rfl
theorem bl_of {b : Bool} (e : f r = some (.bl b)) : mBl f r = some b := by
  unfold mBl; rw [e]; rfl
theorem ret_of (e : f r = some d) : sRet f r = some (.rt d r) := by
  unfold sRet; rw [e]; rfl
theorem seq_set {k : Nat} {h : MS} {r2 : En} {z : Option Fl} (d : D) (e : f r = some d) (e2 : setV k d r = some r2) (q : h r2 = z) : sSeq (sSet k f) h r = z := by
  rw [seq_of (sSet_of e e2)]; exact q
theorem seq_ff {c : MB} {a h : MS} {z : Option Fl} (e : c r = some false) (q : h r = z) : sSeq (sIf c a sSkip) h r = z := by
  rw [seq_of (r' := r) (by rw [sIf_f e]; rfl)]; exact q
theorem seq_tt {c : MB} {a h : MS} {r' : En} (e : c r = some true) (q : a r = some (.rt d r')) : sSeq (sIf c a sSkip) h r = some (.rt d r') := seq_rt (by rw [sIf_t e]; exact q)
theorem mk_rt {n N : Nat} {s : MS} {as : List Sl} {r' : En} (e : s (as ++ List.replicate (N - n) .un) = some (.rt d r')) : ∃ bs, mkF n N s as = some (.v d, bs) := by
  unfold mkF; rw [e]; exact ⟨_, rfl⟩
end
theorem str_add {s t : List Nat} (h : s.length + t.length ≤ 100) : addD (.str s) (.str t) = some (.str (s ++ t)) := if_pos (Nat.le_trans h (by decide))
theorem sl_of {f : ME} {lo hi : MO} {r : En} {x d : D} {a b : Option Int} (e1 : f r = some x) (e2 : lo r = some a) (e3 : hi r = some b) (e : slD x a b = some d) : mSl f lo hi r = some d := by
  unfold mSl; rw [e1, Option.bind_some, e2, Option.bind_some, e3]; exact e
theorem neg_of {g : ME} {r : En} {i : Int} (e : g r = some (.int i)) : mUn negD g r = some (.int (-i)) := un_of e rfl
theorem osome_of {g : ME} {r : En} {i : Int} (e : g r = some (.int i)) : oSome g r = some (some i) := by
  unfold oSome; rw [e]; rfl
theorem gt_of {f g : ME} {r : En} {i j : Int} (e1 : f r = some (.int i)) (e2 : g r = some (.int j)) : mBl (mBin gtD f g) r = some (decide (j < i)) := bl_of (bin_of e1 e2 rfl)
theorem lst_add {l m : List D} (h : l.length + m.length ≤ 100000) : addD (.lst l) (.lst m) = some (.lst (l ++ m)) := if_pos (Nat.le_trans h (by decide))
theorem cut_to {α : Type} (s : List α) (k : Nat) : cutL s none (some (k : Int)) = s.take k := by
  unfold cutL
  rw [HT.sIx_nat, HT.sIx_none, List.drop_zero, Nat.sub_zero, List.take_eq_take_iff]
  omega
theorem cut_mid {α : Type} (s : List α) (i k : Nat) : cutL s (some (i : Int)) (some (k : Int)) = (s.take k).drop i := by
  unfold cutL
  rw [HT.sIx_nat, HT.sIx_nat, List.drop_take]
  by_cases h : i ≤ s.length
  · rw [Nat.min_eq_left h, List.take_eq_take_iff, List.length_drop]
    rw [Nat.sub_min_sub_right, Nat.sub_min_sub_right, Nat.min_assoc, Nat.min_self]
  · have e1 : s.drop (min i s.length) = [] := List.drop_of_length_le (by omega)
    have e2 : s.drop i = [] := List.drop_of_length_le (by omega)
    rw [e1, e2]; simp
theorem rng_of {f : ME} {r : En} {n : Nat} (e : f r = some (.int (n : Int))) (h : n < 1000) : mRng1 f r = some ((List.range n).map fun k => .int ((0 : Int) + (k : Nat))) := by
  have h1 : -(2 ^ 62 : Int) ≤ (n : Int) ∧ (n : Int) < 2 ^ 62 := by constructor <;> omega
  have h2 : DD.intD (.int (n : Int)) = some (n : Int) := by unfold DD.intD; rfl
  unfold mRng1
  rw [e, Option.bind_some, h2, Option.bind_some, if_pos h1, Int.toNat_natCast]
  unfold rngD; rfl
theorem ladd {f g : ME} {r : En} {l m : List D} (e1 : f r = some (.lst l)) (e2 : g r = some (.lst m)) (h : l.length + m.length ≤ 100000) : mBin addD f g r = some (.lst (l ++ m)) := bin_of e1 e2 (lst_add h)
section
variable {X : Cx} {pos p2 : Pos} {a b : Expr} {f g : ME}
theorem fresh_is {K : Fg} {O : Addr → Prop} {H : Hp} {l : List D} {xs ys : List V} {p : Addr} (ol : OLst O H) (hp : H p = none) (h : IsL K O H l xs) : IsL K (fun b => O b ∨ b = p) (upd H p (.lst ys)) l xs :=
  IsL.mono (Same.kp (same_upd hp) _) ol (fun a z n => z.elim id fun z => by subst z; exact absurd hp n) _ _ h
noncomputable def mSlB (fl : ML) (lo hi : MO) : ML := fun r => (fl r).bind fun l => (lo r).bind fun i => (hi r).map fun j => cutL l i j
theorem df_slB {lo hi : Option Expr} {fm : ML} {fl fh : MO} (ha : DB X a fm) (hl : DO X lo fl) (hh : DO X hi fh) : DF X (.Subscript a (.Slice lo hi none p2) pos) (mSlB fm fl fh) := by
  refine PE.conseq (pe_slice (r := rSlL X.K) sl_list ha hl hh) fun σ H Q hq => ?_
  obtain ⟨O0, r, d, hR, e, q⟩ := hq
  obtain ⟨l, e1, e⟩ := bind_some e
  obtain ⟨i, e2, e⟩ := bind_some e
  obtain ⟨j, e3, rfl⟩ := map_some e
  refine ⟨O0, r, l, hR, e1, fun p xs H1 s1 sq il => ⟨O0, r, i, hR.same s1, e2, fun H2 s2 => ⟨O0, r, j, hR.same (s1.trans s2), e3, fun H3 s3 => ?_⟩⟩⟩
  have s13 := (s1.trans s2).trans s3
  have R3 := hR.same s13
  have i3 := il.same (s2.trans s3) (hR.same s1).ol
  refine ⟨p, xs, rfl, (s2.trans s3).seq sq, fun t ht => q t _ _ (s13.trans (same_upd ht)) (s13.free ht) upd_same ?_⟩
  exact fresh_is R3.ol ht (i3.cut i j)
noncomputable def mCat (f g : ML) : ML := fun r => (f r).bind fun l => (g r).bind fun m => if l.length + m.length ≤ sizeLine then some (l ++ m) else none
theorem df_cat {fl gl : ML} (ha : DB X a fl) (hb : DB X b gl) : DF X (.BinOp a .Add b pos) (mCat fl gl) := by
  refine PE.conseq (pe_op op_catR ha hb) fun σ H Q h => ?_
  obtain ⟨O0, r, d, hR, e, q⟩ := h
  obtain ⟨l, e1, e⟩ := bind_some e
  obtain ⟨m, e2, e⟩ := bind_some e
  split at e
  · rename_i hz
    cases e
    refine ⟨O0, r, l, hR, e1, fun p xs H1 s1 sq il => ⟨O0, r, m, hR.same s1, e2, fun p' ys H2 s2 sq' il' => ?_⟩⟩
    refine ⟨p, p', xs, ys, rfl, rfl, s2.seq sq, sq', by rw [← il.length, ← il'.length]; exact hz, fun t ht => q t _ _ ((s1.trans s2).trans (same_upd ht)) ((s1.trans s2).free ht) upd_same ?_⟩
    exact fresh_is (hR.same (s1.trans s2)).ol ht ((il.same s2 (hR.same s1).ol).append il')
  · cases e
end
end DD
namespace ZZ
open PySem
end ZZ
namespace DD
open PySem PySem.Spec PyProof.Rows L2
open PySem PySem.Spec PyProof.Rows L2 PySem.W
noncomputable def Land (P : Program) (w : World) (fs : List Addr) (H H' : Hp) (h0 B h1 : Heap) : Prop := ∀ h : Heap, B.StaysIn h → h1.UpToSlots h → Un fs [] H H' h0 h ∧ HOk P w H' h
noncomputable def CX1 (P : Program) (w : World) : CXT := fun outer H s E e s' => ∃ (a C : Addr) (B : Heap) (a0 : Value) (H' : Hp), e = .ref a ∧ s'.os = s.os ∧ AllBare s'.gens ∧ Heap.FlyingW B outer a (.ref C) a0 s'.heap ∧ H' a = none ∧ E (.ref C) none H' ∧ Land P w (frs outer) H H' s.heap B s'.heap
theorem ObjOk.there {P : Program} {w : World} {H : Hp} {h : Heap} {a : Addr} {o : HO} (x : ObjOk P w H h a o) : ∃ ob, h.get? a = some ob := by
  cases o with
  | lst xs => obtain ⟨_, _, _, _, e⟩ := x; exact ⟨_, e⟩
  | tup xs => obtain ⟨_, _, _, ob, e, _⟩ := x; exact ⟨_, e⟩
  | dK kvs => obtain ⟨_, _, _, _, o, _, _, e, _⟩ := x; exact ⟨_, e⟩
  | dT kvs => obtain ⟨_, _, _, _, o, _, _, e, _⟩ := x; exact ⟨_, e⟩
  | set S n => obtain ⟨o, _, _, _, e, _⟩ := x; exact ⟨_, e⟩
  | ins C dx fs => obtain ⟨_, _, _, e, _⟩ := x; exact ⟨_, e⟩
  | own y => obtain ⟨_, e⟩ := x; exact ⟨_, e⟩
  | xd fs => obtain ⟨_, ⟨_, _, _, e, _⟩, _⟩ := x; exact ⟨_, e⟩
  | rng lo hi => obtain ⟨_, _, _, e⟩ := x; exact ⟨_, e⟩
  | frz ob u => obtain ⟨e, _⟩ := x; exact ⟨_, e⟩
  | tbl ps => exact ⟨_, (show h.get? a = some _ from x)⟩
  | met f y => exact ⟨_, (show h.get? a = some _ from x)⟩
  | ext φ => obtain ⟨_, ⟨_, e⟩, _⟩ := x; exact ⟨_, e⟩
theorem hok_none {P : Program} {w : World} {H : Hp} {h : Heap} {a : Addr} (x : HOk P w H h) (n : h.get? a = none) : H a = none := by
  cases e : H a with
  | none => rfl
  | some o => obtain ⟨ob, q⟩ := ObjOk.there (x a o e); rw [n] at q; cases q
section
variable {P : Program} {w : World} {K : Fg} {mg : Str → Option Value} {base : Heap} {N : List Str} {qual : Str} {scope : Scope} {f : Addr} {cd : Value} {A : Around} {outer : List Env} {s : Shared} {H : Hp} {E : XK}
theorem land_made {X : Cx} {pins : List (Addr × Obj)} {σ : St} {H1 : Hp} {s2 : Shared} {h3 h4 : Heap} (I : Inv X pins σ H1 s2) (hex : X.ex = []) (k3 : ∀ b o, s2.heap.get? b = some o → h3.get? b = some o) (u4 : h3.UpToSlots h4) :
    Land X.prog X.w X.fs X.H₀ H1 X.s₀.heap (hideAll s2.heap (frs X.stack)) h4 := by
  intro h hB hu
  have inF : ∀ b ∈ frs X.stack, ∃ o, s2.heap.get? b = some o ∧ ∀ vs, o.data ≠ .fields vs := fun b hb => (I.stack.mem hb).2
  have put : ∀ b o, s2.heap.get? b = some o → b ∉ frs X.stack → h.get? b = some o := fun b o e n => hB b o (hideAll_get _ e n)
  have slo : ∀ b o, s2.heap.get? b = some o → b ∈ frs X.stack → ∃ sl, h.get? b = some { o with slots := sl } := fun b o e hb => by
    obtain ⟨o', e', d'⟩ := inF b hb
    rw [e] at e'; cases e'
    obtain ⟨s1, e1⟩ := u4 b o (k3 b o e) d'
    obtain ⟨s2', e2⟩ := hu b _ e1 d'
    exact ⟨s2', e2⟩
  have bs := I.base
  rw [hex] at bs
  refine ⟨⟨fun b o e n hb hx => ?_, fun b o e n hb hx => ?_, fun b o e n hx => bs.free b o e n hx, fun b o e hx => ?_, bs.tups, bs.frzs, bs.tbls⟩, fun b u e => ?_⟩
  · refine put b o (bs.keep b o e n hb hx) fun z => ?_
    rcases List.mem_cons.mp (I.stkSub b z) with q | q
    · exact absurd (Nat.lt_of_lt_of_le (Heap.lt_size e) (by rw [q]; exact I.ok.above)) (Nat.lt_irrefl _)
    · exact hb q
  · obtain ⟨sl, e1⟩ := bs.slot b o e n hb hx
    by_cases z : b ∈ frs X.stack
    · obtain ⟨sl2, e2⟩ := slo b _ e1 z
      exact ⟨sl2, e2⟩
    · exact ⟨sl, put b _ e1 z⟩
  · obtain ⟨o', e1⟩ := bs.there b o e hx
    by_cases z : b ∈ frs X.stack
    · obtain ⟨sl2, e2⟩ := slo b _ e1 z
      exact ⟨_, e2⟩
    · exact ⟨o', put b _ e1 z⟩
  · have nf : ∀ c v, H1 c = some v → c ∉ frs X.stack := fun c v q z => by rw [I.stkFree c z] at q; cases q
    refine (I.hok b u e).stay (fun c v hc q => put c v q ?_) (fun _ q => q) fun _ _ q => q
    rcases hc with z | z
    · rw [z]; exact nf b u e
    · exact nf c _ z
theorem xe_made {pins : List (Addr × Obj)} {σ : St} {H1 : Hp} {s2 : Shared} {h3 : Heap} {e C : Addr} {args : List Value} (I : Inv (cxOf (CX1 P w) P w K mg base N qual scope f cd A outer s H E) pins σ H1 s2) (hx : Heap.MadeExcOf s2.heap h3 e (.ref C) args) (q : E (.ref C) none H1) :
    (cxOf (CX1 P w) P w K mg base N qual scope f cd A outer s H E).xe (.ref e) { s2 with heap := h3 } := by
  let X := cxOf (CX1 P w) P w K mg base N qual scope f cd A outer s H E
  have hin : ∀ env ∈ X.stack, ∀ b, env.frame = some b → b ∈ frs X.stack := fun env he b hb => List.mem_filterMap.mpr ⟨env, he, hb⟩
  refine wpAny_leaves_madeW (base := hideAll s2.heap (frs X.stack)) (h := s2.heap) I.ok.frames rfl (fun b o z => of_hideAll _ z) (funFrames_hide I.stack hin) hx fun h' t x1 x2 x3 x4 => ?_
  exact ⟨e, C, _, _, H1, rfl, I.os, I.bare, x1, hok_none I.hok hx.new, q, land_made I rfl hx.keeps x4⟩
end
open PySem PySem.Spec PyProof.Rows L2 PySem.W
noncomputable abbrev MX := En → Option Str
noncomputable def lXS (K : Fg) (mg : Str → Option Value) (E : XK) (x : MX) : TS := fun _ σ H => ∃ O0 r n, R K O0 H r σ ∧ x r = some n ∧ ∀ C H' r' σ', mg n = some (.ref C) → R K O0 H' r' σ' → Kp H r σ H' r' σ' → E (.ref C) none H'
noncomputable def XS (X : Cx) (E : XK) (st : Stmt) (x : MX) : Prop := PS X st (lXS X.K X.mg E x)
section
variable {X : Cx} {E : XK} {st : Stmt} {rest : List Stmt} {x y : MX} {g : MS} {pos : Pos}
theorem pss_none : PSs X rest (fun _ _ _ => False) := fun pins s σ H D I h => h.elim
noncomputable def xThen (g : MS) (x : MX) : MX := fun r => (g r).bind fun fl => match fl with
  | .nx r1 => x r1
  | _ => none
noncomputable def xIf (c : MB) (x y : MX) : MX := fun r => (c r).bind fun b => if b = true then x r else y r
noncomputable def xNone : MX := fun _ => none
end
section
variable {P : Program} {w : World} {K : Fg} {mg : Str → Option Value} {base : Heap} {N : List Str} {qual : Str} {scope : Scope} {f : Addr} {cd : Value} {A : Around} {outer : List Env} {s : Shared} {H : Hp} {E : XK}
noncomputable def xRaise (n : Str) (g : ME) : MX := fun r => (g r).map fun _ => n
theorem xs_raise {x : Str} {C : Addr} {bm : List Value} {B newId initId : String} {a : Expr} {g : ME} {np cpos pos : Pos} (O : OwnCls x C bm newId mg base) (FB : ExcBaseFacts B newId initId bm) (hg : Gl (cxOf (CX1 P w) P w K mg base N qual scope f cd A outer s H E) x)
    (ha : DE (cxOf (CX1 P w) P w K mg base N qual scope f cd A outer s H E) a g)
    (hs : starEach [a] (cxOf (CX1 P w) P w K mg base N qual scope f cd A outer s H E).env = (false, eval a (cxOf (CX1 P w) P w K mg base N qual scope f cd A outer s H E).env) :: starEach [] (cxOf (CX1 P w) P w K mg base N qual scope f cd A outer s H E).env := by rfl)
    (hdb : (x == ("__debug__" : Str)) = false := by decide) :
    XS (cxOf (CX1 P w) P w K mg base N qual scope f cd A outer s H E) E (.Raise (some (.Call (.Name x np) [a] [] cpos)) none pos) (xRaise x g) := by
  intro pins s1 σ H1 D I h
  obtain ⟨O0, r, n, hR, e, q⟩ := h
  obtain ⟨d, e1, e2⟩ := map_some e
  cases e2
  obtain ⟨tl, N', nm, q', bs, hdct, sn, sub, ab, col, dd, k0, k1, k2, k3, k5, mN, hC, hN, hni, T⟩ := O.obj
  refine wpAny_Raise_call_subT (C := C) (nm := nm) (q := q') (N := N') (bs := bs) (bm := tl) (hdct := hdct) (sn := sn) (sub := sub) (ab := ab) (col := col) (dd := dd) (k0 := k0) (k1 := k1) (k2 := k2) (k3 := k3) (k5 := k5)
    FB (mN := mN) (T.hasType FB.hasBase) (I.ok.hd rfl) (by rw [hs]; rfl) hni (ld_glob I hg O.bound ⟨rfl, ?_⟩ hdb)
  have hA := (pa_cons ha pa_nil hs) cpos pins s1 σ H1 (fun vs H2 => vs.length = 1 ∧ E (.ref C) none H2) I ⟨O0, r, d, hR, e1, fun v H2 s2 i2 => ⟨rfl, q C H2 r σ O.bound (hR.same s2) (Kp.of_same r σ s2)⟩⟩
  rw [hs] at hA ⊢
  refine Calls.evalArgs_plain (wpAny_mono hA (fun vs s2 h2 => ?_) fun _ _ y => y)
  obtain ⟨vs', H2, I2, rv, hl, hE⟩ := h2
  exact ⟨rfl, by rw [← rv.length, hl]; decide, I2.bk _ _ hC, hN.keeps I2.bk, T.keeps I2.bk, fun h' e' hm => xe_made I2 hm hE⟩
end
open PySem PySem.Spec PyProof.Rows L2 PySem.W
noncomputable def spX (K : Fg) (mg : Str → Option Value) (n : Nat) (m : List D → Option Str) : Sp := fun vs H _ E => ∃ O ds nm, ds.length = n ∧ OLst O H ∧ IsL K O H ds vs ∧ m ds = some nm ∧ ∀ C H', mg nm = some (.ref C) → Same H H' → E (.ref C) none H'
noncomputable abbrev MR := En → Option D
noncomputable def lR (K : Fg) (ρ : MR) : TS := fun Dn σ H => ∃ O0 r d, R K O0 H r σ ∧ ρ r = some d ∧ ∀ v σ' H' r', R K O0 H' r' σ' → Kp H r σ H' r' σ' → Is K O0 H' d v → Dn.rt v H'
noncomputable def DRs (X : Cx) (st : List Stmt) (ρ : MR) : Prop := PSs X st (lR X.K ρ)
section
variable {X : Cx} {st : Stmt} {rest : List Stmt} {ρ : MR} {g : MS}
noncomputable def rThen (g : MS) (ρ : MR) : MR := fun r => (g r).bind fun fl => match fl with
  | .nx r1 => ρ r1
  | .rt d _ => some d
  | _ => none
theorem dr_cons (h : DS X st g) (h2 : DRs X rest ρ) : DRs X (st :: rest) (rThen g ρ) := by
  refine PSs.conseq (pss_cons h h2) fun Dn σ H hq => ?_
  obtain ⟨O0, r, d, hR, e, q⟩ := hq
  obtain ⟨fl, e1, e2⟩ := bind_some e
  cases fl <;> first | (cases e2; done) | skip
  · rename_i r1
    exact ⟨O0, r, .nx r1, hR, e1, fun σ1 H1 R1 k1 => ⟨O0, r1, d, R1, e2, fun v σ2 H2 r2 R2 k2 i2 => q v σ2 H2 r2 R2 (k1.trans k2) i2⟩⟩
  · rename_i d' r1
    cases e2
    exact ⟨O0, r, .rt d r1, hR, e1, fun v σ1 H1 R1 k1 i1 => q v σ1 H1 r1 R1 k1 i1⟩
noncomputable def rD (g : MS) : MR := fun r => (g r).bind fun fl => match fl with
  | .rt d _ => some d
  | _ => none
theorem dr_d (h : DSs X rest g) : DRs X rest (rD g) := by
  refine PSs.conseq h fun Dn σ H hq => ?_
  obtain ⟨O0, r, d, hR, e, q⟩ := hq
  obtain ⟨fl, e1, e2⟩ := bind_some e
  cases fl <;> first | (cases e2; done) | skip
  rename_i d' r1
  cases e2
  exact ⟨O0, r, .rt d r1, hR, e1, fun v σ1 H1 R1 k1 i1 => q v σ1 H1 r1 R1 k1 i1⟩
end
noncomputable def isV : Sl → Bool
  | .v _ => true
  | _ => false
noncomputable def mkR (n N : Nat) (ρ : MR) : MF := fun as => if as.all isV = true then (ρ (as ++ List.replicate (N - n) .un)).map fun d => (.v d, as) else none
section
variable {P : Program} {w : World} {K : Fg} {mg : Str → Option Value} {base : Heap}
theorem fn_r {x qual : Str} {st : Stmt} {f : Addr} {fd : FuncData} {N ps : List Str} {k : Nat} {ρ : MR} (F : Fun K x qual st f fd) (S : FnScope N ps (defScope st)) (n : Nat) (nN : Nat) (hn : ps.length = n := by rfl) (hN : N.length = nN := by rfl)
    (hb : ∀ (cdv : Value) (A : Around) (outer : List Env) (s : Shared) (H : Hp) (E : XK), Room k (A.deeper (envOfC qual (defScope st) s.heap.objs.size f cdv)) →
      DRs (cxOf CX0 P w K mg base N qual (defScope st) f cdv A outer s H E).nox (defBody st) ρ) : FnOk P w K mg base CX0 (k + 1) f fd ps (spD K n (mkR n nN ρ)) := by
  subst hn hN
  refine F.ok S (fun vs H Q E h => ?_) (fun cdv A outer s H vs Q E hr h => ?_)
  · obtain ⟨O0, as, rs, as', hl, hR, _⟩ := h
    have := hR.len
    simp at this; omega
  · obtain ⟨O0, as, rs, as', hl, hR, no, e, q⟩ := h
    have hlv : as.length = vs.length := by simpa using hR.len
    refine ⟨_, hb cdv A outer s H E hr, ?_⟩
    unfold mkR at e
    split at e
    · rename_i hv
      obtain ⟨d, e1, e2⟩ := map_some e
      cases e2
      have hst : L2.start N vs = vs.map some ++ List.replicate (N.length - ps.length) none := by unfold L2.start; rw [← hlv, hl]
      rw [hst]
      have R0 := R.start (k := N.length - ps.length) hR
      refine ⟨O0, _, d, R0, e1, fun v σ' H' r' R' k' i' => q v H' ⟨fun b o eb nb => k'.keep b o eb fun z => nb ((own_start rfl hlv).mp z), k'.live, k'.lst, fun i l ei => ?_⟩ i'⟩
      have := List.all_eq_true.mp hv _ (List.mem_of_getElem? ei)
      cases this
    · cases e
end
open PySem PySem.Spec PyProof.Rows L2 PySem.W
section
variable {X : Cx} {k n : Nat} {fa : Addr} {fd : FuncData} {ps : List Str} {m : List D → Option Str} {x : Str} {a : Expr} {es : List Expr} {fs : ML} {p pos : Pos}
theorem call_raised {pins : List (Addr × Obj)} {s : Shared} {σ : St} {H : Hp} {O0 : Addr → Prop} {r : En} {ds : List D} {nm : Str} {Q : Value → Shared → Prop} (F : FnOk X.prog X.w X.K X.mg X.base (CX1 X.prog X.w) k fa fd ps (spX X.K X.mg n m)) (hr : Room k X.A) (hg : Gl X x) (hm : X.mg x = some (.ref fa)) (hk : PySem.W.keepIn X.K (.ref fa) = true) (hb : Binds X.K fd ps [])
    (ha : DA X (a :: es) fs) (I : Inv X pins σ H s) (hR : R X.K O0 H r σ) (e1 : fs r = some ds) (hl : ds.length = n) (e2 : m ds = some nm)
    (hc : ∀ s1 H1 s' e C B a0 H', Inv X pins σ H1 s1 → Same H H' → s'.os = s1.os → AllBare s'.gens → X.mg nm = some (.ref C) → Heap.FlyingW B X.stack e (.ref C) a0 s'.heap → H' e = none → Land X.prog X.w (frs X.stack) H1 H' s1.heap B s'.heap → X.xe (.ref e) s')
    (hC : ∃ C, X.mg nm = some (.ref C))
    (hdb : (x == ("__debug__" : Str)) = false := by decide) (he : starEach (a :: es) X.env = (false, eval a X.env) :: starEach es X.env := by rfl) (hpl : (backTo pos (starEach es X.env)).any (·.1) = false := by rfl) :
    wpAny (model X.prog X.w) X.A (eval (.Call (.Name x p) (a :: es) [] pos) X.env) Q X.xe s := by
  obtain ⟨C, hC⟩ := hC
  refine wpAny_Call_Name_kw (ld_glob I hg hm ?_ hdb)
  refine PySem.W.callWith_K (h₀ := X.base) I.ok.mod.kin hk (thn (ha pos pins s σ H (fun vs H1 => Same H H1 ∧ IsL X.K (Ow O0 r σ) H1 ds vs) I ⟨O0, r, ds, hR, e1, fun vs H1 s1 il => ⟨s1, il⟩⟩) fun us s1 ⟨vs, H1, I1, rv, sm, il⟩ => ⟨I1.kIn, ?_⟩) he hpl
  have hsp : spX X.K X.mg n m vs H1 (fun _ _ => False) (fun c _ H' => c = .ref C ∧ Same H1 H') := ⟨Ow O0 r σ, ds, nm, hl, (hR.same sm).ol, il, e2, fun C' H' hm' s' => by rw [hC] at hm'; cases hm'; exact ⟨rfl, s'⟩⟩
  have hlen : us.length = ps.length := by rw [← rv.length]; exact F.len _ _ _ _ hsp
  refine wpAny_call (codeAny_mono (F.run X.A X.stack s1 H1 ⟨us, []⟩ us vs _ _ hr I1.env0 (by have := hb s1 us I1.kIn (by rw [List.append_nil]; exact hlen); rw [List.append_nil] at this; exact this) rv hsp) fun res s' hq => ?_)
  cases res with
  | error e =>
    obtain ⟨ea, C', B, a0, H', rfl, ho, hg', hfl, hn, ⟨hcc, sm'⟩, hland⟩ := hq
    cases hcc
    exact hc s1 H1 s' ea C B a0 H' I1 (sm.trans sm') ho hg' hC hfl hn hland
  | ok fl =>
    cases fl with
    | ret u => obtain ⟨v, H', _, _, _, _, _, q⟩ := hq; exact q.elim
    | next => exact False.elim hq
    | brk => exact False.elim hq
    | cont => exact False.elim hq
end
noncomputable abbrev Cx.held (X : Cx) (e : Addr) (E : Value → Shared → Prop) : Cx := { X with A := X.A.mark (some (.ref e)), calm := false, xe := E }
theorem Inv.held {X : Cx} {pins : List (Addr × Obj)} {σ : St} {H : Hp} {s : Shared} (I : Inv X pins σ H s) (e : Addr) (E : Value → Shared → Prop) : Inv (Cx.held X e E) pins σ H s :=
  ⟨⟨I.ok.mod, I.ok.kind, I.ok.glob, I.ok.blt, I.ok.above, I.ok.inj, I.ok.has, I.ok.cab, (fun z => by cases z), I.ok.frames, I.ok.stk, I.ok.exf, I.ok.bs, I.ok.bsz, I.ok.noex, I.ok.exfs, I.ok.funs, I.ok.frf⟩, I.os, I.bare, I.base, I.loc, I.cell, I.free, I.freeC, I.pin, I.hok, I.len⟩
theorem Inv.unheld {X : Cx} {pins : List (Addr × Obj)} {σ : St} {H : Hp} {s : Shared} {e : Addr} {E : Value → Shared → Prop} (ok : X.Ok) (I : Inv (Cx.held X e E) pins σ H s) : Inv X pins σ H s := ⟨ok, I.os, I.bare, I.base, I.loc, I.cell, I.free, I.freeC, I.pin, I.hok, I.len⟩
noncomputable abbrev Cx.pinned (X : Cx) (p : Addr × Obj) : Cx := { X with pn := p :: X.pn }
theorem Inv.pinned {X : Cx} {pins : List (Addr × Obj)} {σ : St} {H : Hp} {s : Shared} {p : Addr × Obj} (I : Inv X (p :: pins) σ H s) : Inv (Cx.pinned X p) pins σ H s :=
  ⟨⟨I.ok.mod, I.ok.kind, I.ok.glob, I.ok.blt, I.ok.above, I.ok.inj, I.ok.has, I.ok.cab, I.ok.hd, I.ok.frames, I.ok.stk, I.ok.exf, I.ok.bs, I.ok.bsz, I.ok.noex, I.ok.exfs, I.ok.funs, I.ok.frf⟩, I.os, I.bare, I.base, I.loc, I.cell, I.free, I.freeC, (fun q hq => I.pin q (by
    have hq' : q ∈ p :: X.pn ++ pins := hq
    simp only [List.cons_append, List.mem_cons, List.mem_append] at hq' ⊢
    rcases hq' with h | h | h
    · exact .inr (.inl h)
    · exact .inl h
    · exact .inr (.inr h))), I.hok, I.len⟩
theorem Inv.unpinned {X : Cx} {pins : List (Addr × Obj)} {σ : St} {H : Hp} {s : Shared} {p : Addr × Obj} (I : Inv (Cx.pinned X p) pins σ H s) : Inv X pins σ H s :=
  ⟨⟨I.ok.mod, I.ok.kind, I.ok.glob, I.ok.blt, I.ok.above, I.ok.inj, I.ok.has, I.ok.cab, I.ok.hd, I.ok.frames, I.ok.stk, I.ok.exf, I.ok.bs, I.ok.bsz, I.ok.noex, I.ok.exfs, I.ok.funs, I.ok.frf⟩, I.os, I.bare, I.base, I.loc, I.cell, I.free, I.freeC, (fun q hq => I.pin q (List.mem_cons_of_mem _ hq)), I.hok, I.len⟩
theorem SP.unpinned {X : Cx} {pins : List (Addr × Obj)} {p : Addr × Obj} {D : Ends} {f : Flow} {s' : Shared} (h : SP (Cx.pinned X p) pins D f s') : SP X pins D f s' := by
  cases f with
  | next => obtain ⟨σ', H', I', q⟩ := h; exact ⟨σ', H', Inv.unpinned I', q⟩
  | brk => obtain ⟨σ', H', I', q⟩ := h; exact ⟨σ', H', Inv.unpinned I', q⟩
  | cont => obtain ⟨σ', H', I', q⟩ := h; exact ⟨σ', H', Inv.unpinned I', q⟩
  | ret u => obtain ⟨v, σ', H', I', r, q⟩ := h; exact ⟨v, σ', H', Inv.unpinned I', r, q⟩
theorem goes_ok {X : Cx} {pins : List (Addr × Obj)} {σ : St} {H : Hp} {s : Shared} {M : Model} {A : Around} {E : Value → Shared → Prop} {i : Nat} {x : Str} {pos : Pos} {Q : Unit → Shared → Prop} (I : Inv X pins σ H s) (hN : X.N.Nodup) (hi : X.N[i]? = some x) (hx : X.env.scope.names.lookup x = some .local) (hk : X.env.kindOf x = some .local)
    (h : ∀ s', Inv X pins (σ.set i none) H s' → Q () s') : wpAny M A (do bindName X.env x .none; unbindBehindTheSuite X.env x pos) Q E s := by
  obtain ⟨m, hn, hl⟩ := id I.loc
  have hcls : (X.env.scope.kind == .class || (X.env.scope.kind == .module && X.env.locals != X.env.globals)) = false := by rw [I.ok.kind]; rfl
  have hiσ : i < σ.length := by rw [I.len]; exact (List.getElem?_eq_some_iff.mp hi).1
  have cne := I.cne
  refine wpAny_nameGoes_keeps hk hn hcls fun h' v hn' hs => h _ ?_
  obtain ⟨oL, _, _, hoL, _⟩ := id hn
  refine ⟨I.ok, I.os, I.bare, ⟨fun b o e n hb hx => ?_, fun b o e n hb hx => ?_, I.base.free, fun b o e hx => ?_, I.base.tups, I.base.frzs, I.base.tbls⟩, ⟨_, hn', fun j y v' e1 e2 e3 => ?_⟩, fun y c e => ?_, I.free, I.freeC, fun p hp => ?_, fun b ob e => ?_, by simpa using I.len⟩
  · exact (hs.2 b (Nat.ne_of_lt (Nat.lt_of_lt_of_le (Heap.lt_size e) I.ok.above))).trans (I.base.keep b o e n hb hx)
  · obtain ⟨sl, e1⟩ := I.base.slot b o e n hb hx
    exact ⟨sl, (hs.2 b (Nat.ne_of_lt (Nat.lt_of_lt_of_le (Heap.lt_size e) I.ok.above))).trans e1⟩
  · obtain ⟨o', e1⟩ := I.base.there b o e hx
    exact ⟨o', (hs.2 b (Nat.ne_of_lt (Nat.lt_of_lt_of_le (Heap.lt_size e) I.ok.above))).trans e1⟩
  · by_cases hj : j = i
    · subst hj
      rw [List.getElem?_set_self hiσ] at e2
      cases e2
    · rw [List.getElem?_set_ne (Ne.symm hj)] at e2
      obtain ⟨u', r', q⟩ := hl j y v' e1 e2 e3
      refine ⟨u', r', ?_⟩
      rcases q with ⟨k, e⟩ | ⟨k, c, e, z⟩
      · refine .inl ⟨k, ?_⟩
        have : y ≠ x := fun e => hj (nodup_ix hN e1 (e ▸ hi))
        simp [this, e]
      · exact .inr ⟨k, c, e, z.sameBut hs (cne y c e)⟩
  · obtain ⟨w', z⟩ := I.cell y c e
    exact ⟨w', z.sameBut hs (cne y c e)⟩
  · obtain ⟨e, n, ne, nf, d⟩ := I.pin p hp
    exact ⟨(hs.2 p.1 ne).trans e, n, ne, nf, d⟩
  · refine (I.hok b ob e).stay (fun c w' hc q => (hs.2 c ?_).trans q) (fun _ q => q) fun _ _ q => q
    rintro rfl
    rcases hc with rfl | hc
    · rw [I.free] at e; cases e
    · rw [I.free] at hc; cases hc
theorem R.unset {K : Fg} {O0 : Addr → Prop} {H : Hp} {r : En} {σ : St} {j : Nat} {y : Sl} (h : R K O0 H r σ) (e : r[j]? = some y) (hy : fre y) : R K O0 H (r.set j .un) (σ.set j none) ∧ Kp H r σ H (r.set j .un) (σ.set j none) := by
  have hj : j < r.length := (List.getElem?_eq_some_iff.mp e).1
  have hjσ : j < σ.length := by rw [← h.len]; exact hj
  have ne : ∀ (q : Sl → Option (List D)), q .un = none → ∀ (i : Nat) (l : List D), ((r.set j .un)[i]?).bind q = some l → i ≠ j ∧ (r[i]?).bind q = some l := fun q hq i l ei => by
    by_cases hi : i = j
    · subst hi; rw [get_set_eq hj] at ei; rw [Option.bind_some, hq] at ei; cases ei
    · rw [get_set_ne (Ne.symm hi)] at ei; exact ⟨hi, ei⟩
  have at' : ∀ (q : Sl → Option (List D)), q .un = none → ∀ b, AtS q (r.set j .un) (σ.set j none) b → AtS q r σ b := fun q hq b ⟨i, l, ei, qi⟩ => by
    obtain ⟨hi, e'⟩ := ne q hq i l ei
    rw [get_set_ne (Ne.symm hi)] at qi
    exact ⟨i, l, e', qi⟩
  have ow : ∀ b, Ow O0 (r.set j .un) (σ.set j none) b → H b ≠ none → Ow O0 r σ b := fun b z _ => z.imp id (at' _ rfl b)
  have nep : ∀ (i : Nat) (x : Sl), (r.set j .un)[i]? = some x → x ≠ .un → i ≠ j ∧ r[i]? = some x := fun i x ei nx => by
    by_cases hi : i = j
    · subst hi; rw [get_set_eq hj] at ei; cases ei; exact absurd rfl nx
    · rw [get_set_ne (Ne.symm hi)] at ei; exact ⟨hi, ei⟩
  refine ⟨⟨by simpa using h.len, fun i d ei => ?_, fun i l ei => ?_, fun i i' b l l' e1 e2 q1 q2 => ?_, h.o0, fun i l b ei qi => ?_, fun i l b ei qi => ?_⟩, ⟨fun b o eb _ => eb, fun b eb => eb, fun b xs eb => ⟨xs, eb⟩, fun b z => .inl (at' _ rfl b z), fun b z => .inl (at' _ rfl b z), fun i l ei => ?_, fun i l ei => ?_⟩⟩
  · obtain ⟨hi, e'⟩ := nep i _ ei (by intro z; cases z)
    obtain ⟨v, q1, q2⟩ := h.val i d e'
    exact ⟨v, by rw [get_set_ne (Ne.symm hi)]; exact q1, Is.mono (Same.kp (Same.refl H) _) h.ol ow _ _ q2⟩
  · obtain ⟨hi, e'⟩ := ne _ rfl i l ei
    obtain ⟨b, xs, q1, q2, q3⟩ := h.own i l e'
    exact ⟨b, xs, by rw [get_set_ne (Ne.symm hi)]; exact q1, q2, IsL.mono (Same.kp (Same.refl H) _) h.ol ow _ _ q3⟩
  · obtain ⟨h1, e1'⟩ := ne _ rfl i l e1
    obtain ⟨h2, e2'⟩ := ne _ rfl i' l' e2
    rw [get_set_ne (Ne.symm h1)] at q1
    rw [get_set_ne (Ne.symm h2)] at q2
    exact h.apart i i' b l l' e1' e2' q1 q2
  · rcases ei with ei | ei
    · obtain ⟨hi, e'⟩ := nep i _ ei (by intro z; cases z)
      rw [get_set_ne (Ne.symm hi)] at qi
      exact h.loc i l b (.inl e') qi
    · obtain ⟨hi, e'⟩ := nep i _ ei (by intro z; cases z)
      rw [get_set_ne (Ne.symm hi)] at qi
      exact h.loc i l b (.inr e') qi
  · obtain ⟨hi, e'⟩ := nep i _ ei (by intro z; cases z)
    rw [get_set_ne (Ne.symm hi)] at qi
    exact h.par i l b e' qi
  · have hi : i ≠ j := fun z => by subst z; rw [e] at ei; cases ei; cases hy
    exact ⟨⟨l, by rw [get_set_ne (Ne.symm hi)]; exact ei⟩, get_set_ne (Ne.symm hi)⟩
  · have hi : i ≠ j := fun z => by subst z; rw [e] at ei; cases ei; cases hy
    exact ⟨by rw [get_set_ne (Ne.symm hi)]; exact ei, get_set_ne (Ne.symm hi)⟩
open PySem PySem.Spec PyProof.Rows L2 PySem.W
noncomputable def mTry (fs : ML) (n : Nat) (m : List D → Option Str) (nm : Str) (ρ : MR) : MR := fun r => (fs r).bind fun ds => if ds.length = n ∧ m ds = some nm then ρ r else none
section
variable {X : Cx} {k n : Nat} {fa : Addr} {fd : FuncData} {ps : List Str} {m : List D → Option Str} {x : Str} {a : Expr} {es : List Expr} {fs : ML} {p cpos epos pos yp cp ep ap hpos : Pos} {y en c nm : Str} {CB C : Addr} {i j : Nat} {ρ0 : MR} {ρ : Addr → MR} {rest : List Stmt}
theorem dr_try (hN : X.N.Nodup) (hstk : X.stack = X.env :: X.outer) (hfr : X.env.frame = some X.env.locals)
    (F : FnOk X.prog X.w X.K X.mg X.base (CX1 X.prog X.w) k fa fd ps (spX X.K X.mg n m)) (hr : Room k X.A) (hg : Gl X x) (hm : X.mg x = some (.ref fa)) (hk : PySem.W.keepIn X.K (.ref fa) = true) (hb : Binds X.K fd ps [])
    (ha : ∀ E, DA (X.wish E) (a :: es) fs) (hgy : Gl X y) (hmy : X.mg y = some (.ref CB)) (hnm : X.mg nm = some (.ref C)) (hx : exmOne X.K (.ref C) (.ref CB) = some true)
    (hi : X.N[i]? = some c) (hj : X.N[j]? = some en) (hci : Loc X.env.scope c) (hcf : X.fn c = true ∨ X.env.scope.names.lookup c = some .local) (hen : X.env.scope.names.lookup en = some .local) (hek : X.env.kindOf en = some .local) (hij : i ≠ j)
    (hfre : ∀ r d, ρ0 r = some d → (∃ z, r[i]? = some z ∧ fre z) ∧ ∃ z, r[j]? = some z ∧ fre z) (hρ : ∀ e r d, ρ0 r = some d → ρ e ((r.set i (.v (.ref e))).set j .un) = some d)
    (hrest : ∀ e oe, oe.cls = .ref C → DRs (Cx.pinned X (e, oe)) rest (ρ e))
    (hdb : (x == ("__debug__" : Str)) = false := by decide) (hdy : (y == ("__debug__" : Str)) = false := by decide) (he : starEach (a :: es) X.env = (false, eval a X.env) :: starEach es X.env := by rfl) (hpl : (backTo cpos (starEach es X.env)).any (·.1) = false := by rfl)
    (hsw : swapsWith (.Call (.Name x p) (a :: es) [] cpos) none epos.line X.env = pure false := by rfl) (hsw2 : swapsWith (.Name en ep) (some (.Name c cp)) ap.line X.env = pure false := by rfl) (hde : (en == ("__debug__" : Str)) = false := by decide) (hcd : (en == ("__classdict__" : Str)) = false := by decide) :
    DRs X (.Try [.Expr (.Call (.Name x p) (a :: es) [] cpos) epos] [.ExceptHandler (some (.Name y yp)) (some en) [.Assign [.Name c cp] (.Name en ep) ap] hpos] [] [] pos :: rest) (mTry fs n m nm ρ0) := by
  intro pins s σ H D I hq
  obtain ⟨O0, r, d, hR, e0, q⟩ := hq
  obtain ⟨ds, e1, e2⟩ := bind_some e0
  split at e2
  · rename_i hmm
    obtain ⟨⟨z1, hz1, fz1⟩, ⟨z2, hz2, fz2⟩⟩ := hfre r d e2
    refine wpAny_execs_cons (wpAny_Try_except ?_)
    refine wpAny_execs_cons ?_
    let Ex : Value → Shared → Prop := fun e s₁ => wpAny (model X.prog X.w) X.A (noteFrame e X.env) (fun _ s₂ => wpAny (model X.prog X.w) X.A (setFlight e none) (fun _ s₃ => wpAny (model X.prog X.w) X.A (handleBy e X.env [.ExceptHandler (some (.Name y yp)) (some en) [.Assign [.Name c cp] (.Name en ep) ap] hpos])
      (fun f s₁ => match f with | .next => wpAny (model X.prog X.w) X.A (execs rest X.env) (SP X pins D) X.xe s₁ | f => SP X pins D f s₁) X.xe s₃) X.xe s₂) X.xe s₁
    refine wpAny_Expr_any (call_raised (X := X.wish Ex) F hr hg hm hk hb (ha Ex) (I.wish Ex) hR e1 hmm.1 hmm.2 ?_ ⟨C, hnm⟩ hdb he hpl) I.quiet hsw
    intro s1 H1 s' e C' B a0 H' I1 sm ho hg' hC' hfl hn hland
    have I1' := I1.unwish
    rw [hnm] at hC'; cases hC'
    have inv : ∀ (h : Heap) (t : Nat) , B.StaysIn h → s'.heap.UpToSlots h → Inv X pins σ H' { s' with heap := h, toks := t } := fun h t b1 b2 => by
      obtain ⟨u, ok⟩ := hland h b1 b2
      exact I1'.call' (s' := { s' with heap := h, toks := t }) (ch := []) ho u ok hg' fun b z => absurd z (by simp)
    have hfrs : X.A.frames = some (X.env :: X.outer) := by rw [← hstk]; exact I.ok.frames
    have hfl' : Heap.FlyingW B (X.env :: X.outer) e (.ref C) a0 s'.heap := by rw [← hstk]; exact hfl
    show wpAny (model X.prog X.w) X.A (noteFrame (.ref e) X.env) _ X.xe s'
    refine wpAny_looks_onW hfrs hfr hfl' fun h4 held4 u4 => ?_
    refine wpAny_landsW held4 fun h5 fly5 u5 => ?_
    have I5 := inv h5 s'.toks fly5.1 (u4.trans u5)
    let Ey := notedBy (model X.prog X.w) (X.A.mark (some (.ref e))) X.env (cameBackBy (model X.prog X.w) X.A X.env X.xe)
    refine wpAny_handleBy_cons (codeAny_handlers_test (ld_glob (X := Cx.held X e Ey) (Inv.held I5 e Ey) hgy hmy ?_ hdy)) (by intro z; cases z)
    have lt : Looks (model X.prog X.w) h5 (typeOf (.ref e)) (.ref C) := by
      obtain ⟨ob, hob, hc⟩ := fly5.there
      rw [← hc]
      exact Looks.andThen (Looks.ld hob) .now
    refine (exm_one I5.kIn lt hx).here ?_
    rw [if_pos rfl]
    refine codeAny_handlers_suite_as (lands_againW fly5 fun h6 fly6 u6 => ?_)
    have I6 := inv h6 s'.toks fly6.1 ((u4.trans u5).trans u6)
    obtain ⟨oe, vs, he6, hcls, hdat, _⟩ := fly6.first
    have hne : e ≠ X.env.locals := fun z => by
      obtain ⟨m', ⟨oL, _, _, hoL, hdL, _⟩, _⟩ := I6.loc
      rw [← z, he6] at hoL; cases hoL
      rw [hdat] at hdL; cases hdL
    have hnf : e ∉ X.fs := fun z => by
      obtain ⟨_, o, ho', hd'⟩ := I6.funs.mem z
      rw [he6] at ho'; cases ho'
      exact hd' vs hdat
    have I7 : Inv X ((e, oe) :: pins) σ H' _ := I6.pins_of fun p hp => by
      rcases List.mem_cons.mp hp with rfl | hp
      · exact ⟨he6, hn, hne, hnf, fun v z => by rw [hdat] at z; cases z⟩
      · exact I6.pin p (List.mem_append_right _ hp)
    refine store_ok (X := Cx.held X e fun _ _ => False) (v := .ref e) (Inv.held I7 e _) hN hj (.inl hen) (show L2.RelV (V.ref e) (Value.ref e) from rfl) (fun s8 I8 => ?_) (.inr hen)
    obtain ⟨hj1, hj2⟩ := List.getElem?_eq_some_iff.mp hz2
    obtain ⟨hi1, hi2⟩ := List.getElem?_eq_some_iff.mp hz1
    refine wpAny_mono (pss_one (ps_set (X := Cx.held X e _) hN hi hci (pe_var hj (.inl hen) hde hcd) hsw2 hcf) ((e, oe) :: pins) s8 (σ.set j (some (.ref e))) H' ⟨fun σ' H2 => σ' = (σ.set j (some (.ref e))).set i (some (.ref e)) ∧ H2 = H', fun _ _ => False, fun _ _ => False, fun _ _ => False⟩ I8 ⟨.ref e, by rw [List.getElem?_set_self (by rw [← hR.len]; exact hj1)], rfl, rfl⟩) (fun f s9 h9 => ?_) fun _ _ z => False.elim z
    cases f with
    | brk => obtain ⟨_, _, _, z⟩ := h9; exact z.elim
    | cont => obtain ⟨_, _, _, z⟩ := h9; exact z.elim
    | ret u => obtain ⟨_, _, _, _, _, z⟩ := h9; exact z.elim
    | next =>
      obtain ⟨σ9, H9, I9, rfl, rfl⟩ := h9
      have I9' := Inv.unheld I.ok I9
      refine goes_ok I9' hN hj hen hek fun s10 I10 => ?_
      have R1 := ((hR.same sm).setv hj1 (fun l => ⟨fun z => by rw [hz2] at z; cases z; exact fz2, fun z => by rw [hz2] at z; cases z; exact fz2⟩) (d := .ref e) (v := .ref e) (by rw [Is.ref_iff]))
      have nei : (r.set j (.v (.ref e)))[i]? = some z1 := by rw [get_set_ne (Ne.symm hij)]; exact hz1
      have R2 := R1.1.setv (i := i) (by simpa using hi1) (fun l => ⟨fun z => by rw [nei] at z; cases z; exact fz1, fun z => by rw [nei] at z; cases z; exact fz1⟩) (d := .ref e) (v := .ref e) (by rw [Is.ref_iff])
      have R3 := R2.1.unset (j := j) (y := .v (.ref e)) (by rw [get_set_ne hij, get_set_eq hj1]) trivial
      have er : ((r.set j (.v (.ref e))).set i (.v (.ref e))).set j .un = (r.set i (.v (.ref e))).set j .un := by
        rw [List.set_comm _ _ (Ne.symm hij), List.set_set]
      rw [er] at R3
      have kk := (((Kp.of_same r σ sm).trans R1.2).trans R2.2).trans R3.2
      exact wpAny_mono (hrest e oe hcls pins s10 _ H9 D (Inv.pinned I10) ⟨O0, _, d, R3.1, hρ e r d e2, fun v σ' H2 r' R' k' i' => q v σ' H2 r' R' (kk.trans k') i'⟩) (fun f s' z => SP.unpinned z) fun _ _ z => z
  · cases e2
end
open PySem PySem.Spec PyProof.Rows L2 PySem.W PySem.Calls Builtin Builtin.ObjectAttr Builtin.Getset_descriptor
structure ExcK (K : Fg) (C : Addr) : Prop where
  cls : (clsIn K C).isSome = true
  ga : findIn K (.ref C) "__getattribute__" = some (some (.builtin "BaseException.__getattribute__"))
  gt : findIn K (.ref C) "__getattr__" = some none
  ca : findIn K (.ref C) "__class__" = some (some (.builtin "object.__class__"))
  sub : subIn K (.ref C) (.type "BaseException") = some true
  sbo : mroIn K C (.type "object") = some true
section
variable {prog : Program} {w : World} {A : Around} {E : Value → Shared → Prop} {h : Heap} {g : Array GenState} {d : Drawn} {t : Nat} {os : OsState} {a C : Addr} {o : Obj} {K : Fg}
theorem xc_ty {M : Model} (hx : h.get? a = some o) (hc : o.cls = .ref C) : Looks M h (typeOf (.ref a)) (.ref C) := hc ▸ (Looks.ld hx).andThen .now
theorem xc_get {tp : Value} {R : Result → Shared → Prop} (X : K.In h) (Z : ExcK K C) (hx : h.get? a = some o) (hc : o.cls = .ref C) (hq : R (.ok (.ret (.ref C))) ⟨h, g, d, t, os⟩) :
    codeAny (model prog w) A (.call (.builtin "getset_descriptor.__get__") ⟨[.builtin "object.__class__", .ref a, tp], []⟩) R ⟨h, g, d, t, os⟩ := by
  have LT := xc_ty (M := model prog w) hx hc
  have LM := looks_mroIn (M := model prog w) X Z.sbo
  have tc : (⟨h, g, d, t, os⟩ : Shared).TypeIs (.builtin "object.__class__") "getset_descriptor" := KF.type_class
  refine codeAny_call_builtin KF.slot_gs.plain KF.entry_gs ?_
  refine KF.slot_gs.check _ _ _ _ _ _ _ _ tc (KF.args_gs _ _ _) ?_
  unfold Builtin.«getset_descriptor.__get__»
  unfold descrGet
  rw [dga_obj]
  refine wpAny_bind ?_
  refine wpAny_pure ?_
  unfold descrGetter descrCheckInstance
  unfold descrNameAndClass isInstance
  simp only [KF.owner_class]
  repeat lk
  refine And.intro (Code.quiet_builtin _ (by decide +kernel)) ?_
  refine codeAny_builtin KF.entry_class ?_
  unfold Builtin.«object.__class__»
  unfold shownTypeOf
  repeat lk
  exact hq
theorem xc_entry {tk : Tok} {Q : Fin → Shared → Prop} (X : K.In h) (Z : ExcK K C) (hx : h.get? a = some o) (hc : o.cls = .ref C) (hq : Q (.done (.ret (.ref C))) ⟨h, g, d, t, os⟩) : wpAny (model prog w) A (Builtin.«object.__getattribute__» ⟨[.ref a, .str "__class__" tk], []⟩) Q E ⟨h, g, d, t, os⟩ := by
  have y0 : (⟨h, g, d, t, os⟩ : Shared).TypeIs (.builtin "object.__class__") "getset_descriptor" := F.typeOf_object_class
  have LT := xc_ty (M := model prog w) hx hc
  have LC := looks_findIn (M := model prog w) X Z.ca
  have y1 := F.typeOf_object_class; have y2 := F.slot_gs_get.lookup; have y3 := F.slot_gs_set.lookup
  repeat (any_goals (first | assumption | (with_reducible refine wpAny_loadPart_at hx ?_; rw [hc]) | (with_reducible refine LC.at ?_) | wp_step))
  refine xc_get X Z hx hc ?_; repeat (any_goals (first | assumption | wp_step))
theorem xc_check {M : Model} {nameV : Value} {Q : Unit → Shared → Prop} (X : K.In h) (Z : ExcK K C) (hx : h.get? a = some o) (hc : o.cls = .ref C) (hq : Q () ⟨h, g, d, t, os⟩) :
    wpAny M A (checkBuiltinCall "BaseException.__getattribute__" ⟨[.ref a, nameV], []⟩) Q E ⟨h, g, d, t, os⟩ := by
  have hkd : builtinKind "BaseException.__getattribute__" = some .slot := by decide +kernel
  have hsp : splitId "BaseException.__getattribute__" = some ("BaseException", "__getattribute__") := by decide +kernel
  have LS := looks_subIn (M := M) X Z.sub
  have har := F.args_bexc_ga (.ref a) nameV
  simp only [checkBuiltinCall, hkd, hsp]
  refine wpAny_bind ?_
  · unfold isInstance
    repeat (first | (with_reducible refine wpAny_loadPart_at hx ?_; rw [hc]) | (with_reducible refine LS.at ?_) | wp_step)
    exact hq
theorem xc_call {tk : Tok} {R : Result → Shared → Prop} (X : K.In h) (Z : ExcK K C) (hx : h.get? a = some o) (hc : o.cls = .ref C) (hq : R (.ok (.ret (.ref C))) ⟨h, g, d, t, os⟩) :
    codeAny (model prog w) A (.call (.builtin "BaseException.__getattribute__") ⟨[.ref a, .str "__class__" tk], []⟩) R ⟨h, g, d, t, os⟩ :=
  codeAny_call_builtin F.attr_ValueError.ga.plain F.entry_bexc_ga (xc_check X Z hx hc (xc_entry X Z hx hc hq))
theorem xc_by {tk : Tok} {fill expr : Bool} {Q : Value → Shared → Prop} (X : K.In h) (Z : ExcK K C) (hx : h.get? a = some o) (hc : o.cls = .ref C) (hq : Q (.ref C) ⟨h, g, d, t, os⟩) :
    wpAny (model prog w) A (getAttrBy (.ref a) (.str "__class__" tk) fill expr) Q E ⟨h, g, d, t, os⟩ := by
  have bd := F.attr_ValueError.ga.bind (.ref a)
  have y0 : (expr && onTheHeap (Value.builtin "BaseException.__getattribute__")) = false := by cases expr <;> rfl
  have y2 : (Value.builtin "BaseException.__getattribute__" == Value.builtin "object.__getattribute__") = false := by decide +kernel
  have y1 : (onTheHeap (Value.ref C) && Value.builtin "BaseException.__getattribute__" == Value.builtin "object.__getattribute__") = false := by rw [y2]; rfl
  have LA := looks_findIn (M := model prog w) X Z.ga
  have LB := looks_findIn (M := model prog w) X Z.gt
  repeat (any_goals (first | assumption | (with_reducible refine wpAny_loadPart_at hx ?_; rw [hc]) | with_reducible refine LA.at ?_ | with_reducible refine LB.at ?_ | wp_step))
  refine xc_call X Z hx hc ?_; repeat (any_goals (first | assumption | wp_step))
theorem xc_attr {Q : Option Value → Shared → Prop} (X : K.In h) (Z : ExcK K C) (hx : h.get? a = some o) (hc : o.cls = .ref C) (hq : Q (some (.ref C)) ⟨h, g, d, t + 1, os⟩) :
    wpAny (model prog w) A (getAttr? (.ref a) "__class__") Q E ⟨h, g, d, t, os⟩ := by
  unfold getAttr? getAttrBy?
  repeat (any_goals (first | assumption | with_reducible apply xc_by X Z hx hc | wp_step))
theorem kitx_exc (Z : ExcK K C) : KitX K (.ref a) (.ref C) (fun h => ∃ o, h.get? a = some o ∧ o.cls = .ref C) where
  ty := fun _ _ _ ⟨_, hx, hc⟩ => xc_ty hx hc
  it := fun _ _ X _ => by
    obtain ⟨cd, hcd⟩ := Option.isSome_iff_exists.mp Z.cls
    unfold clsIn at hcd
    split at hcd
    · rename_i lk
      intro A1 Q1 E1 s1 k q
      unfold isType loadHead
      exact wpAny_bind (wpAny_loadPart (k _ _ (X _ _ lk)) (wpAny_pure q))
    · cases hcd
  ne := fun _ _ _ _ _ _ X htp => by
    obtain ⟨cd, hcd⟩ := Option.isSome_iff_exists.mp Z.cls
    rw [Bool.eq_false_iff]; intro q
    cases Value.ref.inj (beq_iff_eq.mp q)
    unfold clsIn at hcd
    split at hcd
    · rename_i lk
      cases (X _ _ lk).symm.trans htp
    · cases hcd
  ca := fun {_ _ _ _ _ s} X ⟨_, hx, hc⟩ k => by obtain ⟨h, g, d, t, os⟩ := s; exact xc_attr X Z hx hc k
end
open PySem PySem.Spec PyProof.Rows L2 PySem.W
noncomputable def excB (K : Fg) (C : Addr) : Bool := (clsIn K C).isSome && (findIn K (.ref C) "__getattribute__" == some (some (.builtin "BaseException.__getattribute__"))) && (findIn K (.ref C) "__getattr__" == some none)
  && (findIn K (.ref C) "__class__" == some (some (.builtin "object.__class__"))) && (subIn K (.ref C) (.type "BaseException") == some true) && (mroIn K C (.type "object") == some true)
theorem excB_ok {K : Fg} {C : Addr} (e : excB K C = true) : ExcK K C := by
  unfold excB at e
  simp only [Bool.and_eq_true, beq_iff_eq] at e
  obtain ⟨⟨⟨⟨⟨a, b⟩, c⟩, d⟩, f⟩, g⟩ := e
  exact ⟨a, b, c, d, f, g⟩
noncomputable def VEm : List Value := [.type "ValueError", .type "Exception", .type "BaseException", .type "object"]
noncomputable def errB (K : Fg) (fe C : Addr) (yes no : List Value) : Bool := excIn K C VEm "ValueError.__new__" && excB K C && (exmOne K (.ref C) (.ref fe) == some true) && yes.all (fun v => kitOne K (.ref C) v == some true) && no.all (fun v => kitOne K (.ref C) v == some false)
structure ErrK (K : Fg) (fe C : Addr) (yes no : List Value) : Prop where
  exc : excIn K C VEm "ValueError.__new__" = true
  k : ExcK K C
  mt : exmOne K (.ref C) (.ref fe) = some true
  ys : ∀ v ∈ yes, kitOne K (.ref C) v = some true
  ns : ∀ v ∈ no, kitOne K (.ref C) v = some false
theorem errB_ok {K : Fg} {fe C : Addr} {yes no : List Value} (e : errB K fe C yes no = true) : ErrK K fe C yes no := by
  unfold errB at e
  simp only [Bool.and_eq_true, beq_iff_eq, List.all_eq_true] at e
  obtain ⟨⟨⟨⟨a, b⟩, c⟩, d⟩, f⟩ := e
  exact ⟨a, excB_ok b, c, d, f⟩
theorem own_ofK {K : Fg} {base : Heap} {mg : Str → Option Value} {x : Str} {C : Addr} {l : List Value} {id : String} (X : K.In base) (hm : mg x = some (.ref C)) (q : excIn K C l id = true) : OwnCls x C l id mg base := by
  constructor
  · exact hm
  · unfold excIn at q
    split at q
    next dd cd sl lk =>
      split at q
      next C1 bm k0 k1 k2 k3 n k5 em es =>
        simp only [Bool.not_eq_true', beq_iff_eq, Bool.and_eq_true] at q
        obtain ⟨⟨⟨⟨⟨rfl, rfl⟩, q1⟩, q2⟩, q3⟩, q4⟩ := q
        obtain ⟨c1, c2, c3, c4, c5, c6, c7, c8, c9, cA, cB⟩ := cd
        dsimp only at em q1 q3 q4
        subst em q1
        obtain ⟨sll⟩ := sl
        simp only at es
        subst es
        exact ⟨bm, c4, c1, c5, c2, c6, c7, c8, c9, cA, dd, k0, k1, k2, k3, k5, _, X _ _ lk, .of_isNs (isNs_of_in X q3), nsMap_none_of_in X q3 q4, tail_of_in X q2⟩
      next => cases q
    next => cases q
noncomputable def isX (e : Addr) (b : Bool) (d : D) : Option D := match d with
  | .ref a => if a = e then some (.bl b) else none
  | _ => none
section
variable {X : Cx} {a : Expr} {f : ME} {pos : Pos}
theorem call_isx {e C : Addr} {oe : Obj} {v : V} {u : Value} {b : Bool} (hp : (e, oe) ∈ X.pn) (hc : oe.cls = .ref C) (Z : ExcK X.K C) (hv : ∀ u', RelV v u' → u' = u) (hk : kitOne X.K (.ref C) u = some b) : CallR X (.builtin "isinstance") (fun xs H Q => xs = [.ref e, v] ∧ Q (.bl b) H) := by
  intro pins s σ H xs us Q I r h
  obtain ⟨rfl, q⟩ := h
  obtain ⟨x, y, rfl, r1, r2⟩ := Vals.two r
  cases (show x = Value.ref e from r1)
  cases hv y r2
  exact kia_one (kitx_exc (a := e) Z) I.kIn ⟨oe, (I.pin _ (List.mem_append_left _ hp)).1, hc⟩ hk (fun z => nomatch z) fun tk => ⟨.bl b, H, I.tok tk, rfl, q⟩
theorem de_isx {e C : Addr} {oe : Obj} {v : V} {u : Value} {b : Bool} {p' pt : Pos} {x : Str} (hp : (e, oe) ∈ X.pn) (hc : oe.cls = .ref C) (Z : ExcK X.K C) (hv : ∀ u', RelV v u' → u' = u) (hk : kitOne X.K (.ref C) u = some b)
    (hg : Gl X "isinstance") (hm : X.mg "isinstance" = none) (ha : DE X a f) (hT : PE X (.Name x pt) (tC v)) (hs : starEach [a, .Name x pt] X.env = (false, eval a X.env) :: starEach [.Name x pt] X.env := by rfl) (hs2 : starEach [.Name x pt] X.env = (false, eval (.Name x pt) X.env) :: starEach [] X.env := by rfl) :
    DE X (.Call (.Name "isinstance" p') [a, .Name x pt] [] pos) (mUn (isX e b) f) := by
  refine PE.conseq (pe_callB (call_isx hp hc Z hv hk) hg hm PyProof.Rows.boot_isinstance (pa_cons ha (pa_cons hT pa_nil hs2) hs) (he := hs)) fun σ H Q h => ?_
  obtain ⟨O0, r, d, hR, e0, q⟩ := h
  obtain ⟨y, e1, e2⟩ := bind_some e0
  cases y <;> first | (cases e2; done) | skip
  rename_i c
  simp only [isX] at e2
  split at e2
  · rename_i hce
    subst hce
    cases e2
    exact ⟨O0, r, _, hR, e1, fun v' H1 s1 i1 => ⟨by rw [Is.ref_iff] at i1; rw [i1], q _ H1 s1 (by rw [Is.bl_iff])⟩⟩
  · cases e2
theorem de_isxC {e C D : Addr} {oe : Obj} {b : Bool} {p' pt : Pos} {x : Str} (hp : (e, oe) ∈ X.pn) (hc : oe.cls = .ref C) (Z : ExcK X.K C) (hk : kitOne X.K (.ref C) (.ref D) = some b) (hgx : Gl X x) (hmx : X.mg x = some (.ref D))
    (hg : Gl X "isinstance") (hm : X.mg "isinstance" = none) (ha : DE X a f) (hd : (x == ("__debug__" : Str)) = false := by decide) (hs : starEach [a, .Name x pt] X.env = (false, eval a X.env) :: starEach [.Name x pt] X.env := by rfl) (hs2 : starEach [.Name x pt] X.env = (false, eval (.Name x pt) X.env) :: starEach [] X.env := by rfl) :
    DE X (.Call (.Name "isinstance" p') [a, .Name x pt] [] pos) (mUn (isX e b) f) :=
  de_isx hp hc Z (v := .ref D) (u := .ref D) (fun _ z => z) hk hg hm ha (pe_glob hgx hmx rfl hd) hs hs2
end
open PySem PySem.Spec PyProof.Rows L2 PySem.W
theorem boot_VE : bootBuiltins "ValueError" = some (.type "ValueError") := by decide +kernel
section
variable {X : Cx} {E : XK} {st : List Stmt} {x y : MX}
noncomputable def xOr (x y : MX) : MX := fun r => match x r with
  | some n => some n
  | none => y r
noncomputable def rOr (p q : MR) : MR := fun r => match p r with
  | some d => some d
  | none => q r
theorem dr_or {p q : MR} (h1 : DRs X st p) (h2 : DRs X st q) : DRs X st (rOr p q) := fun pins s σ H D I ⟨O0, r, n, hR, e, z⟩ => by
  unfold rOr at e
  split at e
  · rename_i m hx
    cases e
    exact h1 pins s σ H D I ⟨O0, r, n, hR, hx, z⟩
  · exact h2 pins s σ H D I ⟨O0, r, n, hR, e, z⟩
end
section
variable {P : Program} {w : World} {K : Fg} {mg : Str → Option Value} {base : Heap} {N : List Str} {qual : Str} {scope : Scope} {f : Addr} {cd : Value} {A : Around} {outer : List Env} {s : Shared} {H : Hp} {E : XK}
theorem xs_raiseK {x : Str} {C : Addr} {a : Expr} {g : ME} {np cpos pos : Pos} (hmx : mg x = some (.ref C)) (hex : excIn K C VEm "ValueError.__new__" = true) (hg : Gl (cxOf (CX1 P w) P w K mg base N qual scope f cd A outer s H E) x)
    (ha : DE (cxOf (CX1 P w) P w K mg base N qual scope f cd A outer s H E) a g)
    (hs : starEach [a] (cxOf (CX1 P w) P w K mg base N qual scope f cd A outer s H E).env = (false, eval a (cxOf (CX1 P w) P w K mg base N qual scope f cd A outer s H E).env) :: starEach [] (cxOf (CX1 P w) P w K mg base N qual scope f cd A outer s H E).env := by rfl)
    (hdb : (x == ("__debug__" : Str)) = false := by decide) :
    XS (cxOf (CX1 P w) P w K mg base N qual scope f cd A outer s H E) E (.Raise (some (.Call (.Name x np) [a] [] cpos)) none pos) (xRaise x g) := fun pins s1 σ H1 D I h =>
  xs_raise (own_ofK (K := K) (l := VEm) (id := "ValueError.__new__") I.ok.mod.kin hmx hex) PySem.F.excBase_ValueError hg ha hs hdb pins s1 σ H1 D I h
end
noncomputable def freB : Sl → Bool
  | .un => true
  | .v _ => true
  | _ => false
noncomputable def rho0 (n i j : Nat) (d : D) : MR := fun r => if r.length = n ∧ (r[i]?).any freB = true ∧ (r[j]?).any freB = true then some d else none
theorem rho0_some {n i j : Nat} {d d' : D} {r : En} (h : rho0 n i j d r = some d') : r.length = n ∧ (r[i]?).any freB = true ∧ (r[j]?).any freB = true ∧ d = d' := by
  unfold rho0 at h
  split at h
  · rename_i hh; cases h; exact ⟨hh.1, hh.2.1, hh.2.2, rfl⟩
  · cases h
theorem rho0_fre (n i j : Nat) (d : D) : ∀ r d', rho0 n i j d r = some d' → (∃ z, r[i]? = some z ∧ fre z) ∧ ∃ z, r[j]? = some z ∧ fre z := by
  intro r d' h
  obtain ⟨_, h1, h2, _⟩ := rho0_some h
  have go : ∀ (o : Option Sl), o.any freB = true → ∃ z, o = some z ∧ fre z := fun o ho => by
    cases o with
    | none => cases ho
    | some z => cases z <;> first | exact ⟨_, rfl, trivial⟩ | cases ho
  exact ⟨go _ h1, go _ h2⟩
open PySem PySem.Spec PyProof.Rows L2 PySem.W
open PySem PySem.Spec PyProof.Rows L2 PySem.W
open PySem PySem.Spec PyProof.Rows L2 PySem.W
structure LeftX (H : Hp) (r : En) (σ : St) (H' : Hp) : Prop where
  keep : Keep (MutAt r σ) H H'
  live : ∀ b, H' b = none → H b = none
  lst : ∀ b xs, H b = some (.lst xs) → ∃ ys, H' b = some (.lst ys)
theorem Kp.left {H H' : Hp} {r r' : En} {σ σ' : St} (k : Kp H r σ H' r' σ') : LeftX H r σ H' := ⟨k.keep, k.live, k.lst⟩
theorem LeftX.behind {H H1 H2 : Hp} {r r1 : En} {σ σ1 : St} (k : Kp H r σ H1 r1 σ1) (l : LeftX H1 r1 σ1 H2) : LeftX H r σ H2 :=
  ⟨fun c o e n => l.keep c o (k.keep c o e n) fun z => (k.mnew c z).elim n fun q => (by rw [e] at q; cases q), fun b e => k.live b (l.live b e), fun b xs e => (by obtain ⟨ys, q⟩ := k.lst b xs e; exact l.lst b ys q)⟩
theorem LeftX.after {H H1 H2 : Hp} {r : En} {σ : St} (s : Same H H1) (l : LeftX H1 r σ H2) : LeftX H r σ H2 := l.behind (Kp.of_same r σ s)
noncomputable def lY (K : Fg) (mg : Str → Option Value) (E : XK) (x : MX) (σ : St) (H : Hp) : Prop := ∃ O0 r n, R K O0 H r σ ∧ x r = some n ∧ ∀ C H', mg n = some (.ref C) → LeftX H r σ H' → E (.ref C) none H'
noncomputable def YE (X : Cx) (E : XK) (e : Expr) (x : MX) : Prop := PE X e (fun σ H _ => lY X.K X.mg E x σ H)
noncomputable def YA (X : Cx) (E : XK) (es : List Expr) (x : MX) : Prop := PA X es (fun σ H _ => lY X.K X.mg E x σ H)
noncomputable def YS (X : Cx) (E : XK) (st : Stmt) (x : MX) : Prop := PS X st (fun _ σ H => lY X.K X.mg E x σ H)
noncomputable def YSs (X : Cx) (E : XK) (st : List Stmt) (x : MX) : Prop := PSs X st (fun _ σ H => lY X.K X.mg E x σ H)
theorem lY.pre {K : Fg} {mg : Str → Option Value} {E : XK} {x : MX} {σ : St} {H H1 : Hp} {O0 : Addr → Prop} {r : En} {n : Str} (hR : R K O0 H r σ) (s : Same H H1) (e : x r = some n) (q : ∀ C H', mg n = some (.ref C) → LeftX H r σ H' → E (.ref C) none H') : lY K mg E x σ H1 :=
  ⟨O0, r, n, hR.same s, e, fun C H' hm l => q C H' hm (l.after s)⟩
section
variable {X : Cx} {E : XK} {st : Stmt} {rest : List Stmt} {x y : MX} {g : MS} {pos : Pos} {a : Expr} {es : List Expr} {f : ME}
theorem YS.of (h : XS X E st x) : YS X E st x := PS.conseq h fun D σ H ⟨O0, r, n, hR, e, q⟩ => ⟨O0, r, n, hR, e, fun C H' r' σ' hm R' k' => q C H' hm k'.left⟩
theorem yss_no : YSs X E rest xNone := fun pins s σ H D I ⟨O0, r, n, hR, e, _⟩ => by cases e
theorem yss_or (h1 : YSs X E rest x) (h2 : YSs X E rest y) : YSs X E rest (xOr x y) := fun pins s σ H D I ⟨O0, r, n, hR, e, q⟩ => by
  unfold xOr at e
  split at e
  · rename_i m hx
    cases e
    exact h1 pins s σ H D I ⟨O0, r, n, hR, hx, q⟩
  · exact h2 pins s σ H D I ⟨O0, r, n, hR, e, q⟩
theorem yss_here (h : YS X E st x) : YSs X E (st :: rest) x := PSs.conseq (pss_cons h (pss_none (rest := rest))) fun D σ H q => q
theorem yss_later (h : DS X st g) (h2 : YSs X E rest x) : YSs X E (st :: rest) (xThen g x) := by
  refine PSs.conseq (pss_cons h h2) fun Dn σ H hq => ?_
  obtain ⟨O0, r, n, hR, e, q⟩ := hq
  obtain ⟨fl, e1, e2⟩ := bind_some e
  cases fl <;> first | (cases e2; done) | skip
  rename_i r1
  exact ⟨O0, r, .nx r1, hR, e1, fun σ1 H1 R1 k1 => ⟨O0, r1, n, R1, e2, fun C H2 hm l2 => q C H2 hm (l2.behind k1)⟩⟩
theorem ys_if {c : Expr} {sa sb : List Stmt} {tc : MB} (hc : DT X c tc) (ha : YSs X E sa x) (hb : YSs X E sb y) : YS X E (.If c sa sb pos) (xIf tc x y) := by
  refine PS.conseq (ps_if hc ha hb) fun Dn σ H hq => ?_
  obtain ⟨O0, r, n, hR, e, q⟩ := hq
  obtain ⟨b, e1, e2⟩ := bind_some e
  refine ⟨O0, r, b, hR, e1, fun H1 s1 => ?_⟩
  cases b with
  | true => rw [if_pos rfl] at e2; exact iteT (lY.pre hR s1 e2 q)
  | false => rw [if_neg Bool.false_ne_true] at e2; exact iteF (lY.pre hR s1 e2 q)
theorem ys_expr (he : YE X E a x) (hs : swapsWith a none pos.line X.env = pure false := by rfl) : YS X E (.Expr a pos) x := PS.conseq (ps_expr he hs) fun _ _ _ h => h
theorem pa_none : PA X es (fun _ _ _ => False) := fun _ _ _ _ _ _ _ h => h.elim
theorem ya_here (he : YE X E a x) (hs : starEach (a :: es) X.env = (false, eval a X.env) :: starEach es X.env := by rfl) : YA X E (a :: es) x := PA.conseq (pa_cons he (pa_none (es := es)) hs) fun _ _ _ h => h
end
noncomputable def spY (K : Fg) (mg : Str → Option Value) (n : Nat) (m : List Sl → Option Str) : Sp := fun vs H _ E => ∃ O0 as nm, as.length = n ∧ R K O0 H as (vs.map some) ∧ m as = some nm ∧ ∀ C H', mg nm = some (.ref C) → LeftX H as (vs.map some) H' → E (.ref C) none H'
noncomputable def mkY (n N : Nat) (x : MX) : List Sl → Option Str := fun as => x (as ++ List.replicate (N - n) .un)
section
variable {P : Program} {w : World} {K : Fg} {mg : Str → Option Value} {base : Heap}
theorem fn_y {x qual : Str} {st : Stmt} {f : Addr} {fd : FuncData} {N ps : List Str} {k : Nat} {m : MX} (F : Fun K x qual st f fd) (S : FnScope N ps (defScope st)) (n : Nat) (nN : Nat) (hn : ps.length = n := by rfl) (hN : N.length = nN := by rfl)
    (hb : ∀ (cdv : Value) (A : Around) (outer : List Env) (s : Shared) (H : Hp) (E : XK), Room k (A.deeper (envOfC qual (defScope st) s.heap.objs.size f cdv)) →
      YSs (cxOf (CX1 P w) P w K mg base N qual (defScope st) f cdv A outer s H E) E (defBody st) m) : FnOk P w K mg base (CX1 P w) (k + 1) f fd ps (spY K mg n (mkY n nN m)) := by
  subst hn hN
  obtain ⟨oc, od, kV, doc, pm, an, cdv, ct, osl, rfl, lk, hcd⟩ := F.ex
  refine fn_of lk hcd S (fun vs H Q E h => ?_) fun A outer s H vs Q E hr h => ?_
  · obtain ⟨O, as, nm, hl, hR, _⟩ := h
    have := hR.len
    simp at this; omega
  · obtain ⟨O, as, nm, hl, hR, e, q⟩ := h
    have hlv : as.length = vs.length := by simpa using hR.len
    refine ⟨_, hb cdv A outer s H E hr, ?_⟩
    have hst : L2.start N vs = vs.map some ++ List.replicate (N.length - ps.length) none := by unfold L2.start; rw [← hlv, hl]
    rw [hst]
    refine ⟨O, _, nm, R.start (k := N.length - ps.length) hR, e, fun C H' hm l => q C H' hm ⟨fun b o eb nb => l.keep b o eb fun z => nb ((own_start rfl hlv).mp z), l.live, l.lst⟩⟩
theorem spY_X {k n : Nat} {f : Addr} {fd : FuncData} {ps : List Str} {m : List Sl → Option Str} (F : FnOk P w K mg base (CX1 P w) k f fd ps (spY K mg n m)) : FnOk P w K mg base (CX1 P w) k f fd ps (spX K mg n fun ds => m (ds.map .v)) :=
  F.imp fun vs H Q E ⟨O, ds, nm, hl, ol, il, e, q⟩ => ⟨O, ds.map .v, nm, by simpa using hl, R.args ol il, e, fun C H' hm l => q C H' hm fun b o eb => l.keep b o eb own_none⟩
end
section
variable {P : Program} {w : World} {K : Fg} {mg : Str → Option Value} {base : Heap} {N : List Str} {qual : Str} {scope : Scope} {f : Addr} {cd : Value} {A : Around} {outer : List Env} {s : Shared} {H : Hp} {E : XK}
theorem pass1 : Passes (CX1 P w) (cxOf (CX1 P w) P w K mg base N qual scope f cd A outer s H E) E := by
  intro pins σ H1 s1 e s' I ⟨ea, C, B, a0, H2, he, ho, hg, hfl, hn, hE, hland⟩
  subst he
  let X := cxOf (CX1 P w) P w K mg base N qual scope f cd A outer s H E
  show wpAny _ _ (leaving X.env (.ref ea)) _ _ s'
  refine wpAny_leaves_onW (env := X.env) (outer := outer) I.ok.frames rfl hfl fun h' fl' u' => ?_
  refine ⟨ea, C, B, a0, H2, rfl, ?_, hg, fl', hn, hE, fun h hB hu => ?_⟩
  · exact ho.trans I.os
  · obtain ⟨u, ok⟩ := hland h hB (u'.trans hu)
    have I' := I.call' (s' := { s' with heap := h }) (ch := []) ho u ok hg fun b z => absurd z (by simp)
    exact ⟨I'.base, I'.hok⟩
end
open PySem PySem.Spec PyProof.Rows L2 PySem.W
noncomputable def yCall (n : Nat) (m : List Sl → Option Str) (fs : ML) : MX := fun r => (fs r).bind fun ds => if ds.length = n then m (ds.map .v) else none
section
variable {P : Program} {w : World} {K : Fg} {mg : Str → Option Value} {base : Heap} {N : List Str} {qual : Str} {scope : Scope} {f0 : Addr} {cd : Value} {A : Around} {outer : List Env} {s : Shared} {H : Hp} {E : XK}
variable {k n : Nat} {fa : Addr} {fd : FuncData} {ps : List Str} {m : List Sl → Option Str} {x : Str} {p pos : Pos} {a : Expr} {es : List Expr} {fs : ML}
theorem ye_call (F : FnOk P w K mg base (CX1 P w) k fa fd ps (spY K mg n m)) (hr : Room k (cxOf (CX1 P w) P w K mg base N qual scope f0 cd A outer s H E).A) (hg : Gl (cxOf (CX1 P w) P w K mg base N qual scope f0 cd A outer s H E) x) (hm : mg x = some (.ref fa)) (hk : PySem.W.keepIn K (.ref fa) = true) (hb : Binds K fd ps []) (ha : DA (cxOf (CX1 P w) P w K mg base N qual scope f0 cd A outer s H E) (a :: es) fs)
    (hdb : (x == ("__debug__" : Str)) = false := by decide) (he : starEach (a :: es) (cxOf (CX1 P w) P w K mg base N qual scope f0 cd A outer s H E).env = (false, eval a (cxOf (CX1 P w) P w K mg base N qual scope f0 cd A outer s H E).env) :: starEach es (cxOf (CX1 P w) P w K mg base N qual scope f0 cd A outer s H E).env := by rfl) (hpl : (backTo pos (starEach es (cxOf (CX1 P w) P w K mg base N qual scope f0 cd A outer s H E).env)).any (·.1) = false := by rfl) :
    YE (cxOf (CX1 P w) P w K mg base N qual scope f0 cd A outer s H E) E (.Call (.Name x p) (a :: es) [] pos) (yCall n m fs) := by
  refine PE.conseq (pe_call (E := E) (dvs := []) F hr hg hm hk hb .nil pass1 ha hdb he hpl) fun σ H Q h => ?_
  obtain ⟨O0, r, nm, hR, e, q⟩ := h
  obtain ⟨ds, e1, e2⟩ := bind_some e
  split at e2
  · rename_i hl
    refine ⟨O0, r, ds, hR, e1, fun vs H1 s1 il => ?_⟩
    show spY K mg n m (vs ++ []) H1 Q E
    rw [List.append_nil]
    exact ⟨Ow O0 r σ, ds.map .v, nm, by simpa using hl, R.args (hR.same s1).ol il, e2, fun C H' hm l => q C H' hm ⟨fun b o eb _ => l.keep b o (s1 b o eb) own_none, fun b eb => s1.free (l.live b eb), fun b xs eb => l.lst b xs (s1 b _ eb)⟩⟩
  · cases e2
end
theorem pss_both {X : Cx} {st : List Stmt} {t u : TS} (h1 : PSs X st t) (h2 : PSs X st u) : PSs X st (fun D σ H => t D σ H ∨ u D σ H) := fun pins s σ H D I h => h.elim (h1 pins s σ H D I) (h2 pins s σ H D I)
noncomputable def yForL (bd : D → En → Option En) (g : MS) (x : MX) : List D → MX
  | [], _ => none
  | d :: l, r => (bd d r).bind fun r1 => match x r1 with
    | some n => some n
    | none => (g r1).bind fun fl => match fl with
      | .nx r' => yForL bd g x l r'
      | .ct r' => yForL bd g x l r'
      | _ => none
noncomputable def yFor (bd : D → En → Option En) (it : ML) (g : MS) (x : MX) : MX := fun r => (it r).bind fun l => yForL bd g x l r
noncomputable def yWhile : Nat → MB → MS → MX → MX
  | 0, _, _, _ => fun _ => none
  | n + 1, c, g, x => fun r => (c r).bind fun b => if b = true then match x r with
    | some nm => some nm
    | none => (g r).bind fun fl => match fl with
      | .nx r' => yWhile n c g x r'
      | .ct r' => yWhile n c g x r'
      | _ => none
    else none
section
variable {X : Cx} {E : XK} {pos : Pos} {tg iter : Expr} {bd : D → En → Option En} {it : ML} {g : MS} {x : MX} {body : List Stmt}
theorem ys_for (hp : PassesOwn (model X.prog X.w) X.A X.env X.xe) (hc : X.calm = true) (hi : DI X tg iter it) (hg : DG X tg bd) (hb : DSs X body g) (hx : YSs X E body x) (hs : ∀ x, foldedSetIterable iter X.env x = pure x := by intro _; rfl) :
    YS X E (.For tg iter body [] pos) (yFor bd it g x) := by
  refine PS.conseq (ps_for hp hc hi hg (pss_both hb hx) hs) fun Dn σ H hq => ?_
  obtain ⟨O0, r, nm, hR, e, q⟩ := hq
  obtain ⟨l, e1, e2⟩ := bind_some e
  refine ⟨O0, r, l, hR, e1, fun J H0 s0 yl => ?_⟩
  have R0 := hR.same s0
  refine ⟨fun i m σ1 H1 => m = l.length - i ∧ i ≤ l.length ∧ ∃ r1, R X.K O0 H1 r1 σ1 ∧ Kp H0 r σ H1 r1 σ1 ∧ yForL bd g x (l.drop i) r1 = some nm, ⟨l.length, by simp, Nat.zero_le _, r, R0, Kp.refl H0 r σ, by simpa using e2⟩, ?_⟩
  rintro i m σ1 H1 ⟨rfl, hil, r1, R1, k1, e3⟩
  have k0 := (Kp.of_same r σ s0).trans k1
  obtain ⟨y1, y2⟩ := yl i H1 (Ow O0 r1 σ1) k1.keep fun a z n => z.elim .inl fun z => (k1.new a z).elim .inr fun z => absurd z n
  by_cases hlt : i < l.length
  · obtain ⟨go, yd⟩ := y1 hlt
    have hd : l[i]? = some l[i] := by simp [hlt]
    rw [drop_cons hd] at e3
    obtain ⟨r2, e4, e5⟩ := bind_some e3
    refine .inr ⟨go, fun σ3 H3 => ∃ r3, R X.K O0 H3 r3 σ3 ∧ Kp H0 r σ H3 r3 σ3 ∧ yForL bd g x (l.drop (i + 1)) r3 = some nm, fun σ3 H3 z => ⟨l.length - (i + 1), by omega, rfl, hlt, z⟩, fun v H2 yx => ?_⟩
    obtain ⟨s2, ix⟩ := yd v H2 yx
    have R2 := R1.same s2
    refine ⟨O0, r1, l[i], r2, R2, ix _ hd, e4, fun σ2 R2' k2 => ?_⟩
    have k3 := (k1.trans (Kp.of_same r1 σ1 s2)).trans k2
    have k4 := (k0.trans (Kp.of_same r1 σ1 s2)).trans k2
    cases hxr : x r2 with
    | some n' =>
      rw [hxr] at e5
      cases e5
      exact .inr ⟨O0, r2, nm, R2', hxr, fun C H' hm lx => q C H' hm (lx.behind k4)⟩
    | none =>
      rw [hxr] at e5
      obtain ⟨f1, e6, e7⟩ := bind_some e5
      refine .inl ⟨O0, r2, f1, R2', e6, ?_⟩
      cases f1 with
      | nx r3 => exact fun σ3 H3 R3 kk => ⟨r3, R3, k3.trans kk, e7⟩
      | ct r3 => exact fun σ3 H3 R3 kk => ⟨r3, R3, k3.trans kk, e7⟩
      | bk r3 => cases e7
      | rt d r3 => cases e7
      | rf l' r3 => cases e7
  · have hl : l.drop i = [] := List.drop_eq_nil_of_le (by omega)
    rw [hl] at e3
    cases e3
theorem ys_while (n : Nat) {c : Expr} {tc : MB} (hp : PassesOwn (model X.prog X.w) X.A X.env X.xe) (hc : DT X c tc) (hb : DSs X body g) (hx : YSs X E body x) : YS X E (.While c body [] pos) (yWhile n tc g x) := by
  refine PS.conseq (ps_while hp hc (pss_both hb hx)) fun Dn σ H hq => ?_
  obtain ⟨O0, r, nm, hR, e, q⟩ := hq
  refine ⟨fun m σ1 H1 => ∃ r1, R X.K O0 H1 r1 σ1 ∧ Kp H r σ H1 r1 σ1 ∧ yWhile m tc g x r1 = some nm, ⟨n, r, hR, Kp.refl H r σ, e⟩, ?_⟩
  rintro m σ1 H1 ⟨r1, R1, k1, e1⟩
  cases m with
  | zero => cases e1
  | succ m =>
    obtain ⟨b, e2, e3⟩ := bind_some e1
    refine ⟨O0, r1, b, R1, e2, fun H2 s2 => ?_⟩
    have R2 := R1.same s2
    have k2 := k1.trans (Kp.of_same r1 σ1 s2)
    cases b with
    | false =>
      rw [if_neg Bool.false_ne_true] at e3
      cases e3
    | true =>
      rw [if_pos rfl] at e3
      refine iteT ⟨fun σ3 H3 => ∃ r3, R X.K O0 H3 r3 σ3 ∧ Kp H r σ H3 r3 σ3 ∧ yWhile m tc g x r3 = some nm, fun σ3 H3 z => ⟨m, Nat.lt_succ_self m, z⟩, ?_⟩
      cases hxr : x r1 with
      | some n' =>
        rw [hxr] at e3
        cases e3
        exact .inr ⟨O0, r1, nm, R2, hxr, fun C H' hm lx => q C H' hm (lx.behind k2)⟩
      | none =>
        rw [hxr] at e3
        obtain ⟨f1, e4, e5⟩ := bind_some e3
        refine .inl ⟨O0, r1, f1, R2, e4, ?_⟩
        cases f1 with
        | nx r3 => exact fun σ3 H3 R3 k3 => ⟨r3, R3, k2.trans k3, e5⟩
        | ct r3 => exact fun σ3 H3 R3 k3 => ⟨r3, R3, k2.trans k3, e5⟩
        | bk r3 => cases e5
        | rt d r3 => cases e5
        | rf l r3 => cases e5
end
section
variable {X : Cx} {a : Expr} {fs : ME} {ρ : MR} {rest : List Stmt} {epos pos : Pos} {h0 : ExceptHandler} {hs : List ExceptHandler}
noncomputable def mTryOk (fe : ME) (ρ : MR) : MR := fun r => (fe r).bind fun _ => ρ r
theorem dr_tryOk (he : ∀ E, DE (X.wish E) a fs) (hr : DRs X rest ρ) (hsw : swapsWith a none epos.line X.env = pure false := by rfl) : DRs X (.Try [.Expr a epos] (h0 :: hs) [] [] pos :: rest) (mTryOk fs ρ) := by
  intro pins s σ H D I hq
  obtain ⟨O0, r, d, hR, e0, q⟩ := hq
  obtain ⟨v, e1, e2⟩ := bind_some e0
  refine wpAny_execs_cons (wpAny_Try_except ?_)
  refine wpAny_execs_cons ?_
  refine wpAny_Expr_any (wpAny_mono (he (fun _ _ => False) pins s σ H (fun v H1 => Same H H1) (I.wish _) ⟨O0, r, v, hR, e1, fun v H1 s1 _ => s1⟩) (fun u s1 ⟨y, H1, I1, r1, sm⟩ => ?_) fun _ _ z => False.elim z) I.quiet hsw
  refine wpAny_execs_nil (wpAny_execs_nil ?_)
  exact hr pins s1 σ H1 D I1.unwish ⟨O0, r, d, hR.same sm, e2, fun v σ' H' r' R' k' i' => q v σ' H' r' R' ((Kp.of_same r σ sm).trans k') i'⟩
end
open PySem PySem.Spec PyProof.Rows L2 PySem.W
theorem lri_nolen : typeLookup (.type "list_reverseiterator") "__len__" = pure none := by rw [typeLookup_type, builtinLookup_eq_fast]; kernel_rfl
theorem lri_hint : typeLookup (.type "list_reverseiterator") "__length_hint__" = pure (some (.builtin "list_reverseiterator.__length_hint__")) := by rw [typeLookup_type, builtinLookup_eq_fast]; kernel_rfl
section
variable {prog : Program} {w : World} {A : Around} {s : Shared} {Rr : Result → Shared → Prop} {I : Addr} {fp wr : List Addr} {G : Array GenState → Array GenState → Prop} {n : Nat} {P : Nat → Value → Prop} {St : Nat → Shared → Prop}
theorem lri_ext (W : WalksS prog w A.in1 I fp wr G n P St) (hT : ∀ i s, St i s → s.TypeIs (.ref I) "list_reverseiterator") (S : Addr) (res : Value) (c0 : Nat) (st0 : St 0 s) (nS : S ∉ fp) (iI : I ∈ fp) (oS : s.heap.get? S = some { cls := .type "list", data := .seq #[] c0 }) (hn : n ≤ sizeLine)
    (fin : ∀ s' acc' c', Moved (S :: wr) G s s' → s'.heap.get? S = some { cls := .type "list", dict := none, data := .seq acc' c', slots := #[] } → ItemsOf P acc' n → Rr (.ok (.ret res)) s') :
    wpAny (model prog w) A.in1 (Builtin.List.listExtendWith (.ref S) (.ref I) res) (fun fin s' => match fin with | .done f => Rr (.ok f) s' | .again c' => c'.quiet = true ∧ codeAny (model prog w) A c' Rr s') (fun e s' => Rr (.error e) s') s := by
  have nI : S ≠ I := fun e => nS (e ▸ iI)
  have k1 : Builtin.List.listSameRef (.ref S) (.ref I) = false := by simp [Builtin.List.listSameRef, nI]
  rw [Builtin.List.listExtendWith]
  refine wpAny_bind (wpAny_typeOf (hT 0 _ st0) ?_)
  rw [if_neg (by rw [k1]; decide)]
  refine wpAny_bind (W.self 0 _ _ _ st0 ?_)
  refine wpAny_bind (wpAny_holding (?_))
  rw [Builtin.List.listLengthHint]
  refine wpAny_bind (wpAny_specialOf (hT 0 _ st0) lri_nolen ?_)
  show wpAny _ A.in1 ((specialOf (.ref I) (Str.ofString "__length_hint__")) >>= _) _ _ _
  refine wpAny_bind (wpAny_specialOf (hT 0 _ st0) lri_hint ?_)
  generalize hid : ("list_reverseiterator.__length_hint__" : String) = id0
  wp_delta
  rw [show splitId id0 = some ("list_reverseiterator", "__length_hint__") from by subst hid; decide +kernel]
  subst hid
  refine wpAny_bind (wpAny_isInstance (b := true) (hT 0 _ st0) (by rw [isSubtype_type]; kernel_rfl) ?_)
  refine wpAny_pure ?_
  rw [if_neg (by decide)]
  exact wpAny_pure ⟨plainId_quiet F.plain_extend_loop _, codeAny_extend_loopS W hn S nS res n 0 _ _ _ rfl (Nat.zero_le _) st0 oS (ItemsOf.nil P) fin⟩
theorem lri_init (W : WalksS prog w A.in1 I fp wr G n P St) (hT : ∀ i s, St i s → s.TypeIs (.ref I) "list_reverseiterator") (S : Addr) (st0 : St 0 s) (nS : S ∉ fp) (iI : I ∈ fp) (oS : s.heap.get? S = some { cls := .type "list", data := .seq #[] }) (hn : n ≤ sizeLine)
    (fin : ∀ s' acc' c', Moved (S :: wr) G s s' → s'.heap.get? S = some { cls := .type "list", dict := none, data := .seq acc' c', slots := #[] } → ItemsOf P acc' n → Rr (.ok (.ret .none)) s') :
    wpAny (model prog w) A.in1 (Builtin.«list.__init__» ⟨[.ref S, .ref I], []⟩) (fun fin s' => match fin with | .done f => Rr (.ok f) s' | .again c' => c'.quiet = true ∧ codeAny (model prog w) A c' Rr s') (fun e s' => Rr (.error e) s') s := by
  show wpAny _ A.in1 (Builtin.List.listItems (.ref S) >>= fun old => Builtin.List.listUpdate (.ref S) (fun _ => #[]) >>= fun _ => letGo old.toList.reverse >>= fun _ => Builtin.List.listExtendWith (.ref S) (.ref I) .none) _ _ s
  refine wpAny_bind ?_
  unfold Builtin.List.listItems
  refine wpAny_bind (wpAny_seqItems oS rfl (wpAny_pure ?_))
  refine wpAny_bind (m := updateSeq S (fun _ => #[])) (wpAny_updateSeq oS rfl ?_)
  have oS2 := Heap.get?_update_self (Obj.mapSeq (fun _ => (#[] : Array Value))) oS rfl
  have els : ∀ b o, b ≠ S → s.heap.get? b = some o → (s.heap.update S (Obj.mapSeq (fun _ => (#[] : Array Value)))).get? b = some o := fun b o hb e => (Heap.get?_update_other _ _ (Ne.symm hb)).trans e
  refine wpAny_bind (wpAny_letGo ?_)
  refine lri_ext W hT S .none _ (W.frame 0 s _ s.toks st0 (Nat.le_refl _) fun b hb o e => els b o (fun h => nS (h ▸ hb)) e) nS iI oS2 hn fun s' acc' c' hm hS' hacc => ?_
  exact fin s' acc' c' (Moved.trans W.gtrans ((Moved.refl W.grefl).then_heap (Nat.le_refl _) fun b o hb e => els b o (fun h => hb (h ▸ List.mem_cons_self)) e) hm) hS' hacc
end
section
variable {prog : Program} {w : World} {A : Around} {E : Value → Shared → Prop} {s : Shared}
theorem call_list_back {l it : Addr} {items : Array Value} {Q : Value → Shared → Prop} (hh : A.handled = none) (hit : s.heap.IsRevIter it l ((items.size : Int) - 1)) (hl : s.heap.IsList l items) (hne : l ≠ it) (hz : items.size ≤ sizeLine)
    (fin : ∀ s' c', (∀ b o, b ≠ it → s.heap.get? b = some o → s'.heap.get? b = some o) → s'.gens = s.gens → s'.os = s.os → s'.drawn = s.drawn → s'.heap.get? s.heap.objs.size = some { cls := .type "list", dict := none, data := .seq items.reverse c', slots := #[] } → Q (.ref s.heap.objs.size) s') :
    wpAny (model prog w) A (call (.type "list") [Value.ref it]) Q E s := by
  have lt1 : it < s.heap.objs.size := by obtain ⟨o, ho, _⟩ := hit; exact Heap.lt_size ho
  have lt2 : l < s.heap.objs.size := by obtain ⟨o, ho, _⟩ := hl; exact Heap.lt_size ho
  have W := (Walks.listRev (prog := prog) (w := w) (A := A.in1.in1) hh it l hne items).toS
  have nS : s.heap.objs.size ∉ [it, l] := fun z => by
    simp only [List.mem_cons, List.not_mem_nil, or_false] at z
    rcases z with z | z
    · exact absurd lt1 (by rw [← z]; exact Nat.lt_irrefl _)
    · exact absurd lt2 (by rw [← z]; exact Nat.lt_irrefl _)
  have st0 : (fun (i : Nat) (s : Shared) => i ≤ items.size ∧ s.heap.IsRevIter it l ((items.size : Int) - 1 - (i : Int)) ∧ s.heap.IsList l items) 0 s := ⟨Nat.zero_le _, by rw [show ((items.size : Int) - 1 - ((0 : Nat) : Int)) = (items.size : Int) - 1 from Int.sub_zero _]; exact hit, hl⟩
  refine callType_codes (Q₁ := fun obj s1 => obj = .ref s.heap.objs.size ∧ s1 = { s with heap := s.heap.push { cls := .type "list", data := .seq #[] } }) F.called_list (F.typeCall_list_1 _) F.entry_list_init (code_list_new _ ⟨rfl, rfl⟩) fun obj s1 h1 => ?_
  obtain ⟨rfl, rfl⟩ := h1
  have oS : (s.heap.push { cls := .type "list", data := .seq #[] }).get? s.heap.objs.size = some { cls := .type "list", data := .seq #[] } := Heap.get?_push_size _ rfl
  refine ⟨⟨_, oS, rfl⟩, F.args_list_init_2 _ _, lri_init W (fun i s st => st.2.1.typeIs) _ (W.frame 0 s _ s.toks st0 (Nat.le_refl _) fun b _ o e => Heap.get?_push_of_some _ e) nS (by simp) oS hz fun s' acc' c' hm hS' hacc => ⟨rfl, ?_⟩⟩
  have ea : acc' = items.reverse := by
    apply Array.ext
    · rw [hacc.1, Array.size_reverse]
    · intro j h1 h2
      have q : items[items.size - 1 - j]? = some acc'[j] := hacc.2 j acc'[j] (Array.getElem?_eq_getElem h1)
      rw [Array.getElem_reverse]
      rw [Array.getElem?_eq_getElem (by rw [hacc.1] at h1; omega)] at q
      exact (Option.some.inj q).symm
  subst ea
  refine fin s' c' (fun b o hb e => hm.heap b o (fun z => ?_) (Heap.get?_push_of_some _ e)) hm.gens hm.os hm.drawn hS'
  rcases List.mem_cons.mp z with z | z
  · exact absurd (Heap.lt_size e) (by rw [z]; exact Nat.lt_irrefl _)
  · exact hb (List.mem_singleton.mp z)
end
open PySem PySem.Spec PyProof.Rows L2 PySem.W
noncomputable def mRevL (fl : ML) : ML := fun r => (fl r).map List.reverse
section
variable {X : Cx} {a : Expr} {fl : ML} {p1 p2 pos pos2 : Pos}
theorem df_listRev (hc : X.calm = true) (hg1 : Gl X "list") (hm1 : X.mg "list" = none) (hg2 : Gl X "reversed") (hm2 : X.mg "reversed" = none) (ha : DB X a fl) (hs : starEach [a] X.env = [(false, eval a X.env)] := by rfl)
    (hs2 : starEach [.Call (.Name "reversed" p2) [a] [] pos2] X.env = [(false, eval (.Call (.Name "reversed" p2) [a] [] pos2) X.env)] := by rfl) : DF X (.Call (.Name "list" p1) [.Call (.Name "reversed" p2) [a] [] pos2] [] pos) (mRevL fl) := by
  intro pins s σ H Q I hq
  obtain ⟨O0, r, l', hR, e, q⟩ := hq
  obtain ⟨l, e1, rfl⟩ := map_some e
  have hA : PA X [a] (tCons (lB X.K fl) tNil) := pa_cons ha pa_nil (by rw [hs]; rfl)
  have inner : wpAny (model X.prog X.w) X.A (eval (.Call (.Name "reversed" p2) [a] [] pos2) X.env) (fun v s1 => wpAny (model X.prog X.w) X.A (call (.type "list") [v]) (EP X pins σ Q) X.xe s1) X.xe s := by
    refine Call_ (ld_blt I hg2 hm2 PyProof.Rows.boot_reversed (PyProof.Rows.callWith_type1 (thn (hA pos2 pins s σ H (z1 fun x H1 => ∃ u xs, x = .ref u ∧ Same H H1 ∧ SqL X.K H1 u xs ∧ IsL X.K (Ow O0 r σ) H1 l xs) I ⟨O0, r, l, hR, e1, fun u xs H1 s1 sq il => ⟨u, xs, rfl, s1, sq, il⟩⟩) fun us s1 ⟨vs, H1, I1, r1, q1⟩ => ?_) hs rfl))
    obtain ⟨_, rfl, u, xs, rfl, s1', hx, il⟩ := z1_inv q1
    obtain ⟨uu, rfl, ru⟩ := Vals.one r1
    cases ru
    obtain ⟨its, rv, pl, hz⟩ := I1.list hx
    have hl : its.toArray.size = xs.length := by rw [List.size_toArray]; exact rv.length.symm
    have it1 : (s1.heap.push (revObj u ((its.toArray.size : Int) - 1))).IsRevIter s1.heap.objs.size u ((its.toArray.size : Int) - 1) := ⟨_, Heap.get?_push_size _ rfl, rfl, rfl⟩
    have ltu : u < s1.heap.objs.size := by obtain ⟨o, ho, _⟩ := pl.isList; exact Heap.lt_size ho
    refine call_reversed_list pl.isList ?_
    have pl2 : (s1.heap.push (revObj u ((its.toArray.size : Int) - 1))).IsList u its.toArray := pl.isList.at fun o e => Heap.get?_push_of_some _ e
    refine call_list_back (s := { s1 with heap := s1.heap.push (revObj u ((its.toArray.size : Int) - 1)) }) (I.ok.hd hc) it1 pl2 (Nat.ne_of_lt ltu) (by rw [hl]; exact hz) fun s' c' kp hg ho hd hS => ?_
    obtain ⟨h', g', d', t', os'⟩ := s'
    dsimp only at kp hg ho hd hS
    subst hg ho hd
    have sz : (s1.heap.push (revObj u ((its.toArray.size : Int) - 1))).objs.size = s1.heap.objs.size + 1 := by simp [Heap.push]
    have ht : H1 (s1.heap.push (revObj u ((its.toArray.size : Int) - 1))).objs.size = none := I1.hok.fresh (by rw [sz]; exact Nat.le_succ _)
    refine ⟨.ref (s1.heap.push (revObj u ((its.toArray.size : Int) - 1))).objs.size, upd H1 (s1.heap.push (revObj u ((its.toArray.size : Int) - 1))).objs.size (.lst xs.reverse), I1.laid (t' := t') (fun b o e => kp b o (Nat.ne_of_lt (Heap.lt_size e)) (Heap.get?_push_of_some _ e)) (by rw [sz]; exact Nat.le_succ _) ⟨by rw [List.length_reverse]; exact hz, its.reverse, c', rv.reverse, by rw [hS, List.reverse_toArray]⟩, rfl, ?_⟩
    refine q _ _ _ (s1'.trans (same_upd ht)) (s1'.free ht) upd_same ?_
    refine IsL.mono (Same.kp (same_upd ht) _) (hR.same s1').ol (fun b z n => ?_) _ _ il.reverse
    rcases z with z | z
    · exact z
    · subst z; exact absurd ht n
  refine Call_ (ld_blt I hg1 hm1 PyProof.Rows.boot_list (PyProof.Rows.callWith_type1 ?_ hs2 rfl))
  rw [hs2]
  show wpAny _ _ (spliced ((false, eval (.Call (.Name "reversed" p2) [a] [] pos2) X.env) :: backTo pos [])) _ _ s
  exact Calls.spliced_cons (thn inner fun v s1 h1 => Calls.spliced_nil h1)
end
open PySem PySem.Spec PyProof.Rows L2 PySem.W
open PySem PySem.Spec PyProof.Rows L2 PySem.W
noncomputable def sNone : MS := fun _ => none
theorem dss_none {X : Cx} {st : List Stmt} : DSs X st sNone := fun pins s σ H D I ⟨O0, r, fl, hR, e, _⟩ => by cases e
open PySem PySem.Spec PyProof.Rows L2 PySem.W
section
variable {X : Cx} {E : XK} {x : MX} {a : Expr}
noncomputable def yOwnZ (i : Nat) (x : MX) : MX := fun r => (frZ i r).bind fun r1 => (mtOf r i).bind fun _ => x r1
theorem mut_frz {r r1 : En} {σ : St} {i : Nat} (e : frZ i r = some r1) {b : Addr} (h : MutAt r1 σ b) : MutAt r σ b := by
  obtain ⟨l, el, rfl⟩ := frZ_some e
  obtain ⟨j, m, ej, qj⟩ := h
  have hj : i ≠ j := fun z => by subst z; rw [get_set_eq (List.getElem?_eq_some_iff.mp el).1] at ej; cases ej
  rw [get_set_ne hj] at ej
  exact ⟨j, m, ej, qj⟩
theorem ye_appendZ (i : Nat) {v : Str} {pn apos cpos : Pos} (h : PE X (.Name v pn) (tVar i)) (he : YE X E a x)
    (hline : (apos.endLine == cpos.line) = true := by rfl) (hbase : attributeBase (.Name v pn) "append" X.env (eval (.Name v pn) X.env) = eval (.Name v pn) X.env := by rfl)
    (hfew : ((backTo cpos (starEach [a] X.env)).all (fun x => !x.1) && (backToKw cpos (keywordEach [] X.env)).all (fun x => x.1.isSome) && decide ([a].length + ([] : List Keyword).length + (if ([] : List Keyword).isEmpty then 0 else 1) < 30)) = true := by rfl)
    (hs : starEach [a] X.env = (false, eval a X.env) :: starEach [] X.env := by rfl) :
    YE X E (.Call (.Attribute (.Name v pn) "append" apos) [a] [] cpos) (yOwnZ i x) := by
  refine PE.conseq (pe_bm PySem.F.plainAttrs_list PySem.F.slot_list_append PySem.F.type_list_append mt_append h (ya_here he hs) hbase hfew hline hs) fun σ H Q hq => ?_
  obtain ⟨O0, r, n, hR, e, q⟩ := hq
  obtain ⟨r1, ez, e⟩ := bind_some e
  obtain ⟨l, e1, e2⟩ := bind_some e
  obtain ⟨b, xs, q1, q2, q3⟩ := mt_at hR e1
  have R1 : R X.K O0 H r1 σ := by
    obtain ⟨l, el, rfl⟩ := frZ_some ez
    exact (hR.swap (y := .z l) (.inl ⟨el, rfl⟩)).1
  exact ⟨.ref b, q1, .inl ⟨rfl, xs, SqL.of q2⟩, O0, r1, n, R1, e2, fun C H' hm l2 => q C H' hm ⟨fun c o e' n' => l2.keep c o e' fun z => n' (mut_frz ez z), l2.live, l2.lst⟩⟩
end
open PySem PySem.Spec PyProof.Rows L2 PySem.W
noncomputable def It3 (lo c : Int) (n : Nat) : It := ⟨fun i _ => i < n, fun i H x H' => H' = H ∧ x = .int (lo + (i : Nat) * c), fun i _ => n ≤ i⟩
theorem turn_range3 {P : Program} {w : World} {K : Fg} {tg : Expr} (it : Addr) (lo c : Int) (n : Nat) : Turn P w K tg (It3 lo c n) [it] it (fun i h => IsRangeIter h it (lo + (i : Nat) * c) ((n : Int) - (i : Nat)) c) where
  mem := by simp
  obj := fun i h st b hb => by
    obtain rfl : b = it := List.mem_singleton.mp hb
    exact ⟨_, st, fun v z => by
      have z' : Data.fields _ = Data.cell v := z
      cases z'⟩
  keep := fun i h h' st k => k it (List.mem_singleton.mpr rfl) _ st
  item := by
    intro X hP hw hK hc i pins s σ H E I hf st hg
    subst hP hw hK
    obtain ⟨f0, f1, f2, f3, f4, f5⟩ := hf it (List.mem_singleton.mpr rfl)
    refine (Walks.range (prog := X.prog) (w := X.w) (I.ok.hd hc) it lo c n).item i s _ _ hg st fun v h' tk hv st' kk => ?_
    obtain ⟨t, rfl⟩ := hv
    have I1 : Inv X pins σ H { s with heap := h', toks := tk } := I.turned (fun b o hb e => kk b o (by simpa using hb) e) f0 f1 f3 f4 f5
    exact ⟨_, rfl, go_of (s := { s with heap := h', toks := tk }) (n := "range_iterator") st' rfl rfl (by decide) ⟨.int (lo + (i : Nat) * c), H, I1, ⟨t, rfl⟩, ⟨rfl, rfl⟩, st', fun b hb => (hf b hb).1⟩⟩
  done := by
    intro X hP hw hK hc i pins s σ H E I hf st hg
    subst hP hw hK
    obtain ⟨f0, f1, f2, f3, f4, f5⟩ := hf it (List.mem_singleton.mpr rfl)
    exact wpAny_pyNext_range_end (I.ok.hd hc) st (by have : n ≤ i := hg; omega) fun h' eb => ⟨rfl, I.turned (t' := s.toks) (fun b o hb e => eb b o hb e) f0 f1 f3 f4 f5⟩
  self := fun _ _ _ _ _ st h => wpAny_pyIter_rangeiter st h
noncomputable def size3 (a b c : Int) : Nat := ((b - a + c - 1) / c).toNat
theorem size3_eq {a b c : Int} (hc : 0 < c) : (size3 a b c : Int) = Builtin.Range.rangeSize a b c := by
  unfold size3 Builtin.Range.rangeSize
  rw [if_pos hc]
  have e : b - a + c - 1 = (b - a - 1) + 1 * c := by omega
  split
  · have q : 0 ≤ (b - a - 1) / c := Int.ediv_nonneg (by omega) (by omega)
    rw [e, Int.add_mul_ediv_right _ _ (by omega)]; omega
  · have q : (b - a - 1) / c < 0 := Int.ediv_neg_of_neg_of_pos (by omega) hc
    rw [e, Int.add_mul_ediv_right _ _ (by omega)]; omega
theorem small3 {a b c : Int} (h1 : 0 ≤ a) (h2 : a ≤ 1000) (h3 : 0 ≤ b) (h4 : b ≤ 1000) (h5 : 0 < c) (h6 : c ≤ 1000) : Builtin.Range.small a b c = true := by
  have z : 0 ≤ Builtin.Range.rangeSize a b c ∧ Builtin.Range.rangeSize a b c ≤ 1001 := by
    unfold Builtin.Range.rangeSize; rw [if_pos h5]
    split
    · have q : 0 ≤ (b - a - 1) / c := Int.ediv_nonneg (by omega) (by omega)
      have q' : (b - a - 1) / c ≤ b - a - 1 := Int.ediv_le_self _ (by omega)
      omega
    · omega
  unfold Builtin.Range.small
  simp only [Builtin.Range.rangeFitsLong, Bool.and_eq_true, Bool.or_eq_true, decide_eq_true_eq, beq_iff_eq]
  rw [if_pos h5]
  refine ⟨⟨⟨⟨?_, ?_⟩, ?_⟩, ?_⟩, .inr ?_⟩ <;> simp <;> omega
section
variable {X : Cx} {tg : Expr}
theorem range_it3 {pins : List (Addr × Obj)} {σ : L2.St} {H : Hp} {s : Shared} {R : It → Hp → Prop} {E : Value → Shared → Prop} {lo hi c : Int} {t u v : Tok} {tk : Nat} (I : Inv X pins σ H s) (hs : Builtin.Range.small lo hi c = true) (hc : 0 < c)
    (q : R (It3 lo c (size3 lo hi c)) H) : wpAny (model X.prog X.w) X.A (pyIter (.ref s.heap.objs.size)) (PIE X pins σ tg R) E { s with heap := s.heap.push { cls := .type "range", data := .fields #[.int lo t, .int hi u, .int c v] }, toks := tk } := by
  refine wpAny_pyIter_range (IsRange.new ..) hs ?_
  have I1 : Inv X pins σ H { s with heap := s.heap.push { cls := .type "range", data := .fields #[.int lo t, .int hi u, .int c v] }, toks := tk } := I.kept fun b o e => Heap.get?_push_of_some _ e
  generalize hz : (s.heap.push { cls := .type "range", data := .fields #[.int lo t, .int hi u, .int c v] }) = h1 at I1 ⊢
  refine ⟨h1.objs.size, [h1.objs.size], _, _, H, rfl, I1.kept (t' := tk) fun b o e => Heap.get?_push_of_some _ e, turn_range3 _ lo c (size3 lo hi c), ?_, fun b hb => ?_, q⟩
  · show IsRangeIter _ _ (lo + ((0 : Nat) : Int) * c) ((size3 lo hi c : Int) - ((0 : Nat) : Int)) c
    rw [size3_eq hc, show lo + ((0 : Nat) : Int) * c = lo by simp, show Builtin.Range.rangeSize lo hi c - ((0 : Nat) : Int) = Builtin.Range.rangeSize lo hi c by simp]
    exact Heap.get?_push_size _ rfl
  · obtain rfl := (List.mem_singleton.mp hb)
    exact I1.fpOk (Nat.le_refl _) (I1.hok.fresh (Nat.le_refl _))
noncomputable def iRng3 (ta : TA) : TI := fun σ H R => ta σ H fun vs H1 => ∃ i j c : Int, vs = [.int i, .int j, .int c] ∧ (0 ≤ i ∧ i ≤ 1000 ∧ 0 ≤ j ∧ j ≤ 1000 ∧ 0 < c ∧ c ≤ 1000) ∧ R (It3 i c (size3 i j c)) H1
theorem pi_range3 {a b c : Expr} {ta : TA} {p pos : Pos} (hg : Gl X "range") (hm : X.mg "range" = none) (ha : PA X [a, b, c] ta) (hs : starEach [a, b, c] X.env = [(false, eval a X.env), (false, eval b X.env), (false, eval c X.env)] := by rfl) (hs2 : starEach [b, c] X.env = [(false, eval b X.env), (false, eval c X.env)] := by rfl) :
    PI X tg (.Call (.Name "range" p) [a, b, c] [] pos) (iRng3 ta) := by
  intro pins s σ H R I h
  refine Call_ (ld_blt I hg hm boot_range (PyProof.Rows.callWith_type1 (thn (ha pos pins s σ H _ I h) fun us s1 ⟨vs, H1, I1, r1, q1⟩ => ?_) (by rw [hs, hs2]) (by rw [hs2]; rfl)))
  obtain ⟨i, j, k, e, ⟨q1, q2, q3, q4, q5, q6⟩, q⟩ := q1
  subst e
  cases r1 with
  | cons a1 r1 => cases r1 with
    | cons a2 r1 => cases r1 with
      | cons a3 r1 =>
        cases r1
        obtain ⟨t, rfl⟩ := a1
        obtain ⟨t', rfl⟩ := a2
        obtain ⟨t2, rfl⟩ := a3
        exact call_range_3 (by omega) (range_it3 I1 (small3 q1 q2 q3 q4 q5 q6) q5 q) (.inl (PyProof.noPylong_small (by omega)))
end
section
variable {X : Cx} {tg l l2 l3 : Expr} {f g h : ME} {p pos : Pos}
noncomputable def rng3 (lo c : Int) (n : Nat) : List D := (List.range n).map fun (i : Nat) => .int (lo + (i : Int) * c)
theorem yl_rng3 {K : Fg} {O M : Addr → Prop} {H : Hp} (lo c : Int) (n : Nat) : Ylds K O M H (It3 lo c n) (rng3 lo c n) := by
  intro i H1 O' kp oo
  have hl : (rng3 lo c n).length = n := by simp [rng3]
  refine ⟨fun hi => ⟨by rw [hl] at hi; exact hi, fun x H' y => ?_⟩, fun hi => by rw [hl] at hi; exact Nat.le_of_eq hi.symm⟩
  obtain ⟨rfl, rfl⟩ := y
  refine ⟨Same.refl _, fun d e => ?_⟩
  rw [hl] at hi
  unfold rng3 at e
  rw [List.getElem?_map, List.getElem?_range hi] at e
  cases e
  rw [Is.int_iff]
noncomputable def mRng3 (f g h : ME) : ML := fun r => (f r).bind fun d => (intD d).bind fun i => (g r).bind fun d => (intD d).bind fun j => (h r).bind fun d => (intD d).bind fun c => if 0 ≤ i ∧ i ≤ 1000 ∧ 0 ≤ j ∧ j ≤ 1000 ∧ 0 < c ∧ c ≤ 1000 then some (rng3 i c (size3 i j c)) else none
theorem di_rng3 (hg : Gl X "range") (hm : X.mg "range" = none) (ha : DE X l f) (hb : DE X l2 g) (hc : DE X l3 h) (hs : starEach [l, l2, l3] X.env = [(false, eval l X.env), (false, eval l2 X.env), (false, eval l3 X.env)] := by rfl) (hs2 : starEach [l2, l3] X.env = [(false, eval l2 X.env), (false, eval l3 X.env)] := by rfl) (hs3 : starEach [l3] X.env = [(false, eval l3 X.env)] := by rfl) :
    DI X tg (.Call (.Name "range" p) [l, l2, l3] [] pos) (mRng3 f g h) := by
  refine PI.conseq (pi_range3 hg hm (pa_cons ha (pa_cons hb (pa_cons hc pa_nil hs3) (by rw [hs2, hs3])) (by rw [hs, hs2])) hs hs2) fun σ H Rr hq => ?_
  obtain ⟨O0, r, ds, hR, e, q⟩ := hq
  obtain ⟨d, e1, y1⟩ := bind_some e
  obtain ⟨i, z1, y2⟩ := bind_some y1
  obtain ⟨d2, e2, y3⟩ := bind_some y2
  obtain ⟨j, z2, y4⟩ := bind_some y3
  obtain ⟨d3, e3, y5⟩ := bind_some y4
  obtain ⟨c, z3, y6⟩ := bind_some y5
  cases intD_some z1
  cases intD_some z2
  cases intD_some z3
  split at y6
  · rename_i hj
    cases y6
    refine ⟨O0, r, _, hR, e1, fun v H1 s1 i1 => ⟨O0, r, _, hR.same s1, e2, fun v2 H2 s2 i2 => ⟨O0, r, _, (hR.same s1).same s2, e3, fun v3 H3 s3 i3 => ?_⟩⟩⟩
    rw [Is.int_iff] at i1 i2 i3
    exact ⟨i, j, c, by rw [i1, i2, i3], hj, q _ H3 ((s1.trans s2).trans s3) (yl_rng3 i c _)⟩
  · cases y6
end
end DD
namespace K07
open PySem PySem.Spec PyProof.Rows L2 DD
noncomputable def top (i : Nat) : Stmt := PySem.Challenge.pw_fieldrows_k07_open_names.main.body.getD i (.Pass ⟨0, 0, 0, 0⟩)
noncomputable def RF : Nat := 40
noncomputable def WF : Nat := 100000
noncomputable def C_KEPT_WORDS : List (List Nat) := [[100, 101, 102], [102, 110], [100, 111], [101, 109, 112, 116, 121], [103, 101, 116], [119, 105, 116, 104], [112, 117, 116], [108, 101, 115, 115], [116, 97, 103], [119, 105, 100, 101], [99, 97, 115, 101], [110, 101, 118, 101, 114], [105, 102]]
noncomputable def C_FORMS : List (List Nat × List Nat) := [([102, 110], [110, 69]), ([100, 111], [69, 69]), ([101, 109, 112, 116, 121], []), ([103, 101, 116], [110, 69]), ([119, 105, 116, 104], [110, 69, 69]), ([112, 117, 116], [110, 69, 69]), ([108, 101, 115, 115], [110, 69]), ([116, 97, 103], [110, 69]), ([119, 105, 100, 101], [110, 69]), ([99, 97, 115, 101], [69, 110, 110, 69, 110, 69]), ([110, 101, 118, 101, 114], [69]), ([105, 102], [69, 69, 69]), ([43], [69, 69]), ([45], [69, 69]), ([42], [69, 69]), ([60], [69, 69])]
noncomputable def g_inner : MS := (sRet (mOfF (mCompIf [] 1 (mIt (mVar 0)) (setV 0) (mTru (mUn (instD "tuple") (mVar 0))) (mVar 0))))
noncomputable def F_inner : MF := mkF 1 1 g_inner
noncomputable def g_places : MS := (sSeq (sOwn 1 (mLstF mNil))
 (sSeq (sOwn 2 (mLstF (mCons (mVar 0) mNil)))
 (sSeq (sWhile WF (mTruB (mOwn 2))
 (sSeq (sSetX 3 (mPop 2))
 (sSeq (sX (mApp 1 (mVar 3)))
 (sX (mExt 2 (mUn revD (mCall 1 F_inner (mCons (mVar 3) mNil))))))))
 (sRetOwn 1))))
noncomputable def F_places : MF := mkF 1 4 g_places
noncomputable def g_all_between : MS := (sRet (mAll (mComp [1, 2] 3 (mItS (mVar 0)) (setV 2) (mChain leA leA (mVar 0) (mVar 2) (mVar 1)))))
noncomputable def F_all_between : MF := mkF 3 3 g_all_between
noncomputable def g_is_name : MS := (sRet (mAnd (mChain leA leA (mC (.int 1)) (mUn lenD (mVar 0)) (mC (.int 8))) (mAnd (mCall 3 F_all_between (mCons (mVar 0) (mCons (mC (.str [97])) (mCons (mC (.str [122])) mNil)))) (mBin (inD true) (mVar 0) (mC (.tup (C_KEPT_WORDS.map D.str)))))))
noncomputable def F_is_name : MF := mkF 1 1 g_is_name
noncomputable def g_is_number : MS := (sSeq (sIf (mOrT (mNotT (mBl (mChain leA leA (mC (.int 1)) (mUn lenD (mVar 0)) (mC (.int 6))))) (mNotT (mTru (mCall 3 F_all_between (mCons (mVar 0) (mCons (mC (.str [48])) (mCons (mC (.str [57])) mNil)))))))
 (sRet (mC (.bl false)))
 sSkip)
 (sRet (mOr (mBin eqA (mVar 0) (mC (.str [48]))) (mBin neA (mBin ixD (mVar 0) (mC (.int 0))) (mC (.str [48]))))))
noncomputable def F_is_number : MF := mkF 1 1 g_is_number
noncomputable def g_read_number : MS := (sSeq (sIf (mNotT (mTru (mCall 1 F_is_number (mCons (mVar 0) mNil))))
 sNever
 sSkip)
 (sRet (mUn intOfD (mVar 0))))
noncomputable def F_read_number : MF := mkF 1 1 g_read_number
noncomputable def g_take_word : MS := (sSeq (sIf (mNotT (mTruB (mOwn 0)))
 sNever
 sSkip)
 (sRetX (mPop 0)))
noncomputable def F_take_word : MF := mkF 1 1 g_take_word
noncomputable def g_take_name : MS := (sSeq (sSetX 1 (mCallX 1 F_take_word 0 (zP mNil)))
 (sSeq (sIf (mNotT (mTru (mCall 1 F_is_name (mCons (mVar 1) mNil))))
 sNever
 sSkip)
 (sRet (mVar 1))))
noncomputable def F_take_name : MF := mkF 1 2 g_take_name
noncomputable def g_read_leaf : MS := (sSeq (sIf (mTru (mCall 1 F_is_name (mCons (mVar 0) mNil)))
 (sRet (mTup (mCons (mC (.str [110, 97, 109, 101])) (mCons (mVar 0) mNil))))
 sSkip)
 (sRet (mTup (mCons (mC (.str [110, 117, 109])) (mCons (mCall 1 F_read_number (mCons (mVar 0) mNil)) mNil)))))
noncomputable def F_read_leaf : MF := mkF 1 1 g_read_leaf
noncomputable def g_take_expression (m : MF) : MS := (sSeq (sIf (mBl (mBin gtD (mVar 1) (mC (.int 30))))
 sNever
 sSkip)
 (sSeq (sSetX 2 (mCallX 1 F_take_word 0 (zP mNil)))
 (sSeq (sIf (mBl (mUn (hasT C_FORMS true) (mVar 2)))
 (sRet (mCall 1 F_read_leaf (mCons (mVar 2) mNil)))
 sSkip)
 (sSeq (sOwn 3 (mLstF (mCons (mVar 2) mNil)))
 (sSeq (sFor (setV 4) (mItS (mUn (atT C_FORMS) (mVar 2)))
 (sIf (mBl (mBin eqA (mVar 4) (mC (.str [110]))))
 (sX (mAppX 3 (mCallX 1 F_take_name 0 (zP mNil))))
 (sX (mAppX 3 (mCallX 2 m 0 (zP (mCons (mBin addD (mVar 1) (mC (.int 1))) mNil)))))))
 (sRet (mTupOf (mOwn 3))))))))
noncomputable def F_take_expression : Nat → MF
  | 0 => fun _ => none
  | k + 1 => mkF 2 5 (g_take_expression (F_take_expression k))
noncomputable def g_read_expression : MS := (sSeq (sOwn 1 (mRevF (mSplit (mVar 0) (mC (.str [32])))))
 (sSeq (sSetX 2 (mCallX 2 (F_take_expression RF) 1 (zP (mCons (mC (.int 0)) mNil))))
 (sSeq (sIf (mTruB (mOwn 1))
 sNever
 sSkip)
 (sRet (mVar 2)))))
noncomputable def F_read_expression : MF := mkF 1 3 g_read_expression
noncomputable def g_refuse_open_name : MS := (sIf (mAndT (mBl (mBin eqA (mBin ixD (mVar 0) (mC (.int 0))) (mC (.str [110, 97, 109, 101])))) (mBl (mBin (inD true) (mBin ixD (mVar 0) (mC (.int 1))) (mVar 1))))
 (sSeq (sSet 2 (mBin ixD (mVar 0) (mC (.int 1))))
 sNever)
 sSkip)
noncomputable def F_refuse_open_name : MF := mkF 2 3 g_refuse_open_name
noncomputable def x_refuse_open_name_NoName : MX := (xIf (mAndT (mBl (mBin eqA (mBin ixD (mVar 0) (mC (.int 0))) (mC (.str [110, 97, 109, 101])))) (mBl (mBin (inD true) (mBin ixD (mVar 0) (mC (.int 1))) (mVar 1))))
 (xThen (sSet 2 (mBin ixD (mVar 0) (mC (.int 1))))
 (xRaise "NoName" (mFstr (jE (mC (.str [116, 104, 101, 32, 110, 97, 109, 101, 32])) (jE (mVar 2) (jE (mC (.str [32, 105, 115, 32, 111, 112, 101, 110])) jNil))))))
 xNone)
noncomputable def M_refuse_open_name_NoName : List Sl → Option Str := mkY 2 3 x_refuse_open_name_NoName
noncomputable def g_scopes_in : MS := (sSeq (sIf (mBl (mBin eqA (mBin ixD (mVar 0) (mC (.int 0))) (mC (.str [102, 110]))))
 (sRet (mOfF (mLstF (mCons (mTup (mCons (mBin ixD (mVar 0) (mC (.int 2))) (mCons (mBin addD (mVar 1) (mOfF (mLstF (mCons (mBin ixD (mVar 0) (mC (.int 1))) mNil)))) mNil))) mNil))))
 sSkip)
 (sSeq (sIf (mBl (mBin eqA (mBin ixD (mVar 0) (mC (.int 0))) (mC (.str [99, 97, 115, 101]))))
 (sSeq (sSet 2 (mTup (mCons (mBin ixD (mVar 0) (mC (.int 4))) (mCons (mBin addD (mVar 1) (mOfF (mLstF (mCons (mBin ixD (mVar 0) (mC (.int 3))) mNil)))) mNil))))
 (sSeq (sSet 3 (mTup (mCons (mBin ixD (mVar 0) (mC (.int 6))) (mCons (mBin addD (mVar 1) (mOfF (mLstF (mCons (mBin ixD (mVar 0) (mC (.int 5))) mNil)))) mNil))))
 (sRet (mOfF (mLstF (mCons (mTup (mCons (mBin ixD (mVar 0) (mC (.int 1))) (mCons (mVar 1) mNil))) (mCons (mVar 2) (mCons (mVar 3) mNil))))))))
 sSkip)
 (sRet (mOfF (mComp [1] 2 (mIt (mCall 1 F_inner (mCons (mVar 0) mNil))) (setV 1) (mTup (mCons (mVar 1) (mCons (mVar 0) mNil))))))))
noncomputable def F_scopes_in : MF := mkF 2 4 g_scopes_in
noncomputable def g_refuse_open_names : MS := (sSeq (sOwn 2 (mLstF (mCons (mTup (mCons (mVar 0) (mCons (mVar 1) mNil))) mNil)))
 (sWhile WF (mTruB (mOwn 2))
 (sSeq (sSetX 3 (mPop 2))
 (sSeq (sExpr (mCall 2 F_refuse_open_name (mCons (mBin ixD (mVar 3) (mC (.int 0))) (mCons (mBin ixD (mVar 3) (mC (.int 1))) mNil))))
 (sX (mExt 2 (mCall 2 F_scopes_in (mCons (mBin ixD (mVar 3) (mC (.int 0))) (mCons (mBin ixD (mVar 3) (mC (.int 1))) mNil)))))))))
noncomputable def F_refuse_open_names : MF := mkF 2 4 g_refuse_open_names
noncomputable def x_refuse_open_names_NoName : MX := (xThen (sOwn 2 (mLstF (mCons (mTup (mCons (mVar 0) (mCons (mVar 1) mNil))) mNil)))
 (yWhile WF (mTruB (mOwn 2))
 (sSeq (sSetX 3 (mPop 2))
 (sSeq (sExpr (mCall 2 F_refuse_open_name (mCons (mBin ixD (mVar 3) (mC (.int 0))) (mCons (mBin ixD (mVar 3) (mC (.int 1))) mNil))))
 (sX (mExt 2 (mCall 2 F_scopes_in (mCons (mBin ixD (mVar 3) (mC (.int 0))) (mCons (mBin ixD (mVar 3) (mC (.int 1))) mNil)))))))
 (xThen (sSetX 3 (mPop 2))
 (yCall 2 M_refuse_open_name_NoName (mCons (mBin ixD (mVar 3) (mC (.int 0))) (mCons (mBin ixD (mVar 3) (mC (.int 1))) mNil))))))
noncomputable def M_refuse_open_names_NoName : List Sl → Option Str := mkY 2 4 x_refuse_open_names_NoName
noncomputable def g_read_def : MS := (sSeq (sSet 2 (mOfF (mSplitM (mVar 0) (mC (.str [32])) 2)))
 (sSeq (sIf (mOrT (mBl (mBin neA (mUn lenD (mVar 2)) (mC (.int 3)))) (mOrT (mBl (mBin neA (mBin ixD (mVar 2) (mC (.int 0))) (mC (.str [100, 101, 102])))) (mNotT (mTru (mCall 1 F_is_name (mCons (mBin ixD (mVar 2) (mC (.int 1))) mNil))))))
 sNever
 sSkip)
 (sSeq (sSet 3 (mBin ixD (mVar 2) (mC (.int 1))))
 (sSeq (sSet 4 (mCall 1 F_read_expression (mCons (mBin ixD (mVar 2) (mC (.int 2))) mNil)))
 (sSeq (sIf (mBl (mBin gtD (mUn lenD (mOfF (mCallF 1 F_places (mCons (mVar 4) mNil)))) (mC (.int 80))))
 sNever
 sSkip)
 (sSeq (sIf (mBl (mBin (inD false) (mVar 3) (mVar 1)))
 sNever
 sSkip)
 (sSeq (sExpr (mCall 2 F_refuse_open_names (mCons (mVar 4) (mCons (mBin addD (mVar 1) (mOfF (mLstF (mCons (mVar 3) mNil)))) mNil))))
 (sRet (mTup (mCons (mVar 3) (mCons (mVar 4) mNil)))))))))))
noncomputable def F_read_def : MF := mkF 2 5 g_read_def
noncomputable def x_read_def_NoName : MX := (xThen (sSet 2 (mOfF (mSplitM (mVar 0) (mC (.str [32])) 2)))
 (xThen (sIf (mOrT (mBl (mBin neA (mUn lenD (mVar 2)) (mC (.int 3)))) (mOrT (mBl (mBin neA (mBin ixD (mVar 2) (mC (.int 0))) (mC (.str [100, 101, 102])))) (mNotT (mTru (mCall 1 F_is_name (mCons (mBin ixD (mVar 2) (mC (.int 1))) mNil))))))
 sNever
 sSkip)
 (xThen (sSet 3 (mBin ixD (mVar 2) (mC (.int 1))))
 (xThen (sSet 4 (mCall 1 F_read_expression (mCons (mBin ixD (mVar 2) (mC (.int 2))) mNil)))
 (xThen (sIf (mBl (mBin gtD (mUn lenD (mOfF (mCallF 1 F_places (mCons (mVar 4) mNil)))) (mC (.int 80))))
 sNever
 sSkip)
 (xOr (xIf (mBl (mBin (inD false) (mVar 3) (mVar 1)))
 (xRaise "NoName" (mFstr (jE (mC (.str [97, 32, 100, 101, 102, 32, 97, 98, 111, 118, 101, 32, 105, 115, 32, 99, 97, 108, 108, 101, 100, 32])) (jE (mVar 3) (jE (mC (.str [44, 32, 116, 111, 111])) jNil)))))
 xNone)
 (xThen (sIf (mBl (mBin (inD false) (mVar 3) (mVar 1)))
 sNever
 sSkip)
 (yCall 2 M_refuse_open_names_NoName (mCons (mVar 4) (mCons (mBin addD (mVar 1) (mOfF (mLstF (mCons (mVar 3) mNil)))) mNil))))))))))
noncomputable def M_read_def_NoName : List Sl → Option Str := mkY 2 5 x_read_def_NoName
noncomputable def g_read : MS := (sSeq (sSet 1 (mOfF (mSplit (mVar 0) (mC (.str [10])))))
 (sSeq (sIf (mBl (mBin gtD (mUn lenD (mVar 1)) (mC (.int 12))))
 sNever
 sSkip)
 (sSeq (sOwn 2 (mLstF mNil))
 (sSeq (sFor (setV 3) (mIt (mVar 1))
 (sX (mAppZ 2 (mCall 2 F_read_def (mCons (mVar 3) (mCons (mOfF (mComp [] 1 (mZs 2) (setV 0) (mBin ixD (mVar 0) (mC (.int 0))))) mNil))))))
 (sSeq (sIf (mBl (mBin neA (mBin ixD (mIxB (mOwn 2) (mUn negD (mC (.int 1)))) (mC (.int 0))) (mC (.str [109, 97, 105, 110]))))
 sNever
 sSkip)
 (sRetOwn 2))))))
noncomputable def F_read : MF := mkF 1 4 g_read
noncomputable def x_read_NoName : MX := (xThen (sSet 1 (mOfF (mSplit (mVar 0) (mC (.str [10])))))
 (xThen (sIf (mBl (mBin gtD (mUn lenD (mVar 1)) (mC (.int 12))))
 sNever
 sSkip)
 (xThen (sOwn 2 (mLstF mNil))
 (xOr (yFor (setV 3) (mIt (mVar 1))
 (sX (mAppZ 2 (mCall 2 F_read_def (mCons (mVar 3) (mCons (mOfF (mComp [] 1 (mZs 2) (setV 0) (mBin ixD (mVar 0) (mC (.int 0))))) mNil)))))
 (yOwnZ 2 (yCall 2 M_read_def_NoName (mCons (mVar 3) (mCons (mOfF (mComp [] 1 (mZs 2) (setV 0) (mBin ixD (mVar 0) (mC (.int 0))))) mNil)))))
 (xThen (sFor (setV 3) (mIt (mVar 1))
 (sX (mAppZ 2 (mCall 2 F_read_def (mCons (mVar 3) (mCons (mOfF (mComp [] 1 (mZs 2) (setV 0) (mBin ixD (mVar 0) (mC (.int 0))))) mNil))))))
 (xIf (mBl (mBin neA (mBin ixD (mIxB (mOwn 2) (mUn negD (mC (.int 1)))) (mC (.int 0))) (mC (.str [109, 97, 105, 110]))))
 (xRaise "NoName" (mC (.str [116, 104, 101, 32, 108, 97, 115, 116, 32, 100, 101, 102, 32, 105, 115, 32, 110, 111, 116, 32, 99, 97, 108, 108, 101, 100, 32, 109, 97, 105, 110])))
 xNone))))))
noncomputable def M_read_NoName : List Sl → Option Str := mkY 1 4 x_read_NoName
noncomputable def g__law_cell : MS := (sSeq (sIf (mBl (mBin ltA (mVar 1) (mUn lenD (mVar 0))))
 (sRet (mBin ixD (mVar 0) (mVar 1)))
 sSkip)
 (sRet (mC (.int 0))))
noncomputable def F__law_cell : MF := mkF 2 2 g__law_cell
noncomputable def g__law_mixed : MS := (sSeq (sSet 2 (mBin modD (mBin addD (mBin addD (mBin modD (mVar 0) (mC (.int 2147483647))) (mBin mulD (mC (.int 16807)) (mVar 1))) (mC (.int 7))) (mC (.int 2147483629))))
 (sSeq (sSet 2 (mBin modD (mBin mulD (mVar 2) (mVar 2)) (mC (.int 2147483587))))
 (sRet (mBin fdivD (mBin modD (mBin mulD (mVar 2) (mBin addD (mVar 2) (mC (.int 48271)))) (mC (.int 2147483579))) (mC (.int 5))))))
noncomputable def F__law_mixed : MF := mkF 2 3 g__law_mixed
noncomputable def g__law_names : MS := (sSeq (sSet 2 (mBin addD (mC (.int 1)) (mBin modD (mVar 0) (mC (.int 7)))))
 (sSeq (sSet 3 (mBin modD (mBin fdivD (mVar 0) (mC (.int 7))) (mVar 2)))
 (sSeq (sSet 4 (mJoin (mC (.str [])) (mComp [0] 2 (mRng1 (mVar 2)) (setV 1) (mBin ixD (mC (.str [97, 98, 99, 100, 101, 102, 103, 104, 105, 106, 107, 108, 109, 110, 111, 112, 113, 114, 115, 116, 117, 118, 119, 120, 121, 122])) (mBin modD (mCall 2 F__law_mixed (mCons (mVar 0) (mCons (mBin addD (mC (.int 30)) (mVar 1)) mNil))) (mC (.int 26)))))))
 (sRet (mOfF (mComp [3, 4] 3 (mRng1 (mVar 1)) (setV 2) (mBin addD (mBin addD (mSl (mVar 1) oNone (oSome (mVar 0))) (mBin ixD (mC (.str [113, 106, 120, 122, 107, 118])) (mVar 2))) (mSl (mVar 1) (oSome (mVar 0)) oNone))))))))
noncomputable def F__law_names : MF := mkF 2 5 g__law_names
noncomputable def g__law_grown : MS := (sSeq (sSet 4 (mCall 2 F__law_mixed (mCons (mVar 1) (mCons (mBin addD (mC (.int 50)) (mVar 2)) mNil))))
 (sSeq (sSet 5 (mBin modD (mCall 2 F__law_mixed (mCons (mVar 1) (mCons (mBin addD (mC (.int 250)) (mVar 2)) mNil))) (mC (.int 8))))
 (sSeq (sSet 6 (mBin ixD (mVar 3) (mBin modD (mVar 4) (mUn lenD (mVar 3)))))
 (sSeq (sSet 7 (mBin ixD (mVar 3) (mBin modD (mBin fdivD (mVar 4) (mC (.int 8))) (mUn lenD (mVar 3)))))
 (sSeq (sSet 8 (mBin ixD (mVar 3) (mBin modD (mBin fdivD (mVar 4) (mC (.int 64))) (mUn lenD (mVar 3)))))
 (sSeq (sIf (mAndT (mBl (mBin eqA (mVar 5) (mC (.int 7)))) (mBl (mBin gtD (mUn lenD (mVar 0)) (mC (.int 2)))))
 (sSeq (sSet 9 (mTup (mCons (mC (.str [99, 97, 115, 101])) (mCons (mBin ixD (mVar 0) (mUn negD (mC (.int 3)))) (mCons (mVar 8) (mCons (mVar 6) (mCons (mBin ixD (mVar 0) (mUn negD (mC (.int 2)))) (mCons (mVar 7) (mCons (mBin ixD (mVar 0) (mUn negD (mC (.int 1)))) mNil)))))))))
 (sRet (mBin addD (mSl (mVar 0) oNone (oSome (mUn negD (mC (.int 3))))) (mOfF (mLstF (mCons (mVar 9) mNil))))))
 sSkip)
 (sSeq (sIf (mAndT (mBl (mBin gtD (mVar 5) (mC (.int 5)))) (mBl (mBin gtD (mUn lenD (mVar 0)) (mC (.int 1)))))
 (sRet (mBin addD (mSl (mVar 0) oNone (oSome (mUn negD (mC (.int 2))))) (mOfF (mLstF (mCons (mBin addD (mBin ixD (mOfF (mLstF (mCons (mTup (mCons (mC (.str [100, 111])) mNil)) (mCons (mTup (mCons (mC (.str [43])) mNil)) mNil)))) (mBin modD (mBin fdivD (mVar 4) (mC (.int 512))) (mC (.int 2)))) (mTup (mCons (mBin ixD (mVar 0) (mUn negD (mC (.int 2)))) (mCons (mBin ixD (mVar 0) (mUn negD (mC (.int 1)))) mNil)))) mNil)))))
 sSkip)
 (sSeq (sIf (mAndT (mBl (mBin gtD (mVar 5) (mC (.int 2)))) (mBl (mBin gtD (mUn lenD (mVar 0)) (mC (.int 0)))))
 (sRet (mBin addD (mSl (mVar 0) oNone (oSome (mUn negD (mC (.int 1))))) (mOfF (mLstF (mCons (mTup (mCons (mC (.str [102, 110])) (mCons (mVar 6) (mCons (mBin ixD (mVar 0) (mUn negD (mC (.int 1)))) mNil)))) mNil)))))
 sSkip)
 (sRet (mBin addD (mVar 0) (mOfF (mLstF (mCons (mTup (mCons (mC (.str [110, 97, 109, 101])) (mCons (mVar 6) mNil))) mNil)))))))))))))
noncomputable def F__law_grown : MF := mkF 4 10 g__law_grown
noncomputable def g__law_words (m : MF) : MS := (sSeq (sOwn 1 (mSlB (mLstF (mCons (mBin ixD (mVar 0) (mC (.int 0))) mNil)) oNone (oSome (mUn intBD (mBin neA (mBin ixD (mVar 0) (mC (.int 0))) (mC (.str [110, 97, 109, 101])))))))
 (sSeq (sFor (setV 2) (mIt (mSl (mVar 0) (oSome (mC (.int 1))) oNone))
 (sIf (mTru (mUn (instD "tuple") (mVar 2)))
 (sOwn 1 (mCat (mOwn 1) (mCallF 1 m (mCons (mVar 2) mNil))))
 (sX (mApp 1 (mVar 2)))))
 (sRetOwn 1)))
noncomputable def F__law_words : Nat → MF
  | 0 => fun _ => none
  | k + 1 => mkF 1 3 (g__law_words (F__law_words k))
noncomputable def g__law_all_known (m : MF) : MS := (sSeq (sIf (mBl (mBin eqA (mBin ixD (mVar 0) (mC (.int 0))) (mC (.str [110, 97, 109, 101]))))
 (sRet (mBin (inD false) (mBin ixD (mVar 0) (mC (.int 1))) (mVar 1)))
 sSkip)
 (sSeq (sIf (mBl (mBin eqA (mBin ixD (mVar 0) (mC (.int 0))) (mC (.str [102, 110]))))
 (sRet (mCall 2 m (mCons (mBin ixD (mVar 0) (mC (.int 2))) (mCons (mBin addD (mVar 1) (mOfF (mLstF (mCons (mBin ixD (mVar 0) (mC (.int 1))) mNil)))) mNil))))
 sSkip)
 (sSeq (sIf (mBl (mBin eqA (mBin ixD (mVar 0) (mC (.int 0))) (mC (.str [99, 97, 115, 101]))))
 (sSeq (sIf (mOrT (mNotT (mTru (mCall 2 m (mCons (mBin ixD (mVar 0) (mC (.int 1))) (mCons (mVar 1) mNil))))) (mNotT (mTru (mCall 2 m (mCons (mBin ixD (mVar 0) (mC (.int 4))) (mCons (mBin addD (mVar 1) (mOfF (mLstF (mCons (mBin ixD (mVar 0) (mC (.int 3))) mNil)))) mNil))))))
 (sRet (mC (.bl false)))
 sSkip)
 (sRet (mCall 2 m (mCons (mBin ixD (mVar 0) (mC (.int 6))) (mCons (mBin addD (mVar 1) (mOfF (mLstF (mCons (mBin ixD (mVar 0) (mC (.int 5))) mNil)))) mNil)))))
 sSkip)
 (sRet (mAnd (mCall 2 m (mCons (mBin ixD (mVar 0) (mC (.int 1))) (mCons (mVar 1) mNil))) (mCall 2 m (mCons (mBin ixD (mVar 0) (mC (.int 2))) (mCons (mVar 1) mNil))))))))
noncomputable def F__law_all_known : Nat → MF
  | 0 => fun _ => none
  | k + 1 => mkF 2 2 (g__law_all_known (F__law_all_known k))
noncomputable def gx__law_told_NoName (e : Addr) : MS := (sSeq (sIf (mBl (mBin isND (mVar 1) (mC .non)))
 (sRet (mC (.str [114, 101, 97, 100])))
 sSkip)
 (sSeq (sIf (mOrT (mNotT (mTru (mUn (isX e true) (mVar 1)))) (mNotT (mTru (mUn (isX e true) (mVar 1)))))
 (sRet (mC (.str [111, 116, 104, 101, 114])))
 sSkip)
 (sSeq (sIf (mOrT (mTru (mUn (isX e false) (mVar 1))) (mOrT (mTru (mUn (isX e false) (mVar 1))) (mTru (mUn (isX e false) (mVar 1)))))
 (sRet (mC (.str [111, 116, 104, 101, 114])))
 sSkip)
 (sRet (mC (.str [78, 111, 78, 97, 109, 101]))))))
theorem rho__law_told_NoName : ∀ (e : Addr) (r : En) (d : D), rho0 3 1 2 (.str [78, 111, 78, 97, 109, 101]) r = some d → rD (gx__law_told_NoName e) ((r.set 1 (.v (.ref e))).set 2 .un) = some d := by
  intro e r d h
  obtain ⟨hl, _, _, rfl⟩ := rho0_some h
  match r, hl with
  | [a0, a1, a2], _ =>
    show rD (gx__law_told_NoName e) [a0, .v (.ref e), .un] = _
    simp [rD, gx__law_told_NoName, sSeq, sIf, sRet, sSkip, mOrT, mAndT, mNotT, mTru, mBl, mUn, mBin, mVar, mC, isX, isND, notD, mAnd, mOr, truD, blD]
noncomputable def r__law_told : MR := (rThen (sSet 1 (mC .non))
 (rOr (mTry (mCons (mVar 0) mNil) 1 (fun ds => M_read_NoName (ds.map .v)) "NoName" (rho0 3 1 2 (.str [78, 111, 78, 97, 109, 101])))
 (mTryOk (mOfF (mCallF 1 F_read (mCons (mVar 0) mNil))) (rD (sSeq (sIf (mBl (mBin isND (mVar 1) (mC .non)))
 (sRet (mC (.str [114, 101, 97, 100])))
 sSkip) sNone)))))
noncomputable def F__law_told : MF := mkR 1 3 r__law_told
noncomputable def g_law : MS := (sSeq (sSet 1 (mCall 2 F__law_mixed (mCons (mCall 2 F__law_cell (mCons (mVar 0) (mCons (mC (.int 0)) mNil))) (mCons (mC (.int 900)) mNil))))
 (sSeq (sSet 2 (mBin addD (mC (.int 3)) (mBin modD (mVar 1) (mC (.int 2)))))
 (sSeq (sSet 3 (mCall 2 F__law_names (mCons (mCall 2 F__law_mixed (mCons (mCall 2 F__law_cell (mCons (mVar 0) (mCons (mC (.int 1)) mNil))) (mCons (mC (.int 901)) mNil))) (mCons (mC (.int 5)) mNil))))
 (sSeq (sSet 4 (mSl (mVar 3) oNone (oSome (mBin subD (mVar 2) (mC (.int 1))))))
 (sSeq (sIf (mBl (mBin eqA (mBin modD (mBin fdivD (mVar 1) (mC (.int 3))) (mC (.int 3))) (mC (.int 0))))
 (sSet 4 (mOfF (mRevL (mAsL (mVar 4)))))
 sSkip)
 (sSeq (sSet 4 (mBin addD (mVar 4) (mOfF (mLstF (mCons (mC (.str [109, 97, 105, 110])) mNil)))))
 (sSeq (sSet 5 (mSl (mVar 0) (oSome (mC (.int 2))) (oSome (mC (.int 62)))))
 (sSeq (sOwn 6 (mLstF mNil))
 (sSeq (sSet 7 (mC (.bl true)))
 (sSeq (sFor (setV 8) (mRng1 (mVar 2))
 (sSeq (sSet 9 (mOfF (mLstF (mCons (mTup (mCons (mC (.str [110, 97, 109, 101])) (mCons (mBin ixD (mVar 4) (mVar 8)) mNil))) mNil))))
 (sSeq (sFor (setV 10) (mRng3 (mVar 8) (mUn lenD (mVar 5)) (mVar 2))
 (sSet 9 (mCall 4 F__law_grown (mCons (mVar 9) (mCons (mBin ixD (mVar 5) (mVar 10)) (mCons (mVar 10) (mCons (mBin addD (mVar 3) (mOfF (mLstF (mCons (mC (.str [109, 97, 105, 110])) mNil)))) mNil)))))))
 (sSeq (sWhile WF (mBl (mBin gtD (mUn lenD (mVar 9)) (mC (.int 1))))
 (sSet 9 (mBin addD (mSl (mVar 9) (oSome (mC (.int 2))) oNone) (mOfF (mLstF (mCons (mTup (mCons (mC (.str [100, 111])) (mCons (mBin ixD (mVar 9) (mC (.int 0))) (mCons (mBin ixD (mVar 9) (mC (.int 1))) mNil)))) mNil))))))
 (sSeq (sSet 11 (mBin ixD (mVar 9) (mC (.int 0))))
 (sSeq (sIf (mBl (mBin eqA (mBin modD (mBin fdivD (mVar 1) (mC (.int 9))) (mC (.int 2))) (mC (.int 0))))
 (sSet 11 (mTup (mCons (mC (.str [102, 110])) (mCons (mBin ixD (mVar 3) (mC (.int 3))) (mCons (mTup (mCons (mC (.str [102, 110])) (mCons (mBin ixD (mVar 3) (mC (.int 4))) (mCons (mVar 11) mNil)))) mNil)))))
 sSkip)
 (sSeq (sSet 7 (mAnd (mVar 7) (mCall 2 (F__law_all_known RF) (mCons (mVar 11) (mCons (mSl (mVar 4) oNone (oSome (mBin addD (mVar 8) (mC (.int 1))))) mNil)))))
 (sX (mApp 6 (mJoin (mC (.str [32])) (mCat (mLstF (mCons (mC (.str [100, 101, 102])) (mCons (mBin ixD (mVar 4) (mVar 8)) mNil))) (mCallF 1 (F__law_words RF) (mCons (mVar 11) mNil)))))))))))))
 (sRet (mBin eqA (mCall 1 F__law_told (mCons (mJoin (mC (.str [10])) (mOwn 6)) mNil)) (mBin ixD (mOfF (mLstF (mCons (mC (.str [78, 111, 78, 97, 109, 101])) (mCons (mC (.str [114, 101, 97, 100])) mNil)))) (mUn intBD (mVar 7)))))))))))))))
noncomputable def F_law : MF := mkF 1 12 g_law
structure De (K : Fg) (mg : Str → Option Value) (n : Str) (i : Nat) (ps : List Str) where
  a : Addr
  d : FuncData
  F : Fun K n n (top i) a d
  m : mg n = some (.ref a)
  b : Binds K d ps []
noncomputable abbrev Ok (P : Program) (w : World) {K : Fg} {mg : Str → Option Value} (base : Heap) {n : Str} {i : Nat} {ps : List Str} (D : De K mg n i ps) (k m : Nat) (F : MF) : Prop := FnOk P w K mg base CX0 k D.a D.d ps (spD K m F)
set_option genInjectivity false in
set_option genSizeOf false in
structure Txt (K : Fg) (mg : Str → Option Value) (Ps : Params) where
  d_inner : De K mg "inner" 8 ["expression"]
  d_places : De K mg "places" 7 ["E"]
  d_all_between : De K mg "all_between" 15 ["text", "least", "greatest"]
  d_is_name : De K mg "is_name" 16 ["text"]
  d_is_number : De K mg "is_number" 17 ["text"]
  d_read_number : De K mg "read_number" 18 ["text"]
  d_take_word : De K mg "take_word" 20 ["waiting"]
  d_take_name : De K mg "take_name" 21 ["waiting"]
  d_read_leaf : De K mg "read_leaf" 23 ["word"]
  d_take_expression : De K mg "take_expression" 22 ["waiting", "around"]
  d_read_expression : De K mg "read_expression" 19 ["text"]
  d_refuse_open_name : De K mg "refuse_open_name" 30 ["expression", "known"]
  d_scopes_in : De K mg "scopes_in" 31 ["expression", "known"]
  d_refuse_open_names : De K mg "refuse_open_names" 29 ["expression", "known"]
  d_read_def : De K mg "read_def" 28 ["line", "above"]
  d_read : De K mg "read" 27 ["text"]
  d__law_cell : De K mg "_law_cell" 33 ["_law_script", "_law_k"]
  d__law_mixed : De K mg "_law_mixed" 34 ["_law_cell_here", "_law_k"]
  d__law_names : De K mg "_law_names" 35 ["_law_cell_here", "_law_many"]
  d__law_grown : De K mg "_law_grown" 36 ["_law_pile", "_law_cell_here", "_law_k", "_law_names_here"]
  d__law_words : De K mg "_law_words" 37 ["_law_told_here"]
  d__law_all_known : De K mg "_law_all_known" 38 ["_law_told_here", "_law_known"]
  d__law_told : De K mg "_law_told" 39 ["_law_text"]
  d_law : De K mg "law" 40 ["_law_script"]
  z_ValueError : mg "ValueError" = none
  z_all : mg "all" = none
  z_int : mg "int" = none
  z_isinstance : mg "isinstance" = none
  z_len : mg "len" = none
  z_list : mg "list" = none
  z_range : mg "range" = none
  z_reversed : mg "reversed" = none
  z_tuple : mg "tuple" = none
  a_FieldError : Addr
  m_FieldError : mg "FieldError" = some (.ref a_FieldError)
  a_TooMuch : Addr
  m_TooMuch : mg "TooMuch" = some (.ref a_TooMuch)
  a_NoLine : Addr
  m_NoLine : mg "NoLine" = some (.ref a_NoLine)
  a_NoName : Addr
  m_NoName : mg "NoName" = some (.ref a_NoName)
  a_NoKind : Addr
  m_NoKind : mg "NoKind" = some (.ref a_NoKind)
  y_NoName : ErrK K a_FieldError a_NoName [.ref a_NoName, .type "ValueError"] [.ref a_TooMuch, .ref a_NoLine, .ref a_NoKind]
  c_LONGEST_NAME : ∃ t, mg "LONGEST_NAME" = some (.int 8 t)
  c_MOST_FIGURES : ∃ t, mg "MOST_FIGURES" = some (.int 6 t)
  c_DEEPEST : ∃ t, mg "DEEPEST" = some (.int 30 t)
  c_KEPT_WORDS : GTup mg K "KEPT_WORDS" C_KEPT_WORDS
  c_FORMS : GDict mg K Ps "FORMS" C_FORMS
  c_MOST_LINES : ∃ t, mg "MOST_LINES" = some (.int 12 t)
  c_MOST_PLACES : ∃ t, mg "MOST_PLACES" = some (.int 80 t)
section
variable {P : Program} {w : World} {K : Fg} {mg : Str → Option Value} {base : Heap}
theorem sc_inner : FnScope ["expression"] ["expression"] (defScope (top 8)) := ⟨rfl, rfl, rfl, by decide +kernel, rfl, by decide +kernel, by decide +kernel⟩
theorem ok_inner (T : Txt K mg w.params) : Ok P w base T.d_inner 1 1 F_inner := by
  refine fn_d T.d_inner.F sc_inner 1 1 rfl rfl (g := g_inner) (fun cdv A outer s H E hr => ?_)
  unfold g_inner
  exact (by refine ds_one ?_; exact (by refine ds_ret ?_; exact (by refine de_f ?_; exact (df_compIf (N' := ["part"]) (cap := []) rfl cmp_mk (di_seq (de_var 0 (pv 0))) (fun _ _ _ _ => (dg_name 0 (show (["part"] : List Str).Nodup by decide +kernel))) (fun _ _ _ _ => by exact (dt_tru (de_isinst (by rfl) (by exact T.z_isinstance) (de_var 0 (pv 0)) (pe_bltn (by rfl) (by exact T.z_tuple) boot_tuple rfl)))) (fun _ _ _ _ => by exact (de_var 0 (pv 0))) 1))))
theorem sc_places : FnScope ["E", "found", "waiting", "place"] ["E"] (defScope (top 7)) := ⟨rfl, rfl, rfl, by decide +kernel, rfl, by decide +kernel, by decide +kernel⟩
theorem ok_places (T : Txt K mg w.params) : Ok P w base T.d_places 2 1 F_places := by
  refine fn_d T.d_places.F sc_places 1 4 rfl rfl (g := g_places) (fun cdv A outer s H E hr => ?_)
  unfold g_places
  exact (by refine ds_cons ?_ ?_; exact (ds_own 1 (by refine df_lst ?_; exact da_nil) sc_places.nd); exact (by refine ds_cons ?_ ?_; exact (ds_own 2 (by refine df_lst ?_; exact (da_cons (de_var 0 (pv 0)) da_nil (hs := stName))) sc_places.nd); exact (by refine ds_cons ?_ ?_; exact (ds_while WF PassesOwn.never (dt_truB (db_own 2 (pv 2))) (by refine ds_cons ?_ ?_; exact (ds_setX 3 (dx_pop 2 (pv 2)) sc_places.nd); exact (by refine ds_cons ?_ ?_; exact (ds_x (dx_append 1 (pv 1) (de_var 3 (pv 3)))); exact (by refine ds_one ?_; exact (ds_x (dx_extend 2 (pv 2) (de_rev (de_call (ok_inner T) (hr.mono (by decide)) (by rfl) T.d_inner.m T.d_inner.F.kp T.d_inner.b (da_cons (de_var 3 (pv 3)) da_nil (hs := stName)))))))))); exact (by refine ds_one ?_; exact (ds_retOwn 1 (pv 1))))))
theorem sc_all_between : FnScope ["text", "least", "greatest"] ["text", "least", "greatest"] (defScope (top 15)) := ⟨rfl, rfl, rfl, by decide +kernel, rfl, by decide +kernel, by decide +kernel⟩
theorem ok_all_between (T : Txt K mg w.params) : Ok P w base T.d_all_between 1 3 F_all_between := by
  refine fn_d T.d_all_between.F sc_all_between 3 3 rfl rfl (g := g_all_between) (fun cdv A outer s H E hr => ?_)
  unfold g_all_between
  exact (by refine ds_one ?_; exact (by refine ds_ret ?_; exact (de_all (by rfl) T.z_all (by refine db_f ?_; exact (df_comp (N' := ["least", "greatest", "sign"]) (cap := [1, 2]) rfl cmp_mk (di_str (de_var 0 (pv 0))) (fun _ _ _ _ => (dg_name 2 (show (["least", "greatest", "sign"] : List Str).Nodup by decide +kernel))) (fun _ _ _ _ => by exact (de_chain op_leA od_leA op_leA od_leA (de_var 0 (pv 0)) (de_var 2 (pv 2)) (de_var 1 (pv 1)))) 3)))))
theorem sc_is_name : FnScope ["text"] ["text"] (defScope (top 16)) := ⟨rfl, rfl, rfl, by decide +kernel, rfl, by decide +kernel, by decide +kernel⟩
theorem ok_is_name (T : Txt K mg w.params) : Ok P w base T.d_is_name 2 1 F_is_name := by
  refine fn_d T.d_is_name.F sc_is_name 1 1 rfl rfl (g := g_is_name) (fun cdv A outer s H E hr => ?_)
  unfold g_is_name
  exact (by refine ds_one ?_; exact (by refine ds_ret ?_; exact (de_and (de_chain op_leA od_leA op_leA od_leA de_int (de_len (by rfl) T.z_len (de_var 0 (pv 0))) (de_gint T.c_LONGEST_NAME (by rfl))) (de_and (de_call (ok_all_between T) (hr.mono (by decide)) (by rfl) T.d_all_between.m T.d_all_between.F.kp T.d_all_between.b (by refine da_cons (de_var 0 (pv 0)) ?_ (hs := stName); refine da_cons (de_str (s := [97]) (by rfl)) ?_ (hs := stConst); refine da_cons (de_str (s := [122]) (by rfl)) ?_ (hs := stConst); exact da_nil)) (de_one (de_cmp op_notIn_seq (od_in true) (de_var 0 (pv 0)) (de_gtup T.c_KEPT_WORDS (by rfl)) rfl))))))
theorem sc_is_number : FnScope ["text"] ["text"] (defScope (top 17)) := ⟨rfl, rfl, rfl, by decide +kernel, rfl, by decide +kernel, by decide +kernel⟩
theorem ok_is_number (T : Txt K mg w.params) : Ok P w base T.d_is_number 2 1 F_is_number := by
  refine fn_d T.d_is_number.F sc_is_number 1 1 rfl rfl (g := g_is_number) (fun cdv A outer s H E hr => ?_)
  unfold g_is_number
  exact (by refine ds_cons ?_ ?_; exact (ds_if (dt_w (dw_or (dt_not (dt_chain op_leA od_leA op_leA od_leA de_int (de_len (by rfl) T.z_len (de_var 0 (pv 0))) (de_gint T.c_MOST_FIGURES (by rfl)))) (dw_or1 (dt_not (dt_tru (de_call (ok_all_between T) (hr.mono (by decide)) (by rfl) T.d_all_between.m T.d_all_between.F.kp T.d_all_between.b (by refine da_cons (de_var 0 (pv 0)) ?_ (hs := stName); refine da_cons (de_str (s := [48]) (by rfl)) ?_ (hs := stConst); refine da_cons (de_str (s := [57]) (by rfl)) ?_ (hs := stConst); exact da_nil))))))) (by refine ds_one ?_; exact (by refine ds_ret ?_; exact de_bl)) ds_nil); exact (by refine ds_one ?_; exact (by refine ds_ret ?_; exact (de_or (de_cmp (op_eqA hr.units0) od_eqA (de_var 0 (pv 0)) (de_str (s := [48]) (by rfl)) (nomark _)) (de_one (de_cmp (op_neA hr.units0) od_neA (de_ix (de_var 0 (pv 0)) de_int) (de_str (s := [48]) (by rfl)) (nomark _)))))))
theorem sc_read_number : FnScope ["text"] ["text"] (defScope (top 18)) := ⟨rfl, rfl, rfl, by decide +kernel, rfl, by decide +kernel, by decide +kernel⟩
theorem ok_read_number (T : Txt K mg w.params) : Ok P w base T.d_read_number 3 1 F_read_number := by
  refine fn_d T.d_read_number.F sc_read_number 1 1 rfl rfl (g := g_read_number) (fun cdv A outer s H E hr => ?_)
  unfold g_read_number
  exact (by refine ds_cons ?_ ?_; exact (ds_if (dt_not (dt_tru (de_call (ok_is_number T) (hr.mono (by decide)) (by rfl) T.d_is_number.m T.d_is_number.F.kp T.d_is_number.b (da_cons (de_var 0 (pv 0)) da_nil (hs := stName))))) (by refine ds_one ?_; exact ds_never) ds_nil); exact (by refine ds_one ?_; exact (by refine ds_ret ?_; exact (de_intOf (by rfl) T.z_int (de_var 0 (pv 0))))))
theorem sc_take_word : FnScope ["waiting"] ["waiting"] (defScope (top 20)) := ⟨rfl, rfl, rfl, by decide +kernel, rfl, by decide +kernel, by decide +kernel⟩
theorem ok_take_word (T : Txt K mg w.params) : Ok P w base T.d_take_word 1 1 F_take_word := by
  refine fn_d T.d_take_word.F sc_take_word 1 1 rfl rfl (g := g_take_word) (fun cdv A outer s H E hr => ?_)
  unfold g_take_word
  exact (by refine ds_cons ?_ ?_; exact (ds_if (dt_not (dt_truB (db_own 0 (pv 0)))) (by refine ds_one ?_; exact ds_never) ds_nil); exact (by refine ds_one ?_; exact (ds_retX (dx_pop 0 (pv 0)))))
theorem sc_take_name : FnScope ["waiting", "word"] ["waiting"] (defScope (top 21)) := ⟨rfl, rfl, rfl, by decide +kernel, rfl, by decide +kernel, by decide +kernel⟩
theorem ok_take_name (T : Txt K mg w.params) : Ok P w base T.d_take_name 3 1 F_take_name := by
  refine fn_d T.d_take_name.F sc_take_name 1 2 rfl rfl (g := g_take_name) (fun cdv A outer s H E hr => ?_)
  unfold g_take_name
  exact (by refine ds_cons ?_ ?_; exact (ds_setX 1 (dx_call (ok_take_word T) (hr.mono (by decide)) (by rfl) T.d_take_word.m T.d_take_word.F.kp T.d_take_word.b (dz_p (pv 0) da_nil)) sc_take_name.nd); exact (by refine ds_cons ?_ ?_; exact (ds_if (dt_not (dt_tru (de_call (ok_is_name T) (hr.mono (by decide)) (by rfl) T.d_is_name.m T.d_is_name.F.kp T.d_is_name.b (da_cons (de_var 1 (pv 1)) da_nil (hs := stName))))) (by refine ds_one ?_; exact ds_never) ds_nil); exact (by refine ds_one ?_; exact (by refine ds_ret ?_; exact (de_var 1 (pv 1))))))
theorem sc_read_leaf : FnScope ["word"] ["word"] (defScope (top 23)) := ⟨rfl, rfl, rfl, by decide +kernel, rfl, by decide +kernel, by decide +kernel⟩
theorem ok_read_leaf (T : Txt K mg w.params) : Ok P w base T.d_read_leaf 4 1 F_read_leaf := by
  refine fn_d T.d_read_leaf.F sc_read_leaf 1 1 rfl rfl (g := g_read_leaf) (fun cdv A outer s H E hr => ?_)
  unfold g_read_leaf
  exact (by refine ds_cons ?_ ?_; exact (ds_if (dt_tru (de_call (ok_is_name T) (hr.mono (by decide)) (by rfl) T.d_is_name.m T.d_is_name.F.kp T.d_is_name.b (da_cons (de_var 0 (pv 0)) da_nil (hs := stName)))) (by refine ds_one ?_; exact (by refine ds_ret ?_; exact (by refine de_tup ?_; exact (by refine da_cons (de_str (s := [110, 97, 109, 101]) (by rfl)) ?_ (hs := stConst); refine da_cons (de_var 0 (pv 0)) ?_ (hs := stName); exact da_nil)))) ds_nil); exact (by refine ds_one ?_; exact (by refine ds_ret ?_; exact (by refine de_tup ?_; exact (by refine da_cons (de_str (s := [110, 117, 109]) (by rfl)) ?_ (hs := stConst); refine da_cons (de_call (ok_read_number T) (hr.mono (by decide)) (by rfl) T.d_read_number.m T.d_read_number.F.kp T.d_read_number.b (da_cons (de_var 0 (pv 0)) da_nil (hs := stName))) ?_ (hs := stCall); exact da_nil)))))
theorem sc_take_expression : FnScope ["waiting", "around", "word", "taken", "part"] ["waiting", "around"] (defScope (top 22)) := ⟨rfl, rfl, rfl, by decide +kernel, rfl, by decide +kernel, by decide +kernel⟩
theorem ok_take_expression : ∀ (k : Nat) (T : Txt K mg w.params), Ok P w base T.d_take_expression (k + 4) 2 (F_take_expression k)
  | 0, T => fn_0 2
  | k + 1, T => by
    have G := ok_take_expression k T
    rw [show k + 1 + 4 = (k + 4) + 1 by omega]
    refine fn_d T.d_take_expression.F sc_take_expression 2 5 rfl rfl (g := g_take_expression (F_take_expression k)) (fun cdv A outer s H E hr => ?_)
    unfold g_take_expression
    exact (by refine ds_cons ?_ ?_; exact (ds_if (dt_cmp op_gt od_gt (de_var 1 (pv 1)) (de_gint T.c_DEEPEST (by rfl)) (nomark _)) (by refine ds_one ?_; exact ds_never) ds_nil); exact (by refine ds_cons ?_ ?_; exact (ds_setX 2 (dx_call (ok_take_word T) (hr.mono (by omega)) (by rfl) T.d_take_word.m T.d_take_word.F.kp T.d_take_word.b (dz_p (pv 0) da_nil)) sc_take_expression.nd); exact (by refine ds_cons ?_ ?_; exact (ds_if (dt_notHas T.c_FORMS (by rfl) (de_var 2 (pv 2))) (by refine ds_one ?_; exact (by refine ds_ret ?_; exact (de_call (ok_read_leaf T) (hr.mono (by omega)) (by rfl) T.d_read_leaf.m T.d_read_leaf.F.kp T.d_read_leaf.b (da_cons (de_var 2 (pv 2)) da_nil (hs := stName))))) ds_nil); exact (by refine ds_cons ?_ ?_; exact (ds_own 3 (by refine df_lst ?_; exact (da_cons (de_var 2 (pv 2)) da_nil (hs := stName))) sc_take_expression.nd); exact (by refine ds_cons ?_ ?_; exact (ds_for PassesOwn.never rfl (di_str (de_gat T.c_FORMS (by rfl) (de_var 2 (pv 2)))) (dg_name 4 sc_take_expression.nd) (by refine ds_one ?_; exact (ds_if (dt_cmp (op_eqA hr.units0) od_eqA (de_var 4 (pv 4)) (de_str (s := [110]) (by rfl)) (nomark _)) (by refine ds_one ?_; exact (ds_x (dx_appendX 3 (pv 3) (dx_call (ok_take_name T) (hr.mono (by omega)) (by rfl) T.d_take_name.m T.d_take_name.F.kp T.d_take_name.b (dz_p (pv 0) da_nil))))) (by refine ds_one ?_; exact (ds_x (dx_appendX 3 (pv 3) (dx_call G (hr.mono (by omega)) (by rfl) T.d_take_expression.m T.d_take_expression.F.kp T.d_take_expression.b (dz_p (pv 0) (da_cons (de_bin op_plus od_plus (de_var 1 (pv 1)) de_int) da_nil (hs := stBin)))))))))); exact (by refine ds_one ?_; exact (by refine ds_ret ?_; exact (de_tupleOf (by rfl) T.z_tuple (db_own 3 (pv 3))))))))))
theorem sc_read_expression : FnScope ["text", "waiting", "expression"] ["text"] (defScope (top 19)) := ⟨rfl, rfl, rfl, by decide +kernel, rfl, by decide +kernel, by decide +kernel⟩
theorem ok_read_expression (T : Txt K mg w.params) : Ok P w base T.d_read_expression 45 1 F_read_expression := by
  refine fn_d T.d_read_expression.F sc_read_expression 1 3 rfl rfl (g := g_read_expression) (fun cdv A outer s H E hr => ?_)
  unfold g_read_expression
  exact (by refine ds_cons ?_ ?_; exact (ds_own 1 (df_rev (db_f (df_split (de_var 0 (pv 0)) (de_str (s := [32]) (by rfl))))) sc_read_expression.nd); exact (by refine ds_cons ?_ ?_; exact (ds_setX 2 (dx_call (ok_take_expression RF T) (hr.mono (by decide)) (by rfl) T.d_take_expression.m T.d_take_expression.F.kp T.d_take_expression.b (dz_p (pv 1) (da_cons de_int da_nil (hs := stConst)))) sc_read_expression.nd); exact (by refine ds_cons ?_ ?_; exact (ds_if (dt_truB (db_own 1 (pv 1))) (by refine ds_one ?_; exact ds_never) ds_nil); exact (by refine ds_one ?_; exact (by refine ds_ret ?_; exact (de_var 2 (pv 2)))))))
theorem sc_refuse_open_name : FnScope ["expression", "known", "name"] ["expression", "known"] (defScope (top 30)) := ⟨rfl, rfl, rfl, by decide +kernel, rfl, by decide +kernel, by decide +kernel⟩
theorem ok_refuse_open_name (T : Txt K mg w.params) : Ok P w base T.d_refuse_open_name 1 2 F_refuse_open_name := by
  refine fn_d T.d_refuse_open_name.F sc_refuse_open_name 2 3 rfl rfl (g := g_refuse_open_name) (fun cdv A outer s H E hr => ?_)
  unfold g_refuse_open_name
  exact (by refine ds_one ?_; exact (ds_if (dt_w (dw_and (dt_cmp (op_eqA hr.units0) od_eqA (de_ix (de_var 0 (pv 0)) de_int) (de_str (s := [110, 97, 109, 101]) (by rfl)) (nomark _)) (dw_and1 (dt_cmp op_notIn_seq (od_in true) (de_ix (de_var 0 (pv 0)) de_int) (de_var 1 (pv 1)) rfl)))) (by refine ds_cons ?_ ?_; exact (ds_set 2 (de_ix (de_var 0 (pv 0)) de_int) sc_refuse_open_name.nd); exact (by refine ds_one ?_; exact ds_never)) ds_nil))
theorem okx_refuse_open_name_NoName (T : Txt K mg w.params) : FnOk P w K mg base (CX1 P w) 1 T.d_refuse_open_name.a T.d_refuse_open_name.d ["expression", "known"] (spY K mg 2 M_refuse_open_name_NoName) := by
  refine fn_y T.d_refuse_open_name.F sc_refuse_open_name 2 3 rfl rfl (m := x_refuse_open_name_NoName) (fun cdv A outer s H E hr => ?_)
  unfold x_refuse_open_name_NoName
  exact (by refine yss_here ?_; exact (ys_if (dt_w (dw_and (dt_cmp (op_eqA hr.units0) od_eqA (de_ix (de_var 0 (pv 0)) de_int) (de_str (s := [110, 97, 109, 101]) (by rfl)) (nomark _)) (dw_and1 (dt_cmp op_notIn_seq (od_in true) (de_ix (de_var 0 (pv 0)) de_int) (de_var 1 (pv 1)) rfl)))) (by refine yss_later ?_ ?_; exact (ds_set 2 (de_ix (de_var 0 (pv 0)) de_int) sc_refuse_open_name.nd); exact (by refine yss_here ?_; exact (YS.of (xs_raiseK T.m_NoName T.y_NoName.exc (by rfl) (de_fstr (dj_c (de_str (s := [116, 104, 101, 32, 110, 97, 109, 101, 32]) (by rfl)) (dj_v (de_var 2 (pv 2)) (dj_c (de_str (s := [32, 105, 115, 32, 111, 112, 101, 110]) (by rfl)) dj_nil)))))))) yss_no))
theorem sc_scopes_in : FnScope ["expression", "known", "first", "second"] ["expression", "known"] (defScope (top 31)) := ⟨rfl, rfl, rfl, by decide +kernel, rfl, by decide +kernel, by decide +kernel⟩
theorem ok_scopes_in (T : Txt K mg w.params) : Ok P w base T.d_scopes_in 2 2 F_scopes_in := by
  refine fn_d T.d_scopes_in.F sc_scopes_in 2 4 rfl rfl (g := g_scopes_in) (fun cdv A outer s H E hr => ?_)
  unfold g_scopes_in
  exact (by refine ds_cons ?_ ?_; exact (ds_if (dt_cmp (op_eqA hr.units0) od_eqA (de_ix (de_var 0 (pv 0)) de_int) (de_str (s := [102, 110]) (by rfl)) (nomark _)) (by refine ds_one ?_; exact (by refine ds_ret ?_; exact (by refine de_f ?_; exact (by refine df_lst ?_; exact (da_cons (by refine de_tup ?_; exact (by refine da_cons (de_ix (de_var 0 (pv 0)) de_int) ?_ (hs := stSub); refine da_cons (de_bin op_plus od_plus (de_var 1 (pv 1)) (by refine de_f ?_; exact (by refine df_lst ?_; exact (da_cons (de_ix (de_var 0 (pv 0)) de_int) da_nil (hs := stSub))))) ?_ (hs := stBin); exact da_nil)) da_nil (hs := stTuple)))))) ds_nil); exact (by refine ds_cons ?_ ?_; exact (ds_if (dt_cmp (op_eqA hr.units0) od_eqA (de_ix (de_var 0 (pv 0)) de_int) (de_str (s := [99, 97, 115, 101]) (by rfl)) (nomark _)) (by refine ds_cons ?_ ?_; exact (ds_set 2 (by refine de_tup ?_; exact (by refine da_cons (de_ix (de_var 0 (pv 0)) de_int) ?_ (hs := stSub); refine da_cons (de_bin op_plus od_plus (de_var 1 (pv 1)) (by refine de_f ?_; exact (by refine df_lst ?_; exact (da_cons (de_ix (de_var 0 (pv 0)) de_int) da_nil (hs := stSub))))) ?_ (hs := stBin); exact da_nil)) sc_scopes_in.nd); exact (by refine ds_cons ?_ ?_; exact (ds_set 3 (by refine de_tup ?_; exact (by refine da_cons (de_ix (de_var 0 (pv 0)) de_int) ?_ (hs := stSub); refine da_cons (de_bin op_plus od_plus (de_var 1 (pv 1)) (by refine de_f ?_; exact (by refine df_lst ?_; exact (da_cons (de_ix (de_var 0 (pv 0)) de_int) da_nil (hs := stSub))))) ?_ (hs := stBin); exact da_nil)) sc_scopes_in.nd); exact (by refine ds_one ?_; exact (by refine ds_ret ?_; exact (by refine de_f ?_; exact (by refine df_lst ?_; exact (by refine da_cons (by refine de_tup ?_; exact (by refine da_cons (de_ix (de_var 0 (pv 0)) de_int) ?_ (hs := stSub); refine da_cons (de_var 1 (pv 1)) ?_ (hs := stName); exact da_nil)) ?_ (hs := stTuple); refine da_cons (de_var 2 (pv 2)) ?_ (hs := stName); refine da_cons (de_var 3 (pv 3)) ?_ (hs := stName); exact da_nil))))))) ds_nil); exact (by refine ds_one ?_; exact (by refine ds_ret ?_; exact (by refine de_f ?_; exact (df_comp (N' := ["known", "part"]) (cap := [1]) rfl cmp_mk (di_seq (de_call (ok_inner T) (hr.mono (by decide)) (by rfl) T.d_inner.m T.d_inner.F.kp T.d_inner.b (da_cons (de_var 0 (pv 0)) da_nil (hs := stName)))) (fun _ _ _ _ => (dg_name 1 (show (["known", "part"] : List Str).Nodup by decide +kernel))) (fun _ _ _ _ => by exact (by refine de_tup ?_; exact (by refine da_cons ?_ ?_; exact (de_var 1 (pv 1)); refine da_cons ?_ ?_; exact (de_var 0 (pv 0)); exact da_nil))) 2))))))
theorem sc_refuse_open_names : FnScope ["expression", "known", "waiting", "scope"] ["expression", "known"] (defScope (top 29)) := ⟨rfl, rfl, rfl, by decide +kernel, rfl, by decide +kernel, by decide +kernel⟩
theorem ok_refuse_open_names (T : Txt K mg w.params) : Ok P w base T.d_refuse_open_names 3 2 F_refuse_open_names := by
  refine fn_d T.d_refuse_open_names.F sc_refuse_open_names 2 4 rfl rfl (g := g_refuse_open_names) (fun cdv A outer s H E hr => ?_)
  unfold g_refuse_open_names
  exact (by refine ds_cons ?_ ?_; exact (ds_own 2 (by refine df_lst ?_; exact (da_cons (by refine de_tup ?_; exact (by refine da_cons (de_var 0 (pv 0)) ?_ (hs := stName); refine da_cons (de_var 1 (pv 1)) ?_ (hs := stName); exact da_nil)) da_nil (hs := stTuple))) sc_refuse_open_names.nd); exact (by refine ds_one ?_; exact (ds_while WF PassesOwn.never (dt_truB (db_own 2 (pv 2))) (by refine ds_cons ?_ ?_; exact (ds_setX 3 (dx_pop 2 (pv 2)) sc_refuse_open_names.nd); exact (by refine ds_cons ?_ ?_; exact (ds_expr (de_call (ok_refuse_open_name T) (hr.mono (by decide)) (by rfl) T.d_refuse_open_name.m T.d_refuse_open_name.F.kp T.d_refuse_open_name.b (by refine da_cons (de_ix (de_var 3 (pv 3)) de_int) ?_ (hs := stSub); refine da_cons (de_ix (de_var 3 (pv 3)) de_int) ?_ (hs := stSub); exact da_nil))); exact (by refine ds_one ?_; exact (ds_x (dx_extend 2 (pv 2) (de_call (ok_scopes_in T) (hr.mono (by decide)) (by rfl) T.d_scopes_in.m T.d_scopes_in.F.kp T.d_scopes_in.b (by refine da_cons (de_ix (de_var 3 (pv 3)) de_int) ?_ (hs := stSub); refine da_cons (de_ix (de_var 3 (pv 3)) de_int) ?_ (hs := stSub); exact da_nil))))))))))
theorem okx_refuse_open_names_NoName (T : Txt K mg w.params) : FnOk P w K mg base (CX1 P w) 3 T.d_refuse_open_names.a T.d_refuse_open_names.d ["expression", "known"] (spY K mg 2 M_refuse_open_names_NoName) := by
  refine fn_y T.d_refuse_open_names.F sc_refuse_open_names 2 4 rfl rfl (m := x_refuse_open_names_NoName) (fun cdv A outer s H E hr => ?_)
  unfold x_refuse_open_names_NoName
  exact (by refine yss_later ?_ ?_; exact (ds_own 2 (by refine df_lst ?_; exact (da_cons (by refine de_tup ?_; exact (by refine da_cons (de_var 0 (pv 0)) ?_ (hs := stName); refine da_cons (de_var 1 (pv 1)) ?_ (hs := stName); exact da_nil)) da_nil (hs := stTuple))) sc_refuse_open_names.nd); exact (by refine yss_here ?_; exact (ys_while WF PassesOwn.leaving (dt_truB (db_own 2 (pv 2))) (by refine ds_cons ?_ ?_; exact (ds_setX 3 (dx_pop 2 (pv 2)) sc_refuse_open_names.nd); exact (by refine ds_cons ?_ ?_; exact (ds_expr (de_call (ok_refuse_open_name T) (hr.mono (by decide)) (by rfl) T.d_refuse_open_name.m T.d_refuse_open_name.F.kp T.d_refuse_open_name.b (by refine da_cons (de_ix (de_var 3 (pv 3)) de_int) ?_ (hs := stSub); refine da_cons (de_ix (de_var 3 (pv 3)) de_int) ?_ (hs := stSub); exact da_nil))); exact (by refine ds_one ?_; exact (ds_x (dx_extend 2 (pv 2) (de_call (ok_scopes_in T) (hr.mono (by decide)) (by rfl) T.d_scopes_in.m T.d_scopes_in.F.kp T.d_scopes_in.b (by refine da_cons (de_ix (de_var 3 (pv 3)) de_int) ?_ (hs := stSub); refine da_cons (de_ix (de_var 3 (pv 3)) de_int) ?_ (hs := stSub); exact da_nil))))))) (by refine yss_later ?_ ?_; exact (ds_setX 3 (dx_pop 2 (pv 2)) sc_refuse_open_names.nd); exact (by refine yss_here ?_; exact (ys_expr (ye_call (okx_refuse_open_name_NoName T) (hr.mono (by decide)) (by rfl) T.d_refuse_open_name.m T.d_refuse_open_name.F.kp T.d_refuse_open_name.b (by refine da_cons (de_ix (de_var 3 (pv 3)) de_int) ?_ (hs := stSub); refine da_cons (de_ix (de_var 3 (pv 3)) de_int) ?_ (hs := stSub); exact da_nil))))))))
theorem sc_read_def : FnScope ["line", "above", "words", "name", "expression"] ["line", "above"] (defScope (top 28)) := ⟨rfl, rfl, rfl, by decide +kernel, rfl, by decide +kernel, by decide +kernel⟩
theorem ok_read_def (T : Txt K mg w.params) : Ok P w base T.d_read_def 46 2 F_read_def := by
  refine fn_d T.d_read_def.F sc_read_def 2 5 rfl rfl (g := g_read_def) (fun cdv A outer s H E hr => ?_)
  unfold g_read_def
  exact (by refine ds_cons ?_ ?_; exact (ds_set 2 (by refine de_f ?_; exact (df_splitM (de_var 0 (pv 0)) (de_str (s := [32]) (by rfl)))) sc_read_def.nd); exact (by refine ds_cons ?_ ?_; exact (ds_if (dt_w (dw_or (dt_cmp (op_neA hr.units0) od_neA (de_len (by rfl) T.z_len (de_var 2 (pv 2))) de_int (nomark _)) (dw_or (dt_cmp (op_neA hr.units0) od_neA (de_ix (de_var 2 (pv 2)) de_int) (de_str (s := [100, 101, 102]) (by rfl)) (nomark _)) (dw_or1 (dt_not (dt_tru (de_call (ok_is_name T) (hr.mono (by decide)) (by rfl) T.d_is_name.m T.d_is_name.F.kp T.d_is_name.b (da_cons (de_ix (de_var 2 (pv 2)) de_int) da_nil (hs := stSub))))))))) (by refine ds_one ?_; exact ds_never) ds_nil); exact (by refine ds_cons ?_ ?_; exact (ds_set 3 (de_ix (de_var 2 (pv 2)) de_int) sc_read_def.nd); exact (by refine ds_cons ?_ ?_; exact (ds_set 4 (de_call (ok_read_expression T) (hr.mono (by decide)) (by rfl) T.d_read_expression.m T.d_read_expression.F.kp T.d_read_expression.b (da_cons (de_ix (de_var 2 (pv 2)) de_int) da_nil (hs := stSub))) sc_read_def.nd); exact (by refine ds_cons ?_ ?_; exact (ds_if (dt_cmp op_gt od_gt (de_len (by rfl) T.z_len (by refine de_f ?_; exact (df_call (ok_places T) (hr.mono (by decide)) (by rfl) T.d_places.m T.d_places.F.kp T.d_places.b (da_cons (de_var 4 (pv 4)) da_nil (hs := stName))))) (de_gint T.c_MOST_PLACES (by rfl)) (nomark _)) (by refine ds_one ?_; exact ds_never) ds_nil); exact (by refine ds_cons ?_ ?_; exact (ds_if (dt_cmp op_in_seq (od_in false) (de_var 3 (pv 3)) (de_var 1 (pv 1)) rfl) (by refine ds_one ?_; exact ds_never) ds_nil); exact (by refine ds_cons ?_ ?_; exact (ds_expr (de_call (ok_refuse_open_names T) (hr.mono (by decide)) (by rfl) T.d_refuse_open_names.m T.d_refuse_open_names.F.kp T.d_refuse_open_names.b (by refine da_cons (de_var 4 (pv 4)) ?_ (hs := stName); refine da_cons (de_bin op_plus od_plus (de_var 1 (pv 1)) (by refine de_f ?_; exact (by refine df_lst ?_; exact (da_cons (de_var 3 (pv 3)) da_nil (hs := stName))))) ?_ (hs := stBin); exact da_nil))); exact (by refine ds_one ?_; exact (by refine ds_ret ?_; exact (by refine de_tup ?_; exact (by refine da_cons (de_var 3 (pv 3)) ?_ (hs := stName); refine da_cons (de_var 4 (pv 4)) ?_ (hs := stName); exact da_nil)))))))))))
theorem okx_read_def_NoName (T : Txt K mg w.params) : FnOk P w K mg base (CX1 P w) 46 T.d_read_def.a T.d_read_def.d ["line", "above"] (spY K mg 2 M_read_def_NoName) := by
  refine fn_y T.d_read_def.F sc_read_def 2 5 rfl rfl (m := x_read_def_NoName) (fun cdv A outer s H E hr => ?_)
  unfold x_read_def_NoName
  exact (by refine yss_later ?_ ?_; exact (ds_set 2 (by refine de_f ?_; exact (df_splitM (de_var 0 (pv 0)) (de_str (s := [32]) (by rfl)))) sc_read_def.nd); exact (by refine yss_later ?_ ?_; exact (ds_if (dt_w (dw_or (dt_cmp (op_neA hr.units0) od_neA (de_len (by rfl) T.z_len (de_var 2 (pv 2))) de_int (nomark _)) (dw_or (dt_cmp (op_neA hr.units0) od_neA (de_ix (de_var 2 (pv 2)) de_int) (de_str (s := [100, 101, 102]) (by rfl)) (nomark _)) (dw_or1 (dt_not (dt_tru (de_call (ok_is_name T) (hr.mono (by decide)) (by rfl) T.d_is_name.m T.d_is_name.F.kp T.d_is_name.b (da_cons (de_ix (de_var 2 (pv 2)) de_int) da_nil (hs := stSub))))))))) (by refine ds_one ?_; exact ds_never) ds_nil); exact (by refine yss_later ?_ ?_; exact (ds_set 3 (de_ix (de_var 2 (pv 2)) de_int) sc_read_def.nd); exact (by refine yss_later ?_ ?_; exact (ds_set 4 (de_call (ok_read_expression T) (hr.mono (by decide)) (by rfl) T.d_read_expression.m T.d_read_expression.F.kp T.d_read_expression.b (da_cons (de_ix (de_var 2 (pv 2)) de_int) da_nil (hs := stSub))) sc_read_def.nd); exact (by refine yss_later ?_ ?_; exact (ds_if (dt_cmp op_gt od_gt (de_len (by rfl) T.z_len (by refine de_f ?_; exact (df_call (ok_places T) (hr.mono (by decide)) (by rfl) T.d_places.m T.d_places.F.kp T.d_places.b (da_cons (de_var 4 (pv 4)) da_nil (hs := stName))))) (de_gint T.c_MOST_PLACES (by rfl)) (nomark _)) (by refine ds_one ?_; exact ds_never) ds_nil); exact (by refine yss_or ?_ ?_; exact (by refine yss_here ?_; exact (ys_if (dt_cmp op_in_seq (od_in false) (de_var 3 (pv 3)) (de_var 1 (pv 1)) rfl) (by refine yss_here ?_; exact (YS.of (xs_raiseK T.m_NoName T.y_NoName.exc (by rfl) (de_fstr (dj_c (de_str (s := [97, 32, 100, 101, 102, 32, 97, 98, 111, 118, 101, 32, 105, 115, 32, 99, 97, 108, 108, 101, 100, 32]) (by rfl)) (dj_v (de_var 3 (pv 3)) (dj_c (de_str (s := [44, 32, 116, 111, 111]) (by rfl)) dj_nil))))))) yss_no)); exact (by refine yss_later ?_ ?_; exact (ds_if (dt_cmp op_in_seq (od_in false) (de_var 3 (pv 3)) (de_var 1 (pv 1)) rfl) (by refine ds_one ?_; exact ds_never) ds_nil); exact (by refine yss_here ?_; exact (ys_expr (ye_call (okx_refuse_open_names_NoName T) (hr.mono (by decide)) (by rfl) T.d_refuse_open_names.m T.d_refuse_open_names.F.kp T.d_refuse_open_names.b (by refine da_cons (de_var 4 (pv 4)) ?_ (hs := stName); refine da_cons (de_bin op_plus od_plus (de_var 1 (pv 1)) (by refine de_f ?_; exact (by refine df_lst ?_; exact (da_cons (de_var 3 (pv 3)) da_nil (hs := stName))))) ?_ (hs := stBin); exact da_nil)))))))))))
theorem sc_read : FnScope ["text", "lines", "program", "line"] ["text"] (defScope (top 27)) := ⟨rfl, rfl, rfl, by decide +kernel, rfl, by decide +kernel, by decide +kernel⟩
theorem ok_read (T : Txt K mg w.params) : Ok P w base T.d_read 47 1 F_read := by
  refine fn_d T.d_read.F sc_read 1 4 rfl rfl (g := g_read) (fun cdv A outer s H E hr => ?_)
  unfold g_read
  exact (by refine ds_cons ?_ ?_; exact (ds_set 1 (by refine de_f ?_; exact (df_split (de_var 0 (pv 0)) (de_str (s := [10]) (by rfl)))) sc_read.nd); exact (by refine ds_cons ?_ ?_; exact (ds_if (dt_cmp op_gt od_gt (de_len (by rfl) T.z_len (de_var 1 (pv 1))) (de_gint T.c_MOST_LINES (by rfl)) (nomark _)) (by refine ds_one ?_; exact ds_never) ds_nil); exact (by refine ds_cons ?_ ?_; exact (ds_own 2 (by refine df_lst ?_; exact da_nil) sc_read.nd); exact (by refine ds_cons ?_ ?_; exact (ds_for PassesOwn.never rfl (di_seq (de_var 1 (pv 1))) (dg_name 3 sc_read.nd) (by refine ds_one ?_; exact (ds_x (dx_appendZ 2 (pv 2) (de_call (ok_read_def T) (hr.mono (by decide)) (by rfl) T.d_read_def.m T.d_read_def.F.kp T.d_read_def.b (by refine da_cons (de_var 3 (pv 3)) ?_ (hs := stName); refine da_cons (by refine de_f ?_; exact (df_comp (N' := ["above"]) (cap := []) rfl cmp_mk (di_k (dk_z 2 (pv 2))) (fun _ _ _ _ => (dg_name 0 (show (["above"] : List Str).Nodup by decide +kernel))) (fun _ _ _ _ => by exact (by refine de_ix ?_ ?_; exact (de_var 0 (pv 0)); exact de_int)) 1)) ?_; exact da_nil)))))); exact (by refine ds_cons ?_ ?_; exact (ds_if (dt_cmp (op_neA hr.units0) od_neA (de_ix (de_ixB (db_own 2 (pv 2)) (de_neg de_int)) de_int) (de_str (s := [109, 97, 105, 110]) (by rfl)) (nomark _)) (by refine ds_one ?_; exact ds_never) ds_nil); exact (by refine ds_one ?_; exact (ds_retOwn 2 (pv 2))))))))
theorem okx_read_NoName (T : Txt K mg w.params) : FnOk P w K mg base (CX1 P w) 47 T.d_read.a T.d_read.d ["text"] (spY K mg 1 M_read_NoName) := by
  refine fn_y T.d_read.F sc_read 1 4 rfl rfl (m := x_read_NoName) (fun cdv A outer s H E hr => ?_)
  unfold x_read_NoName
  exact (by refine yss_later ?_ ?_; exact (ds_set 1 (by refine de_f ?_; exact (df_split (de_var 0 (pv 0)) (de_str (s := [10]) (by rfl)))) sc_read.nd); exact (by refine yss_later ?_ ?_; exact (ds_if (dt_cmp op_gt od_gt (de_len (by rfl) T.z_len (de_var 1 (pv 1))) (de_gint T.c_MOST_LINES (by rfl)) (nomark _)) (by refine ds_one ?_; exact ds_never) ds_nil); exact (by refine yss_later ?_ ?_; exact (ds_own 2 (by refine df_lst ?_; exact da_nil) sc_read.nd); exact (by refine yss_or ?_ ?_; exact (by refine yss_here ?_; exact (ys_for PassesOwn.leaving rfl (di_seq (de_var 1 (pv 1))) (dg_name 3 sc_read.nd) (by refine ds_one ?_; exact (ds_x (dx_appendZ 2 (pv 2) (de_call (ok_read_def T) (hr.mono (by decide)) (by rfl) T.d_read_def.m T.d_read_def.F.kp T.d_read_def.b (by refine da_cons (de_var 3 (pv 3)) ?_ (hs := stName); refine da_cons (by refine de_f ?_; exact (df_comp (N' := ["above"]) (cap := []) rfl cmp_mk (di_k (dk_z 2 (pv 2))) (fun _ _ _ _ => (dg_name 0 (show (["above"] : List Str).Nodup by decide +kernel))) (fun _ _ _ _ => by exact (by refine de_ix ?_ ?_; exact (de_var 0 (pv 0)); exact de_int)) 1)) ?_; exact da_nil))))) (by refine yss_here ?_; exact (ys_expr (ye_appendZ 2 (pv 2) (ye_call (okx_read_def_NoName T) (hr.mono (by decide)) (by rfl) T.d_read_def.m T.d_read_def.F.kp T.d_read_def.b (by refine da_cons (de_var 3 (pv 3)) ?_ (hs := stName); refine da_cons (by refine de_f ?_; exact (df_comp (N' := ["above"]) (cap := []) rfl cmp_mk (di_k (dk_z 2 (pv 2))) (fun _ _ _ _ => (dg_name 0 (show (["above"] : List Str).Nodup by decide +kernel))) (fun _ _ _ _ => by exact (by refine de_ix ?_ ?_; exact (de_var 0 (pv 0)); exact de_int)) 1)) ?_; exact da_nil))))))); exact (by refine yss_later ?_ ?_; exact (ds_for PassesOwn.leaving rfl (di_seq (de_var 1 (pv 1))) (dg_name 3 sc_read.nd) (by refine ds_one ?_; exact (ds_x (dx_appendZ 2 (pv 2) (de_call (ok_read_def T) (hr.mono (by decide)) (by rfl) T.d_read_def.m T.d_read_def.F.kp T.d_read_def.b (by refine da_cons (de_var 3 (pv 3)) ?_ (hs := stName); refine da_cons (by refine de_f ?_; exact (df_comp (N' := ["above"]) (cap := []) rfl cmp_mk (di_k (dk_z 2 (pv 2))) (fun _ _ _ _ => (dg_name 0 (show (["above"] : List Str).Nodup by decide +kernel))) (fun _ _ _ _ => by exact (by refine de_ix ?_ ?_; exact (de_var 0 (pv 0)); exact de_int)) 1)) ?_; exact da_nil)))))); exact (by refine yss_here ?_; exact (ys_if (dt_cmp (op_neA hr.units0) od_neA (de_ix (de_ixB (db_own 2 (pv 2)) (de_neg de_int)) de_int) (de_str (s := [109, 97, 105, 110]) (by rfl)) (nomark _)) (by refine yss_here ?_; exact (YS.of (xs_raiseK T.m_NoName T.y_NoName.exc (by rfl) (de_str (s := [116, 104, 101, 32, 108, 97, 115, 116, 32, 100, 101, 102, 32, 105, 115, 32, 110, 111, 116, 32, 99, 97, 108, 108, 101, 100, 32, 109, 97, 105, 110]) (by rfl))))) yss_no)))))))
theorem sc__law_cell : FnScope ["_law_script", "_law_k"] ["_law_script", "_law_k"] (defScope (top 33)) := ⟨rfl, rfl, rfl, by decide +kernel, rfl, by decide +kernel, by decide +kernel⟩
theorem ok__law_cell (T : Txt K mg w.params) : Ok P w base T.d__law_cell 1 2 F__law_cell := by
  refine fn_d T.d__law_cell.F sc__law_cell 2 2 rfl rfl (g := g__law_cell) (fun cdv A outer s H E hr => ?_)
  unfold g__law_cell
  exact (by refine ds_cons ?_ ?_; exact (ds_if (dt_cmp op_ltA od_ltA (de_var 1 (pv 1)) (de_len (by rfl) T.z_len (de_var 0 (pv 0))) (nomark _)) (by refine ds_one ?_; exact (by refine ds_ret ?_; exact (de_ix (de_var 0 (pv 0)) (de_var 1 (pv 1))))) ds_nil); exact (by refine ds_one ?_; exact (by refine ds_ret ?_; exact de_int)))
theorem sc__law_mixed : FnScope ["_law_cell_here", "_law_k", "_law_number"] ["_law_cell_here", "_law_k"] (defScope (top 34)) := ⟨rfl, rfl, rfl, by decide +kernel, rfl, by decide +kernel, by decide +kernel⟩
theorem ok__law_mixed (T : Txt K mg w.params) : Ok P w base T.d__law_mixed 1 2 F__law_mixed := by
  refine fn_d T.d__law_mixed.F sc__law_mixed 2 3 rfl rfl (g := g__law_mixed) (fun cdv A outer s H E hr => ?_)
  unfold g__law_mixed
  exact (by refine ds_cons ?_ ?_; exact (ds_set 2 (de_bin op_mod od_mod (de_bin op_plus od_plus (de_bin op_plus od_plus (de_bin op_mod od_mod (de_var 0 (pv 0)) de_int) (de_bin op_mul od_mul de_int (de_var 1 (pv 1)))) de_int) de_int) sc__law_mixed.nd); exact (by refine ds_cons ?_ ?_; exact (ds_set 2 (de_bin op_mod od_mod (de_bin op_mul od_mul (de_var 2 (pv 2)) (de_var 2 (pv 2))) de_int) sc__law_mixed.nd); exact (by refine ds_one ?_; exact (by refine ds_ret ?_; exact (de_bin op_fdiv od_fdiv (de_bin op_mod od_mod (de_bin op_mul od_mul (de_var 2 (pv 2)) (de_bin op_plus od_plus (de_var 2 (pv 2)) de_int)) de_int) de_int)))))
theorem sc__law_names : FnScope ["_law_cell_here", "_law_many", "_law_size", "_law_at", "_law_base"] ["_law_cell_here", "_law_many"] (defScope (top 35)) := ⟨rfl, rfl, rfl, by decide +kernel, rfl, by decide +kernel, by decide +kernel⟩
theorem ok__law_names (T : Txt K mg w.params) : Ok P w base T.d__law_names 2 2 F__law_names := by
  refine fn_d T.d__law_names.F sc__law_names 2 5 rfl rfl (g := g__law_names) (fun cdv A outer s H E hr => ?_)
  unfold g__law_names
  exact (by refine ds_cons ?_ ?_; exact (ds_set 2 (de_bin op_plus od_plus de_int (de_bin op_mod od_mod (de_var 0 (pv 0)) de_int)) sc__law_names.nd); exact (by refine ds_cons ?_ ?_; exact (ds_set 3 (de_bin op_mod od_mod (de_bin op_fdiv od_fdiv (de_var 0 (pv 0)) de_int) (de_var 2 (pv 2))) sc__law_names.nd); exact (by refine ds_cons ?_ ?_; exact (ds_set 4 (de_join (de_str (s := []) (by rfl)) (by refine db_f ?_; exact (df_comp (N' := ["_law_cell_here", "_law_k"]) (cap := [0]) rfl cmp_mk (di_rng1 (by rfl) T.z_range (de_var 2 (pv 2))) (fun _ _ _ _ => (dg_name 1 (show (["_law_cell_here", "_law_k"] : List Str).Nodup by decide +kernel))) (fun _ _ _ _ => by exact (by refine de_ix ?_ ?_; exact (de_str (s := [97, 98, 99, 100, 101, 102, 103, 104, 105, 106, 107, 108, 109, 110, 111, 112, 113, 114, 115, 116, 117, 118, 119, 120, 121, 122]) (by rfl)); exact (de_bin op_mod od_mod (de_call (ok__law_mixed T) (hr.mono (by decide)) (by rfl) T.d__law_mixed.m T.d__law_mixed.F.kp T.d__law_mixed.b (by refine da_cons ?_ ?_; exact (de_var 0 (pv 0)); refine da_cons ?_ ?_; exact (de_bin op_plus od_plus de_int (de_var 1 (pv 1))); exact da_nil)) de_int))) 2))) sc__law_names.nd); exact (by refine ds_one ?_; exact (by refine ds_ret ?_; exact (by refine de_f ?_; exact (df_comp (N' := ["_law_at", "_law_base", "_law_k"]) (cap := [3, 4]) rfl cmp_mk (di_rng1 (by rfl) T.z_range (de_var 1 (pv 1))) (fun _ _ _ _ => (dg_name 2 (show (["_law_at", "_law_base", "_law_k"] : List Str).Nodup by decide +kernel))) (fun _ _ _ _ => by exact (de_bin op_plus od_plus (de_bin op_plus od_plus (de_sl (de_var 1 (pv 1)) do_none (do_some (de_var 0 (pv 0)))) (by refine de_ix ?_ ?_; exact (de_str (s := [113, 106, 120, 122, 107, 118]) (by rfl)); exact (de_var 2 (pv 2)))) (de_sl (de_var 1 (pv 1)) (do_some (de_var 0 (pv 0))) do_none))) 3)))))))
theorem sc__law_grown : FnScope ["_law_pile", "_law_cell_here", "_law_k", "_law_names_here", "_law_number", "_law_kind", "_law_x", "_law_y", "_law_label", "_law_told_here"] ["_law_pile", "_law_cell_here", "_law_k", "_law_names_here"] (defScope (top 36)) := ⟨rfl, rfl, rfl, by decide +kernel, rfl, by decide +kernel, by decide +kernel⟩
theorem ok__law_grown (T : Txt K mg w.params) : Ok P w base T.d__law_grown 2 4 F__law_grown := by
  refine fn_d T.d__law_grown.F sc__law_grown 4 10 rfl rfl (g := g__law_grown) (fun cdv A outer s H E hr => ?_)
  unfold g__law_grown
  exact (by refine ds_cons ?_ ?_; exact (ds_set 4 (de_call (ok__law_mixed T) (hr.mono (by decide)) (by rfl) T.d__law_mixed.m T.d__law_mixed.F.kp T.d__law_mixed.b (by refine da_cons (de_var 1 (pv 1)) ?_ (hs := stName); refine da_cons (de_bin op_plus od_plus de_int (de_var 2 (pv 2))) ?_ (hs := stBin); exact da_nil)) sc__law_grown.nd); exact (by refine ds_cons ?_ ?_; exact (ds_set 5 (de_bin op_mod od_mod (de_call (ok__law_mixed T) (hr.mono (by decide)) (by rfl) T.d__law_mixed.m T.d__law_mixed.F.kp T.d__law_mixed.b (by refine da_cons (de_var 1 (pv 1)) ?_ (hs := stName); refine da_cons (de_bin op_plus od_plus de_int (de_var 2 (pv 2))) ?_ (hs := stBin); exact da_nil)) de_int) sc__law_grown.nd); exact (by refine ds_cons ?_ ?_; exact (ds_set 6 (de_ix (de_var 3 (pv 3)) (de_bin op_mod od_mod (de_var 4 (pv 4)) (de_len (by rfl) T.z_len (de_var 3 (pv 3))))) sc__law_grown.nd); exact (by refine ds_cons ?_ ?_; exact (ds_set 7 (de_ix (de_var 3 (pv 3)) (de_bin op_mod od_mod (de_bin op_fdiv od_fdiv (de_var 4 (pv 4)) de_int) (de_len (by rfl) T.z_len (de_var 3 (pv 3))))) sc__law_grown.nd); exact (by refine ds_cons ?_ ?_; exact (ds_set 8 (de_ix (de_var 3 (pv 3)) (de_bin op_mod od_mod (de_bin op_fdiv od_fdiv (de_var 4 (pv 4)) de_int) (de_len (by rfl) T.z_len (de_var 3 (pv 3))))) sc__law_grown.nd); exact (by refine ds_cons ?_ ?_; exact (ds_if (dt_w (dw_and (dt_cmp (op_eqA hr.units0) od_eqA (de_var 5 (pv 5)) de_int (nomark _)) (dw_and1 (dt_cmp op_gt od_gt (de_len (by rfl) T.z_len (de_var 0 (pv 0))) de_int (nomark _))))) (by refine ds_cons ?_ ?_; exact (ds_set 9 (by refine de_tup ?_; exact (by refine da_cons (de_str (s := [99, 97, 115, 101]) (by rfl)) ?_ (hs := stConst); refine da_cons (de_ix (de_var 0 (pv 0)) (de_neg de_int)) ?_ (hs := stSub); refine da_cons (de_var 8 (pv 8)) ?_ (hs := stName); refine da_cons (de_var 6 (pv 6)) ?_ (hs := stName); refine da_cons (de_ix (de_var 0 (pv 0)) (de_neg de_int)) ?_ (hs := stSub); refine da_cons (de_var 7 (pv 7)) ?_ (hs := stName); refine da_cons (de_ix (de_var 0 (pv 0)) (de_neg de_int)) ?_ (hs := stSub); exact da_nil)) sc__law_grown.nd); exact (by refine ds_one ?_; exact (by refine ds_ret ?_; exact (de_bin op_plus od_plus (de_sl (de_var 0 (pv 0)) do_none (do_some (de_neg de_int))) (by refine de_f ?_; exact (by refine df_lst ?_; exact (da_cons (de_var 9 (pv 9)) da_nil (hs := stName)))))))) ds_nil); exact (by refine ds_cons ?_ ?_; exact (ds_if (dt_w (dw_and (dt_cmp op_gt od_gt (de_var 5 (pv 5)) de_int (nomark _)) (dw_and1 (dt_cmp op_gt od_gt (de_len (by rfl) T.z_len (de_var 0 (pv 0))) de_int (nomark _))))) (by refine ds_one ?_; exact (by refine ds_ret ?_; exact (de_bin op_plus od_plus (de_sl (de_var 0 (pv 0)) do_none (do_some (de_neg de_int))) (by refine de_f ?_; exact (by refine df_lst ?_; exact (by refine da_cons ?_ ?_; exact (de_bin op_plus od_plus (by refine de_ix ?_ ?_; exact (by refine de_f ?_; exact (by refine df_lst ?_; exact (by refine da_cons (by refine de_tup ?_; exact (da_cons (de_str (s := [100, 111]) (by rfl)) da_nil (hs := stConst))) ?_ (hs := stTuple); refine da_cons (by refine de_tup ?_; exact (da_cons (de_str (s := [43]) (by rfl)) da_nil (hs := stConst))) ?_ (hs := stTuple); exact da_nil))); exact (de_bin op_mod od_mod (de_bin op_fdiv od_fdiv (de_var 4 (pv 4)) de_int) de_int)) (by refine de_tup ?_; exact (by refine da_cons (de_ix (de_var 0 (pv 0)) (de_neg de_int)) ?_ (hs := stSub); refine da_cons (de_ix (de_var 0 (pv 0)) (de_neg de_int)) ?_ (hs := stSub); exact da_nil))); exact da_nil)))))) ds_nil); exact (by refine ds_cons ?_ ?_; exact (ds_if (dt_w (dw_and (dt_cmp op_gt od_gt (de_var 5 (pv 5)) de_int (nomark _)) (dw_and1 (dt_cmp op_gt od_gt (de_len (by rfl) T.z_len (de_var 0 (pv 0))) de_int (nomark _))))) (by refine ds_one ?_; exact (by refine ds_ret ?_; exact (de_bin op_plus od_plus (de_sl (de_var 0 (pv 0)) do_none (do_some (de_neg de_int))) (by refine de_f ?_; exact (by refine df_lst ?_; exact (da_cons (by refine de_tup ?_; exact (by refine da_cons (de_str (s := [102, 110]) (by rfl)) ?_ (hs := stConst); refine da_cons (de_var 6 (pv 6)) ?_ (hs := stName); refine da_cons (de_ix (de_var 0 (pv 0)) (de_neg de_int)) ?_ (hs := stSub); exact da_nil)) da_nil (hs := stTuple))))))) ds_nil); exact (by refine ds_one ?_; exact (by refine ds_ret ?_; exact (de_bin op_plus od_plus (de_var 0 (pv 0)) (by refine de_f ?_; exact (by refine df_lst ?_; exact (da_cons (by refine de_tup ?_; exact (by refine da_cons (de_str (s := [110, 97, 109, 101]) (by rfl)) ?_ (hs := stConst); refine da_cons (de_var 6 (pv 6)) ?_ (hs := stName); exact da_nil)) da_nil (hs := stTuple)))))))))))))))
theorem sc__law_words : FnScope ["_law_told_here", "_law_words_here", "_law_one"] ["_law_told_here"] (defScope (top 37)) := ⟨rfl, rfl, rfl, by decide +kernel, rfl, by decide +kernel, by decide +kernel⟩
theorem ok__law_words : ∀ (k : Nat) (T : Txt K mg w.params), Ok P w base T.d__law_words (k + 0) 1 (F__law_words k)
  | 0, T => fn_0 1
  | k + 1, T => by
    have G := ok__law_words k T
    rw [show k + 1 + 0 = (k + 0) + 1 by omega]
    refine fn_d T.d__law_words.F sc__law_words 1 3 rfl rfl (g := g__law_words (F__law_words k)) (fun cdv A outer s H E hr => ?_)
    unfold g__law_words
    exact (by refine ds_cons ?_ ?_; exact (ds_own 1 (df_slB (by refine db_f ?_; exact (by refine df_lst ?_; exact (da_cons (de_ix (de_var 0 (pv 0)) de_int) da_nil (hs := stSub)))) do_none (do_some (de_intB (by rfl) T.z_int (de_cmp (op_neA hr.units0) od_neA (de_ix (de_var 0 (pv 0)) de_int) (de_str (s := [110, 97, 109, 101]) (by rfl)) (nomark _))))) sc__law_words.nd); exact (by refine ds_cons ?_ ?_; exact (ds_for PassesOwn.never rfl (di_seq (de_sl (de_var 0 (pv 0)) (do_some de_int) do_none)) (dg_name 2 sc__law_words.nd) (by refine ds_one ?_; exact (ds_if (dt_tru (de_isinst (by rfl) T.z_isinstance (de_var 2 (pv 2)) (pe_bltn (by rfl) T.z_tuple boot_tuple rfl))) (by refine ds_one ?_; exact (ds_own 1 (df_cat (db_own 1 (pv 1)) (by refine db_f ?_; exact (df_call G (hr.mono (by omega)) (by rfl) T.d__law_words.m T.d__law_words.F.kp T.d__law_words.b (da_cons (de_var 2 (pv 2)) da_nil (hs := stName))))) sc__law_words.nd)) (by refine ds_one ?_; exact (ds_x (dx_append 1 (pv 1) (de_var 2 (pv 2)))))))); exact (by refine ds_one ?_; exact (ds_retOwn 1 (pv 1)))))
theorem sc__law_all_known : FnScope ["_law_told_here", "_law_known"] ["_law_told_here", "_law_known"] (defScope (top 38)) := ⟨rfl, rfl, rfl, by decide +kernel, rfl, by decide +kernel, by decide +kernel⟩
theorem ok__law_all_known : ∀ (k : Nat) (T : Txt K mg w.params), Ok P w base T.d__law_all_known (k + 0) 2 (F__law_all_known k)
  | 0, T => fn_0 2
  | k + 1, T => by
    have G := ok__law_all_known k T
    rw [show k + 1 + 0 = (k + 0) + 1 by omega]
    refine fn_d T.d__law_all_known.F sc__law_all_known 2 2 rfl rfl (g := g__law_all_known (F__law_all_known k)) (fun cdv A outer s H E hr => ?_)
    unfold g__law_all_known
    exact (by refine ds_cons ?_ ?_; exact (ds_if (dt_cmp (op_eqA hr.units0) od_eqA (de_ix (de_var 0 (pv 0)) de_int) (de_str (s := [110, 97, 109, 101]) (by rfl)) (nomark _)) (by refine ds_one ?_; exact (by refine ds_ret ?_; exact (de_cmp op_in_seq (od_in false) (de_ix (de_var 0 (pv 0)) de_int) (de_var 1 (pv 1)) rfl))) ds_nil); exact (by refine ds_cons ?_ ?_; exact (ds_if (dt_cmp (op_eqA hr.units0) od_eqA (de_ix (de_var 0 (pv 0)) de_int) (de_str (s := [102, 110]) (by rfl)) (nomark _)) (by refine ds_one ?_; exact (by refine ds_ret ?_; exact (de_call G (hr.mono (by omega)) (by rfl) T.d__law_all_known.m T.d__law_all_known.F.kp T.d__law_all_known.b (by refine da_cons (de_ix (de_var 0 (pv 0)) de_int) ?_ (hs := stSub); refine da_cons (de_bin op_plus od_plus (de_var 1 (pv 1)) (by refine de_f ?_; exact (by refine df_lst ?_; exact (da_cons (de_ix (de_var 0 (pv 0)) de_int) da_nil (hs := stSub))))) ?_ (hs := stBin); exact da_nil)))) ds_nil); exact (by refine ds_cons ?_ ?_; exact (ds_if (dt_cmp (op_eqA hr.units0) od_eqA (de_ix (de_var 0 (pv 0)) de_int) (de_str (s := [99, 97, 115, 101]) (by rfl)) (nomark _)) (by refine ds_cons ?_ ?_; exact (ds_if (dt_w (dw_or (dt_not (dt_tru (de_call G (hr.mono (by omega)) (by rfl) T.d__law_all_known.m T.d__law_all_known.F.kp T.d__law_all_known.b (by refine da_cons (de_ix (de_var 0 (pv 0)) de_int) ?_ (hs := stSub); refine da_cons (de_var 1 (pv 1)) ?_ (hs := stName); exact da_nil)))) (dw_or1 (dt_not (dt_tru (de_call G (hr.mono (by omega)) (by rfl) T.d__law_all_known.m T.d__law_all_known.F.kp T.d__law_all_known.b (by refine da_cons (de_ix (de_var 0 (pv 0)) de_int) ?_ (hs := stSub); refine da_cons (de_bin op_plus od_plus (de_var 1 (pv 1)) (by refine de_f ?_; exact (by refine df_lst ?_; exact (da_cons (de_ix (de_var 0 (pv 0)) de_int) da_nil (hs := stSub))))) ?_ (hs := stBin); exact da_nil))))))) (by refine ds_one ?_; exact (by refine ds_ret ?_; exact de_bl)) ds_nil); exact (by refine ds_one ?_; exact (by refine ds_ret ?_; exact (de_call G (hr.mono (by omega)) (by rfl) T.d__law_all_known.m T.d__law_all_known.F.kp T.d__law_all_known.b (by refine da_cons (de_ix (de_var 0 (pv 0)) de_int) ?_ (hs := stSub); refine da_cons (de_bin op_plus od_plus (de_var 1 (pv 1)) (by refine de_f ?_; exact (by refine df_lst ?_; exact (da_cons (de_ix (de_var 0 (pv 0)) de_int) da_nil (hs := stSub))))) ?_ (hs := stBin); exact da_nil))))) ds_nil); exact (by refine ds_one ?_; exact (by refine ds_ret ?_; exact (de_and (de_call G (hr.mono (by omega)) (by rfl) T.d__law_all_known.m T.d__law_all_known.F.kp T.d__law_all_known.b (by refine da_cons (de_ix (de_var 0 (pv 0)) de_int) ?_ (hs := stSub); refine da_cons (de_var 1 (pv 1)) ?_ (hs := stName); exact da_nil)) (de_one (de_call G (hr.mono (by omega)) (by rfl) T.d__law_all_known.m T.d__law_all_known.F.kp T.d__law_all_known.b (by refine da_cons (de_ix (de_var 0 (pv 0)) de_int) ?_ (hs := stSub); refine da_cons (de_var 1 (pv 1)) ?_ (hs := stName); exact da_nil)))))))))
theorem sc__law_told : FnScope ["_law_text", "_law_caught", "e"] ["_law_text"] (defScope (top 39)) := ⟨rfl, rfl, rfl, by decide +kernel, rfl, by decide +kernel, by decide +kernel⟩
theorem ok__law_told (T : Txt K mg w.params) : Ok P w base T.d__law_told 48 1 F__law_told := by
  refine fn_r T.d__law_told.F sc__law_told 1 3 rfl rfl (ρ := r__law_told) (fun cdv A outer s H E hr => ?_)
  unfold r__law_told
  exact (by refine dr_cons ?_ ?_; exact (ds_set 1 de_non sc__law_told.nd); exact (dr_or (dr_try (i := 1) (j := 2) sc__law_told.nd rfl rfl (spY_X (okx_read_NoName T)) (hr.mono (by decide)) (by rfl) T.d_read.m T.d_read.F.kp T.d_read.b (fun _ => (da_cons (de_var 0 (pv 0)) da_nil (hs := stName))) (by rfl) T.m_FieldError T.m_NoName T.y_NoName.mt rfl rfl (Or.inl rfl) (Or.inr rfl) rfl rfl (by decide) (rho0_fre 3 1 2 _) rho__law_told_NoName (fun e oe hcls => by refine dr_d ?_; exact (by refine ds_cons ?_ ?_; exact (ds_if (dt_cmp op_isN od_isN (de_var 1 (pv 1)) de_non (nomark _)) (by refine ds_one ?_; exact (by refine ds_ret ?_; exact (de_str (s := [114, 101, 97, 100]) (by rfl)))) ds_nil); exact (by refine ds_cons ?_ ?_; exact (ds_if (dt_w (dw_or (dt_not (dt_tru (de_isxC List.mem_cons_self hcls T.y_NoName.k (T.y_NoName.ys _ (by simp)) (by rfl) T.m_NoName (by rfl) T.z_isinstance (de_var 1 (pv 1))))) (dw_or1 (dt_not (dt_tru (de_isx List.mem_cons_self hcls T.y_NoName.k (v := .ty "ValueError") (u := .type "ValueError") (fun _ z => z) (T.y_NoName.ys _ (by simp)) (by rfl) T.z_isinstance (de_var 1 (pv 1)) (pe_bltn (by rfl) T.z_ValueError boot_VE rfl))))))) (by refine ds_one ?_; exact (by refine ds_ret ?_; exact (de_str (s := [111, 116, 104, 101, 114]) (by rfl)))) ds_nil); exact (by refine ds_cons ?_ ?_; exact (ds_if (dt_w (dw_or (dt_tru (de_isxC List.mem_cons_self hcls T.y_NoName.k (T.y_NoName.ns _ (by simp)) (by rfl) T.m_NoLine (by rfl) T.z_isinstance (de_var 1 (pv 1)))) (dw_or (dt_tru (de_isxC List.mem_cons_self hcls T.y_NoName.k (T.y_NoName.ns _ (by simp)) (by rfl) T.m_TooMuch (by rfl) T.z_isinstance (de_var 1 (pv 1)))) (dw_or1 (dt_tru (de_isxC List.mem_cons_self hcls T.y_NoName.k (T.y_NoName.ns _ (by simp)) (by rfl) T.m_NoKind (by rfl) T.z_isinstance (de_var 1 (pv 1)))))))) (by refine ds_one ?_; exact (by refine ds_ret ?_; exact (de_str (s := [111, 116, 104, 101, 114]) (by rfl)))) ds_nil); exact (by refine ds_one ?_; exact (by refine ds_ret ?_; exact (de_str (s := [78, 111, 78, 97, 109, 101]) (by rfl))))))))) (dr_tryOk (fun _ => (by refine de_f ?_; exact (df_call (ok_read T) (hr.mono (by decide)) (by rfl) T.d_read.m T.d_read.F.kp T.d_read.b (da_cons (de_var 0 (pv 0)) da_nil (hs := stName))))) (by refine dr_d ?_; refine ds_cons ?_ dss_none; exact (ds_if (dt_cmp op_isN od_isN (de_var 1 (pv 1)) de_non (nomark _)) (by refine ds_one ?_; exact (by refine ds_ret ?_; exact (de_str (s := [114, 101, 97, 100]) (by rfl)))) ds_nil)))))
theorem sc_law : FnScope ["_law_script", "_law_first", "_law_many", "_law_names_here", "_law_callings", "_law_cells", "_law_lines", "_law_good", "_law_k", "_law_pile", "_law_j", "_law_told_here"] ["_law_script"] (defScope (top 40)) := ⟨rfl, rfl, rfl, by decide +kernel, rfl, by decide +kernel, by decide +kernel⟩
theorem ok_law (T : Txt K mg w.params) : Ok P w base T.d_law 49 1 F_law := by
  refine fn_d T.d_law.F sc_law 1 12 rfl rfl (g := g_law) (fun cdv A outer s H E hr => ?_)
  unfold g_law
  exact (by refine ds_cons ?_ ?_; exact (ds_set 1 (de_call (ok__law_mixed T) (hr.mono (by decide)) (by rfl) T.d__law_mixed.m T.d__law_mixed.F.kp T.d__law_mixed.b (by refine da_cons (de_call (ok__law_cell T) (hr.mono (by decide)) (by rfl) T.d__law_cell.m T.d__law_cell.F.kp T.d__law_cell.b (by refine da_cons (de_var 0 (pv 0)) ?_ (hs := stName); refine da_cons de_int ?_ (hs := stConst); exact da_nil)) ?_ (hs := stCall); refine da_cons de_int ?_ (hs := stConst); exact da_nil)) sc_law.nd); exact (by refine ds_cons ?_ ?_; exact (ds_set 2 (de_bin op_plus od_plus de_int (de_bin op_mod od_mod (de_var 1 (pv 1)) de_int)) sc_law.nd); exact (by refine ds_cons ?_ ?_; exact (ds_set 3 (de_call (ok__law_names T) (hr.mono (by decide)) (by rfl) T.d__law_names.m T.d__law_names.F.kp T.d__law_names.b (by refine da_cons (de_call (ok__law_mixed T) (hr.mono (by decide)) (by rfl) T.d__law_mixed.m T.d__law_mixed.F.kp T.d__law_mixed.b (by refine da_cons (de_call (ok__law_cell T) (hr.mono (by decide)) (by rfl) T.d__law_cell.m T.d__law_cell.F.kp T.d__law_cell.b (by refine da_cons (de_var 0 (pv 0)) ?_ (hs := stName); refine da_cons de_int ?_ (hs := stConst); exact da_nil)) ?_ (hs := stCall); refine da_cons de_int ?_ (hs := stConst); exact da_nil)) ?_ (hs := stCall); refine da_cons de_int ?_ (hs := stConst); exact da_nil)) sc_law.nd); exact (by refine ds_cons ?_ ?_; exact (ds_set 4 (de_sl (de_var 3 (pv 3)) do_none (do_some (de_bin op_sub od_sub (de_var 2 (pv 2)) de_int))) sc_law.nd); exact (by refine ds_cons ?_ ?_; exact (ds_if (dt_cmp (op_eqA hr.units0) od_eqA (de_bin op_mod od_mod (de_bin op_fdiv od_fdiv (de_var 1 (pv 1)) de_int) de_int) de_int (nomark _)) (by refine ds_one ?_; exact (ds_set 4 (by refine de_f ?_; exact (df_listRev rfl (by rfl) T.z_list (by rfl) T.z_reversed (db_e (de_var 4 (pv 4))))) sc_law.nd)) ds_nil); exact (by refine ds_cons ?_ ?_; exact (ds_set 4 (de_bin op_plus od_plus (de_var 4 (pv 4)) (by refine de_f ?_; exact (by refine df_lst ?_; exact (da_cons (de_str (s := [109, 97, 105, 110]) (by rfl)) da_nil (hs := stConst))))) sc_law.nd); exact (by refine ds_cons ?_ ?_; exact (ds_set 5 (de_sl (de_var 0 (pv 0)) (do_some de_int) (do_some de_int)) sc_law.nd); exact (by refine ds_cons ?_ ?_; exact (ds_own 6 (by refine df_lst ?_; exact da_nil) sc_law.nd); exact (by refine ds_cons ?_ ?_; exact (ds_set 7 de_bl sc_law.nd); exact (by refine ds_cons ?_ ?_; exact (ds_for PassesOwn.never rfl (di_rng1 (by rfl) T.z_range (de_var 2 (pv 2))) (dg_name 8 sc_law.nd) (by refine ds_cons ?_ ?_; exact (ds_set 9 (by refine de_f ?_; exact (by refine df_lst ?_; exact (da_cons (by refine de_tup ?_; exact (by refine da_cons (de_str (s := [110, 97, 109, 101]) (by rfl)) ?_ (hs := stConst); refine da_cons (de_ix (de_var 4 (pv 4)) (de_var 8 (pv 8))) ?_ (hs := stSub); exact da_nil)) da_nil (hs := stTuple)))) sc_law.nd); exact (by refine ds_cons ?_ ?_; exact (ds_for PassesOwn.never rfl (di_rng3 (by rfl) T.z_range (de_var 8 (pv 8)) (de_len (by rfl) T.z_len (de_var 5 (pv 5))) (de_var 2 (pv 2))) (dg_name 10 sc_law.nd) (by refine ds_one ?_; exact (ds_set 9 (de_call (ok__law_grown T) (hr.mono (by decide)) (by rfl) T.d__law_grown.m T.d__law_grown.F.kp T.d__law_grown.b (by refine da_cons (de_var 9 (pv 9)) ?_ (hs := stName); refine da_cons (de_ix (de_var 5 (pv 5)) (de_var 10 (pv 10))) ?_ (hs := stSub); refine da_cons (de_var 10 (pv 10)) ?_ (hs := stName); refine da_cons (de_bin op_plus od_plus (de_var 3 (pv 3)) (by refine de_f ?_; exact (by refine df_lst ?_; exact (da_cons (de_str (s := [109, 97, 105, 110]) (by rfl)) da_nil (hs := stConst))))) ?_ (hs := stBin); exact da_nil)) sc_law.nd))); exact (by refine ds_cons ?_ ?_; exact (ds_while WF PassesOwn.never (dt_cmp op_gt od_gt (de_len (by rfl) T.z_len (de_var 9 (pv 9))) de_int (nomark _)) (by refine ds_one ?_; exact (ds_set 9 (de_bin op_plus od_plus (de_sl (de_var 9 (pv 9)) (do_some de_int) do_none) (by refine de_f ?_; exact (by refine df_lst ?_; exact (da_cons (by refine de_tup ?_; exact (by refine da_cons (de_str (s := [100, 111]) (by rfl)) ?_ (hs := stConst); refine da_cons (de_ix (de_var 9 (pv 9)) de_int) ?_ (hs := stSub); refine da_cons (de_ix (de_var 9 (pv 9)) de_int) ?_ (hs := stSub); exact da_nil)) da_nil (hs := stTuple))))) sc_law.nd))); exact (by refine ds_cons ?_ ?_; exact (ds_set 11 (de_ix (de_var 9 (pv 9)) de_int) sc_law.nd); exact (by refine ds_cons ?_ ?_; exact (ds_if (dt_cmp (op_eqA hr.units0) od_eqA (de_bin op_mod od_mod (de_bin op_fdiv od_fdiv (de_var 1 (pv 1)) de_int) de_int) de_int (nomark _)) (by refine ds_one ?_; exact (ds_set 11 (by refine de_tup ?_; exact (by refine da_cons (de_str (s := [102, 110]) (by rfl)) ?_ (hs := stConst); refine da_cons (de_ix (de_var 3 (pv 3)) de_int) ?_ (hs := stSub); refine da_cons (by refine de_tup ?_; exact (by refine da_cons (de_str (s := [102, 110]) (by rfl)) ?_ (hs := stConst); refine da_cons (de_ix (de_var 3 (pv 3)) de_int) ?_ (hs := stSub); refine da_cons (de_var 11 (pv 11)) ?_ (hs := stName); exact da_nil)) ?_ (hs := stTuple); exact da_nil)) sc_law.nd)) ds_nil); exact (by refine ds_cons ?_ ?_; exact (ds_set 7 (de_and (de_var 7 (pv 7)) (de_one (de_call (ok__law_all_known RF T) (hr.mono (by decide)) (by rfl) T.d__law_all_known.m T.d__law_all_known.F.kp T.d__law_all_known.b (by refine da_cons (de_var 11 (pv 11)) ?_ (hs := stName); refine da_cons (de_sl (de_var 4 (pv 4)) do_none (do_some (de_bin op_plus od_plus (de_var 8 (pv 8)) de_int))) ?_ (hs := stSub); exact da_nil)))) sc_law.nd); exact (by refine ds_one ?_; exact (ds_x (dx_append 6 (pv 6) (de_join (de_str (s := [32]) (by rfl)) (by refine db_f ?_; exact (df_cat (by refine db_f ?_; exact (by refine df_lst ?_; exact (by refine da_cons (de_str (s := [100, 101, 102]) (by rfl)) ?_ (hs := stConst); refine da_cons (de_ix (de_var 4 (pv 4)) (de_var 8 (pv 8))) ?_ (hs := stSub); exact da_nil))) (by refine db_f ?_; exact (df_call (ok__law_words RF T) (hr.mono (by decide)) (by rfl) T.d__law_words.m T.d__law_words.F.kp T.d__law_words.b (da_cons (de_var 11 (pv 11)) da_nil (hs := stName))))))))))))))))); exact (by refine ds_one ?_; exact (by refine ds_ret ?_; exact (de_cmp (op_eqA hr.units0) od_eqA (de_call (ok__law_told T) (hr.mono (by decide)) (by rfl) T.d__law_told.m T.d__law_told.F.kp T.d__law_told.b (da_cons (de_join (de_str (s := [10]) (by rfl)) (db_own 6 (pv 6))) da_nil (hs := stCall))) (by refine de_ix ?_ ?_; exact (by refine de_f ?_; exact (by refine df_lst ?_; exact (by refine da_cons (de_str (s := [78, 111, 78, 97, 109, 101]) (by rfl)) ?_ (hs := stConst); refine da_cons (de_str (s := [114, 101, 97, 100]) (by rfl)) ?_ (hs := stConst); exact da_nil))); exact (de_intB (by rfl) T.z_int (de_var 7 (pv 7)))) (nomark _))))))))))))))
end
theorem splitC_free {c : Nat} : ∀ {s : List Nat}, c ∉ s → splitC c s = [s]
  | [], _ => rfl
  | x :: r, h => by
    have hx : x ≠ c := fun e => h (by simp [e])
    have hr := splitC_free (c := c) (s := r) fun e => h (by simp [e])
    simp only [splitC, if_neg hx, hr]
theorem splitC_cut {c : Nat} {t : List Nat} : ∀ {s : List Nat}, c ∉ s → splitC c (s ++ c :: t) = s :: splitC c t
  | [], _ => by simp only [List.nil_append, splitC, if_pos]
  | x :: r, h => by
    have hx : x ≠ c := fun e => h (by simp [e])
    have hr := splitC_cut (c := c) (t := t) (s := r) fun e => h (by simp [e])
    simp only [List.cons_append, splitC, if_neg hx, hr]
theorem splitC_join {c : Nat} : ∀ {ws : List (List Nat)}, ws ≠ [] → (∀ x ∈ ws, c ∉ x) → splitC c (joinC [c] ws) = ws
  | [], h, _ => absurd rfl h
  | [s], _, h => splitC_free (h s (by simp))
  | s :: t :: r, _, h => by
    have ih := splitC_join (c := c) (ws := t :: r) (by simp) fun x hx => h x (by simp at hx ⊢; exact .inr hx)
    show splitC c (s ++ [c] ++ joinC [c] (t :: r)) = _
    rw [List.append_assoc, List.singleton_append, splitC_cut (h s (by simp)), ih]
theorem cnt_pos (c : Nat) : ∀ l : List Nat, (0 : Int) ≤ cnt c l
  | [] => by rw [cnt_none c [] (by simp)]; omega
  | k :: r => by
    have ih := cnt_pos c r
    rw [cnt_cons]
    split <;> omega
theorem splitS_join {c : Nat} {ws : List (List Nat)} (h0 : ws ≠ []) (h : ∀ x ∈ ws, c ∉ x) : splitS (joinC [c] ws) [c] = ws := by
  have key : ∀ ys : List (List Nat), ys ≠ [] → (∀ y ∈ ys, c ∉ y) → joinC [c] ys = joinC [c] ws → ys = ws := fun ys y0 yf e => by
    rw [← splitC_join y0 yf, e, splitC_join h0 h]
  let x : Str := ⟨(joinC [c] ws).toArray⟩
  let L := Txt.split x ⟨#[c]⟩
  have hL : splitS (joinC [c] ws) [c] = L.map fun z => z.cps.toList := rfl
  rw [hL]
  refine key _ ?_ ?_ ?_
  · intro e
    have e2 : L = [] := by simpa using e
    have q : ((L.length : Nat) : Int) = 1 + cnt c x.cps.toList := split_len x c
    have z := StrLaws.join_split x ⟨#[c]⟩
    have p : (0 : Int) ≤ cnt c x.cps.toList := cnt_pos c _
    rw [e2] at q
    simp at q
    omega
  · intro y hy
    obtain ⟨z, hz, rfl⟩ := List.mem_map.mp hy
    exact StrLaws.split_free x c z hz
  · have e := join_eq [c] (L.map fun z => z.cps.toList)
    rw [List.map_map] at e
    have e1 : (L.map ((fun s => (⟨s.toArray⟩ : Str)) ∘ fun z : Str => z.cps.toList)) = L := by
      conv => rhs; rw [← List.map_id L]
      exact List.map_congr_left fun z _ => rfl
    rw [e1] at e
    have e2 : Str.join (⟨[c].toArray⟩ : Str) L = x := StrLaws.join_split x ⟨#[c]⟩
    rw [e2] at e
    have e3 := congrArg (fun s : Str => s.cps.toList) e
    simpa [x] using e3.symm
theorem joinC_len (c : Nat) : ∀ ws : List (List Nat), (joinC [c] ws).length ≤ (ws.map List.length).sum + ws.length
  | [] => by simp [joinC]
  | [s] => by simp [joinC]
  | s :: t :: r => by
    have ih := joinC_len c (t :: r)
    show (s ++ [c] ++ joinC [c] (t :: r)).length ≤ _
    simp at ih ⊢
    omega
theorem any_eq (t : List Nat) : ∀ ss : List (List Nat), ((ss.map D.str).any fun z => eqF z (.str t)) = decide (t ∈ ss)
  | [] => by simp
  | x :: ss => by
    have ih := any_eq t ss
    rw [List.map_cons, List.any_cons, ih]
    show (decide (x = t) || decide (t ∈ ss)) = _
    by_cases c : x = t
    · subst c; simp
    · have c' : ¬ t = x := fun e => c e.symm
      simp [c, c']
theorem lt1 (a b : Nat) : ([a] < [b]) ↔ a < b := by
  rw [List.cons_lt_cons_iff]
  constructor
  · rintro (h | ⟨_, h⟩)
    · exact h
    · exact absurd h (by simp)
  · exact .inl
theorem flat_strs : ∀ l : List (List Nat), (l.map D.str).all flatD = true
  | [] => rfl
  | s :: l => by simp [flatD]
theorem chain_of {m m' : D → D → Option D} {f g h : ME} {r : En} {x y z : D} {k : Bool} (e1 : f r = some x) (e2 : g r = some y) (ek : m x y = some (.bl k)) (e3 : h r = some z) : mChain m m' f g h r = if k = true then m' y z else some (.bl false) := by
  unfold mChain
  rw [e1, Option.bind_some, e2, Option.bind_some, ek, Option.bind_some]
  cases k
  · rfl
  · simp only [e3, Option.bind_some, if_true]
noncomputable def btw (lo hi c : Nat) : Bool := decide (lo ≤ c) && decide (c ≤ hi)
theorem chain_btw {lo hi c : Nat} : mChain leA leA (mVar 0) (mVar 2) (mVar 1) [.v (.str [lo]), .v (.str [hi]), .v (.str [c])] = some (.bl (btw lo hi c)) := by
  have e1 : leA (.str [lo]) (.str [c]) = some (.bl (decide (lo ≤ c))) := by
    show some (D.bl (!decide ([c] < [lo]))) = _
    congr 2
    rw [decide_eq_decide.mpr (lt1 c lo)]
    by_cases h : lo ≤ c
    · rw [decide_eq_true h, decide_eq_false (by omega)]; rfl
    · rw [decide_eq_false h, decide_eq_true (by omega)]; rfl
  have e2 : leA (.str [c]) (.str [hi]) = some (.bl (decide (c ≤ hi))) := by
    show some (D.bl (!decide ([hi] < [c]))) = _
    congr 2
    rw [decide_eq_decide.mpr (lt1 hi c)]
    by_cases h : c ≤ hi
    · rw [decide_eq_true h, decide_eq_false (by omega)]; rfl
    · rw [decide_eq_false h, decide_eq_true (by omega)]; rfl
  rw [chain_of (x := .str [lo]) (y := .str [c]) (z := .str [hi]) rfl rfl e1 rfl, e2]
  unfold btw
  by_cases h : lo ≤ c
  · rw [decide_eq_true h, Bool.true_and, if_pos rfl]
  · rw [decide_eq_false h, Bool.false_and, if_neg (by simp)]
theorem comp_btw (lo hi : Nat) : ∀ (s : List Nat) (x : Sl), fre x → compL (setV 2) mTrue (mChain leA leA (mVar 0) (mVar 2) (mVar 1)) (s.map fun c => .str [c]) [.v (.str [lo]), .v (.str [hi]), x] = some ((s.map (btw lo hi)).map D.bl)
  | [], x, _ => rfl
  | c :: s, x, hx => by
    have ih := comp_btw lo hi s (.v (.str [c])) trivial
    have e1 : setV 2 (.str [c]) [.v (.str [lo]), .v (.str [hi]), x] = some [.v (.str [lo]), .v (.str [hi]), .v (.str [c])] := setV_fre (x := x) rfl hx
    have e3 : mTrue [.v (.str [lo]), .v (.str [hi]), .v (.str [c])] = some true := rfl
    rw [List.map_cons, List.map_cons, List.map_cons]; unfold compL
    rw [e1, Option.bind_some, e3, Option.bind_some, if_pos rfl, chain_btw, Option.bind_some, ih]; rfl
theorem bls_of : ∀ l : List Bool, blsD (l.map D.bl) = some l
  | [] => rfl
  | i :: l => by simp [blsD, bls_of l]
theorem between_eq (s : List Nat) (lo hi : Nat) (hl : s.length < 1000) : ∃ as, F_all_between [.v (.str s), .v (.str [lo]), .v (.str [hi])] = some (.v (.bl (s.all (btw lo hi))), as) := by
  refine mk_rt (r' := [.v (.str s), .v (.str [lo]), .v (.str [hi])]) (ret_of ?_)
  have e : mComp [1, 2] 3 (mItS (mVar 0)) (setV 2) (mChain leA leA (mVar 0) (mVar 2) (mVar 1)) [.v (.str s), .v (.str [lo]), .v (.str [hi])] = some ((s.map (btw lo hi)).map D.bl) := by
    show (if (s.map fun c => D.str [c]).length < sizeLine then compL _ _ _ (s.map fun c => D.str [c]) [.v (.str [lo]), .v (.str [hi]), .un] else none) = _
    rw [if_pos (by rw [List.length_map]; exact Nat.lt_trans hl (by decide)), comp_btw lo hi s .un trivial]
  unfold mAll
  show (mComp [1, 2] 3 (mItS (mVar 0)) (setV 2) (mChain leA leA (mVar 0) (mVar 2) (mVar 1)) [.v (.str s), .v (.str [lo]), .v (.str [hi])]).bind _ = _
  rw [e, Option.bind_some, bls_of, Option.map_some, List.all_map]; rfl
theorem len_chain {s : List Nat} {k : Int} {n : Nat} (h1 : 1 ≤ s.length) (h2 : s.length ≤ n) (hk : k = n) (hn : n ≤ 100) : mChain leA leA (mC (.int 1)) (mUn lenD (mVar 0)) (mC (.int k)) [.v (.str s)] = some (.bl true) := by
  subst hk
  have e0 : mUn lenD (mVar 0) [.v (.str s)] = some (.int s.length) := by
    show (if s.length ≤ sizeLine then some (D.int s.length) else none) = _
    rw [if_pos (Nat.le_trans (Nat.le_trans h2 hn) (by decide))]
  have e1 : leA (.int 1) (.int s.length) = some (.bl true) := by
    show some (D.bl (decide ((1 : Int) ≤ s.length))) = _; rw [decide_eq_true (by omega)]
  rw [chain_of (x := .int 1) (z := .int (n : Int)) con_of e0 e1 con_of, if_pos rfl]
  show some (D.bl (decide ((s.length : Int) ≤ (n : Int)))) = _; rw [decide_eq_true (by omega)]
theorem and_t {f g : ME} {r : En} {d : D} (e1 : f r = some (.bl true)) (e2 : g r = some d) : mAnd f g r = some d := by
  unfold mAnd; rw [e1]; exact e2
theorem and_f {f g : ME} {r : En} (e1 : f r = some (.bl false)) : mAnd f g r = some (.bl false) := by
  unfold mAnd; rw [e1]; rfl
noncomputable def nmok (x : List Nat) : Prop := (∀ c ∈ x, 97 ≤ c ∧ c ≤ 122) ∧ 1 ≤ x.length ∧ x.length ≤ 8 ∧ x ∉ C_KEPT_WORDS
noncomputable def sNam : List Nat := [110, 97, 109, 101]
theorem name_yes {x : List Nat} (h : nmok x) : ∃ as, F_is_name [.v (.str x)] = some (.v (.bl true), as) := by
  obtain ⟨h1, h2, h3, h4⟩ := h
  refine mk_rt (r' := [.v (.str x)]) (ret_of (and_t (len_chain h2 h3 rfl (by decide)) (and_t (d := .bl true) ?_ ?_)))
  · have e : x.all (btw 97 122) = true := by
      rw [List.all_eq_true]
      intro c hc
      have := h1 c hc
      unfold btw
      simp only [decide_eq_true_eq, Bool.and_eq_true]
      exact this
    have q := between_eq x 97 122 (by omega)
    rw [e] at q
    exact call_of (p := .v (.bl true)) (cons_of rfl (cons_of con_of (cons_of con_of nil_of))) rfl q
  · refine bin_of (x := .str x) (y := .tup (C_KEPT_WORDS.map D.str)) rfl con_of ?_
    show (if flatD (.str x) = true ∧ (C_KEPT_WORDS.map D.str).all flatD = true then some (D.bl (!((C_KEPT_WORDS.map D.str).any fun z => eqF z (.str x)))) else none) = _
    rw [if_pos ⟨rfl, flat_strs _⟩, any_eq, decide_eq_false h4]; rfl
theorem sSetX_of {i : Nat} {f : En → Option (D × En)} {r r' r2 : En} {d : D} (e : f r = some (d, r')) (e2 : setV i d r' = some r2) : sSetX i f r = some (.nx r2) := by
  unfold sSetX; rw [e]; show (setV i d r').map Fl.nx = _; rw [e2]; rfl
theorem popP_of {i : Nat} {r : En} {S : List D} {d : D} (e : r[i]? = some (.p (S ++ [d]))) : mPop i r = some (d, r.set i (.p S)) := by
  simp [mPop, mtOf, e, Sl.mt, putO]
theorem word_eq (S : List D) (d : D) : F_take_word [.p (S ++ [d])] = some (.v d, [.p S]) := by
  unfold F_take_word mkF g_take_word
  have c : mNotT (mTruB (mOwn 0)) [.p (S ++ [d])] = some false := by
    show some (!(!(S ++ [d]).isEmpty)) = _
    simp
  show (sSeq _ _ [.p (S ++ [d])]).bind _ = _
  rw [seq_ff (z := some (.rt d [.p S])) c ?_]
  · rfl
  · unfold sRetX
    rw [popP_of (r := [.p (S ++ [d])]) (S := S) rfl]; rfl
theorem callP_of {n i : Nat} {m : MF} {z : MZ} {r : En} {L L' es : List D} {d : D} {as : List Sl} (hr : r[i]? = some (.p L)) (hz : z r = some ([], es)) (hn : 1 + es.length = n) (hm : m (.p L :: es.map .v) = some (.v d, as)) (ha : as[0]? = some (.p L')) : mCallX n m i z r = some (d, r.set i (.p L')) := by
  unfold mCallX mtOf
  rw [hr]
  show (z r).bind _ = _
  rw [hz, Option.bind_some]
  simp only [List.length_nil]
  rw [if_pos (by omega)]
  show (m (.p L :: es.map .v)).bind _ = _
  rw [hm, Option.bind_some]
  simp only [ha, putO, hr]
  rfl
theorem callO_of {n i : Nat} {m : MF} {z : MZ} {r : En} {L L' es : List D} {d : D} {as : List Sl} (hr : r[i]? = some (.o L)) (hz : z r = some ([], es)) (hn : 1 + es.length = n) (hm : m (.p L :: es.map .v) = some (.v d, as)) (ha : as[0]? = some (.p L')) : mCallX n m i z r = some (d, r.set i (.o L')) := by
  unfold mCallX mtOf
  rw [hr]
  show (z r).bind _ = _
  rw [hz, Option.bind_some]
  simp only [List.length_nil]
  rw [if_pos (by omega)]
  show (m (.p L :: es.map .v)).bind _ = _
  rw [hm, Option.bind_some]
  simp only [ha, putO, hr]
  rfl
theorem tname_eq {x : List Nat} (h : nmok x) (S : List D) : F_take_name [.p (S ++ [.str x])] = some (.v (.str x), [.p S]) := by
  unfold F_take_name mkF g_take_name
  show (sSeq _ _ [.p (S ++ [.str x]), .un]).bind _ = _
  have st : sSetX 1 (mCallX 1 F_take_word 0 (zP mNil)) [.p (S ++ [.str x]), .un] = some (.nx [.p S, .v (.str x)]) := sSetX_of (callP_of (L := S ++ [.str x]) (L' := S) (es := []) rfl rfl rfl (word_eq S (.str x)) rfl) (by rfl)
  rw [seq_of st]
  have a0 : mCall 1 F_is_name (mCons (mVar 1) mNil) [.p S, .v (.str x)] = some (.bl true) := call_of (p := .v (.bl true)) (cons_of rfl nil_of) rfl (name_yes h)
  rw [seq_ff (z := some (.rt (.str x) [.p S, .v (.str x)])) (by unfold mNotT mTru; rw [a0]; rfl) rfl]
  rfl
theorem leaf_nam {x : List Nat} (h : nmok x) : ∃ as, F_read_leaf [.v (.str x)] = some (.v (.tup [.str sNam, .str x]), as) := by
  refine mk_rt (r' := [.v (.str x)]) ?_
  have a0 : mCall 1 F_is_name (mCons (mVar 0) mNil) [.v (.str x)] = some (.bl true) := call_of (p := .v (.bl true)) (cons_of rfl nil_of) rfl (name_yes h)
  show g_read_leaf [.v (.str x)] = _
  exact seq_tt (by unfold mTru; rw [a0]; rfl) (ret_of (tup_of (cons_of con_of (cons_of rfl nil_of)) (by show 2 ≤ 100; decide)))
theorem look_none {tbl : List (List Nat × List Nat)} {s : List Nat} (h : ∀ q ∈ tbl, q.1 ≠ s) : look tbl s = none := by
  unfold look
  rw [List.find?_eq_none.mpr fun q hq => by simpa using h q hq]; rfl
theorem forms_keys : ∀ q ∈ C_FORMS, (q.1 ∈ C_KEPT_WORDS ∨ ∃ c ∈ q.1, c < 97) ∧ ∀ c ∈ q.1, ¬ (48 ≤ c ∧ c ≤ 57) := by decide
theorem look_nam {x : List Nat} (h : nmok x) : look C_FORMS x = none := look_none fun q hq z => by
  subst z
  rcases (forms_keys q hq).1 with k | ⟨c, hc, lt⟩
  · exact h.2.2.2 k
  · have := h.1 c hc; omega
theorem appX_of {i : Nat} {f : En → Option (D × En)} {r r1 : En} {S S0 : List D} {d : D} {x : Sl} (e0 : r[i]? = some (.o S0)) (e : f r = some (d, r1)) (e1 : r1[i]? = some (.o S)) (h : S.length < sizeLine) : mAppX i f r = some (.non, r1.set i (.o (S ++ [d]))) := by
  unfold mAppX
  rw [e, Option.bind_some]
  simp [mtOf, e0, e1, Sl.mt, putO, h]
noncomputable abbrev Ws := List (List Nat)
inductive Tm where
  | nam (x : List Nat)
  | fn (x : List Nat) (e : Tm)
  | two (b : Bool) (a c : Tm)
  | cas (e : Tm) (l x : List Nat) (a : Tm) (y : List Nat) (c : Tm)
noncomputable def sFn : List Nat := [102, 110]
noncomputable def sCs : List Nat := [99, 97, 115, 101]
noncomputable def sTwo (b : Bool) : List Nat := if b = true then [100, 111] else [43]
inductive Pa where
  | n (x : List Nat)
  | e (t : Tm)
namespace Tm
noncomputable def hd : Tm → List Nat
  | nam _ => sNam
  | fn _ _ => sFn
  | two b _ _ => sTwo b
  | cas _ _ _ _ _ _ => sCs
noncomputable def parts : Tm → List Pa
  | nam x => [.n x]
  | fn x e => [.n x, .e e]
  | two _ a c => [.e a, .e c]
  | cas e l x a y c => [.e e, .n l, .n x, .e a, .n y, .e c]
noncomputable def ds : Tm → D
  | nam x => .tup [.str sNam, .str x]
  | fn x e => .tup [.str sFn, .str x, ds e]
  | two b a c => .tup [.str (sTwo b), ds a, ds c]
  | cas e l x a y c => .tup [.str sCs, ds e, .str l, .str x, ds a, .str y, ds c]
noncomputable def ws : Tm → Ws
  | nam x => [x]
  | fn x e => sFn :: x :: ws e
  | two b a c => sTwo b :: (ws a ++ ws c)
  | cas e l x a y c => sCs :: (ws e ++ (l :: x :: (ws a ++ (y :: ws c))))
noncomputable def lv : Tm → Nat
  | nam _ => 1
  | fn _ e => lv e + 1
  | two _ a c => max (lv a) (lv c) + 1
  | cas e _ _ a _ c => max (lv e) (max (lv a) (lv c)) + 1
noncomputable def pc : Tm → Nat
  | nam _ => 1
  | fn _ e => pc e + 1
  | two _ a c => pc a + pc c + 1
  | cas e _ _ a _ c => pc e + pc a + pc c + 1
noncomputable def ok : Tm → Prop
  | nam x => nmok x
  | fn x e => nmok x ∧ ok e
  | two _ a c => ok a ∧ ok c
  | cas e l x a y c => ok e ∧ nmok l ∧ nmok x ∧ ok a ∧ nmok y ∧ ok c
noncomputable def kn : Tm → Ws → Bool
  | nam x, k => decide (x ∈ k)
  | fn x e, k => kn e (k ++ [x])
  | two _ a c, k => kn a k && kn c k
  | cas e _ x a y c, k => kn e k && (kn a (k ++ [x]) && kn c (k ++ [y]))
theorem lv_pos : ∀ t : Tm, 1 ≤ t.lv := fun t => by cases t <;> simp [lv]
theorem ws_pc : ∀ t : Tm, t.ws.length ≤ 4 * t.pc
  | nam _ => by simp [ws, pc]
  | fn _ e => by have := ws_pc e; simp only [ws, pc, List.length_cons]; omega
  | two _ a c => by have := ws_pc a; have := ws_pc c; simp only [ws, pc, List.length_cons, List.length_append]; omega
  | cas e _ _ a _ c => by have := ws_pc e; have := ws_pc a; have := ws_pc c; simp only [ws, pc, List.length_cons, List.length_append]; omega
theorem ws_ne : ∀ t : Tm, t.ws ≠ [] := fun t => by cases t <;> simp [ws]
end Tm
structure Wd (w : List Nat) : Prop where
  len : w.length ≤ 8
  low : ∀ c ∈ w, 33 ≤ c
theorem nmok.wd {x : List Nat} (h : nmok x) : Wd x := ⟨h.2.2.1, fun c hc => by have := h.1 c hc; omega⟩
theorem wd_fn : Wd sFn := ⟨by decide, by decide⟩
theorem wd_cs : Wd sCs := ⟨by decide, by decide⟩
theorem wd_two (b : Bool) : Wd (sTwo b) := by cases b <;> exact ⟨by decide, by decide⟩
theorem Tm.ws_ok : ∀ t : Tm, t.ok → ∀ x ∈ t.ws, Wd x
  | nam y, h, x, hx => by rw [List.mem_singleton.mp hx]; exact nmok.wd h
  | fn y e, h, x, hx => by
    simp only [ws, List.mem_cons] at hx
    rcases hx with rfl | rfl | hx
    · exact wd_fn
    · exact h.1.wd
    · exact ws_ok e h.2 x hx
  | two b a c, h, x, hx => by
    simp only [ws, List.mem_cons, List.mem_append] at hx
    rcases hx with rfl | hx | hx
    · exact wd_two b
    · exact ws_ok a h.1 x hx
    · exact ws_ok c h.2 x hx
  | cas e l y a z c, h, x, hx => by
    simp only [ws, List.mem_cons, List.mem_append] at hx
    obtain ⟨h1, h2, h3, h4, h5, h6⟩ := h
    rcases hx with rfl | hx | rfl | rfl | hx | rfl | hx
    · exact wd_cs
    · exact ws_ok e h1 x hx
    · exact h2.wd
    · exact h3.wd
    · exact ws_ok a h4 x hx
    · exact h5.wd
    · exact ws_ok c h6 x hx
namespace Pa
noncomputable def d : Pa → D
  | n x => .str x
  | e t => t.ds
noncomputable def w : Pa → Ws
  | n x => [x]
  | e t => t.ws
noncomputable def f : Pa → Nat
  | n _ => 110
  | e _ => 69
end Pa
noncomputable def isNam : Tm → Bool
  | .nam _ => true
  | _ => false
theorem ds_eq (t : Tm) : t.ds = .tup (.str t.hd :: t.parts.map Pa.d) := by cases t <;> rfl
theorem ws_eq {t : Tm} (h : isNam t = false) : t.ws = t.hd :: (t.parts.map Pa.w).flatten := by
  cases t <;> first | (cases h; done) | (simp [Tm.ws, Tm.hd, Tm.parts, Pa.w])
theorem form_eq {t : Tm} (h : isNam t = false) : look C_FORMS t.hd = some (t.parts.map Pa.f) := by
  cases t with
  | nam x => cases h
  | fn x e => rfl
  | two b a c => cases b <;> rfl
  | cas e l x a y c => rfl
noncomputable def PaOk (k : Nat) : Pa → Prop
  | .n x => nmok x
  | .e t => t.ok ∧ t.lv ≤ k
theorem parts_ok {t : Tm} {k : Nat} (h : t.ok) (hl : t.lv ≤ k + 1) : ∀ p ∈ t.parts, PaOk k p := by
  cases t with
  | nam x => simp only [Tm.parts, List.forall_mem_cons, List.not_mem_nil, false_imp_iff, implies_true, and_true]; exact h
  | fn x e =>
    simp only [Tm.lv] at hl
    simp only [Tm.parts, List.forall_mem_cons, List.not_mem_nil, false_imp_iff, implies_true, and_true]
    exact ⟨h.1, h.2, by omega⟩
  | two b a c =>
    simp only [Tm.lv] at hl
    simp only [Tm.parts, List.forall_mem_cons, List.not_mem_nil, false_imp_iff, implies_true, and_true]
    exact ⟨⟨h.1, by omega⟩, h.2, by omega⟩
  | cas e l x a y c =>
    simp only [Tm.lv] at hl
    simp only [Tm.parts, List.forall_mem_cons, List.not_mem_nil, false_imp_iff, implies_true, and_true]
    obtain ⟨h1, h2, h3, h4, h5, h6⟩ := h
    exact ⟨⟨h1, by omega⟩, h2, h3, ⟨h4, by omega⟩, h5, h6, by omega⟩
noncomputable def wt (l : Ws) : List D := (l.map D.str).reverse
noncomputable def TkOk (m : MF) (k : Nat) : Prop := ∀ t : Tm, t.ok → t.lv ≤ k → ∀ (b : Nat) (S : List D), b + t.lv ≤ 31 → ∃ u, m [.p (S ++ wt t.ws), .v (.int b)] = some (.v t.ds, [.p S, u])
noncomputable def bodyT (m : MF) : MS := (sIf (mBl (mBin eqA (mVar 4) (mC (.str [110]))))
 (sX (mAppX 3 (mCallX 1 F_take_name 0 (zP mNil))))
 (sX (mAppX 3 (mCallX 2 m 0 (zP (mCons (mBin addD (mVar 1) (mC (.int 1))) mNil))))))
theorem bodyT_n {m : MF} {x : List Nat} (h : nmok x) {S T : List D} {b : D} {w : D} (hT : T.length < sizeLine) :
    bodyT m [.p (S ++ [.str x]), .v b, .v w, .o T, .v (.str [110])] = some (.nx [.p S, .v b, .v w, .o (T ++ [.str x]), .v (.str [110])]) := by
  unfold bodyT
  rw [sIf_t (by rfl)]
  have c : mCallX 1 F_take_name 0 (zP mNil) [.p (S ++ [.str x]), .v b, .v w, .o T, .v (.str [110])] = some (.str x, [.p S, .v b, .v w, .o T, .v (.str [110])]) := by
    have hm : F_take_name (.p (S ++ [.str x]) :: ([] : List D).map .v) = some (.v (.str x), [.p S]) := tname_eq h S
    let r : En := [.p (S ++ [.str x]), .v b, .v w, .o T, .v (.str [110])]
    have h1 : r[0]? = some (.p (S ++ [.str x])) := by rfl
    have h2 : zP mNil r = some ([], []) := by rfl
    have h4 : ([.p S] : List Sl)[0]? = some (.p S) := by rfl
    exact callP_of (n := 1) (m := F_take_name) h1 h2 rfl hm h4
  exact sX_of (appX_of (x := .un) (S0 := T) (S := T) rfl c rfl hT)
theorem bodyT_e {m : MF} {k : Nat} (hm : TkOk m k) {t : Tm} (h2 : t.ok) (h3 : t.lv ≤ k) {b : Nat} (hb : b + 1 + t.lv ≤ 31) {S T : List D} {w : D} (hT : T.length < sizeLine) :
    bodyT m [.p (S ++ wt t.ws), .v (.int b), .v w, .o T, .v (.str [69])] = some (.nx [.p S, .v (.int b), .v w, .o (T ++ [t.ds]), .v (.str [69])]) := by
  obtain ⟨u, e⟩ := hm t h2 h3 (b + 1) S hb
  unfold bodyT
  rw [sIf_f (by rfl)]
  have c : mCallX 2 m 0 (zP (mCons (mBin addD (mVar 1) (mC (.int 1))) mNil)) [.p (S ++ wt t.ws), .v (.int b), .v w, .o T, .v (.str [69])] = some (t.ds, [.p S, .v (.int b), .v w, .o T, .v (.str [69])]) := by
    have hm : m (.p (S ++ wt t.ws) :: ([.int ((b + 1 : Nat) : Int)] : List D).map .v) = some (.v t.ds, [.p S, u]) := e
    let r : En := [.p (S ++ wt t.ws), .v (.int b), .v w, .o T, .v (.str [69])]
    have r1 : r[0]? = some (.p (S ++ wt t.ws)) := by rfl
    have r2 : zP (mCons (mBin addD (mVar 1) (mC (.int 1))) mNil) r = some ([], [.int ((b + 1 : Nat) : Int)]) := by rfl
    have r4 : ([.p S, u] : List Sl)[0]? = some (.p S) := by rfl
    exact callP_of (n := 2) (m := m) r1 r2 rfl hm r4
  exact sX_of (appX_of (x := .un) (S0 := T) (S := T) rfl c rfl hT)
noncomputable def sg (l : List Nat) : List D := l.map fun c => .str [c]
theorem tk_loop {m : MF} {k : Nat} (hm : TkOk m k) {b : Nat} (hb : b + 1 + k ≤ 31) {w : D} : ∀ (P : List Pa) (S T : List D) (x : Sl), (∀ p ∈ P, PaOk k p) → fre x → T.length + P.length < 100 →
    ∃ x', forL (setV 4) (bodyT m) (sg (P.map Pa.f)) [.p (S ++ wt (P.map Pa.w).flatten), .v (.int b), .v w, .o T, x] = some (.nx [.p S, .v (.int b), .v w, .o (T ++ P.map Pa.d), x'])
  | [], S, T, x, _, _, _ => ⟨x, by simp [wt, sg, forL]⟩
  | .n y :: P, S, T, x, ok, hx, hT => by
    have hz : sizeLine = 16777216 := by decide
    rw [List.length_cons] at hT
    obtain ⟨x', e⟩ := tk_loop hm hb (w := w) P S (T ++ [.str y]) (.v (.str [110])) (fun p hp => ok p (by simp [hp])) trivial (by rw [List.length_append]; simp only [List.length_cons, List.length_nil]; omega)
    refine ⟨x', ?_⟩
    have e0 := bodyT_n (m := m) (ok (.n y) (by simp)) (S := S ++ wt (P.map Pa.w).flatten) (T := T) (b := .int b) (w := w) (by omega)
    have ew : S ++ wt ((Pa.n y :: P).map Pa.w).flatten = S ++ wt (P.map Pa.w).flatten ++ [.str y] := by simp [wt, Pa.w]
    rw [ew]
    refine (for_go (l := sg (P.map Pa.f)) (setV_fre (x := x) rfl hx) e0).trans (e.trans ?_)
    simp [Pa.d]
  | .e t :: P, S, T, x, ok, hx, hT => by
    have hz : sizeLine = 16777216 := by decide
    rw [List.length_cons] at hT
    have h0 : t.ok ∧ t.lv ≤ k := ok (.e t) (by simp)
    obtain ⟨x', e⟩ := tk_loop hm hb (w := w) P S (T ++ [t.ds]) (.v (.str [69])) (fun p hp => ok p (by simp [hp])) trivial (by rw [List.length_append]; simp only [List.length_cons, List.length_nil]; omega)
    refine ⟨x', ?_⟩
    have e0 := bodyT_e hm h0.1 h0.2 (b := b) (by omega) (S := S ++ wt (P.map Pa.w).flatten) (T := T) (w := w) (by omega)
    have ew : S ++ wt ((Pa.e t :: P).map Pa.w).flatten = S ++ wt (P.map Pa.w).flatten ++ wt t.ws := by simp [wt, Pa.w]
    rw [ew]
    refine (for_go (l := sg (P.map Pa.f)) (setV_fre (x := x) rfl hx) e0).trans (e.trans ?_)
    simp [Pa.d]
theorem tk_start {b : Nat} {S : List D} {w : List Nat} {h : MS} {z : Option Fl} (hb : b ≤ 30) (q : h [.p S, .v (.int b), .v (.str w), .un, .un] = z) :
    sSeq (sIf (mBl (mBin gtD (mVar 1) (mC (.int 30)))) sNever sSkip) (sSeq (sSetX 2 (mCallX 1 F_take_word 0 (zP mNil))) h) [.p (S ++ [.str w]), .v (.int b), .un, .un, .un] = z := by
  refine seq_ff ?_ ?_
  · refine (gt_of (i := (b : Int)) (j := 30) rfl con_of).trans ?_; rw [decide_eq_false (by omega)]
  · have st : sSetX 2 (mCallX 1 F_take_word 0 (zP mNil)) [.p (S ++ [.str w]), .v (.int b), .un, .un, .un] = some (.nx [.p S, .v (.int b), .v (.str w), .un, .un]) := sSetX_of (callP_of (L := S ++ [.str w]) (L' := S) (es := []) rfl rfl rfl (word_eq S (.str w)) rfl) (by rfl)
    exact (seq_of st).trans q
theorem parts_len (t : Tm) : t.parts.length ≤ 6 := by cases t <;> simp [Tm.parts]
theorem tk_ok : ∀ k, TkOk (F_take_expression k) k
  | 0 => fun t _ h3 => by
    have := t.lv_pos
    omega
  | k + 1 => fun t h2 h3 b S hb => by
    have ih := tk_ok k
    have l1 := t.lv_pos
    cases hn : isNam t with
    | true =>
      cases t with
      | nam x =>
        refine ⟨.v (.int b), ?_⟩
        have e : g_take_expression (F_take_expression k) [.p (S ++ [.str x]), .v (.int b), .un, .un, .un] = some (.rt (.tup [.str sNam, .str x]) [.p S, .v (.int b), .v (.str x), .un, .un]) := by
          unfold g_take_expression
          refine tk_start (by omega) (seq_tt ?_ (ret_of (call_of (p := .v (.tup [.str sNam, .str x])) (cons_of rfl nil_of) rfl (leaf_nam h2))))
          show some (!(look C_FORMS x).isSome) = _
          rw [look_nam h2]; rfl
        show mkF 2 5 (g_take_expression (F_take_expression k)) [.p (S ++ [.str x]), .v (.int b)] = _
        unfold mkF
        show (g_take_expression (F_take_expression k) [.p (S ++ [.str x]), .v (.int b), .un, .un, .un]).bind _ = _
        rw [e]; rfl
      | _ => cases hn
    | false =>
      refine ⟨.v (.int b), ?_⟩
      have ew : S ++ wt t.ws = S ++ wt (t.parts.map Pa.w).flatten ++ [.str t.hd] := by rw [ws_eq hn]; simp [wt]
      rw [ew]
      obtain ⟨j, hj⟩ : ∃ j, t.lv = j + 1 := ⟨t.lv - 1, by omega⟩
      have ihj : TkOk (F_take_expression k) j := fun t' o' l' => ih t' o' (by omega)
      obtain ⟨x', lp⟩ := tk_loop ihj (b := b) (by omega) (w := .str t.hd) t.parts S [.str t.hd] .un (parts_ok h2 (by omega)) trivial (by have := parts_len t; simp only [List.length_cons, List.length_nil]; omega)
      have e : g_take_expression (F_take_expression k) [.p (S ++ wt (t.parts.map Pa.w).flatten ++ [.str t.hd]), .v (.int b), .un, .un, .un] = some (.rt t.ds [.p S, .v (.int b), .v (.str t.hd), .o (.str t.hd :: t.parts.map Pa.d), x']) := by
        unfold g_take_expression
        refine tk_start (S := S ++ wt (t.parts.map Pa.w).flatten) (by omega) (seq_ff ?_ ?_)
        · show some (!(look C_FORMS t.hd).isSome) = _
          rw [form_eq hn]; rfl
        · refine (seq_of (r' := [.p (S ++ wt (t.parts.map Pa.w).flatten), .v (.int b), .v (.str t.hd), .o [.str t.hd], .un]) (by rfl)).trans ?_
          have fe : sFor (setV 4) (mItS (mUn (atT C_FORMS) (mVar 2))) (bodyT (F_take_expression k)) [.p (S ++ wt (t.parts.map Pa.w).flatten), .v (.int b), .v (.str t.hd), .o [.str t.hd], .un] = some (.nx [.p S, .v (.int b), .v (.str t.hd), .o (.str t.hd :: t.parts.map Pa.d), x']) := by
            have it : mItS (mUn (atT C_FORMS) (mVar 2)) [.p (S ++ wt (t.parts.map Pa.w).flatten), .v (.int b), .v (.str t.hd), .o [.str t.hd], .un] = some (sg (t.parts.map Pa.f)) := by
              show ((look C_FORMS t.hd).map D.str).bind signsD = _
              rw [form_eq hn]; rfl
            unfold sFor
            rw [it]
            exact lp
          refine (seq_of fe).trans ?_
          rw [ds_eq]; rfl
      show mkF 2 5 (g_take_expression (F_take_expression k)) [.p (S ++ wt (t.parts.map Pa.w).flatten ++ [.str t.hd]), .v (.int b)] = _
      unfold mkF
      show (g_take_expression (F_take_expression k) [.p (S ++ wt (t.parts.map Pa.w).flatten ++ [.str t.hd]), .v (.int b), .un, .un, .un]).bind _ = _
      rw [e]; rfl
theorem ws_sum : ∀ {l : Ws}, (∀ x ∈ l, Wd x) → (l.map List.length).sum ≤ 8 * l.length
  | [], _ => by simp
  | x :: l, h => by
    have h1 := (h x (by simp)).len
    have h2 := ws_sum (l := l) fun y hy => h y (by simp [hy])
    simp only [List.map_cons, List.length_cons, List.sum_cons]
    omega
theorem Wd.no {x : List Nat} (h : Wd x) {c : Nat} (hc : c < 33) : c ∉ x := fun z => by have := h.low c z; omega
theorem read_eq {t : Tm} (h2 : t.ok) (h4 : t.ws.length ≤ 1000) (h5 : t.lv ≤ 31) : ∃ as, F_read_expression [.v (.str (joinC [32] t.ws))] = some (.v t.ds, as) := by
  have hs := t.ws_ok h2
  have hj := joinC_len 32 t.ws
  have hsum := ws_sum hs
  have hzl : sizeLine = 16777216 := by decide
  obtain ⟨u, e⟩ := tk_ok RF t h2 (by unfold RF; omega) 0 [] (by omega)
  let s : D := .str (joinC [32] t.ws)
  refine mk_rt (r' := [.v s, .o [], .v t.ds]) ?_
  show g_read_expression [.v s, .un, .un] = _
  unfold g_read_expression
  have sp : mRevF (mSplit (mVar 0) (mC (.str [32]))) [.v s, .un, .un] = some (wt t.ws) := by
    have q : mSplit (mVar 0) (mC (.str [32])) [.v s, .un, .un] = some (t.ws.map D.str) := by
      show (if ([32] : List Nat).length ≠ 0 ∧ (joinC [32] t.ws).length < sizeLine then some ((splitS (joinC [32] t.ws) [32]).map D.str) else none) = _
      rw [if_pos ⟨by decide, by omega⟩, splitS_join t.ws_ne fun x hx => (hs x hx).no (by decide)]
    unfold mRevF
    rw [q]; rfl
  have s1 : sOwn 1 (mRevF (mSplit (mVar 0) (mC (.str [32])))) [.v s, .un, .un] = some (.nx [.v s, .o (wt t.ws), .un]) := by
    unfold sOwn
    rw [sp]; rfl
  refine (seq_of s1).trans ?_
  have s2 : sSetX 2 (mCallX 2 (F_take_expression RF) 1 (zP (mCons (mC (.int 0)) mNil))) [.v s, .o (wt t.ws), .un] = some (.nx [.v s, .o [], .v t.ds]) := sSetX_of (callO_of (L := wt t.ws) (L' := []) (es := [.int ((0 : Nat) : Int)]) rfl rfl rfl e rfl) (by rfl)
  exact (seq_of s2).trans (seq_ff (by rfl) (ret_of rfl))
theorem ext_of {i : Nat} {f : ME} {r : En} {S m : List D} {d : D} (e : r[i]? = some (.o S)) (e2 : f r = some d) (e3 : itemsD d = some m) (h : S.length + m.length ≤ sizeLine) : mExt i f r = some (.non, r.set i (.o (S ++ m))) := by
  simp [mExt, mtOf, e, Sl.mt, putO, e2, e3, h]
noncomputable def isT : D → Bool
  | .tup _ => true
  | _ => false
noncomputable def plain : D → Prop
  | .tup _ => True
  | .str _ => True
  | _ => False
theorem inst_tt : instN "tuple" "tuple" = some true := by decide
theorem inst_st : instN "str" "tuple" = some false := by decide
theorem instT {d : D} (h : plain d) : instD "tuple" d = some (.bl (isT d)) := by
  cases d <;> first | (cases h; done) | skip
  · simp [instD, tyN, inst_st, isT]
  · simp [instD, tyN, inst_tt, isT]
theorem isT_ds (t : Tm) : isT t.ds = true := by cases t <;> rfl
theorem plain_ds (t : Tm) : plain t.ds := by cases t <;> trivial
theorem plain_pa (p : Pa) : plain p.d := by
  cases p with
  | n x => trivial
  | e t => exact plain_ds t
noncomputable def kids : Tm → List Tm
  | .nam _ => []
  | .fn _ e => [e]
  | .two _ a c => [a, c]
  | .cas e _ _ a _ c => [e, a, c]
theorem kids_flt (t : Tm) : (D.str t.hd :: t.parts.map Pa.d).filter isT = (kids t).map Tm.ds := by
  have st : ∀ x, isT (D.str x) = false := fun _ => rfl
  cases t <;> simp [Tm.parts, Pa.d, kids, List.filter, st, isT_ds]
theorem kids_lv (t : Tm) : ∀ e ∈ kids t, e.lv < t.lv := by
  cases t <;> simp only [kids, Tm.lv, List.forall_mem_cons, List.not_mem_nil, false_imp_iff, implies_true, and_true] <;> omega
theorem kids_pc (t : Tm) : t.pc = ((kids t).map Tm.pc).sum + 1 := by
  cases t <;> simp only [kids, Tm.pc, List.map_cons, List.map_nil, List.sum_cons, List.sum_nil] <;> omega
theorem kids_len (t : Tm) : (kids t).length ≤ 3 := by cases t <;> simp [kids]
theorem comp_inner : ∀ (l : List D) (x : Sl), fre x → (∀ d ∈ l, plain d) → compL (setV 0) (mTru (mUn (instD "tuple") (mVar 0))) (mVar 0) l [x] = some (l.filter isT)
  | [], x, _, _ => rfl
  | d :: t, x, hx, h => by
    have ih := comp_inner t (.v d) trivial fun e he => h e (by simp [he])
    have e1 : setV 0 d [x] = some [.v d] := setV_fre (r := [x]) rfl hx
    have e2 : mTru (mUn (instD "tuple") (mVar 0)) [.v d] = some (isT d) := by
      show ((some d).bind (instD "tuple")).bind truD = _
      rw [Option.bind_some, instT (h d (by simp))]; rfl
    unfold compL
    rw [e1, Option.bind_some, e2, Option.bind_some, ih]
    cases q : isT d
    · simp [q]
    · simp [q, mVar]
theorem inner_eq (t : Tm) : ∃ as, F_inner [.v t.ds] = some (.v (.lst ((kids t).map Tm.ds)), as) := by
  refine mk_rt (r' := [.v t.ds]) (ret_of ?_)
  have hl := parts_len t
  have e : mCompIf [] 1 (mIt (mVar 0)) (setV 0) (mTru (mUn (instD "tuple") (mVar 0))) (mVar 0) [.v t.ds] = some ((kids t).map Tm.ds) := by
    rw [← kids_flt, ds_eq]
    show (if (D.str t.hd :: t.parts.map Pa.d).length < sizeLine then compL _ _ _ (D.str t.hd :: t.parts.map Pa.d) [.un] else none) = _
    rw [if_pos (by rw [List.length_cons, List.length_map]; exact Nat.lt_of_le_of_lt (Nat.succ_le_succ hl) (by decide))]
    exact comp_inner _ .un trivial fun d hd => by
      rcases List.mem_cons.mp hd with (rfl | hd)
      · trivial
      · obtain ⟨p, _, rfl⟩ := List.mem_map.mp hd
        exact plain_pa p
  show mOfF (mCompIf [] 1 (mIt (mVar 0)) (setV 0) (mTru (mUn (instD "tuple") (mVar 0))) (mVar 0)) [.v t.ds] = _
  unfold mOfF
  rw [e]; rfl
noncomputable def bodyP : MS := (sSeq (sSetX 3 (mPop 2))
 (sSeq (sX (mApp 1 (mVar 3)))
 (sX (mExt 2 (mUn revD (mCall 1 F_inner (mCons (mVar 3) mNil)))))))
theorem own_true {i : Nat} {r : En} {S : List D} {d : D} (e : r[i]? = some (.o (S ++ [d]))) : mTruB (mOwn i) r = some true := by
  unfold mTruB mOwn
  rw [e]
  show some (!(S ++ [d]).isEmpty) = _
  simp
theorem own_false {i : Nat} {r : En} (e : r[i]? = some (.o [])) : mTruB (mOwn i) r = some false := by
  unfold mTruB mOwn
  rw [e]; rfl
noncomputable def PlOk (t : Tm) : Prop := ∀ (E : D) (S F : List D) (x : Sl), fre x → F.length + t.pc ≤ 10000 → S.length + 3 * t.pc ≤ 100000 → ∃ F' x', fre x' ∧ F'.length = F.length + t.pc ∧ ∀ m, sWhile (t.pc + m) (mTruB (mOwn 2)) bodyP [.v E, .o F, .o (S ++ [t.ds]), x] = sWhile m (mTruB (mOwn 2)) bodyP [.v E, .o F', .o S, x']
theorem pl_list (E : D) : ∀ (l : List Tm) (S F : List D) (x : Sl), (∀ t ∈ l, PlOk t) → fre x → F.length + (l.map Tm.pc).sum ≤ 10000 → S.length + l.length + 3 * (l.map Tm.pc).sum ≤ 100000 → ∃ F' x', fre x' ∧ F'.length = F.length + (l.map Tm.pc).sum ∧ ∀ m, sWhile ((l.map Tm.pc).sum + m) (mTruB (mOwn 2)) bodyP [.v E, .o F, .o (S ++ l.map Tm.ds), x] = sWhile m (mTruB (mOwn 2)) bodyP [.v E, .o F', .o S, x']
  | [], S, F, x, _, hx, _, _ => ⟨F, x, hx, rfl, fun m => by simp⟩
  | t :: l, S, F, x, h, hx, hF, hS => by
    rw [List.map_cons, List.sum_cons] at hF hS
    rw [List.length_cons] at hS
    obtain ⟨F1, x1, f1, l1, e1⟩ := pl_list E l (S ++ [t.ds]) F x (fun z hz => h z (by simp [hz])) hx (by omega) (by rw [List.length_append]; simp only [List.length_cons, List.length_nil]; omega)
    obtain ⟨F2, x2, f2, l2, e2⟩ := h t (by simp) E S F1 x1 f1 (by omega) (by omega)
    refine ⟨F2, x2, f2, by rw [List.map_cons, List.sum_cons]; omega, fun m => ?_⟩
    have e0 : S ++ (t :: l).map Tm.ds = S ++ [t.ds] ++ l.map Tm.ds := by simp
    rw [e0, List.map_cons, List.sum_cons, show t.pc + (l.map Tm.pc).sum + m = (l.map Tm.pc).sum + (t.pc + m) by omega, e1, e2]
theorem sum_rev (l : List Tm) : (l.reverse.map Tm.pc).sum = (l.map Tm.pc).sum := by
  rw [List.map_reverse, List.sum_reverse]
theorem pl_ok : ∀ (n : Nat) (t : Tm), t.lv ≤ n → PlOk t
  | 0, t, h => by
    have := t.lv_pos
    omega
  | n + 1, t, h => fun E S F x hx hF hS => by
    have kp := kids_pc t
    have kl := kids_len t
    have kv := kids_lv t
    have hz : sizeLine = 16777216 := by decide
    obtain ⟨F', x', fx, lf, lp⟩ := pl_list E (kids t).reverse S (F ++ [t.ds]) (.v t.ds) (fun e he => pl_ok n e (by have := kv e (by simpa using he); omega)) trivial (by rw [sum_rev, List.length_append]; simp only [List.length_cons, List.length_nil]; omega) (by rw [sum_rev, List.length_reverse]; omega)
    rw [sum_rev] at lf lp
    refine ⟨F', x', fx, by rw [lf, List.length_append]; simp only [List.length_cons, List.length_nil]; omega, fun m => ?_⟩
    rw [kp, show ((kids t).map Tm.pc).sum + 1 + m = ((kids t).map Tm.pc).sum + m + 1 by omega]
    refine (while_go (own_true (S := S) (d := t.ds) rfl) ?_).trans (lp m)
    unfold bodyP
    refine (seq_of (r' := [.v E, .o F, .o S, .v t.ds]) (sSetX_of (pop_of rfl) (setV_fre (x := x) rfl hx))).trans ?_
    refine (seq_of (r' := [.v E, .o (F ++ [t.ds]), .o S, .v t.ds]) (sX_of (app_of rfl rfl (by omega)))).trans ?_
    have c : mCall 1 F_inner (mCons (mVar 3) mNil) [.v E, .o (F ++ [t.ds]), .o S, .v t.ds] = some (.lst ((kids t).map Tm.ds)) := call_of (p := .v (.lst _)) (cons_of rfl nil_of) rfl (inner_eq t)
    refine sX_of (d := .non) (ext_of (d := .lst ((kids t).map Tm.ds).reverse) (m := (kids t).reverse.map Tm.ds) (S := S) rfl (un_of c rfl) (by rw [← List.map_reverse]; rfl) (by rw [List.length_map, List.length_reverse]; omega))
theorem WF_c {k : Nat} (h : k < WF) : k + ((WF - k - 1) + 1) = WF := by omega
theorem places_eq {t : Tm} (h : t.pc ≤ 1000) : ∃ F as, F.length = t.pc ∧ F_places [.v t.ds] = some (.f F, as) := by
  obtain ⟨F', x', fx, lf, w⟩ := pl_ok t.lv t (Nat.le_refl _) t.ds [] [] .un trivial (by simp only [List.length_nil]; omega) (by simp only [List.length_nil]; omega)
  have hk : t.pc < WF := by unfold WF; omega
  have w1 := w (WF - t.pc - 1 + 1)
  rw [WF_c hk, while_end (own_false (i := 2) (by rfl))] at w1
  refine ⟨F', [.v t.ds], by rw [lf]; simp, ?_⟩
  unfold bodyP at w1
  unfold F_places mkF g_places
  show (sSeq _ _ [.v t.ds, .un, .un, .un]).bind _ = _
  rw [seq_of (r' := [.v t.ds, .o [], .un, .un]) (by rfl), seq_of (r' := [.v t.ds, .o [], .o [t.ds], .un]) (by rfl)]
  rw [List.nil_append] at w1
  rw [seq_of w1]
  rfl
noncomputable abbrev Sc := Tm × Ws
noncomputable def sit (q : Sc) : D := .tup [q.1.ds, .lst (q.2.map D.str)]
noncomputable def scs : Tm → Ws → List Sc
  | .nam _, _ => []
  | .fn x e, k => [(e, k ++ [x])]
  | .two _ a c, k => [(a, k), (c, k)]
  | .cas e _ x a y c, k => [(e, k), (a, k ++ [x]), (c, k ++ [y])]
noncomputable def opn : Tm → Ws → Bool
  | .nam x, k => decide (x ∉ k)
  | _, _ => false
theorem kn_scs (t : Tm) (k : Ws) : t.kn k = (!opn t k && (scs t k).all fun q => q.1.kn q.2) := by
  cases t <;> simp [Tm.kn, opn, scs]
theorem scs_pc (t : Tm) (k : Ws) : t.pc = ((scs t k).map fun q => q.1.pc).sum + 1 := by
  cases t <;> simp only [scs, Tm.pc, List.map_cons, List.map_nil, List.sum_cons, List.sum_nil] <;> omega
theorem scs_len (t : Tm) (k : Ws) : (scs t k).length ≤ 3 := by cases t <;> simp [scs]
theorem scs_lv (t : Tm) (k : Ws) : ∀ q ∈ scs t k, q.1.lv < t.lv ∧ q.2.length ≤ k.length + 1 := by
  cases t <;> simp only [scs, Tm.lv, List.forall_mem_cons, List.not_mem_nil, false_imp_iff, implies_true, and_true, List.length_append, List.length_cons, List.length_nil] <;> omega
theorem in_names {x : List Nat} {kn : Ws} : inD true (.str x) (.lst (kn.map D.str)) = some (.bl (decide (x ∉ kn))) := by
  show (if flatD (.str x) = true ∧ (kn.map D.str).all flatD = true then some (D.bl (!((kn.map D.str).any fun z => eqF z (.str x)))) else none) = _
  rw [if_pos ⟨rfl, flat_strs _⟩, any_eq]
  by_cases h : x ∈ kn
  · rw [decide_eq_true h, decide_eq_false (by simpa using h)]; rfl
  · rw [decide_eq_false h, decide_eq_true h]; rfl
theorem in_no {x : List Nat} {kn : Ws} : inD false (.str x) (.lst (kn.map D.str)) = some (.bl (decide (x ∈ kn))) := by
  show (if flatD (.str x) = true ∧ (kn.map D.str).all flatD = true then some (D.bl ((kn.map D.str).any fun z => eqF z (.str x))) else none) = _
  rw [if_pos ⟨rfl, flat_strs _⟩, any_eq]
theorem hd_eq (t : Tm) : ∃ l, t.ds = .tup (.str t.hd :: l) := ⟨_, ds_eq t⟩
theorem hd_nam (t : Tm) : decide (t.hd = sNam) = isNam t := by
  cases t with
  | nam x => rfl
  | fn x e => rfl
  | two b a c => cases b <;> rfl
  | cas e l x a y c => rfl
noncomputable def cndO : MB := (mAndT (mBl (mBin eqA (mBin ixD (mVar 0) (mC (.int 0))) (mC (.str [110, 97, 109, 101])))) (mBl (mBin (inD true) (mBin ixD (mVar 0) (mC (.int 1))) (mVar 1))))
theorem cndO_eq (t : Tm) (k : Ws) : cndO [.v t.ds, .v (.lst (k.map D.str)), .un] = some (opn t k) := by
  let R : En := [.v t.ds, .v (.lst (k.map D.str)), .un]
  have e1 : mBl (mBin eqA (mBin ixD (mVar 0) (mC (.int 0))) (mC (.str [110, 97, 109, 101]))) R = some (isNam t) := by
    obtain ⟨l, hl⟩ := hd_eq t
    rw [← hd_nam t]
    exact bl_of (bin_of (bin_of (x := t.ds) rfl con_of (by rw [hl]; exact at_zero _ _)) con_of rfl)
  unfold cndO mAndT
  rw [e1, Option.bind_some]
  cases t with
  | nam x =>
    rw [if_pos (show isNam (Tm.nam x) = true from rfl)]
    exact bl_of (bin_of (x := .str x) (y := .lst (k.map D.str)) (bin_of (x := (Tm.nam x).ds) rfl con_of (atI_nat (j := 1) rfl)) rfl in_names)
  | _ => rfl
theorem one_fine {t : Tm} {k : Ws} (h : opn t k = false) : ∃ as, F_refuse_open_name [.v t.ds, .v (.lst (k.map D.str))] = some (.v .non, as) := by
  have c := (cndO_eq t k).trans (by rw [h])
  unfold cndO at c
  unfold F_refuse_open_name mkF g_refuse_open_name
  show ∃ as, (sIf _ _ _ [.v t.ds, .v (.lst (k.map D.str)), .un]).bind _ = _
  rw [sIf_f c]
  exact ⟨_, rfl⟩
theorem one_no {t : Tm} {k : Ws} (h : opn t k = false) : M_refuse_open_name_NoName [.v t.ds, .v (.lst (k.map D.str))] = none := by
  have c := (cndO_eq t k).trans (by rw [h])
  unfold cndO at c
  unfold M_refuse_open_name_NoName mkY x_refuse_open_name_NoName
  show xIf _ _ _ [.v t.ds, .v (.lst (k.map D.str)), .un] = _
  unfold xIf
  rw [c]; rfl
theorem fstr3 {r : En} {i : Nat} {a b s : List Nat} (e : r[i]? = some (.v (.str s))) (h : a.length + (s.length + b.length) ≤ 1000) : ∃ d, mFstr (jE (mC (.str a)) (jE (mVar i) (jE (mC (.str b)) jNil))) r = some d := by
  refine ⟨.str ([a, s, b]).flatten, ?_⟩
  unfold mFstr
  have z : jE (mC (.str a)) (jE (mVar i) (jE (mC (.str b)) jNil)) r = some [a, s, b] := by unfold jE; rw [var_of e]; rfl
  rw [z, Option.bind_some, if_pos]
  simp only [List.map_nil, List.map_cons, List.sum_nil, List.sum_cons, Nat.add_zero]
  exact Nat.le_trans h (by decide)
theorem one_yes {x : List Nat} {k : Ws} (h : x ∉ k) (hl : x.length ≤ 8) : M_refuse_open_name_NoName [.v (Tm.nam x).ds, .v (.lst (k.map D.str))] = some "NoName" := by
  have c := (cndO_eq (.nam x) k).trans (by rw [show opn (.nam x) k = true from decide_eq_true h])
  unfold cndO at c
  unfold M_refuse_open_name_NoName mkY x_refuse_open_name_NoName
  show xIf _ _ _ [.v (Tm.nam x).ds, .v (.lst (k.map D.str)), .un] = _
  unfold xIf
  rw [c, Option.bind_some, if_pos rfl]
  have s : sSet 2 (mBin ixD (mVar 0) (mC (.int 1))) [.v (Tm.nam x).ds, .v (.lst (k.map D.str)), .un] = some (.nx [.v (Tm.nam x).ds, .v (.lst (k.map D.str)), .v (.str x)]) := sSet_of (bin_of (x := (Tm.nam x).ds) rfl con_of (atI_nat (j := 1) rfl)) rfl
  unfold xThen
  rw [s]
  obtain ⟨d, hd⟩ := fstr3 (r := [.v (Tm.nam x).ds, .v (.lst (k.map D.str)), .v (.str x)]) (i := 2) (s := x) (a := [116, 104, 101, 32, 110, 97, 109, 101, 32]) (b := [32, 105, 115, 32, 111, 112, 101, 110]) rfl (by simp only [List.length_cons, List.length_nil]; omega)
  show xRaise "NoName" _ [.v (Tm.nam x).ds, .v (.lst (k.map D.str)), .v (.str x)] = _
  unfold xRaise
  rw [hd]; rfl
theorem comp_sc {kn : D} : ∀ (l : List D) (y : Sl), fre y → compL (setV 1) mTrue (mTup (mCons (mVar 1) (mCons (mVar 0) mNil))) l [.v kn, y] = some (l.map fun d => .tup [d, kn])
  | [], y, _ => rfl
  | d :: l, y, hy => by
    have ih := comp_sc (kn := kn) l (.v d) trivial
    have e1 : setV 1 d [.v kn, y] = some [.v kn, .v d] := setV_fre (x := y) rfl hy
    have e3 : mTrue [.v kn, .v d] = some true := rfl
    have e2 : mTup (mCons (mVar 1) (mCons (mVar 0) mNil)) [.v kn, .v d] = some (.tup [d, kn]) := tup_of (cons_of rfl (cons_of rfl nil_of)) (by show 2 ≤ 100; decide)
    unfold compL
    rw [e1, Option.bind_some, e3, Option.bind_some, if_pos rfl, e2, Option.bind_some, ih]; rfl
theorem kn_add {kn : Ws} {x : List Nat} {f : ME} {r : En} (h1 : mVar 1 r = some (.lst (kn.map D.str))) (h2 : f r = some (.str x)) (hl : kn.length ≤ 5000) : mBin addD (mVar 1) (mOfF (mLstF (mCons f mNil))) r = some (.lst ((kn ++ [x]).map D.str)) := by
  rw [List.map_append]
  exact ladd h1 (lstF_of (cons_of h2 nil_of) (by show 1 ≤ 100; decide)) (by rw [List.length_map]; show _ + 1 ≤ _; omega)
theorem eq_hd {t : Tm} {v : List Nat} {r : En} (e : r[0]? = some (.v t.ds)) : mBl (mBin eqA (mBin ixD (mVar 0) (mC (.int 0))) (mC (.str v))) r = some (decide (t.hd = v)) := by
  obtain ⟨l, hl⟩ := hd_eq t
  exact bl_of (bin_of (bin_of (x := t.ds) (var_of e) con_of (by rw [hl]; exact at_zero _ _)) con_of rfl)
theorem ix_tup {l : List D} {j : Nat} {d : D} {r : En} (e : r[0]? = some (.v (.tup l))) (h : l[j]? = some d) : mBin ixD (mVar 0) (mC (.int j)) r = some d := bin_of (var_of e) con_of (atI_nat h)
theorem scopes_eq (t : Tm) {k : Ws} (hk : k.length ≤ 5000) : ∃ as, F_scopes_in [.v t.ds, .v (.lst (k.map D.str))] = some (.v (.lst ((scs t k).map sit)), as) := by
  let N : D := .lst (k.map D.str)
  let R : En := [.v t.ds, .v N, .un, .un]
  have last : decide (t.hd = sFn) = false → decide (t.hd = sCs) = false → (scs t k) = (kids t).map (fun e => (e, k)) → ∃ as, F_scopes_in [.v t.ds, .v N] = some (.v (.lst ((scs t k).map sit)), as) := fun h1 h2 h3 => by
    refine mk_rt (r' := R) ?_
    show g_scopes_in R = _
    unfold g_scopes_in
    refine seq_ff ((eq_hd (r := R) rfl).trans (by rw [← h1]; rfl)) (seq_ff ((eq_hd (r := R) rfl).trans (by rw [← h2]; rfl)) (ret_of ?_))
    have c : mIt (mCall 1 F_inner (mCons (mVar 0) mNil)) R = some ((kids t).map Tm.ds) := by
      have c0 : mCall 1 F_inner (mCons (mVar 0) mNil) R = some (.lst ((kids t).map Tm.ds)) := call_of (p := .v (.lst _)) (cons_of rfl nil_of) rfl (inner_eq t)
      unfold mIt
      rw [c0]; rfl
    have e : mComp [1] 2 (mIt (mCall 1 F_inner (mCons (mVar 0) mNil))) (setV 1) (mTup (mCons (mVar 1) (mCons (mVar 0) mNil))) R = some (((kids t).map Tm.ds).map fun d => .tup [d, N]) := by
      unfold mComp mCompIf
      rw [c, Option.bind_some, if_pos (by rw [List.length_map]; exact Nat.lt_of_le_of_lt (kids_len t) (by decide))]
      exact comp_sc _ .un trivial
    unfold mOfF
    rw [e, h3, List.map_map, List.map_map]; rfl
  cases t with
  | nam x => exact last rfl rfl rfl
  | two b a c => cases b <;> exact last rfl rfl rfl
  | fn x e =>
    refine mk_rt (r' := R) ?_
    show g_scopes_in R = _
    unfold g_scopes_in
    refine seq_tt (eq_hd (t := .fn x e) (r := R) rfl) (ret_of (lstF_of (cons_of (tup_of (cons_of (ix_tup (j := 2) (r := R) rfl rfl) (cons_of (kn_add (x := x) rfl (ix_tup (j := 1) (r := R) rfl rfl) hk) nil_of)) (by show 2 ≤ 100; decide)) nil_of) (by show 1 ≤ 100; decide)))
  | cas e l x a y c =>
    let A : D := sit (a, k ++ [x])
    let B : D := sit (c, k ++ [y])
    let R2 : En := [.v (Tm.cas e l x a y c).ds, .v N, .v A, .un]
    let R3 : En := [.v (Tm.cas e l x a y c).ds, .v N, .v A, .v B]
    refine mk_rt (r' := R3) ?_
    show g_scopes_in R = _
    unfold g_scopes_in
    have t1 : mTup (mCons (mBin ixD (mVar 0) (mC (.int 4))) (mCons (mBin addD (mVar 1) (mOfF (mLstF (mCons (mBin ixD (mVar 0) (mC (.int 3))) mNil)))) mNil)) R = some A := tup_of (cons_of (ix_tup (j := 4) (r := R) rfl rfl) (cons_of (kn_add (x := x) rfl (ix_tup (j := 3) (r := R) rfl rfl) hk) nil_of)) (by show 2 ≤ 100; decide)
    have t2 : mTup (mCons (mBin ixD (mVar 0) (mC (.int 6))) (mCons (mBin addD (mVar 1) (mOfF (mLstF (mCons (mBin ixD (mVar 0) (mC (.int 5))) mNil)))) mNil)) R2 = some B := tup_of (cons_of (ix_tup (j := 6) (r := R2) rfl rfl) (cons_of (kn_add (x := y) rfl (ix_tup (j := 5) (r := R2) rfl rfl) hk) nil_of)) (by show 2 ≤ 100; decide)
    refine seq_ff (eq_hd (t := .cas e l x a y c) (r := R) rfl) (seq_tt (eq_hd (t := .cas e l x a y c) (r := R) rfl) (seq_set (r2 := R2) A t1 rfl (seq_set (r2 := R3) B t2 rfl (ret_of (lstF_of (cons_of (tup_of (cons_of (ix_tup (j := 1) (r := R3) rfl rfl) (cons_of rfl nil_of)) (by show 2 ≤ 100; decide)) (cons_of rfl (cons_of rfl nil_of))) (by show 3 ≤ 100; decide))))))
noncomputable def bodyR : MS := (sSeq (sSetX 3 (mPop 2))
 (sSeq (sExpr (mCall 2 F_refuse_open_name (mCons (mBin ixD (mVar 3) (mC (.int 0))) (mCons (mBin ixD (mVar 3) (mC (.int 1))) mNil))))
 (sX (mExt 2 (mCall 2 F_scopes_in (mCons (mBin ixD (mVar 3) (mC (.int 0))) (mCons (mBin ixD (mVar 3) (mC (.int 1))) mNil)))))))
noncomputable def xR : MX := (xThen (sSetX 3 (mPop 2))
 (yCall 2 M_refuse_open_name_NoName (mCons (mBin ixD (mVar 3) (mC (.int 0))) (mCons (mBin ixD (mVar 3) (mC (.int 1))) mNil))))
noncomputable def Goes {α : Type} (W : Nat → En → α) : Prop := ∀ (n : Nat) (r r' : En), mTruB (mOwn 2) r = some true → xR r = none → bodyR r = some (.nx r') → W (n + 1) r = W n r'
theorem goes_s : Goes (fun n => sWhile n (mTruB (mOwn 2)) bodyR) := fun n r r' h _ e => while_go h e
theorem goes_y : Goes (fun n => yWhile n (mTruB (mOwn 2)) bodyR xR) := fun n r r' h1 h2 h3 => by
  show ((mTruB (mOwn 2)) r).bind _ = _
  rw [h1, Option.bind_some, if_pos rfl, h2, h3]; rfl
theorem popR {E K0 d : D} {S : List D} {x : Sl} (hx : fre x) : sSetX 3 (mPop 2) [.v E, .v K0, .o (S ++ [d]), x] = some (.nx [.v E, .v K0, .o S, .v d]) := sSetX_of (pop_of rfl) (setV_fre (x := x) rfl hx)
theorem i0 {E K0 : D} {S : List D} {q : Sc} : mBin ixD (mVar 3) (mC (.int 0)) [.v E, .v K0, .o S, .v (sit q)] = some q.1.ds := bin_of (x := sit q) rfl con_of (at_zero _ _)
theorem i1 {E K0 : D} {S : List D} {q : Sc} : mBin ixD (mVar 3) (mC (.int 1)) [.v E, .v K0, .o S, .v (sit q)] = some (.lst (q.2.map D.str)) := bin_of (x := sit q) rfl con_of (atI_nat (j := 1) rfl)
theorem turn_eq {E K0 : D} {S : List D} {x : Sl} {t : Tm} {k : Ws} (hx : fre x) (ho : opn t k = false) (hk : k.length ≤ 5000) (hS : S.length ≤ 1000000) : bodyR [.v E, .v K0, .o (S ++ [sit (t, k)]), x] = some (.nx [.v E, .v K0, .o (S ++ (scs t k).map sit), .v (sit (t, k))]) := by
  have hl := scs_len t k
  let R : En := [.v E, .v K0, .o S, .v (sit (t, k))]
  unfold bodyR
  refine (seq_of (popR hx)).trans ?_
  have c1 : mCall 2 F_refuse_open_name (mCons (mBin ixD (mVar 3) (mC (.int 0))) (mCons (mBin ixD (mVar 3) (mC (.int 1))) mNil)) R = some .non := call_of (p := .v .non) (cons_of i0 (cons_of i1 nil_of)) rfl (one_fine ho)
  refine (seq_of (r' := R) (by unfold sExpr; rw [c1]; rfl)).trans ?_
  have c2 : mCall 2 F_scopes_in (mCons (mBin ixD (mVar 3) (mC (.int 0))) (mCons (mBin ixD (mVar 3) (mC (.int 1))) mNil)) R = some (.lst ((scs t k).map sit)) := call_of (p := .v (.lst ((scs t k).map sit))) (cons_of i0 (cons_of i1 nil_of)) rfl (scopes_eq t hk)
  exact sX_of (ext_of (S := S) rfl c2 rfl (by rw [List.length_map]; exact Nat.le_trans (by omega : S.length + (scs t k).length ≤ 1000003) (by decide)))
theorem ycall_of {n : Nat} {m : List Sl → Option Str} {fs : ML} {r : En} {l : List D} {z : Option Str} (e : fs r = some l) (hl : l.length = n) (h : m (l.map .v) = z) : yCall n m fs r = z := by
  unfold yCall
  rw [e, Option.bind_some, if_pos hl, h]
theorem xR_of {E K0 : D} {S : List D} {x : Sl} {t : Tm} {k : Ws} {z : Option Str} (hx : fre x) (h : M_refuse_open_name_NoName [.v t.ds, .v (.lst (k.map D.str))] = z) : xR [.v E, .v K0, .o (S ++ [sit (t, k)]), x] = z := by
  unfold xR xThen
  rw [popR hx]
  exact ycall_of (r := [.v E, .v K0, .o S, .v (sit (t, k))]) (cons_of i0 (cons_of i1 nil_of)) rfl h
noncomputable def Prc {α : Type} (W : Nat → En → α) (n : Nat) (q : Sc) : Prop := ∀ (E K0 : D) (S : List D) (x : Sl), fre x → S.length + 5 * n ≤ 100000 → ∃ x', fre x' ∧ ∀ m, W (q.1.pc + m) [.v E, .v K0, .o (S ++ [sit q]), x] = W m [.v E, .v K0, .o S, x']
theorem prc_list {α : Type} {W : Nat → En → α} {E K0 : D} (n : Nat) : ∀ (l : List Sc) (S : List D) (x : Sl), (∀ q ∈ l, Prc W n q) → fre x → S.length + l.length + 5 * n ≤ 100000 → ∃ x', fre x' ∧ ∀ m, W ((l.map fun q => q.1.pc).sum + m) [.v E, .v K0, .o (S ++ l.map sit), x] = W m [.v E, .v K0, .o S, x']
  | [], S, x, _, hx, _ => ⟨x, hx, fun m => by simp⟩
  | q :: l, S, x, h, hx, hl => by
    rw [List.length_cons] at hl
    obtain ⟨x1, f1, e1⟩ := prc_list n l (S ++ [sit q]) x (fun z hz => h z (by simp [hz])) hx (by rw [List.length_append]; simp only [List.length_cons, List.length_nil]; omega)
    obtain ⟨x2, f2, e2⟩ := h q (by simp) E K0 S x1 f1 (by omega)
    refine ⟨x2, f2, fun m => ?_⟩
    have e0 : S ++ (q :: l).map sit = S ++ [sit q] ++ l.map sit := by simp
    rw [e0, List.map_cons, List.sum_cons, show q.1.pc + (l.map fun q => q.1.pc).sum + m = (l.map fun q => q.1.pc).sum + (q.1.pc + m) by omega, e1, e2]
theorem kn_true {t : Tm} {k : Ws} (h : t.kn k = true) : opn t k = false ∧ ∀ q ∈ scs t k, q.1.kn q.2 = true := by
  rw [kn_scs, Bool.and_eq_true, List.all_eq_true] at h
  exact ⟨by simpa using h.1, h.2⟩
theorem prc_ok {α : Type} {W : Nat → En → α} (hW : Goes W) : ∀ (n : Nat) (t : Tm) (k : Ws), t.lv ≤ n → t.kn k = true → k.length + n ≤ 5000 → Prc W n (t, k)
  | 0, t, k, h, _, _ => by
    have := t.lv_pos
    omega
  | n + 1, t, k, h3, hs, hk => fun E K0 S x hx hS => by
    obtain ⟨ho, hq⟩ := kn_true hs
    have hl := scs_len t k
    obtain ⟨x', fx, lp⟩ := prc_list (W := W) (E := E) (K0 := K0) n (scs t k) S (.v (sit (t, k))) (fun q h => by
      obtain ⟨a1, a2⟩ := scs_lv t k q h
      exact prc_ok hW n q.1 q.2 (by omega) (hq q h) (by omega)) trivial (by omega)
    refine ⟨x', fx, fun m => ?_⟩
    show W (t.pc + m) _ = _
    rw [scs_pc t k, show ((scs t k).map fun q => q.1.pc).sum + 1 + m = ((scs t k).map fun q => q.1.pc).sum + m + 1 by omega]
    exact (hW _ _ _ (own_true (S := S) rfl) (xR_of hx (one_no ho)) (turn_eq hx ho (by omega) (by omega))).trans (lp m)
noncomputable abbrev yW (n : Nat) (r : En) : Option Str := yWhile n (mTruB (mOwn 2)) bodyR xR r
theorem yes_y {n : Nat} {r : En} {z : Str} (h1 : mTruB (mOwn 2) r = some true) (h2 : xR r = some z) : yW (n + 1) r = some z := by
  show ((mTruB (mOwn 2)) r).bind _ = _
  rw [h1, Option.bind_some, if_pos rfl, h2]
theorem scs_ok {t : Tm} (h : t.ok) (k : Ws) : ∀ q ∈ scs t k, q.1.ok := by
  cases t with
  | nam x => simp [scs]
  | fn x e => simp only [scs, List.forall_mem_cons, List.not_mem_nil, false_imp_iff, implies_true, and_true]; exact h.2
  | two b a c => simp only [scs, List.forall_mem_cons, List.not_mem_nil, false_imp_iff, implies_true, and_true]; exact h
  | cas e l x a y c => simp only [scs, List.forall_mem_cons, List.not_mem_nil, false_imp_iff, implies_true, and_true]; exact ⟨h.1, h.2.2.2.1, h.2.2.2.2.2⟩
noncomputable def Rz (n : Nat) (q : Sc) : Prop := ∀ (E K0 : D) (S : List D) (x : Sl), fre x → S.length + 5 * n ≤ 100000 → ∀ m, yW (q.1.pc + m) [.v E, .v K0, .o (S ++ [sit q]), x] = some "NoName"
theorem rz_list {E K0 : D} (n : Nat) : ∀ (l : List Sc) (S : List D) (x : Sl), (∀ q ∈ l, (q.1.kn q.2 = true → Prc yW n q) ∧ (q.1.kn q.2 = false → Rz n q)) → (∃ q ∈ l, q.1.kn q.2 = false) → fre x → S.length + l.length + 5 * n ≤ 100000 → ∀ m, yW ((l.map fun q => q.1.pc).sum + m) [.v E, .v K0, .o (S ++ l.map sit), x] = some "NoName"
  | [], S, x, _, ⟨_, h, _⟩, _, _ => by cases h
  | q :: l, S, x, h, he, hx, hl => fun m => by
    rw [List.length_cons] at hl
    have e0 : S ++ (q :: l).map sit = S ++ [sit q] ++ l.map sit := by simp
    rw [e0, List.map_cons, List.sum_cons, show q.1.pc + (l.map fun q => q.1.pc).sum + m = (l.map fun q => q.1.pc).sum + (q.1.pc + m) by omega]
    by_cases hb : ∃ q ∈ l, q.1.kn q.2 = false
    · exact rz_list n l (S ++ [sit q]) x (fun z hz => h z (by simp [hz])) hb hx (by rw [List.length_append]; simp only [List.length_cons, List.length_nil]; omega) _
    · have ha : ∀ z ∈ l, z.1.kn z.2 = true := fun z hz => by
        cases hc : z.1.kn z.2 with
        | true => rfl
        | false => exact absurd ⟨z, hz, hc⟩ hb
      obtain ⟨x1, f1, e1⟩ := prc_list (W := yW) (E := E) (K0 := K0) n l (S ++ [sit q]) x (fun z hz => (h z (by simp [hz])).1 (ha z hz)) hx (by rw [List.length_append]; simp only [List.length_cons, List.length_nil]; omega)
      have hq : q.1.kn q.2 = false := by
        obtain ⟨z, hz, hc⟩ := he
        rcases List.mem_cons.mp hz with (rfl | hz)
        · exact hc
        · rw [ha z hz] at hc; cases hc
      rw [e1]
      exact (h q (by simp)).2 hq E K0 S x1 f1 (by omega) m
theorem rz_ok : ∀ (n : Nat) (t : Tm) (k : Ws), t.lv ≤ n → t.ok → t.kn k = false → k.length + n ≤ 5000 → Rz n (t, k)
  | 0, t, k, h, _, _, _ => by
    have := t.lv_pos
    omega
  | n + 1, t, k, h3, h2, hs, hk => fun E K0 S x hx hS m => by
    have hl := scs_len t k
    show yW (t.pc + m) _ = _
    rw [scs_pc t k, show ((scs t k).map fun q => q.1.pc).sum + 1 + m = ((scs t k).map fun q => q.1.pc).sum + m + 1 by omega]
    cases ho : opn t k with
    | true =>
      cases t with
      | nam y => exact yes_y (own_true (S := S) rfl) (xR_of hx (one_yes (of_decide_eq_true ho) h2.2.2.1))
      | _ => cases ho
    | false =>
      refine (goes_y _ _ _ (own_true (S := S) rfl) (xR_of hx (one_no ho)) (turn_eq hx ho (by omega) (by omega))).trans ?_
      refine rz_list n (scs t k) S (.v (sit (t, k))) (fun q hq => ?_) ?_ trivial (by omega) m
      · obtain ⟨a1, a2⟩ := scs_lv t k q hq
        exact ⟨fun z => prc_ok goes_y n q.1 q.2 (by omega) z (by omega), fun z => rz_ok n q.1 q.2 (by omega) (scs_ok h2 k q hq) z (by omega)⟩
      · rw [kn_scs, ho] at hs
        have : ((scs t k).all fun q => q.1.kn q.2) = false := by simpa using hs
        rw [List.all_eq_false] at this
        obtain ⟨q, hq, z⟩ := this
        exact ⟨q, hq, by simpa using z⟩
theorem refuse_ok {t : Tm} {k : Ws} (h3 : t.lv ≤ 40) (hs : t.kn k = true) (hk : k.length ≤ 100) (hp : t.pc ≤ 2000) : ∃ as, F_refuse_open_names [.v t.ds, .v (.lst (k.map D.str))] = some (.v .non, as) := by
  let N : D := .lst (k.map D.str)
  obtain ⟨x', fx, w⟩ := prc_ok goes_s 40 t k h3 hs (by omega) t.ds N [] .un trivial (by simp)
  have hp' : t.pc < WF := by unfold WF; omega
  have w1 := w (WF - t.pc - 1 + 1)
  dsimp only at w1
  rw [WF_c hp', while_end (own_false (i := 2) (by rfl))] at w1
  unfold F_refuse_open_names mkF g_refuse_open_names
  show ∃ as, (sSeq _ _ [.v t.ds, .v N, .un, .un]).bind _ = _
  rw [seq_of (r' := [.v t.ds, .v N, .o [sit (t, k)], .un]) (by rfl)]
  unfold bodyR at w1
  simp only [List.nil_append] at w1
  rw [w1]
  exact ⟨_, rfl⟩
theorem refuse_no {t : Tm} {k : Ws} (h3 : t.lv ≤ 40) (h2 : t.ok) (hs : t.kn k = false) (hk : k.length ≤ 100) (hp : t.pc ≤ 2000) : M_refuse_open_names_NoName [.v t.ds, .v (.lst (k.map D.str))] = some "NoName" := by
  let N : D := .lst (k.map D.str)
  have w1 := rz_ok 40 t k h3 h2 hs (by omega) t.ds N [] .un trivial (by simp) (WF - t.pc - 1 + 1)
  have hp' : t.pc < WF := by unfold WF; omega
  dsimp only at w1
  rw [WF_c hp', List.nil_append] at w1
  unfold yW bodyR xR at w1
  unfold M_refuse_open_names_NoName mkY x_refuse_open_names_NoName
  show xThen _ _ [.v t.ds, .v N, .un, .un] = _
  unfold xThen
  rw [show sOwn 2 (mLstF (mCons (mTup (mCons (mVar 0) (mCons (mVar 1) mNil))) mNil)) [.v t.ds, .v N, .un, .un] = some (.nx [.v t.ds, .v N, .o [sit (t, k)], .un]) from rfl, Option.bind_some]
  exact w1
open PySem.StrLaws PySem.Builtin.Str
theorem occ_run (s sub : Str) (hi limit lo : Nat) (hw : 1 ≤ sub.length) : ∀ (m cur : Nat) (st : Array Nat × Nat), ChainG s sub hi lo st.fst.toList st.snd → ((∀ k, st.snd ≤ k → k < cur → ¬ At s sub hi k) ∨ st.fst.size = limit) → st.fst.size ≤ limit →
    ChainG s sub hi lo (forIn (List.range' cur m) st (occBody s sub hi limit)).run.fst.toList (forIn (List.range' cur m) st (occBody s sub hi limit)).run.snd ∧ ((∀ k, (forIn (List.range' cur m) st (occBody s sub hi limit)).run.snd ≤ k → k < cur + m → ¬ At s sub hi k) ∨ (forIn (List.range' cur m) st (occBody s sub hi limit)).run.fst.size = limit) ∧ (forIn (List.range' cur m) st (occBody s sub hi limit)).run.fst.size ≤ limit
  | 0, cur, st, h, hn, hl => ⟨h, hn, hl⟩
  | m+1, cur, st, h, hn, hl => by
    rw [List.range'_succ]; rw [List.forIn_cons]
    unfold occBody
    have e : cur + (m + 1) = cur + 1 + m := by omega
    rw [e]
    split
    · rename_i hc
      have hlt : st.fst.size < limit := hc.1.1.1
      have tight : ∀ k, st.snd ≤ k → k < cur → ¬ At s sub hi k := hn.elim id fun z => by omega
      refine occ_run s sub hi limit lo hw m (cur + 1) _ ?_ (.inl ?_) ?_
      · show (ChainG s sub hi lo (st.fst.push cur).toList (cur + sub.length))
        rw [Array.toList_push]
        exact chainG_snoc h hc.1.1.2 ⟨hc.1.2, hc.2⟩ tight
      · intro k h1 h2
        have h1' : cur + sub.length ≤ k := (h1)
        omega
      · show (st.fst.push cur).size ≤ limit
        rw [Array.size_push]; omega
    · rename_i hc
      refine occ_run s sub hi limit lo hw m (cur + 1) _ h ?_ hl
      by_cases hq : st.fst.size = limit
      · exact .inr hq
      · have tight : ∀ k, st.snd ≤ k → k < cur → ¬ At s sub hi k := hn.elim id fun z => absurd z hq
        refine .inl fun k h1 h2 hA => ?_
        by_cases hk : k < cur
        · exact tight k h1 hk hA
        · have ek : (k = cur) := by omega
          subst ek
          exact hc ⟨⟨⟨by omega, h1⟩, hA.1⟩, (hA.2)⟩
theorem occ_lim (x y : Str) (limit : Nat) (hw : 1 ≤ y.length) : ∃ f, ChainG x y x.length 0 (occurrences x y 0 x.length limit) f ∧ ((∀ k, f ≤ k → ¬ At x y x.length k) ∨ (occurrences x y 0 x.length limit).length = limit) ∧ (occurrences x y 0 x.length limit).length ≤ limit := by
  rw [occ_eq]
  have key := occ_run x y x.length limit 0 hw (x.length + 1 - 0) 0 ((#[] : Array Nat), 0) rfl (.inl fun k _ h => by omega) (by simp)
  refine ⟨_, key.1, ?_, by rw [Array.length_toList]; exact key.2.2⟩
  rcases key.2.1 with z | z
  · exact .inl fun k hk hA => z k hk (by have := hA.1; omega) hA
  · exact .inr (by rw [Array.length_toList]; exact z)
theorem chain_of_G {s sub : Str} {hi : Nat} : ∀ {a : Nat} {cuts : List Nat} {f : Nat}, ChainG s sub hi a cuts f → ChainTo s sub hi a cuts f
  | _, [], _, h => h
  | _, _ :: _, _, h => ⟨h.1, h.2.1, chain_of_G h.2.2.2⟩
theorem cut_eq {c : Nat} : ∀ {p q t u : List Nat}, c ∉ p → c ∉ q → p ++ c :: t = q ++ c :: u → p = q ∧ t = u
  | [], [], t, u, _, _, e => by simp at e; exact ⟨rfl, e⟩
  | [], y :: q, t, u, _, h, e => by
    simp only [List.nil_append, List.cons_append, List.cons.injEq] at e
    exact absurd (by rw [← e.1]; simp) h
  | x :: p, [], t, u, h, _, e => by
    simp only [List.nil_append, List.cons_append, List.cons.injEq] at e
    exact absurd (by rw [e.1]; simp) h
  | x :: p, y :: q, t, u, h, h', e => by
    simp only [List.cons_append, List.cons.injEq] at e
    obtain ⟨a, b⟩ := cut_eq (c := c) (fun z => h (by simp [z])) (fun z => h' (by simp [z])) e.2
    exact ⟨by rw [e.1, a], b⟩
theorem split3 {a b r : List Nat} (ha : 32 ∉ a) (hb : 32 ∉ b) : splitMS (a ++ 32 :: (b ++ 32 :: r)) [32] 2 = [a, b, r] := by
  let x : Str := ⟨(a ++ 32 :: (b ++ 32 :: r)).toArray⟩
  let y : Str := ⟨#[32]⟩
  have hx : x.cps.toList = a ++ 32 :: (b ++ 32 :: r) := by simp [x]
  have lim : limitOf x 2 = 2 := rfl
  obtain ⟨f, G, T, L⟩ := occ_lim x y 2 (Nat.le_refl 1)
  have C := chain_of_G G
  have jn := join_partsFrom x y (occurrences x y 0 x.length 2) 0 f C
  rw [sub_whole] at jn
  have ne : ∀ (hc : (decide (x.length < y.length) || decide (strKind x < strKind y)) = true), False := fun hc => by
    rcases Bool.or_eq_true _ _ ▸ hc with z | z
    · have z := of_decide_eq_true z
      have : x.length = (a ++ 32 :: (b ++ 32 :: r)).length := str_len _
      have y1 : y.length = 1 := rfl
      rw [this, y1] at z
      simp at z
    · have z := kind_free x 32 (of_decide_eq_true z)
      rw [hx] at z
      simp at z
  let P : List Str := partsFrom x y.length 0 (occurrences x y 0 x.length 2)
  have lenP : ∀ (cuts : List Nat) (s : Nat), (partsFrom x y.length s cuts).length = cuts.length + 1 := fun cuts => by
    induction cuts with
    | nil => intro s; rfl
    | cons c t ih => intro s; simp [partsFrom, ih]
  have jl : joinC [32] (P.map fun z => z.cps.toList) = a ++ 32 :: (b ++ 32 :: r) := by
    have e := join_eq [32] (P.map fun z => z.cps.toList)
    rw [List.map_map] at e
    have e1 : (P.map ((fun s => (⟨s.toArray⟩ : Str)) ∘ fun z : Str => z.cps.toList)) = P := by
      conv => rhs; rw [← List.map_id P]
      exact List.map_congr_left fun z _ => rfl
    rw [e1] at e
    have e2 : Str.join (⟨[32].toArray⟩ : Str) P = x := jn
    rw [e2] at e
    have e3 := congrArg (fun s : Str => s.cps.toList) e
    rw [hx] at e3
    simpa using e3.symm
  have big : 3 ≤ (splitC 32 (a ++ 32 :: (b ++ 32 :: r))).length := by
    rw [splitC_cut ha, splitC_cut hb]
    have : splitC 32 r ≠ [] := by
      cases r with
      | nil => simp [splitC]
      | cons c t =>
        unfold splitC
        split
        · simp
        · split <;> simp
    have := List.length_pos_iff.mpr this
    simp; omega
  have len2 : (occurrences x y 0 x.length 2).length = 2 := by
    rcases T with T | T
    · by_cases h2 : (occurrences x y 0 x.length 2).length = 2
      · exact h2
      exfalso
      have free := parts_free x 32 (occurrences x y 0 x.length 2) 0 f G T
      have sc := splitC_join (c := 32) (ws := P.map fun z => z.cps.toList) (fun z => by
        have l := congrArg List.length z
        rw [List.length_map] at l
        have := lenP (occurrences x y 0 x.length 2) 0
        have l2 : P.length = (occurrences x y 0 x.length 2).length + 1 := this
        have l0 : P.length = 0 := l
        omega) (fun q hq => by
        obtain ⟨z, hz, rfl⟩ := List.mem_map.mp hq
        exact free z hz)
      rw [jl] at sc
      rw [sc, List.length_map] at big
      have l2 : P.length = (occurrences x y 0 x.length 2).length + 1 := lenP _ 0
      omega
    · exact T
  have res : P.map (fun z => z.cps.toList) = [a, b, r] := by
    have G' := G
    have jl' := jl
    show (partsFrom x y.length 0 (occurrences x y 0 x.length 2)).map (fun z => z.cps.toList) = _
    have jl'' : joinC [32] ((partsFrom x y.length 0 (occurrences x y 0 x.length 2)).map fun z => z.cps.toList) = a ++ 32 :: (b ++ 32 :: r) := jl
    match hocc : occurrences x y 0 x.length 2, len2 with
    | [c1, c2], _ =>
      rw [hocc] at G' jl''
      obtain ⟨g1, g2, g3, g4, g5, g6, g7⟩ := G'
      have b1 : c1 ≤ x.length := by have := g2.1; omega
      have b2 : c2 ≤ x.length := by have := g5.1; omega
      have f1 := part_free x 32 0 c1 b1 g3
      have f2 := part_free x 32 (c1 + y.length) c2 b2 g6
      simp only [partsFrom, List.map_cons, List.map_nil] at jl'' ⊢
      have jj : (strSub x 0 c1).cps.toList ++ 32 :: ((strSub x (c1 + y.length) c2).cps.toList ++ 32 :: (strSub x (c2 + y.length) x.length).cps.toList) = a ++ 32 :: (b ++ 32 :: r) := by
        have : joinC [32] [(strSub x 0 c1).cps.toList, (strSub x (c1 + y.length) c2).cps.toList, (strSub x (c2 + y.length) x.length).cps.toList] = a ++ 32 :: (b ++ 32 :: r) := jl''
        simpa [joinC] using this
      obtain ⟨u1, u2⟩ := cut_eq f1 ha jj
      obtain ⟨u3, u4⟩ := cut_eq f2 hb u2
      rw [u1, u3, u4]
  unfold splitMS Txt.splitMax
  rw [if_neg (fun h => ne h), lim]
  have em : (occurrences x y 0 x.length 2).isEmpty = false := by
    cases h : occurrences x y 0 x.length 2 with
    | nil => rw [h] at len2; simp at len2
    | cons c t => rfl
  show (if (occurrences x y 0 x.length 2).isEmpty = true then [x] else partsBetween x (occurrences x y 0 x.length 2) y.length).map (fun z => z.cps.toList) = _
  rw [em, if_neg (by simp), partsBetween_eq]
  exact res
theorem xthen {g : MS} {x : MX} {r r' : En} {z : Option Str} (e : g r = some (.nx r')) (q : x r' = z) : xThen g x r = z := by
  unfold xThen; rw [e]; exact q
theorem xif_f {c : MB} {x y : MX} {r : En} (e : c r = some false) : xIf c x y r = y r := by
  unfold xIf; rw [e]; rfl
theorem xor_r {x y : MX} {r : En} (e : x r = none) : xOr x y r = y r := by unfold xOr; rw [e]
theorem xor_l {x y : MX} {r : En} {z : Str} (e : x r = some z) : xOr x y r = some z := by unfold xOr; rw [e]
noncomputable def sDef : List Nat := [100, 101, 102]
noncomputable def sMain : List Nat := [109, 97, 105, 110]
noncomputable abbrev Df := List Nat × Tm
noncomputable def lin (q : Df) : List Nat := joinC [32] (sDef :: q.1 :: q.2.ws)
noncomputable def pd (q : Df) : D := .tup [.str q.1, q.2.ds]
theorem join_cons (s : List Nat) {l : Ws} (h : l ≠ []) : joinC [32] (s :: l) = s ++ 32 :: joinC [32] l := by
  cases l with
  | nil => exact absurd rfl h
  | cons x t => show s ++ [32] ++ joinC [32] (x :: t) = _; simp
theorem lin_eq (q : Df) : lin q = sDef ++ 32 :: (q.1 ++ 32 :: joinC [32] q.2.ws) := by
  unfold lin
  rw [join_cons _ (by simp), join_cons _ q.2.ws_ne]
structure Fine (q : Df) (above : Ws) : Prop where
  nm : nmok q.1
  new : q.1 ∉ above
  ok : q.2.ok
  lv : q.2.lv ≤ 31
  pc : q.2.pc ≤ 80
theorem lin_len {q : Df} {ab : Ws} (h : Fine q ab) : (lin q).length ≤ 5000 := by
  have w := ws_sum (q.2.ws_ok h.ok)
  have j := joinC_len 32 (sDef :: q.1 :: q.2.ws)
  have n := h.nm.2.2.1
  have s := q.2.ws_pc
  have p := h.pc
  simp only [List.length_cons, List.map_cons, List.sum_cons] at j
  unfold lin
  have d : sDef.length = 3 := rfl
  omega
structure RdSt (q : Df) (ab : Ws) (R0 R1 R2 R3 : En) : Prop where
  a : sSet 2 (mOfF (mSplitM (mVar 0) (mC (.str [32])) 2)) R0 = some (.nx R1)
  b : sIf (mOrT (mBl (mBin neA (mUn lenD (mVar 2)) (mC (.int 3)))) (mOrT (mBl (mBin neA (mBin ixD (mVar 2) (mC (.int 0))) (mC (.str [100, 101, 102])))) (mNotT (mTru (mCall 1 F_is_name (mCons (mBin ixD (mVar 2) (mC (.int 1))) mNil)))))) sNever sSkip R1 = some (.nx R1)
  c : sSet 3 (mBin ixD (mVar 2) (mC (.int 1))) R1 = some (.nx R2)
  d : sSet 4 (mCall 1 F_read_expression (mCons (mBin ixD (mVar 2) (mC (.int 2))) mNil)) R2 = some (.nx R3)
  e : sIf (mBl (mBin gtD (mUn lenD (mOfF (mCallF 1 F_places (mCons (mVar 4) mNil)))) (mC (.int 80)))) sNever sSkip R3 = some (.nx R3)
  f : mBl (mBin (inD false) (mVar 3) (mVar 1)) R3 = some false
  k : mBin addD (mVar 1) (mOfF (mLstF (mCons (mVar 3) mNil))) R3 = some (.lst ((ab ++ [q.1]).map D.str))
theorem def_st {q : Df} {ab : Ws} (h : Fine q ab) (ha : ab.length ≤ 50) : ∃ W : D, RdSt q ab [.v (.str (lin q)), .v (.lst (ab.map D.str)), .un, .un, .un] [.v (.str (lin q)), .v (.lst (ab.map D.str)), .v W, .un, .un] [.v (.str (lin q)), .v (.lst (ab.map D.str)), .v W, .v (.str q.1), .un] [.v (.str (lin q)), .v (.lst (ab.map D.str)), .v W, .v (.str q.1), .v q.2.ds] := by
  obtain ⟨nm, f⟩ := q
  have hl := lin_len h
  have hw := f.ws_pc
  have hpc : f.pc ≤ 80 := h.pc
  let A : D := .lst (ab.map D.str)
  let t : D := .str (lin (nm, f))
  let rest : List Nat := joinC [32] f.ws
  let W : D := .lst [.str sDef, .str nm, .str rest]
  have sp : mSplitM (mVar 0) (mC (.str [32])) 2 [.v t, .v A, .un, .un, .un] = some [.str sDef, .str nm, .str rest] := by
    show (if ([32] : List Nat).length ≠ 0 ∧ (lin (nm, f)).length < sizeLine ∧ (0 : Int) ≤ 2 ∧ (2 : Int) < 1000 then some ((splitMS (lin (nm, f)) [32] 2).map D.str) else none) = _
    rw [if_pos ⟨by decide, Nat.lt_of_le_of_lt hl (by decide), by decide, by decide⟩, lin_eq, split3 (by decide) (h.nm.wd.no (by decide))]; rfl
  have ix : ∀ (j : Nat) (d : D) (b c : Sl), ([.str sDef, .str nm, .str rest] : List D)[j]? = some d → mBin ixD (mVar 2) (mC (.int j)) [.v t, .v A, .v W, b, c] = some d := fun j d b c hj => bin_of (x := W) rfl con_of (atI_nat hj)
  let R : En := [.v t, .v A, .v W, .v (.str nm), .v f.ds]
  refine ⟨W, ⟨sSet_of (d := W) (by unfold mOfF; rw [sp]; rfl) rfl, (sIf_f ?_).trans rfl, sSet_of (ix 1 _ _ _ rfl) rfl, sSet_of (call_of (p := .v f.ds) (cons_of (ix 2 _ _ _ rfl) nil_of) rfl (read_eq h.ok (by omega) h.lv)) rfl, (sIf_f ?_).trans rfl, ?_, kn_add (kn := ab) rfl rfl (by omega)⟩⟩
  · have a1 : mBl (mBin neA (mUn lenD (mVar 2)) (mC (.int 3))) [.v t, .v A, .v W, .un, .un] = some false := rfl
    have a2 : mBl (mBin neA (mBin ixD (mVar 2) (mC (.int 0))) (mC (.str [100, 101, 102]))) [.v t, .v A, .v W, .un, .un] = some false := bl_of (bin_of (ix 0 _ _ _ rfl) con_of rfl)
    have a3 : mCall 1 F_is_name (mCons (mBin ixD (mVar 2) (mC (.int 1))) mNil) [.v t, .v A, .v W, .un, .un] = some (.bl true) := call_of (p := .v (.bl true)) (cons_of (ix 1 _ _ _ rfl) nil_of) rfl (name_yes h.nm)
    have a4 : mNotT (mTru (mCall 1 F_is_name (mCons (mBin ixD (mVar 2) (mC (.int 1))) mNil))) [.v t, .v A, .v W, .un, .un] = some false := by unfold mNotT mTru; rw [a3]; rfl
    unfold mOrT
    rw [a1, Option.bind_some, if_neg (by simp), a2, Option.bind_some, if_neg (by simp), a4]
  · obtain ⟨F, ap, lF, ep⟩ := places_eq (t := f) (by omega)
    have e : mCallF 1 F_places (mCons (mVar 4) mNil) R = some F := by
      show (F_places [.v f.ds]).bind _ = _
      rw [ep]; rfl
    have e2 : mUn lenD (mOfF (mCallF 1 F_places (mCons (mVar 4) mNil))) R = some (.int (F.length : Int)) := by
      unfold mUn mOfF; rw [e]; rfl
    rw [gt_of e2 con_of, decide_eq_false (by omega)]
  · rw [bl_of (bin_of (x := .str nm) (y := A) rfl rfl in_no), decide_eq_false h.new]
theorem no_y {n : Nat} {r : En} {c : MB} {g : MS} {x : MX} (h : c r = some false) : yWhile (n + 1) c g x r = none := by
  unfold yWhile
  rw [h]; rfl
noncomputable abbrev NoN : Str := "NoName"
theorem refuse_none {t : Tm} {k : Ws} (h3 : t.lv ≤ 40) (hs : t.kn k = true) (hk : k.length ≤ 100) (hp : t.pc ≤ 2000) : M_refuse_open_names_NoName [.v t.ds, .v (.lst (k.map D.str))] = none := by
  let N : D := .lst (k.map D.str)
  obtain ⟨x', fx, w⟩ := prc_ok goes_y 40 t k h3 hs (by omega) t.ds N [] .un trivial (by simp)
  have hp' : t.pc < WF := by unfold WF; omega
  have w1 := w (WF - t.pc - 1 + 1)
  dsimp only at w1
  have z : ∀ n, yWhile (n + 1) (mTruB (mOwn 2)) bodyR xR [.v t.ds, .v N, .o [], x'] = none := fun n => no_y (own_false (i := 2) (by rfl))
  rw [WF_c hp', List.nil_append, z] at w1
  unfold bodyR xR at w1
  unfold M_refuse_open_names_NoName mkY x_refuse_open_names_NoName
  show xThen _ _ [.v t.ds, .v N, .un, .un] = _
  exact xthen (r' := [.v t.ds, .v N, .o [sit (t, k)], .un]) rfl w1
theorem def_ok {q : Df} {ab : Ws} (h : Fine q ab) (ha : ab.length ≤ 50) (hk : q.2.kn (ab ++ [q.1]) = true) : ∃ as, F_read_def [.v (.str (lin q)), .v (.lst (ab.map D.str))] = some (.v (pd q), as) := by
  obtain ⟨W, s⟩ := def_st h ha
  have hp := h.pc
  have hlv := h.lv
  let R : En := [.v (.str (lin q)), .v (.lst (ab.map D.str)), .v W, .v (.str q.1), .v q.2.ds]
  refine mk_rt (r' := R) ?_
  show g_read_def [.v (.str (lin q)), .v (.lst (ab.map D.str)), .un, .un, .un] = _
  unfold g_read_def
  have c4 : mCall 2 F_refuse_open_names (mCons (mVar 4) (mCons (mBin addD (mVar 1) (mOfF (mLstF (mCons (mVar 3) mNil)))) mNil)) R = some .non := call_of (p := .v .non) (cons_of rfl (cons_of s.k nil_of)) rfl (refuse_ok (by omega) hk (by rw [List.length_append]; simp only [List.length_cons, List.length_nil]; omega) (by omega))
  refine (seq_of s.a).trans ((seq_of s.b).trans ((seq_of s.c).trans ((seq_of s.d).trans ((seq_of s.e).trans (seq_ff s.f ?_)))))
  refine (seq_of (r' := R) (by unfold sExpr; rw [c4]; rfl)).trans ?_
  exact ret_of (tup_of (cons_of rfl (cons_of rfl nil_of)) (by show 2 ≤ 100; decide))
theorem def_x {q : Df} {ab : Ws} (h : Fine q ab) (ha : ab.length ≤ 50) : M_read_def_NoName [.v (.str (lin q)), .v (.lst (ab.map D.str))] = if q.2.kn (ab ++ [q.1]) = true then none else some NoN := by
  obtain ⟨W, s⟩ := def_st h ha
  have hp := h.pc
  have hlv := h.lv
  have hl : (ab ++ [q.1]).length ≤ 100 := by rw [List.length_append]; simp only [List.length_cons, List.length_nil]; omega
  let R : En := [.v (.str (lin q)), .v (.lst (ab.map D.str)), .v W, .v (.str q.1), .v q.2.ds]
  have m : M_refuse_open_names_NoName [.v q.2.ds, .v (.lst ((ab ++ [q.1]).map D.str))] = if q.2.kn (ab ++ [q.1]) = true then none else some NoN := by
    by_cases hk : q.2.kn (ab ++ [q.1]) = true
    · rw [if_pos hk]; exact refuse_none (by omega) hk hl (by omega)
    · rw [if_neg hk]; exact refuse_no (by omega) h.ok (by simpa using hk) hl (by omega)
  unfold M_read_def_NoName mkY x_read_def_NoName
  show xThen _ _ [.v (.str (lin q)), .v (.lst (ab.map D.str)), .un, .un, .un] = _
  refine xthen s.a (xthen s.b (xthen s.c (xthen s.d (xthen s.e ?_))))
  refine (xor_r (xif_f s.f)).trans (xthen (r' := R) ((sIf_f s.f).trans rfl) ?_)
  exact ycall_of (r := R) (cons_of rfl (cons_of s.k nil_of)) rfl m
noncomputable def callQ : ME := (mCall 2 F_read_def (mCons (mVar 3) (mCons (mOfF (mComp [] 1 (mZs 2) (setV 0) (mBin ixD (mVar 0) (mC (.int 0))))) mNil)))
noncomputable def bodyQ : MS := (sX (mAppZ 2 callQ))
noncomputable def xQ : MX := (yOwnZ 2 (yCall 2 M_read_def_NoName (mCons (mVar 3) (mCons (mOfF (mComp [] 1 (mZs 2) (setV 0) (mBin ixD (mVar 0) (mC (.int 0))))) mNil))))
theorem comp_nm : ∀ (l : List Df) (y : Sl), fre y → compL (setV 0) mTrue (mBin ixD (mVar 0) (mC (.int 0))) (l.map pd) [y] = some ((l.map Prod.fst).map D.str)
  | [], y, _ => rfl
  | q :: l, y, hy => by
    have ih := comp_nm l (.v (pd q)) trivial
    have e1 : setV 0 (pd q) [y] = some [.v (pd q)] := setV_fre (r := [y]) rfl hy
    have e3 : mTrue [.v (pd q)] = some true := rfl
    have e2 : mBin ixD (mVar 0) (mC (.int 0)) [.v (pd q)] = some (.str q.1) := bin_of (x := pd q) rfl con_of (at_zero _ _)
    rw [List.map_cons]; unfold compL
    rw [e1, Option.bind_some, e3, Option.bind_some, if_pos rfl, e2, Option.bind_some, ih]; rfl
theorem args_q {t L : D} {A : List Df} {q : Df} (hA : A.length ≤ 12) : mCons (mVar 3) (mCons (mOfF (mComp [] 1 (mZs 2) (setV 0) (mBin ixD (mVar 0) (mC (.int 0))))) mNil) [.v t, .v L, .z (A.map pd), .v (.str (lin q))] = some [.str (lin q), .lst ((A.map Prod.fst).map D.str)] := by
  have cm : mComp [] 1 (mZs 2) (setV 0) (mBin ixD (mVar 0) (mC (.int 0))) [.v t, .v L, .z (A.map pd), .v (.str (lin q))] = some ((A.map Prod.fst).map D.str) := by
    show (if (A.map pd).length < sizeLine then compL _ _ _ (A.map pd) [.un] else none) = _
    rw [if_pos (by rw [List.length_map]; exact Nat.lt_of_le_of_lt hA (by decide)), comp_nm _ .un trivial]
  exact cons_of rfl (cons_of (by unfold mOfF; rw [cm]; rfl) nil_of)
theorem body_q {t L : D} {A : List Df} {q : Df} (hA : A.length ≤ 12) (h : Fine q (A.map Prod.fst)) (hk : q.2.kn (A.map Prod.fst ++ [q.1]) = true) : bodyQ [.v t, .v L, .o (A.map pd), .v (.str (lin q))] = some (.nx [.v t, .v L, .o ((A ++ [q]).map pd), .v (.str (lin q))]) := by
  have cl : callQ [.v t, .v L, .z (A.map pd), .v (.str (lin q))] = some (pd q) := call_of (p := .v (pd q)) (args_q hA) rfl (def_ok h (by rw [List.length_map]; omega) hk)
  refine sX_of (d := .non) ?_
  unfold mAppZ
  show (callQ [.v t, .v L, .z (A.map pd), .v (.str (lin q))]).bind _ = _
  rw [cl, Option.bind_some]
  show (if (A.map pd).length < sizeLine then _ else _) = _
  rw [if_pos (by rw [List.length_map]; exact Nat.lt_of_le_of_lt hA (by decide)), List.map_append]; rfl
theorem x_q {t L : D} {A : List Df} {q : Df} (hA : A.length ≤ 12) (h : Fine q (A.map Prod.fst)) : xQ [.v t, .v L, .o (A.map pd), .v (.str (lin q))] = if q.2.kn (A.map Prod.fst ++ [q.1]) = true then none else some NoN := by
  show yCall 2 M_read_def_NoName _ [.v t, .v L, .z (A.map pd), .v (.str (lin q))] = _
  exact ycall_of (args_q hA) rfl (def_x h (by rw [List.length_map]; omega))
noncomputable def goodL : List Df → List Df → Bool
  | _, [] => true
  | A, q :: B => q.2.kn (A.map Prod.fst ++ [q.1]) && goodL (A ++ [q]) B
noncomputable def FineL (A B : List Df) : Prop := ∀ (C : List Df) (q : Df) (E : List Df), B = C ++ q :: E → Fine q ((A ++ C).map Prod.fst)
theorem FineL.next {A B : List Df} {q : Df} (h : FineL A (q :: B)) : FineL (A ++ [q]) B := fun C r E e => by
  have := h (q :: C) r E (by rw [e]; rfl)
  simpa using this
theorem read_loop {t L : D} : ∀ (B A : List Df) (x : Sl), fre x → A.length + B.length ≤ 12 → FineL A B → goodL A B = true → ∃ x', forL (setV 3) bodyQ (B.map fun q => .str (lin q)) [.v t, .v L, .o (A.map pd), x] = some (.nx [.v t, .v L, .o ((A ++ B).map pd), x'])
  | [], A, x, hx, _, _, _ => ⟨x, by simp [forL]⟩
  | q :: B, A, x, hx, hl, h, hg => by
    rw [List.length_cons] at hl
    have hq : Fine q (A.map Prod.fst) := by have := h [] q B rfl; simpa using this
    have hg2 := (Bool.and_eq_true _ _).mp hg
    obtain ⟨x', ih⟩ := read_loop (t := t) (L := L) B (A ++ [q]) (.v (.str (lin q))) trivial (by rw [List.length_append]; simp only [List.length_cons, List.length_nil]; omega) h.next hg2.2
    refine ⟨x', ?_⟩
    rw [List.map_cons, for_go (setV_fre (x := x) rfl hx) (body_q (by omega) hq hg2.1), ih]
    simp
theorem read_x {t L : D} : ∀ (B A : List Df) (x : Sl), fre x → A.length + B.length ≤ 12 → FineL A B → yForL (setV 3) bodyQ xQ (B.map fun q => .str (lin q)) [.v t, .v L, .o (A.map pd), x] = if goodL A B = true then none else some NoN
  | [], A, x, hx, _, _ => rfl
  | q :: B, A, x, hx, hl, h => by
    rw [List.length_cons] at hl
    have hq : Fine q (A.map Prod.fst) := by have := h [] q B rfl; simpa using this
    have ih := read_x (t := t) (L := L) B (A ++ [q]) (.v (.str (lin q))) trivial (by rw [List.length_append]; simp only [List.length_cons, List.length_nil]; omega) h.next
    have e1 : setV 3 (.str (lin q)) [.v t, .v L, .o (A.map pd), x] = some [.v t, .v L, .o (A.map pd), .v (.str (lin q))] := setV_fre (x := x) rfl hx
    rw [List.map_cons]
    unfold yForL
    rw [e1, Option.bind_some, x_q (by omega) hq]
    by_cases hk : q.2.kn (A.map Prod.fst ++ [q.1]) = true
    · rw [if_pos hk, body_q (by omega) hq hk]
      show yForL (setV 3) bodyQ xQ (B.map fun q => .str (lin q)) [.v t, .v L, .o ((A ++ [q]).map pd), .v (.str (lin q))] = _
      rw [ih, show goodL A (q :: B) = goodL (A ++ [q]) B by
        show (q.2.kn (A.map Prod.fst ++ [q.1]) && goodL (A ++ [q]) B) = _
        rw [hk, Bool.true_and]]
    · have hg : goodL A (q :: B) = false := by show (q.2.kn (A.map Prod.fst ++ [q.1]) && goodL (A ++ [q]) B) = _; rw [Bool.eq_false_iff.mpr hk, Bool.false_and]
      rw [if_neg hk, hg]; rfl
theorem join_no {c : Nat} (hc : c ≠ 32) : ∀ l : Ws, (∀ x ∈ l, c ∉ x) → c ∉ joinC [32] l
  | [], _ => by simp [joinC]
  | [s], h => h s (by simp)
  | s :: t :: r, h => by
    have ih := join_no hc (t :: r) fun x hx => h x (by simp at hx ⊢; exact .inr hx)
    show c ∉ s ++ [32] ++ joinC [32] (t :: r)
    simp only [List.mem_append, not_or]
    exact ⟨⟨h s (by simp), by simpa using hc⟩, ih⟩
theorem lin_10 {q : Df} {ab : Ws} (h : Fine q ab) : 10 ∉ lin q := by
  refine join_no (by decide) _ fun x hx => ?_
  simp only [List.mem_cons] at hx
  rcases hx with rfl | rfl | hx
  · decide
  · exact h.nm.wd.no (by decide)
  · exact (q.2.ws_ok h.ok x hx).no (by decide)
structure Prog (Ds : List Df) : Prop where
  all : FineL [] Ds
  few : Ds.length ≤ 12
  last : ∃ A f, Ds = A ++ [(sMain, f)]
theorem Prog.mem {Ds : List Df} (h : Prog Ds) {q : Df} (hq : q ∈ Ds) : ∃ ab, Fine q ab := by
  obtain ⟨C, E, e⟩ := List.append_of_mem hq
  exact ⟨_, h.all C q E e⟩
noncomputable def txt (Ds : List Df) : List Nat := joinC [10] (Ds.map lin)
theorem sum_le {Ds : List Df} (h : ∀ q ∈ Ds, (lin q).length ≤ 5000) : ((Ds.map lin).map List.length).sum ≤ 5000 * Ds.length := by
  induction Ds with
  | nil => simp
  | cons q l ih =>
    have h1 := h q (by simp)
    have h2 := ih fun z hz => h z (by simp [hz])
    simp only [List.map_cons, List.sum_cons, List.length_cons]; omega
theorem txt_len {Ds : List Df} (h : Prog Ds) : (txt Ds).length ≤ 70000 := by
  have s := sum_le (Ds := Ds) fun q hq => (h.mem hq).elim fun ab f => lin_len f
  have j := joinC_len 10 (Ds.map lin)
  have f := h.few
  unfold txt
  rw [List.length_map] at j
  omega
structure RTxt (Ds : List Df) (t L : D) : Prop where
  a : sSet 1 (mOfF (mSplit (mVar 0) (mC (.str [10])))) [.v t, .un, .un, .un] = some (.nx [.v t, .v L, .un, .un])
  b : sIf (mBl (mBin gtD (mUn lenD (mVar 1)) (mC (.int 12)))) sNever sSkip [.v t, .v L, .un, .un] = some (.nx [.v t, .v L, .un, .un])
  c : sOwn 2 (mLstF mNil) [.v t, .v L, .un, .un] = some (.nx [.v t, .v L, .o [], .un])
  d : mIt (mVar 1) [.v t, .v L, .o [], .un] = some (Ds.map fun q => .str (lin q))
theorem txt_st {Ds : List Df} (h : Prog Ds) : RTxt Ds (.str (txt Ds)) (.lst (Ds.map fun q => .str (lin q))) := by
  obtain ⟨A, f, e⟩ := h.last
  have tl := txt_len h
  let t : D := .str (txt Ds)
  let L : D := .lst (Ds.map fun q => .str (lin q))
  have sp : mOfF (mSplit (mVar 0) (mC (.str [10]))) [.v t, .un, .un, .un] = some L := by
    have q : mSplit (mVar 0) (mC (.str [10])) [.v t, .un, .un, .un] = some ((Ds.map lin).map D.str) := by
      show (if ([10] : List Nat).length ≠ 0 ∧ (txt Ds).length < sizeLine then some ((splitS (txt Ds) [10]).map D.str) else none) = _
      rw [if_pos ⟨by decide, Nat.lt_of_le_of_lt tl (by decide)⟩]
      unfold txt
      rw [splitS_join (c := 10) (by rw [e]; simp) fun x hx => ?_]
      obtain ⟨q, hq, rfl⟩ := List.mem_map.mp hx
      exact (h.mem hq).elim fun ab fn => lin_10 fn
    unfold mOfF
    rw [q, List.map_map]; rfl
  have c1 : mBl (mBin gtD (mUn lenD (mVar 1)) (mC (.int 12))) [.v t, .v L, .un, .un] = some false := by
    have ln : mUn lenD (mVar 1) [.v t, .v L, .un, .un] = some (.int (Ds.length : Int)) := un_of (x := L) rfl (by show some (D.int ((Ds.map fun q => D.str (lin q)).length : Int)) = _; rw [List.length_map])
    have f := h.few
    rw [gt_of ln con_of, decide_eq_false (by omega)]
  exact ⟨sSet_of sp rfl, (sIf_f c1).trans rfl, rfl, rfl⟩
theorem main_ok {Ds : List Df} (h : Prog Ds) {t L : D} {x' : Sl} : mBl (mBin neA (mBin ixD (mIxB (mOwn 2) (mUn negD (mC (.int 1)))) (mC (.int 0))) (mC (.str [109, 97, 105, 110]))) [.v t, .v L, .o (Ds.map pd), x'] = some false := by
  obtain ⟨A, f, e⟩ := h.last
  have i1 : mIxB (mOwn 2) (mUn negD (mC (.int 1))) [.v t, .v L, .o (Ds.map pd), x'] = some (pd (sMain, f)) := by
    show atI (Ds.map pd) (-1) = _
    rw [e, List.map_append]
    exact atI_last _ _
  have i2 : mBin ixD (mIxB (mOwn 2) (mUn negD (mC (.int 1)))) (mC (.int 0)) [.v t, .v L, .o (Ds.map pd), x'] = some (.str sMain) := bin_of i1 con_of (at_zero _ _)
  exact bl_of (bin_of i2 con_of rfl)
theorem for_lines {Ds : List Df} (h : Prog Ds) (hg : goodL [] Ds = true) : ∃ x', sFor (setV 3) (mIt (mVar 1)) bodyQ [.v (.str (txt Ds)), .v (.lst (Ds.map fun q => .str (lin q))), .o [], .un] = some (.nx [.v (.str (txt Ds)), .v (.lst (Ds.map fun q => .str (lin q))), .o (Ds.map pd), x']) := by
  obtain ⟨x', lp⟩ := read_loop (t := .str (txt Ds)) (L := .lst (Ds.map fun q => .str (lin q))) Ds [] .un trivial (by simpa using h.few) h.all hg
  refine ⟨x', ?_⟩
  unfold sFor
  rw [(txt_st h).d]
  exact lp
theorem read_ok {Ds : List Df} (h : Prog Ds) (hg : goodL [] Ds = true) : ∃ as, F_read [.v (.str (txt Ds))] = some (.f (Ds.map pd), as) := by
  have s := txt_st h
  obtain ⟨x', fe⟩ := for_lines h hg
  unfold bodyQ callQ at fe
  unfold F_read mkF g_read
  show ∃ as, (sSeq _ _ [.v (.str (txt Ds)), .un, .un, .un]).bind _ = _
  rw [seq_of s.a, seq_of s.b, seq_of s.c, seq_of fe, seq_ff (main_ok h) (z := some (.rf (Ds.map pd) [.v (.str (txt Ds)), .v (.lst (Ds.map fun q => .str (lin q))), .o (Ds.map pd), x'])) rfl]
  exact ⟨_, rfl⟩
theorem read_xx {Ds : List Df} (h : Prog Ds) : M_read_NoName [.v (.str (txt Ds))] = if goodL [] Ds = true then none else some NoN := by
  have s := txt_st h
  have y : yFor (setV 3) (mIt (mVar 1)) bodyQ xQ [.v (.str (txt Ds)), .v (.lst (Ds.map fun q => .str (lin q))), .o [], .un] = if goodL [] Ds = true then none else some NoN := by
    unfold yFor
    rw [s.d]
    exact read_x (t := .str (txt Ds)) (L := .lst (Ds.map fun q => .str (lin q))) Ds [] .un trivial (by simpa using h.few) h.all
  unfold bodyQ callQ xQ at y
  unfold M_read_NoName mkY x_read_NoName
  show xThen _ _ [.v (.str (txt Ds)), .un, .un, .un] = _
  refine xthen s.a (xthen s.b (xthen s.c ?_))
  by_cases hg : goodL [] Ds = true
  · rw [if_pos hg] at y ⊢
    obtain ⟨x', fe⟩ := for_lines h hg
    unfold bodyQ callQ at fe
    refine (xor_r y).trans (xthen fe ((xif_f (main_ok h)).trans rfl))
  · rw [if_neg hg] at y ⊢
    exact xor_l y
noncomputable def sRead : List Nat := [114, 101, 97, 100]
noncomputable def sNoN : List Nat := [78, 111, 78, 97, 109, 101]
theorem ror_r {p q : MR} {r : En} (e : p r = none) : rOr p q r = q r := by unfold rOr; rw [e]
theorem ror_l {p q : MR} {r : En} {d : D} (e : p r = some d) : rOr p q r = some d := by unfold rOr; rw [e]
theorem told_eq {Ds : List Df} (h : Prog Ds) : ∃ as, F__law_told [.v (.str (txt Ds))] = some (.v (.str (if goodL [] Ds = true then sRead else sNoN)), as) := by
  let t : List Nat := txt Ds
  have s1 : sSet 1 (mC .non) [.v (.str t), .un, .un] = some (.nx [.v (.str t), .v .non, .un]) := rfl
  have fin : ∀ d : D, r__law_told [.v (.str t), .un, .un] = some d → ∃ as, F__law_told [.v (.str t)] = some (.v d, as) := fun d hd => by
    refine ⟨[.v (.str t)], ?_⟩
    show (if ([Sl.v (.str t)]).all isV = true then (r__law_told [.v (.str t), .un, .un]).map fun d => (Rs.v d, [Sl.v (.str t)]) else none) = _
    rw [if_pos (show ([Sl.v (.str t)]).all isV = true from rfl), hd]; rfl
  have tr : ∀ ρ : MR, mTry (mCons (mVar 0) mNil) 1 (fun ds => M_read_NoName (ds.map .v)) NoN ρ [.v (.str t), .v .non, .un] = if M_read_NoName [.v (.str t)] = some NoN then ρ [.v (.str t), .v .non, .un] else none := fun ρ => by
    unfold mTry
    rw [cons_of (x := .str t) (l := []) rfl nil_of, Option.bind_some]
    show (if ([D.str t]).length = 1 ∧ M_read_NoName [.v (.str t)] = some NoN then ρ [.v (.str t), .v .non, .un] else none) = _
    by_cases hz : M_read_NoName [.v (.str t)] = some NoN
    · rw [if_pos ⟨rfl, hz⟩, if_pos hz]
    · rw [if_neg (fun z => hz z.2), if_neg hz]
  refine fin _ ?_
  unfold r__law_told rThen
  rw [s1, Option.bind_some]
  by_cases he : goodL [] Ds = true
  · have q2 : M_read_NoName [.v (.str t)] = none := (read_xx h).trans (if_pos he)
    obtain ⟨as, q1⟩ := read_ok h he
    rw [if_pos he]
    refine (ror_r ((tr _).trans (by rw [q2]; exact if_neg (fun z => by cases z)))).trans ?_
    unfold mTryOk
    have c : mOfF (mCallF 1 F_read (mCons (mVar 0) mNil)) [.v (.str t), .v .non, .un] = some (.lst (Ds.map pd)) := by
      have e : mCallF 1 F_read (mCons (mVar 0) mNil) [.v (.str t), .v .non, .un] = some (Ds.map pd) := by
        show (F_read [.v (.str t)]).bind _ = _
        rw [q1]; rfl
      unfold mOfF
      rw [e]; rfl
    rw [c]; rfl
  · have q : M_read_NoName [.v (.str t)] = some NoN := (read_xx h).trans (if_neg he)
    rw [if_neg he]
    exact ror_l ((tr _).trans ((if_pos q).trans rfl))
noncomputable def WdOk (m : MF) (k : Nat) : Prop := ∀ t : Tm, t.lv ≤ k → t.pc ≤ 1000 → ∃ as, m [.v t.ds] = some (.f (t.ws.map D.str), as)
noncomputable def bodyW (m : MF) : MS := (sIf (mTru (mUn (instD "tuple") (mVar 2)))
 (sOwn 1 (mCat (mOwn 1) (mCallF 1 m (mCons (mVar 2) mNil))))
 (sX (mApp 1 (mVar 2))))
theorem callF_of {n : Nat} {m : MF} {fs : ML} {r : En} {l q : List D} (e : fs r = some l) (hl : l.length = n) (h : ∃ as, m (l.map .v) = some (.f q, as)) : mCallF n m fs r = some q := by
  obtain ⟨as, h⟩ := h
  unfold mCallF
  rw [e, Option.bind_some, if_pos hl, h]; rfl
theorem cat_of {f g : ML} {r : En} {l q : List D} (e1 : f r = some l) (e2 : g r = some q) (h : l.length + q.length ≤ 1000000) : mCat f g r = some (l ++ q) := by
  unfold mCat
  rw [e1, Option.bind_some, e2, Option.bind_some, if_pos (Nat.le_trans h (by decide))]
noncomputable def PaW (k : Nat) : Pa → Prop
  | .n _ => True
  | .e t => t.lv ≤ k ∧ t.pc ≤ 1000
theorem parts_w {t : Tm} {k : Nat} (hl : t.lv ≤ k + 1) (hp : t.pc ≤ 1000) : ∀ p ∈ t.parts, PaW k p := by
  cases t <;> simp only [Tm.parts, Tm.lv, Tm.pc, List.forall_mem_cons, List.not_mem_nil, false_imp_iff, implies_true, and_true, true_and, PaW] at hl hp ⊢ <;> omega
theorem paw_len {k : Nat} {p : Pa} (h : PaW k p) : p.w.length ≤ 4000 := by
  cases p with
  | n x => show 1 ≤ 4000; decide
  | e t => have := t.ws_pc; have := h.2; show t.ws.length ≤ 4000; omega
theorem w_loop {m : MF} {k : Nat} (hm : WdOk m k) {E : D} : ∀ (P : List Pa) (A : Ws) (x : Sl), (∀ p ∈ P, PaW k p) → fre x → A.length + 4000 * P.length ≤ 100000 → ∃ x', forL (setV 2) (bodyW m) (P.map Pa.d) [.v E, .o (A.map D.str), x] = some (.nx [.v E, .o ((A ++ (P.map Pa.w).flatten).map D.str), x'])
  | [], A, x, _, hx, _ => ⟨x, by simp [forL]⟩
  | p :: P, A, x, h, hx, hl => by
    rw [List.length_cons] at hl
    have hp := h p (by simp)
    have pl := paw_len hp
    obtain ⟨x', ih⟩ := w_loop hm (E := E) P (A ++ p.w) (.v p.d) (fun q hq => h q (by simp [hq])) trivial (by rw [List.length_append]; omega)
    refine ⟨x', ?_⟩
    have u : setV 2 p.d [.v E, .o (A.map D.str), x] = some [.v E, .o (A.map D.str), .v p.d] := setV_fre (x := x) rfl hx
    have c : mTru (mUn (instD "tuple") (mVar 2)) [.v E, .o (A.map D.str), .v p.d] = some (isT p.d) := by
      show ((some p.d).bind (instD "tuple")).bind truD = _
      rw [Option.bind_some, instT (plain_pa p)]; rfl
    have b : bodyW m [.v E, .o (A.map D.str), .v p.d] = some (.nx [.v E, .o ((A ++ p.w).map D.str), .v p.d]) := by
      unfold bodyW
      cases p with
      | n y =>
        refine (sIf_f c).trans (sX_of (d := .non) ?_)
        rw [List.map_append]
        exact app_of rfl rfl (by rw [List.length_map]; exact Nat.lt_of_le_of_lt (by omega : A.length ≤ 100000) (by decide))
      | e t =>
        refine (sIf_t (c.trans (by rw [show isT (Pa.e t).d = true from isT_ds t]))).trans ?_
        have cc : mCat (mOwn 1) (mCallF 1 m (mCons (mVar 2) mNil)) [.v E, .o (A.map D.str), .v t.ds] = some (A.map D.str ++ t.ws.map D.str) := cat_of rfl (callF_of (l := [t.ds]) (cons_of rfl nil_of) rfl (hm t hp.1 hp.2)) (by rw [List.length_map, List.length_map]; have : t.ws.length ≤ 4000 := pl; omega)
        unfold sOwn
        show (mCat (mOwn 1) (mCallF 1 m (mCons (mVar 2) mNil)) [.v E, .o (A.map D.str), .v t.ds]).bind _ = _
        rw [cc, List.map_append]; rfl
    rw [List.map_cons, for_go u b, ih, List.append_assoc]
    simp
theorem cut_from {α : Type} (s : List α) (k : Nat) : cutL s (some (k : Int)) none = s.drop k := by
  unfold cutL
  rw [HT.sIx_nat, HT.sIx_none, List.take_of_length_le (by rw [List.length_drop]; exact Nat.le_refl _)]
  by_cases h : k ≤ s.length
  · rw [Nat.min_eq_left h]
  · rw [Nat.min_eq_right (by omega), List.drop_length, List.drop_of_length_le (by omega)]
theorem ws_all (t : Tm) : t.ws = (if isNam t = true then [] else [t.hd]) ++ (t.parts.map Pa.w).flatten := by
  cases hn : isNam t with
  | true =>
    cases t with
    | nam x => rfl
    | _ => cases hn
  | false => rw [ws_eq hn]; rfl
theorem ix_hd {t : Tm} {r : En} (e : r[0]? = some (.v t.ds)) : mBin ixD (mVar 0) (mC (.int 0)) r = some (.str t.hd) := by
  obtain ⟨l, hl⟩ := hd_eq t
  exact bin_of (x := t.ds) (var_of e) con_of (by rw [hl]; exact at_zero _ _)
theorem words_ok : ∀ k, WdOk (F__law_words k) k
  | 0 => fun t h _ => by
    have := t.lv_pos
    omega
  | k + 1 => fun t h hp => by
    have ih := words_ok k
    have pl := parts_len t
    let R0 : En := [.v t.ds, .un, .un]
    let A0 : Ws := if isNam t = true then [] else [t.hd]
    have la : A0.length ≤ 1 := by show (if isNam t = true then [] else [t.hd]).length ≤ 1; split <;> simp
    obtain ⟨x', lp⟩ := w_loop ih (E := t.ds) t.parts A0 .un (parts_w h hp) trivial (by omega)
    have o1 : sOwn 1 (mSlB (mLstF (mCons (mBin ixD (mVar 0) (mC (.int 0))) mNil)) oNone (oSome (mUn intBD (mBin neA (mBin ixD (mVar 0) (mC (.int 0))) (mC (.str [110, 97, 109, 101])))))) R0 = some (.nx [.v t.ds, .o (A0.map D.str), .un]) := by
      have a : mLstF (mCons (mBin ixD (mVar 0) (mC (.int 0))) mNil) R0 = some [.str t.hd] := by
        unfold mLstF
        rw [cons_of (ix_hd (t := t) (r := R0) rfl) nil_of]; rfl
      have b : oSome (mUn intBD (mBin neA (mBin ixD (mVar 0) (mC (.int 0))) (mC (.str [110, 97, 109, 101])))) R0 = some (some (if isNam t = true then 0 else 1)) := by
        refine osome_of (un_of (x := .bl (!isNam t)) ?_ ?_)
        · refine bin_of (ix_hd (t := t) (r := R0) rfl) con_of ?_
          rw [← hd_nam]
          show some (D.bl (!decide (t.hd = [110, 97, 109, 101]))) = _
          rfl
        · cases isNam t <;> rfl
      unfold sOwn mSlB
      rw [a, Option.bind_some]
      show (((some none : Option (Option Int)).bind fun i => (oSome (mUn intBD (mBin neA (mBin ixD (mVar 0) (mC (.int 0))) (mC (.str [110, 97, 109, 101])))) R0).map fun j => cutL [D.str t.hd] i j)).bind _ = _
      rw [b]
      show some (Fl.nx [.v t.ds, .o (cutL [D.str t.hd] none (some (if isNam t = true then 0 else 1))), .un]) = some (Fl.nx [.v t.ds, .o ((if isNam t = true then [] else [t.hd]).map D.str), .un])
      cases isNam t <;> rfl
    have it : mIt (mSl (mVar 0) (oSome (mC (.int 1))) oNone) [.v t.ds, .o (A0.map D.str), .un] = some (t.parts.map Pa.d) := by
      have s : mSl (mVar 0) (oSome (mC (.int 1))) oNone [.v t.ds, .o (A0.map D.str), .un] = some (.tup (t.parts.map Pa.d)) := by
        refine sl_of (x := .tup (.str t.hd :: t.parts.map Pa.d)) (a := some 1) (b := none) (by rw [← ds_eq]; rfl) rfl rfl ?_
        show some (D.tup (cutL (D.str t.hd :: t.parts.map Pa.d) (some ((1 : Nat) : Int)) none)) = _
        rw [cut_from]; rfl
      unfold mIt
      rw [s]; rfl
    have fe : sFor (setV 2) (mIt (mSl (mVar 0) (oSome (mC (.int 1))) oNone)) (bodyW (F__law_words k)) [.v t.ds, .o (A0.map D.str), .un] = some (.nx [.v t.ds, .o (t.ws.map D.str), x']) := by
      unfold sFor
      rw [it, ws_all t]
      exact lp
    unfold bodyW at fe
    show ∃ as, mkF 1 3 (g__law_words (F__law_words k)) [.v t.ds] = _
    unfold mkF g__law_words
    show ∃ as, (sSeq _ _ R0).bind _ = _
    rw [seq_of o1, seq_of fe]
    exact ⟨_, rfl⟩
theorem nott {f : ME} {r : En} {b : Bool} (e : f r = some (.bl b)) : mNotT (mTru f) r = some (!b) := by unfold mNotT mTru; rw [e]; rfl
noncomputable def AkOk (m : MF) (n : Nat) : Prop := ∀ t : Tm, t.lv ≤ n → ∀ k : Ws, k.length + t.lv ≤ 5000 → ∃ as, m [.v t.ds, .v (.lst (k.map D.str))] = some (.v (.bl (t.kn k)), as)
theorem ak_ok : ∀ n, AkOk (F__law_all_known n) n
  | 0 => fun t h => by
    have := t.lv_pos
    omega
  | n + 1 => fun t h k hk => by
    have ih := ak_ok n
    let R : En := [.v t.ds, .v (.lst (k.map D.str))]
    refine mk_rt (r' := R) ?_
    show g__law_all_known (F__law_all_known n) R = _
    unfold g__law_all_known
    have call : ∀ {e : Tm} {q : Ws} {f g : ME}, f R = some e.ds → g R = some (.lst (q.map D.str)) → e.lv ≤ n → q.length + e.lv ≤ 5000 → mCall 2 (F__law_all_known n) (mCons f (mCons g mNil)) R = some (.bl (e.kn q)) := fun h1 h2 h3 h4 => call_of (p := .v (.bl _)) (cons_of h1 (cons_of h2 nil_of)) rfl (ih _ h3 _ h4)
    cases t with
    | nam x => exact seq_tt (eq_hd (t := .nam x) (r := R) rfl) (ret_of (bin_of (ix_tup (j := 1) (r := R) rfl rfl) rfl in_no))
    | fn x e =>
      simp only [Tm.lv] at h hk
      refine seq_ff (eq_hd (t := .fn x e) (r := R) rfl) (seq_tt (eq_hd (t := .fn x e) (r := R) rfl) (ret_of ?_))
      exact call (q := k ++ [x]) (ix_tup (j := 2) (r := R) rfl rfl) (kn_add rfl (ix_tup (j := 1) (r := R) rfl rfl) (by omega)) (by omega) (by rw [List.length_append]; simp only [List.length_cons, List.length_nil]; omega)
    | two b a c =>
      simp only [Tm.lv] at h hk
      have e1 : ∀ v : List Nat, decide (sTwo b = v) = false → mBl (mBin eqA (mBin ixD (mVar 0) (mC (.int 0))) (mC (.str v))) R = some false := fun v hv => (eq_hd (t := .two b a c) (r := R) rfl).trans (by rw [← hv]; rfl)
      refine seq_ff (e1 _ (by cases b <;> rfl)) (seq_ff (e1 _ (by cases b <;> rfl)) (seq_ff (e1 _ (by cases b <;> rfl)) (ret_of ?_)))
      have c1 := call (e := a) (q := k) (g := mVar 1) (ix_tup (j := 1) (r := R) rfl rfl) rfl (by omega) (by omega)
      have c2 := call (e := c) (q := k) (g := mVar 1) (ix_tup (j := 2) (r := R) rfl rfl) rfl (by omega) (by omega)
      show _ = some (D.bl (a.kn k && c.kn k))
      cases ha : a.kn k with
      | true => rw [ha] at c1; exact and_t c1 (c2.trans (by rw [Bool.true_and]))
      | false => rw [ha] at c1; exact and_f c1
    | cas e l x a y c =>
      simp only [Tm.lv] at h hk
      refine seq_ff (eq_hd (t := .cas e l x a y c) (r := R) rfl) (seq_ff (eq_hd (t := .cas e l x a y c) (r := R) rfl) (seq_tt (eq_hd (t := .cas e l x a y c) (r := R) rfl) ?_))
      have c1 := call (e := e) (q := k) (g := mVar 1) (ix_tup (j := 1) (r := R) rfl rfl) rfl (by omega) (by omega)
      have c2 := call (e := a) (q := k ++ [x]) (ix_tup (j := 4) (r := R) rfl rfl) (kn_add rfl (ix_tup (j := 3) (r := R) rfl rfl) (by omega)) (by omega) (by rw [List.length_append]; simp only [List.length_cons, List.length_nil]; omega)
      have c3 := call (e := c) (q := k ++ [y]) (ix_tup (j := 6) (r := R) rfl rfl) (kn_add rfl (ix_tup (j := 5) (r := R) rfl rfl) (by omega)) (by omega) (by rw [List.length_append]; simp only [List.length_cons, List.length_nil]; omega)
      have n1 : mNotT (mTru (mCall 2 (F__law_all_known n) (mCons (mBin ixD (mVar 0) (mC (.int 1))) (mCons (mVar 1) mNil)))) R = some (!e.kn k) := nott c1
      have n2 : mNotT (mTru (mCall 2 (F__law_all_known n) (mCons (mBin ixD (mVar 0) (mC (.int 4))) (mCons (mBin addD (mVar 1) (mOfF (mLstF (mCons (mBin ixD (mVar 0) (mC (.int 3))) mNil)))) mNil)))) R = some (!a.kn (k ++ [x])) := nott c2
      show _ = some (Fl.rt (.bl (e.kn k && (a.kn (k ++ [x]) && c.kn (k ++ [y])))) R)
      have or : ∀ {f g : MB} {p q : Bool}, f R = some p → g R = some q → mOrT f g R = some (p || q) := fun {f g p q} h1 h2 => by
        unfold mOrT
        rw [h1, Option.bind_some, h2]
        cases p <;> rfl
      cases hz : (e.kn k && a.kn (k ++ [x])) with
      | true =>
        obtain ⟨z1, z2⟩ := (Bool.and_eq_true _ _).mp hz
        refine seq_ff ((or n1 n2).trans (by rw [z1, z2]; rfl)) (ret_of (c3.trans ?_))
        rw [z1, z2, Bool.true_and, Bool.true_and]
      | false =>
        refine seq_tt ((or n1 n2).trans ?_) (ret_of ?_)
        · rw [← Bool.not_and, hz]; rfl
        · rw [← Bool.and_assoc, hz, Bool.false_and]; rfl
theorem mixed_eq (c k : Int) : ∃ n : Int, 0 ≤ n ∧ ∃ as, F__law_mixed [.v (.int c), .v (.int k)] = some (.v (.int n), as) := by
  let n1 : Int := (c % 2147483647 + 16807 * k + 7) % 2147483629
  let n2 : Int := n1 * n1 % 2147483587
  have h1 : 0 ≤ n1 ∧ n1 < 2147483629 := ⟨Int.emod_nonneg _ (by decide), Int.emod_lt_of_pos _ (by decide)⟩
  have h2 : 0 ≤ n2 ∧ n2 < 2147483587 := ⟨Int.emod_nonneg _ (by decide), Int.emod_lt_of_pos _ (by decide)⟩
  refine ⟨n2 * (n2 + 48271) % 2147483579 / 5, ?_, ?_⟩
  · exact Int.ediv_nonneg (Int.emod_nonneg _ (by decide)) (by decide)
  · refine mk_rt (r' := [.v (.int c), .v (.int k), .v (.int n2)]) ?_
    show g__law_mixed [.v (.int c), .v (.int k), .un] = _
    unfold g__law_mixed
    rw [seq_of (sSet_of (d := .int n1) (r2 := [.v (.int c), .v (.int k), .v (.int n1)]) (mod_of (add_of (add_of (mod_of rfl con_of (by decide)) (mul_of con_of rfl (by decide))) con_of) con_of (by decide)) (by rfl))]
    rw [seq_of (sSet_of (d := .int n2) (r2 := [.v (.int c), .v (.int k), .v (.int n2)]) (mod_of (mul_of rfl rfl (by omega)) con_of (by decide)) (by rfl))]
    exact ret_of (fdiv_of (mod_of (mul_of rfl (add_of rfl con_of) (by omega)) con_of (by decide)) con_of (by decide))
noncomputable def abc : List Nat := [97, 98, 99, 100, 101, 102, 103, 104, 105, 106, 107, 108, 109, 110, 111, 112, 113, 114, 115, 116, 117, 118, 119, 120, 121, 122]
theorem abc_at {i : Int} (h0 : 0 ≤ i) (h : i < 26) : ∃ c, 97 ≤ c ∧ c ≤ 122 ∧ ixD (.str abc) (.int i) = some (.str [c]) := by
  obtain ⟨j, rfl⟩ := Int.eq_ofNat_of_zero_le h0; have hj : j < 26 := by omega
  have a : ∀ j : Nat, j < 26 → abc[j]? = some (97 + j) := by decide
  refine ⟨97 + j, by omega, by omega, ?_⟩
  show (if abc.length ≤ sizeLine then (atI abc (j : Int)).map fun c => D.str [c] else none) = _
  rw [if_pos (by decide), atI_nat (a j hj)]; rfl
theorem cut_back {α : Type} (a b : List α) {k : Int} (hk : k = -(b.length : Int)) (h0 : 0 < b.length) : cutL (a ++ b) (some k) none = b ∧ cutL (a ++ b) none (some k) = a := by
  subst hk
  have e : ∀ d, HT.sIx (a ++ b).length d (some (-(b.length : Int))) = a.length := fun d => by
    show (if -(b.length : Int) < 0 then (-(b.length : Int) + ((a ++ b).length : Int)).toNat else _) = _
    rw [if_pos (by omega), List.length_append]
    omega
  constructor
  · unfold cutL
    rw [e, HT.sIx_none, List.drop_left, List.length_append, Nat.add_sub_cancel_left, List.take_length]
  · unfold cutL
    rw [e, HT.sIx_none, List.drop_zero, Nat.sub_zero, List.take_left]
theorem at_back {α : Type} (a b : List α) (x : α) {k : Int} (hk : k = -((b.length : Int) + 1)) : atI (a ++ x :: b) k = some x := by
  have e : ixN (a ++ x :: b).length k = some a.length := by
    unfold ixN
    rw [if_neg (by omega), if_pos (by simp; omega)]
    congr 1
    simp
    omega
  unfold atI
  rw [e]
  simp
theorem back_k {α : Type} (l : List α) (k : Nat) (h : k ≤ l.length) : ∃ a b, l = a ++ b ∧ b.length = k := ⟨l.take (l.length - k), l.drop (l.length - k), (List.take_append_drop _ _).symm, by rw [List.length_drop]; omega⟩
theorem nat_mod (i : Int) (k : Nat) (hk : 0 < k) : ∃ n : Nat, n < k ∧ i % (k : Int) = (n : Int) := by
  obtain ⟨j, hj⟩ := Int.eq_ofNat_of_zero_le (Int.emod_nonneg i (b := (k : Int)) (by omega))
  have := Int.emod_lt_of_pos i (b := (k : Int)) (by omega)
  exact ⟨j, by omega, hj⟩
theorem comp_abc (c : Int) : ∀ (L : List Int) (x : Sl), fre x → ∃ bs : List Nat, bs.length = L.length ∧ (∀ b ∈ bs, 97 ≤ b ∧ b ≤ 122) ∧ compL (setV 1) mTrue (mBin ixD (mC (.str abc)) (mBin modD (mCall 2 F__law_mixed (mCons (mVar 0) (mCons (mBin addD (mC (.int 30)) (mVar 1)) mNil))) (mC (.int 26)))) (L.map D.int) [.v (.int c), x] = some ((bs.map fun b => [b]).map D.str)
  | [], x, _ => ⟨[], rfl, by simp, rfl⟩
  | k :: L, x, hx => by
    obtain ⟨n, n0, en⟩ := mixed_eq c (30 + k)
    obtain ⟨b, b0, b1, eb⟩ := abc_at (i := n % 26) (Int.emod_nonneg _ (by decide)) (Int.emod_lt_of_pos _ (by decide))
    obtain ⟨bs, l1, h1, e1⟩ := comp_abc c L (.v (.int k)) trivial
    refine ⟨b :: bs, by rw [List.length_cons, List.length_cons, l1], fun q hq => ?_, ?_⟩
    · rcases List.mem_cons.mp hq with (rfl | hq)
      · exact ⟨b0, b1⟩
      · exact h1 q hq
    · have u : setV 1 (.int k) [.v (.int c), x] = some [.v (.int c), .v (.int k)] := setV_fre (x := x) rfl hx
      have e3 : mTrue [.v (.int c), .v (.int k)] = some true := rfl
      have e2 : mBin ixD (mC (.str abc)) (mBin modD (mCall 2 F__law_mixed (mCons (mVar 0) (mCons (mBin addD (mC (.int 30)) (mVar 1)) mNil))) (mC (.int 26))) [.v (.int c), .v (.int k)] = some (.str [b]) := bin_of con_of (mod_of (call_of (p := .v (.int n)) (cons_of rfl (cons_of (add_of con_of rfl) nil_of)) rfl en) con_of (by decide)) eb
      rw [List.map_cons]; unfold compL
      rw [u, Option.bind_some, e3, Option.bind_some, if_pos rfl, e2, Option.bind_some, e1]; rfl
theorem join_one : ∀ bs : List Nat, joinC [] (bs.map fun b => [b]) = bs
  | [] => rfl
  | [b] => rfl
  | b :: c :: bs => by
    show [b] ++ [] ++ joinC [] ((c :: bs).map fun b => [b]) = _
    rw [join_one]; rfl
noncomputable def odd6 : List Nat := [113, 106, 120, 122, 107, 118]
noncomputable def nmk (b : List Nat) (t k : Nat) : List Nat := b.take t ++ [odd6.getD k 0] ++ b.drop t
theorem odd_at {k : Nat} (h : k < 6) : ixD (.str odd6) (.int ((0 : Int) + (k : Nat))) = some (.str [odd6.getD k 0]) := by
  rw [Int.zero_add]
  have a : ∀ j : Nat, j < 6 → odd6[j]? = some (odd6.getD j 0) := by decide
  show (if odd6.length ≤ sizeLine then (atI odd6 (k : Int)).map fun c => D.str [c] else none) = _
  rw [if_pos (by decide), atI_nat (a k h)]; rfl
theorem strs_of : ∀ l : Ws, strsD (l.map D.str) = some l
  | [] => rfl
  | s :: l => by simp [strsD, strs_of l]
theorem join_of {f : ME} {fl : ML} {r : En} {sep : List Nat} {l : Ws} (e1 : f r = some (.str sep)) (e2 : fl r = some (l.map D.str)) (h : (l.map List.length).sum + l.length * sep.length ≤ 16777216) : mJoin f fl r = some (.str (joinC sep l)) := by
  unfold mJoin; rw [e1, Option.bind_some]; show (fl r).bind _ = _; rw [e2, Option.bind_some, strs_of, Option.bind_some, if_pos h]
theorem sl_str {s : List Nat} {lo hi : Option Int} (h : s.length ≤ 100) : slD (.str s) lo hi = some (.str (cutL s lo hi)) := if_pos (Nat.le_trans h (by decide))
theorem comp_nmk {b : List Nat} {t : Nat} (hb : b.length ≤ 7) : ∀ (ks : List Nat) (x : Sl), (∀ k ∈ ks, k < 6) → fre x → compL (setV 2) mTrue (mBin addD (mBin addD (mSl (mVar 1) oNone (oSome (mVar 0))) (mBin ixD (mC (.str odd6)) (mVar 2))) (mSl (mVar 1) (oSome (mVar 0)) oNone)) (ks.map fun k => .int ((0 : Int) + (k : Nat))) [.v (.int (t : Int)), .v (.str b), x] = some ((ks.map (nmk b t)).map D.str)
  | [], x, _, _ => rfl
  | k :: ks, x, h, hx => by
    have ih := comp_nmk (t := t) hb ks (.v (.int ((0 : Int) + (k : Nat)))) (fun j hj => h j (by simp [hj])) trivial
    let R : En := [.v (.int (t : Int)), .v (.str b), .v (.int ((0 : Int) + (k : Nat)))]
    have u : setV 2 (.int ((0 : Int) + (k : Nat))) [.v (.int (t : Int)), .v (.str b), x] = some R := setV_fre (x := x) rfl hx
    have e3 : mTrue R = some true := rfl
    have a0 : mSl (mVar 1) oNone (oSome (mVar 0)) R = some (.str (b.take t)) := sl_of (x := .str b) rfl rfl (osome_of (i := (t : Int)) rfl) ((sl_str (by omega)).trans (by rw [cut_to]))
    have a1 : mSl (mVar 1) (oSome (mVar 0)) oNone R = some (.str (b.drop t)) := sl_of (x := .str b) rfl (osome_of (i := (t : Int)) rfl) rfl ((sl_str (by omega)).trans (by rw [cut_from]))
    have e2 : mBin addD (mBin addD (mSl (mVar 1) oNone (oSome (mVar 0))) (mBin ixD (mC (.str odd6)) (mVar 2))) (mSl (mVar 1) (oSome (mVar 0)) oNone) R = some (.str (nmk b t k)) := by
      have l0 : (b.take t).length ≤ 7 := Nat.le_trans (List.length_take_le' ..) hb
      have l1 : (b.drop t).length ≤ 7 := by rw [List.length_drop]; omega
      exact bin_of (bin_of a0 (bin_of con_of rfl (odd_at (h k (by simp)))) (str_add (by show _ + 1 ≤ 100; omega))) a1 (str_add (by rw [List.length_append]; show _ + 1 + _ ≤ 100; omega))
    rw [List.map_cons]; unfold compL
    rw [u, Option.bind_some, e3, Option.bind_some, if_pos rfl, e2, Option.bind_some, ih]; rfl
theorem odd_ok : ∀ k, k < 5 → 97 ≤ odd6.getD k 0 ∧ odd6.getD k 0 ≤ 122 ∧ (∀ w ∈ C_KEPT_WORDS, odd6.getD k 0 ∉ w) ∧ odd6.getD k 0 ∉ sMain := by decide
theorem nmk_mem (b : List Nat) (t k : Nat) : odd6.getD k 0 ∈ nmk b t k := by simp [nmk]
theorem nmk_ok {b : List Nat} {t k : Nat} (hw : ∀ c ∈ b, 97 ≤ c ∧ c ≤ 122) (hl : b.length ≤ 7) (hk : k < 5) : nmok (nmk b t k) ∧ nmk b t k ≠ sMain := by
  obtain ⟨o1, o2, o3, o4⟩ := odd_ok k hk
  have m := nmk_mem b t k
  have le : (nmk b t k).length = b.length + 1 := by
    unfold nmk
    rw [List.length_append, List.length_append, List.length_take, List.length_drop]
    simp only [List.length_nil, List.length_cons]; omega
  refine ⟨⟨fun c hc => ?_, by omega, by omega, fun z => o3 _ z m⟩, fun z => o4 (z ▸ m)⟩
  unfold nmk at hc
  rw [List.mem_append, List.mem_append, List.mem_singleton] at hc
  rcases hc with (hc | rfl) | hc
  · exact hw c (List.mem_of_mem_take hc)
  · exact ⟨o1, o2⟩
  · exact hw c (List.mem_of_mem_drop hc)
theorem odd_inj : ∀ j, j < 5 → ∀ k, k < 5 → odd6.getD j 0 = odd6.getD k 0 → j = k := by decide
theorem nmk_inj {b : List Nat} {t j k : Nat} (hj : j < 5) (hk : k < 5) (h : nmk b t j = nmk b t k) : j = k := by
  unfold nmk at h
  rw [List.append_assoc, List.append_assoc] at h
  have := List.append_cancel_left h
  exact odd_inj j hj k hk (List.cons.inj this).1
structure Nms (ns : Ws) : Prop where
  len : ns.length = 5
  ok : ∀ x ∈ ns, nmok x ∧ x ≠ sMain
  nd : ns.Nodup
theorem nodup_on {α β : Type} {f : α → β} : ∀ {l : List α}, (∀ a ∈ l, ∀ b ∈ l, f a = f b → a = b) → l.Nodup → (l.map f).Nodup
  | [], _, _ => List.Pairwise.nil
  | a :: l, h, hn => by
    rw [List.map_cons (l := l), List.nodup_cons]
    obtain ⟨h1, h2⟩ := List.nodup_cons.mp hn
    refine ⟨fun z => ?_, nodup_on (fun x hx y hy => h x (by simp [hx]) y (by simp [hy])) h2⟩
    obtain ⟨b, hb, e⟩ := List.mem_map.mp z
    exact h1 (h b (by simp [hb]) a (by simp) e ▸ hb)
theorem names_eq (c : Int) (hc : 0 ≤ c) : ∃ ns : Ws, Nms ns ∧ ∃ as, F__law_names [.v (.int c), .v (.int 5)] = some (.v (.lst (ns.map D.str)), as) := by
  obtain ⟨m, hm, em⟩ := nat_mod c 7 (by decide)
  obtain ⟨t, ht, et⟩ := nat_mod (c / 7) (m + 1) (by omega)
  obtain ⟨bs, lb, hb, eb⟩ := comp_abc c ((List.range (m + 1)).map fun i => (0 : Int) + (i : Nat)) .un trivial
  rw [List.length_map, List.length_range] at lb
  let R0 : En := [.v (.int c), .v (.int 5), .un, .un, .un]
  let R2 : En := [.v (.int c), .v (.int 5), .v (.int ((m + 1 : Nat) : Int)), .un, .un]
  let R3 : En := [.v (.int c), .v (.int 5), .v (.int ((m + 1 : Nat) : Int)), .v (.int (t : Int)), .un]
  let R4 : En := [.v (.int c), .v (.int 5), .v (.int ((m + 1 : Nat) : Int)), .v (.int (t : Int)), .v (.str bs)]
  let ns : Ws := (List.range 5).map (nmk bs t)
  refine ⟨ns, ⟨by simp [ns], fun x hx => ?_, ?_⟩, mk_rt (r' := R4) ?_⟩
  · obtain ⟨k, hk, rfl⟩ := List.mem_map.mp hx
    exact nmk_ok hb (by omega) (List.mem_range.mp hk)
  · exact nodup_on (fun a ha b hb' => nmk_inj (List.mem_range.mp ha) (List.mem_range.mp hb')) List.nodup_range
  show g__law_names R0 = _
  unfold g__law_names
  have s2 : mBin addD (mC (.int 1)) (mBin modD (mVar 0) (mC (.int 7))) R0 = some (.int ((m + 1 : Nat) : Int)) := by
    rw [show ((m + 1 : Nat) : Int) = 1 + c % 7 by rw [show c % 7 = (m : Int) from em]; omega]
    exact add_of con_of (mod_of rfl con_of (by decide))
  have s3 : mBin modD (mBin fdivD (mVar 0) (mC (.int 7))) (mVar 2) R2 = some (.int (t : Int)) := by
    rw [← et]
    exact mod_of (fdiv_of rfl con_of (by decide)) rfl (by omega)
  have cp : mComp [0] 2 (mRng1 (mVar 2)) (setV 1) (mBin ixD (mC (.str abc)) (mBin modD (mCall 2 F__law_mixed (mCons (mVar 0) (mCons (mBin addD (mC (.int 30)) (mVar 1)) mNil))) (mC (.int 26)))) R3 = some ((bs.map fun b => [b]).map D.str) := by
    have rg : mRng1 (mVar 2) R3 = some (((List.range (m + 1)).map fun i => (0 : Int) + (i : Nat)).map D.int) := by
      rw [List.map_map]
      exact rng_of rfl (by omega)
    unfold mComp mCompIf
    rw [rg, Option.bind_some, if_pos (by rw [List.length_map, List.length_map, List.length_range]; exact Nat.lt_of_le_of_lt (by omega : m + 1 ≤ 7) (by decide))]
    exact eb
  have s4 : mJoin (mC (.str [])) (mComp [0] 2 (mRng1 (mVar 2)) (setV 1) (mBin ixD (mC (.str abc)) (mBin modD (mCall 2 F__law_mixed (mCons (mVar 0) (mCons (mBin addD (mC (.int 30)) (mVar 1)) mNil))) (mC (.int 26))))) R3 = some (.str bs) := by
    have := join_of (f := mC (.str [])) (r := R3) (l := bs.map fun b => [b]) con_of cp (by
      have : ∀ l : List Nat, ((l.map fun b => [b]).map List.length).sum = l.length := fun l => by
        induction l with
        | nil => rfl
        | cons a l ih => rw [List.map_cons, List.map_cons, List.sum_cons, ih, List.length_cons]; simp only [List.length_cons, List.length_nil]; omega
      rw [this, List.length_map]; simp only [List.length_nil]; omega)
    rw [join_one] at this
    exact this
  have s5 : mComp [3, 4] 3 (mRng1 (mVar 1)) (setV 2) (mBin addD (mBin addD (mSl (mVar 1) oNone (oSome (mVar 0))) (mBin ixD (mC (.str odd6)) (mVar 2))) (mSl (mVar 1) (oSome (mVar 0)) oNone)) R4 = some (ns.map D.str) := by
    have rg : mRng1 (mVar 1) R4 = some ((List.range 5).map fun k => .int ((0 : Int) + (k : Nat))) := rng_of (n := 5) rfl (by decide)
    unfold mComp mCompIf
    rw [rg, Option.bind_some, if_pos (by decide)]
    exact comp_nmk (by omega) _ .un (fun k hk => by have := List.mem_range.mp hk; omega) trivial
  refine seq_set (r2 := R2) (.int ((m + 1 : Nat) : Int)) s2 rfl (seq_set (r2 := R3) (.int (t : Int)) s3 rfl (seq_set (r2 := R4) (.str bs) s4 rfl (ret_of ?_)))
  show mOfF (mComp [3, 4] 3 (mRng1 (mVar 1)) (setV 2) (mBin addD (mBin addD (mSl (mVar 1) oNone (oSome (mVar 0))) (mBin ixD (mC (.str odd6)) (mVar 2))) (mSl (mVar 1) (oSome (mVar 0)) oNone))) R4 = _
  unfold mOfF
  rw [s5]; rfl
noncomputable def pcs (fs : List Tm) : Nat := (fs.map Tm.pc).sum
theorem pcs_app (a b : List Tm) : pcs (a ++ b) = pcs a + pcs b := by simp [pcs]
structure GOk (fs : List Tm) (n : Nat) : Prop where
  ok : ∀ f ∈ fs, f.ok
  lv : ∀ f ∈ fs, f.lv + fs.length ≤ n
  pc : pcs fs + fs.length ≤ 2 * n
structure Made (hs : List Tm) (q : Tm) : Prop where
  ok : q.ok
  lv : ∀ B, (∀ h ∈ hs, h.lv ≤ B) → q.lv ≤ B + 1
  pc : q.pc = pcs hs + 1
theorem GOk.put {gs hs : List Tm} {n : Nat} {q : Tm} (h : GOk (gs ++ hs) n) (h0 : 1 ≤ hs.length) (hq : Made hs q) : GOk (gs ++ [q]) (n + 1) ∧ (2 ≤ hs.length → GOk (gs ++ [q]) n) := by
  have hl : (gs ++ hs).length = gs.length + hs.length := List.length_append
  have hl' : (gs ++ [q]).length = gs.length + 1 := by rw [List.length_append]; rfl
  have ok : ∀ f ∈ gs ++ [q], f.ok := fun f hf => (List.mem_append.mp hf).elim (fun z => h.ok f (List.mem_append_left _ z)) fun z => by rw [List.mem_singleton.mp z]; exact hq.ok
  have ne : hs ≠ [] := fun z => by rw [z] at h0; exact absurd h0 (by decide)
  have lq : q.lv + gs.length + hs.length ≤ n + 1 := by
    obtain ⟨a, ha⟩ := List.exists_mem_of_ne_nil hs ne
    have la := h.lv a (List.mem_append_right _ ha)
    have := hq.lv (n - (gs.length + hs.length)) fun z hz => by have := h.lv z (List.mem_append_right _ hz); omega
    omega
  have lg : ∀ f ∈ gs, f.lv + gs.length + hs.length ≤ n := fun f hf => by have := h.lv f (List.mem_append_left _ hf); omega
  have p0 := h.pc
  rw [pcs_app] at p0
  have p1 : pcs (gs ++ [q]) = pcs gs + (pcs hs + 1) := by rw [pcs_app, ← hq.pc]; simp [pcs]
  refine ⟨⟨ok, fun f hf => ?_, by omega⟩, fun h2 => ⟨ok, fun f hf => ?_, by omega⟩⟩
  · rcases List.mem_append.mp hf with z | z
    · have := lg f z; omega
    · rw [List.mem_singleton.mp z]; omega
  · rcases List.mem_append.mp hf with z | z
    · have := lg f z; omega
    · rw [List.mem_singleton.mp z]; omega
theorem GOk.nam {fs : List Tm} {n : Nat} {x : List Nat} (h : GOk fs n) (h0 : fs ≠ []) (hx : nmok x) : GOk (fs ++ [.nam x]) (n + 1) := by
  obtain ⟨a, ha⟩ := List.exists_mem_of_ne_nil fs h0
  have la := h.lv a ha
  have l1 := a.lv_pos
  have hl' : (fs ++ [Tm.nam x]).length = fs.length + 1 := by rw [List.length_append]; rfl
  have p0 := h.pc
  have p1 : pcs (fs ++ [.nam x]) = pcs fs + 1 := by rw [pcs_app]; rfl
  refine ⟨fun f hf => (List.mem_append.mp hf).elim (h.ok f) fun z => by rw [List.mem_singleton.mp z]; exact hx, fun f hf => ?_, by omega⟩
  rcases List.mem_append.mp hf with z | z
  · have := h.lv f z; omega
  · rw [List.mem_singleton.mp z]; show 1 + _ ≤ _; omega
theorem made_fn {x : List Nat} {e : Tm} (hx : nmok x) (he : e.ok) : Made [e] (.fn x e) := ⟨⟨hx, he⟩, fun B h => by have := h e (by simp); show e.lv + 1 ≤ _; omega, by simp [pcs, Tm.pc]⟩
theorem made_two {b : Bool} {a c : Tm} (ha : a.ok) (hc : c.ok) : Made [a, c] (.two b a c) := ⟨⟨ha, hc⟩, fun B h => by have := h a (by simp); have := h c (by simp); show max a.lv c.lv + 1 ≤ _; omega, by simp only [pcs, Tm.pc, List.map_cons, List.map_nil, List.sum_cons, List.sum_nil]; omega⟩
theorem made_cas {e a c : Tm} {l x y : List Nat} (he : e.ok) (ha : a.ok) (hc : c.ok) (hl : nmok l) (hx : nmok x) (hy : nmok y) : Made [e, a, c] (.cas e l x a y c) := ⟨⟨he, hl, hx, ha, hy, hc⟩, fun B h => by have := h e (by simp); have := h a (by simp); have := h c (by simp); show max e.lv (max a.lv c.lv) + 1 ≤ _; omega, by simp only [pcs, Tm.pc, List.map_cons, List.map_nil, List.sum_cons, List.sum_nil]; omega⟩
theorem andT_of {f g : MB} {r : En} {a b : Bool} (e1 : f r = some a) (e2 : g r = some b) : mAndT f g r = some (a && b) := by
  unfold mAndT
  rw [e1, Option.bind_some, e2]
  cases a <;> rfl
theorem len_lst {f : ME} {r : En} {α : Type} {l : List α} {g : α → D} (e : f r = some (.lst (l.map g))) : mUn lenD f r = some (.int (l.length : Int)) := un_of e (by show some (D.int ((l.map g).length : Int)) = _; rw [List.length_map])
theorem ix_mod {ns : Ws} (h : ns ≠ []) (i : Int) : ∃ x ∈ ns, ixD (.lst (ns.map D.str)) (.int (i % (ns.length : Int))) = some (.str x) := by
  obtain ⟨j, hj, ej⟩ := nat_mod i ns.length (List.length_pos_iff.mpr h)
  refine ⟨ns[j], (List.getElem_mem hj), ?_⟩
  rw [ej]
  exact atI_nat (by simp [hj])
theorem grown_eq {fs : List Tm} {n : Nat} {ns : Ws} (c k : Int) (hf : GOk fs n) (h0 : fs ≠ []) (hn : ∀ x ∈ ns, nmok x) (n0 : ns ≠ []) (hb : fs.length ≤ 1000) : ∃ qs : List Tm, GOk qs (n + 1) ∧ qs ≠ [] ∧ qs.length ≤ fs.length + 1 ∧ ∃ as, F__law_grown [.v (.lst (fs.map Tm.ds)), .v (.int c), .v (.int k), .v (.lst (ns.map D.str))] = some (.v (.lst (qs.map Tm.ds)), as) := by
  obtain ⟨m1, m10, e1⟩ := mixed_eq c (50 + k)
  obtain ⟨m2, m20, e2⟩ := mixed_eq c (250 + k)
  obtain ⟨x, hx, ex⟩ := ix_mod n0 m1
  obtain ⟨y, hy, ey⟩ := ix_mod n0 (m1 / 8)
  obtain ⟨l, hl, el⟩ := ix_mod n0 (m1 / 64)
  let P : D := .lst (fs.map Tm.ds)
  let N : D := .lst (ns.map D.str)
  let R : En := [.v P, .v (.int c), .v (.int k), .v N, .v (.int m1), .v (.int (m2 % 8)), .v (.str x), .v (.str y), .v (.str l), .un]
  have start : ∀ {h : MS} {z}, h R = z → sSeq (sSet 4 (mCall 2 F__law_mixed (mCons (mVar 1) (mCons (mBin addD (mC (.int 50)) (mVar 2)) mNil)))) (sSeq (sSet 5 (mBin modD (mCall 2 F__law_mixed (mCons (mVar 1) (mCons (mBin addD (mC (.int 250)) (mVar 2)) mNil))) (mC (.int 8)))) (sSeq (sSet 6 (mBin ixD (mVar 3) (mBin modD (mVar 4) (mUn lenD (mVar 3))))) (sSeq (sSet 7 (mBin ixD (mVar 3) (mBin modD (mBin fdivD (mVar 4) (mC (.int 8))) (mUn lenD (mVar 3))))) (sSeq (sSet 8 (mBin ixD (mVar 3) (mBin modD (mBin fdivD (mVar 4) (mC (.int 64))) (mUn lenD (mVar 3))))) h)))) [.v P, .v (.int c), .v (.int k), .v N, .un, .un, .un, .un, .un, .un] = z := fun hz => by
    have ln : ∀ r : En, r[3]? = some (.v N) → mUn lenD (mVar 3) r = some (.int (ns.length : Int)) := fun r hr => len_lst (var_of hr)
    have pos : (0 : Int) < (ns.length : Int) := by have := List.length_pos_iff.mpr n0; omega
    refine seq_set (r2 := [.v P, .v (.int c), .v (.int k), .v N, .v (.int m1), .un, .un, .un, .un, .un]) (.int m1) (call_of (p := .v (.int m1)) (cons_of rfl (cons_of (add_of con_of rfl) nil_of)) rfl e1) rfl ?_
    refine seq_set (r2 := [.v P, .v (.int c), .v (.int k), .v N, .v (.int m1), .v (.int (m2 % 8)), .un, .un, .un, .un]) (.int (m2 % 8)) (mod_of (call_of (p := .v (.int m2)) (cons_of rfl (cons_of (add_of con_of rfl) nil_of)) rfl e2) con_of (by decide)) rfl ?_
    refine seq_set (r2 := [.v P, .v (.int c), .v (.int k), .v N, .v (.int m1), .v (.int (m2 % 8)), .v (.str x), .un, .un, .un]) (.str x) (bin_of rfl (mod_of rfl (ln _ rfl) pos) ex) rfl ?_
    refine seq_set (r2 := [.v P, .v (.int c), .v (.int k), .v N, .v (.int m1), .v (.int (m2 % 8)), .v (.str x), .v (.str y), .un, .un]) (.str y) (bin_of rfl (mod_of (fdiv_of rfl con_of (by decide)) (ln _ rfl) pos) ey) rfl ?_
    exact seq_set (r2 := R) (.str l) (bin_of rfl (mod_of (fdiv_of rfl con_of (by decide)) (ln _ rfl) pos) el) rfl hz
  have lp : mUn lenD (mVar 0) R = some (.int (fs.length : Int)) := len_lst (l := fs) (g := Tm.ds) rfl
  have gt : ∀ j : Int, mBl (mBin gtD (mUn lenD (mVar 0)) (mC (.int j))) R = some (decide (j < (fs.length : Int))) := fun j => gt_of lp con_of
  have kg : ∀ j : Int, mBl (mBin gtD (mVar 5) (mC (.int j))) R = some (decide (j < m2 % 8)) := fun j => gt_of rfl con_of
  have c7 : mBl (mBin eqA (mVar 5) (mC (.int 7))) R = some (decide (m2 % 8 = 7)) := bl_of (bin_of rfl con_of rfl)
  have fin : ∀ (gs hs : List Tm) (q : Tm) (kk : Int) (e : ME) (r : En), r[0]? = some (.v P) → fs = gs ++ hs → 0 < hs.length → kk = (hs.length : Int) → e r = some q.ds → mBin addD (mSl (mVar 0) oNone (oSome (mUn negD (mC (.int kk))))) (mOfF (mLstF (mCons e mNil))) r = some (.lst ((gs ++ [q]).map Tm.ds)) := fun gs hs q kk e r hr e1 e2 e3 e5 => by
    have sl : mSl (mVar 0) oNone (oSome (mUn negD (mC (.int kk)))) r = some (.lst (gs.map Tm.ds)) := by
      refine sl_of (x := P) (var_of hr) (by rfl) (osome_of (neg_of con_of)) ?_
      show some (D.lst (cutL (fs.map Tm.ds) none (some (-kk)))) = _
      rw [e1, List.map_append, (cut_back (gs.map Tm.ds) (hs.map Tm.ds) (k := -kk) (by rw [List.length_map, e3]) (by rw [List.length_map]; exact e2)).2]
    have hl' : fs.length = gs.length + hs.length := by rw [e1, List.length_append]
    rw [List.map_append]
    exact ladd sl (lstF_of (cons_of e5 nil_of) (by show 1 ≤ 100; decide)) (by rw [List.length_map]; show _ + 1 ≤ _; omega)
  have at' : ∀ (a : List Tm) (q : Tm) (b : List Tm) (kk : Int) (r : En), r[0]? = some (.v P) → fs = a ++ q :: b → kk = (b.length : Int) + 1 → mBin ixD (mVar 0) (mUn negD (mC (.int kk))) r = some q.ds := fun a q b kk r hr e1 e2 => by
    refine bin_of (x := P) (var_of hr) (neg_of con_of) ?_
    show atI (fs.map Tm.ds) (-kk) = _
    rw [e1, List.map_append, List.map_cons]
    exact at_back _ _ _ (by rw [List.length_map, e2])
  have done : ∀ (qs : List Tm) (r' : En), GOk qs (n + 1) → qs ≠ [] → qs.length ≤ fs.length + 1 → g__law_grown [.v P, .v (.int c), .v (.int k), .v N, .un, .un, .un, .un, .un, .un] = some (.rt (.lst (qs.map Tm.ds)) r') → ∃ qs : List Tm, GOk qs (n + 1) ∧ qs ≠ [] ∧ qs.length ≤ fs.length + 1 ∧ ∃ as, F__law_grown [.v P, .v (.int c), .v (.int k), .v N] = some (.v (.lst (qs.map Tm.ds)), as) := fun qs r' h1 h2 h3 h4 => ⟨qs, h1, h2, h3, mk_rt (r' := r') h4⟩
  have a1 := andT_of c7 (gt 2)
  have a2 := andT_of (kg 5) (gt 1)
  have a3 := andT_of (kg 2) (gt 0)
  cases q1 : (decide (m2 % 8 = 7) && decide (2 < (fs.length : Int))) with
  | true =>
    rw [q1] at a1
    have h2 : 2 < (fs.length : Int) := of_decide_eq_true ((Bool.and_eq_true _ _).mp q1).2
    obtain ⟨gs, hs, e, hh⟩ := back_k fs 3 (by omega)
    match hs, hh with
    | [p, q, w], _ =>
      let t : Tm := .cas p l x q y w
      let R9 : En := [.v P, .v (.int c), .v (.int k), .v N, .v (.int m1), .v (.int (m2 % 8)), .v (.str x), .v (.str y), .v (.str l), .v t.ds]
      have ok := hf.ok
      rw [e] at ok
      have md : Made [p, q, w] t := made_cas (ok p (by simp)) (ok q (by simp)) (ok w (by simp)) (hn l hl) (hn x hx) (hn y hy)
      have pk := ((e ▸ hf : GOk (gs ++ [p, q, w]) n).put (by simp) md).1
      refine done (gs ++ [t]) R9 pk (by simp) (by rw [e, List.length_append, List.length_append]; simp only [List.length_cons, List.length_nil]; omega) ?_
      unfold g__law_grown
      refine start (seq_tt a1 (seq_set (r2 := R9) t.ds ?_ rfl (ret_of (fin gs [p, q, w] t 3 (mVar 9) R9 rfl e (by simp) rfl rfl))))
      exact tup_of (cons_of con_of (cons_of (at' gs p [q, w] 3 R rfl e rfl) (cons_of rfl (cons_of rfl (cons_of (at' (gs ++ [p]) q [w] 2 R rfl (by rw [e]; simp) rfl) (cons_of rfl (cons_of (at' (gs ++ [p, q]) w [] 1 R rfl (by rw [e]; simp) rfl) nil_of))))))) (by show 7 ≤ 100; decide)
  | false =>
    rw [q1] at a1
    cases q2 : (decide (5 < m2 % 8) && decide (1 < (fs.length : Int))) with
    | true =>
      rw [q2] at a2
      have h2 : 1 < (fs.length : Int) := of_decide_eq_true ((Bool.and_eq_true _ _).mp q2).2
      obtain ⟨gs, hs, e, hh⟩ := back_k fs 2 (by omega)
      match hs, hh with
      | [p, q], _ =>
        obtain ⟨j, hj, ej⟩ := nat_mod (m1 / 512) 2 (by decide)
        let b : Bool := decide (j = 0)
        let t : Tm := .two b p q
        have ok := hf.ok
        rw [e] at ok
        have md : Made [p, q] t := made_two (ok p (by simp)) (ok q (by simp))
        have pk := ((e ▸ hf : GOk (gs ++ [p, q]) n).put (by simp) md).1
        refine done (gs ++ [t]) R pk (by simp) (by rw [e, List.length_append, List.length_append]; simp only [List.length_cons, List.length_nil]; omega) ?_
        unfold g__law_grown
        refine start (seq_ff a1 (seq_tt a2 (ret_of (fin gs [p, q] t 2 _ R rfl e (by simp) rfl ?_))))
        have hd : mBin ixD (mOfF (mLstF (mCons (mTup (mCons (mC (.str [100, 111])) mNil)) (mCons (mTup (mCons (mC (.str [43])) mNil)) mNil)))) (mBin modD (mBin fdivD (mVar 4) (mC (.int 512))) (mC (.int 2))) R = some (.tup [.str (sTwo b)]) := by
          refine bin_of (x := .lst [.tup [.str [100, 111]], .tup [.str [43]]]) (y := .int (j : Int)) rfl ?_ ?_
          · rw [← ej]
            exact mod_of (fdiv_of rfl con_of (by decide)) con_of (by decide)
          · show atI [D.tup [.str [100, 111]], .tup [.str [43]]] (j : Int) = some (D.tup [.str (sTwo (decide (j = 0)))])
            match j, hj with
            | 0, _ => rfl
            | 1, _ => rfl
        refine bin_of hd (tup_of (cons_of (at' gs p [q] 2 R rfl e rfl) (cons_of (at' (gs ++ [p]) q [] 1 R rfl (by rw [e]; simp) rfl) nil_of)) (by show 2 ≤ 100; decide)) ?_
        show (if [D.str (sTwo b)].length + [p.ds, q.ds].length ≤ sizeLine ∧ [D.str (sTwo b)].isEmpty = false ∧ [p.ds, q.ds].isEmpty = false then some (D.tup ([.str (sTwo b)] ++ [p.ds, q.ds])) else none) = _
        rw [if_pos ⟨by show 3 ≤ sizeLine; decide, rfl, rfl⟩]; rfl
    | false =>
      rw [q2] at a2
      cases q3 : (decide (2 < m2 % 8) && decide (0 < (fs.length : Int))) with
      | true =>
        rw [q3] at a3
        have h2 : 0 < (fs.length : Int) := of_decide_eq_true ((Bool.and_eq_true _ _).mp q3).2
        obtain ⟨gs, hs, e, hh⟩ := back_k fs 1 (by omega)
        match hs, hh with
        | [p], _ =>
          let t : Tm := .fn x p
          have ok := hf.ok
          rw [e] at ok
          have md : Made [p] t := made_fn (hn x hx) (ok p (by simp))
          have pk := ((e ▸ hf : GOk (gs ++ [p]) n).put (by simp) md).1
          refine done (gs ++ [t]) R pk (by simp) (by rw [e, List.length_append, List.length_append]; simp only [List.length_cons, List.length_nil]; omega) ?_
          unfold g__law_grown
          refine start (seq_ff a1 (seq_ff a2 (seq_tt a3 (ret_of (fin gs [p] t 1 _ R rfl e (by simp) rfl ?_)))))
          exact tup_of (cons_of con_of (cons_of rfl (cons_of (at' gs p [] 1 R rfl e rfl) nil_of))) (by show 3 ≤ 100; decide)
      | false =>
        rw [q3] at a3
        refine done (fs ++ [.nam x]) R (hf.nam h0 (hn x hx)) (by simp) (by rw [List.length_append]; simp only [List.length_cons, List.length_nil]; omega) ?_
        unfold g__law_grown
        refine start (seq_ff a1 (seq_ff a2 (seq_ff a3 (ret_of ?_))))
        rw [List.map_append]
        exact ladd (l := fs.map Tm.ds) rfl (lstF_of (cons_of (tup_of (cons_of con_of (cons_of rfl nil_of)) (by show 2 ≤ 100; decide)) nil_of) (by show 1 ≤ 100; decide)) (by rw [List.length_map]; show _ + 1 ≤ _; omega)
theorem GOk.rot {gs hs : List Tm} {n : Nat} (h : GOk (hs ++ gs) n) : GOk (gs ++ hs) n :=
  ⟨fun f hf => h.ok f (by rw [List.mem_append] at hf ⊢; exact hf.symm), fun f hf => by
    have := h.lv f (by rw [List.mem_append] at hf ⊢; exact hf.symm)
    rw [List.length_append] at this ⊢; omega, by
    have := h.pc
    rw [pcs_app, List.length_append] at this ⊢; omega⟩
noncomputable def bodyF : MS := (sSet 9 (mBin addD (mSl (mVar 9) (oSome (mC (.int 2))) oNone) (mOfF (mLstF (mCons (mTup (mCons (mC (.str [100, 111])) (mCons (mBin ixD (mVar 9) (mC (.int 0))) (mCons (mBin ixD (mVar 9) (mC (.int 1))) mNil)))) mNil)))))
noncomputable def cndF : MB := (mBl (mBin gtD (mUn lenD (mVar 9)) (mC (.int 1))))
section
variable {S N C Cs : D} {F M : Int} {ln : List D} {g k : D} {x11 : Sl}
noncomputable abbrev Ev (S : D) (F M : Int) (N C Cs : D) (ln : List D) (g k pile : D) (x10 x11 : Sl) : En := [.v S, .v (.int F), .v (.int M), .v N, .v C, .v Cs, .o ln, .v g, .v k, .v pile, x10, x11]
theorem fold_loop {n : Nat} {x10 : Sl} : ∀ (l : Nat) (fs : List Tm), GOk fs n → fs.length = l + 1 → l ≤ 1000 → ∃ t : Tm, GOk [t] n ∧ ∀ m, sWhile (l + 1 + m) cndF bodyF (Ev S F M N C Cs ln g k (.lst (fs.map Tm.ds)) x10 x11) = some (.nx (Ev S F M N C Cs ln g k (.lst [t.ds]) x10 x11))
  | 0, fs, hf, hl, _ => by
    obtain ⟨t, rfl⟩ := List.length_eq_one_iff.mp hl
    refine ⟨t, hf, fun m => ?_⟩
    rw [show 0 + 1 + m = m + 1 by omega]
    refine while_end ?_
    exact gt_of (i := 1) (len_lst (l := [t]) (g := Tm.ds) rfl) con_of
  | l + 1, fs, hf, hl, hb => by
    match fs, hl with
    | a :: b :: r, hl =>
      have lr : r.length = l := by simp only [List.length_cons] at hl; omega
      have h1 : GOk (r ++ [a, b]) n := GOk.rot (hs := [a, b]) hf
      have ok := hf.ok
      have h2 : GOk (r ++ [.two true a b]) n := (h1.put (by simp) (made_two (ok a (by simp)) (ok b (by simp)))).2 (by simp)
      obtain ⟨t, ht, lp⟩ := fold_loop (x10 := x10) l (r ++ [.two true a b]) h2 (by rw [List.length_append, lr]; rfl) (by omega)
      refine ⟨t, ht, fun m => ?_⟩
      rw [show l + 1 + 1 + m = l + 1 + m + 1 by omega]
      have c : cndF (Ev S F M N C Cs ln g k (.lst ((a :: b :: r).map Tm.ds)) x10 x11) = some true := by
        refine (gt_of (len_lst (l := a :: b :: r) (g := Tm.ds) rfl) con_of).trans ?_
        rw [decide_eq_true (by simp only [List.length_cons]; omega)]
      refine (while_go c ?_).trans (lp m)
      refine sSet_of (d := .lst ((r ++ [Tm.two true a b]).map Tm.ds)) ?_ rfl
      have sl : mSl (mVar 9) (oSome (mC (.int 2))) oNone (Ev S F M N C Cs ln g k (.lst ((a :: b :: r).map Tm.ds)) x10 x11) = some (.lst (r.map Tm.ds)) := by
        refine sl_of (x := .lst ((a :: b :: r).map Tm.ds)) (a := some 2) (b := none) rfl rfl rfl ?_
        show some (D.lst (cutL ((a :: b :: r).map Tm.ds) (some ((2 : Nat) : Int)) none)) = _
        rw [cut_from]; rfl
      rw [List.map_append]
      refine ladd sl (lstF_of (cons_of (tup_of (cons_of con_of (cons_of (bin_of (x := .lst ((a :: b :: r).map Tm.ds)) rfl con_of (at_zero _ _)) (cons_of (bin_of (x := .lst ((a :: b :: r).map Tm.ds)) rfl con_of (atI_nat (j := 1) rfl)) nil_of))) (by show 3 ≤ 100; decide)) nil_of) (by show 1 ≤ 100; decide)) (by rw [List.length_map, lr]; show _ + 1 ≤ _; omega)
noncomputable def bodyG : MS := (sSet 9 (mCall 4 F__law_grown (mCons (mVar 9) (mCons (mBin ixD (mVar 5) (mVar 10)) (mCons (mVar 10) (mCons (mBin addD (mVar 3) (mOfF (mLstF (mCons (mC (.str [109, 97, 105, 110])) mNil)))) mNil))))))
theorem main_nm : nmok sMain := ⟨by decide, by decide, by decide, by decide⟩
theorem grow_loop {ns : Ws} (hn : Nms ns) {cs : List Int} : ∀ (L : List Nat) (fs : List Tm) (n : Nat) (x10 : Sl), GOk fs n → fs ≠ [] → n + L.length ≤ 500 → (∀ j ∈ L, j < cs.length) → fre x10 → ∃ qs x', GOk qs (n + L.length) ∧ qs ≠ [] ∧ fre x' ∧ forL (setV 10) bodyG (L.map fun (j : Nat) => D.int (j : Int)) (Ev S F M (.lst (ns.map D.str)) C (.lst (cs.map D.int)) ln g k (.lst (fs.map Tm.ds)) x10 x11) = some (.nx (Ev S F M (.lst (ns.map D.str)) C (.lst (cs.map D.int)) ln g k (.lst (qs.map Tm.ds)) x' x11))
  | [], fs, n, x10, hf, h0, _, _, hx => ⟨fs, x10, hf, h0, hx, rfl⟩
  | j :: L, fs, n, x10, hf, h0, hl, hj, hx => by
    rw [List.length_cons] at hl
    have jl := hj j (by simp)
    have fl : fs.length ≤ 1000 := by
      obtain ⟨a, ha⟩ := List.exists_mem_of_ne_nil fs h0
      have := hf.lv a ha; omega
    have n6 : ∀ x ∈ ns ++ [sMain], nmok x := fun x hx => (List.mem_append.mp hx).elim (fun z => (hn.ok x z).1) fun z => by rw [List.mem_singleton.mp z]; exact main_nm
    obtain ⟨qs, hq, q0, _, eq⟩ := grown_eq cs[j] (j : Int) hf h0 n6 (by simp) fl
    obtain ⟨rs, x', hr, r0, fx, er⟩ := grow_loop hn (cs := cs) L qs (n + 1) (.v (.int (j : Int))) hq q0 (by omega) (fun i hi => hj i (by simp [hi])) trivial
    refine ⟨rs, x', by rw [List.length_cons, show n + (L.length + 1) = n + 1 + L.length by omega]; exact hr, r0, fx, ?_⟩
    let R1 : En := Ev S F M (.lst (ns.map D.str)) C (.lst (cs.map D.int)) ln g k (.lst (fs.map Tm.ds)) (.v (.int (j : Int))) x11
    have u : setV 10 (.int (j : Int)) (Ev S F M (.lst (ns.map D.str)) C (.lst (cs.map D.int)) ln g k (.lst (fs.map Tm.ds)) x10 x11) = some R1 := setV_fre (x := x10) rfl hx
    have i5 : mBin ixD (mVar 5) (mVar 10) R1 = some (.int cs[j]) := bin_of (x := .lst (cs.map D.int)) (y := .int (j : Int)) rfl rfl (atI_nat (by simp [jl]))
    have i6 : mBin addD (mVar 3) (mOfF (mLstF (mCons (mC (.str [109, 97, 105, 110])) mNil))) R1 = some (.lst ((ns ++ [sMain]).map D.str)) := by
      rw [List.map_append]
      exact ladd (l := ns.map D.str) rfl (lstF_of (cons_of con_of nil_of) (by show 1 ≤ 100; decide)) (by rw [List.length_map, hn.len]; decide)
    have b : bodyG R1 = some (.nx (Ev S F M (.lst (ns.map D.str)) C (.lst (cs.map D.int)) ln g k (.lst (qs.map Tm.ds)) (.v (.int (j : Int))) x11)) := sSet_of (call_of (p := .v (.lst (qs.map Tm.ds))) (cons_of rfl (cons_of i5 (cons_of rfl (cons_of i6 nil_of)))) rfl eq) rfl
    rw [List.map_cons, for_go u b]
    exact er
end
theorem sizes {k n M : Nat} (hM : M = 3 ∨ M = 4) (hn : n ≤ 60) : size3 (k : Int) (n : Int) (M : Int) ≤ 20 ∧ ∀ i < size3 (k : Int) (n : Int) (M : Int), k + i * M < n := by
  unfold size3
  rcases hM with rfl | rfl
  · exact ⟨by omega, fun i hi => by omega⟩
  · exact ⟨by omega, fun i hi => by omega⟩
noncomputable abbrev E12 (S : D) (F : Int) (M : Nat) (ns Cw : Ws) (cs : List Int) (ln : List D) (gd : Bool) (x8 x9 x10 x11 : Sl) : En := [.v S, .v (.int F), .v (.int (M : Int)), .v (.lst (ns.map D.str)), .v (.lst (Cw.map D.str)), .v (.lst (cs.map D.int)), .o ln, .v (.bl gd), x8, x9, x10, x11]
noncomputable def wrapB : MS := (sIf (mBl (mBin eqA (mBin modD (mBin fdivD (mVar 1) (mC (.int 9))) (mC (.int 2))) (mC (.int 0))))
 (sSet 11 (mTup (mCons (mC (.str [102, 110])) (mCons (mBin ixD (mVar 3) (mC (.int 3))) (mCons (mTup (mCons (mC (.str [102, 110])) (mCons (mBin ixD (mVar 3) (mC (.int 4))) (mCons (mVar 11) mNil)))) mNil)))))
 sSkip)
noncomputable def bodyK : MS := (sSeq (sSet 9 (mOfF (mLstF (mCons (mTup (mCons (mC (.str [110, 97, 109, 101])) (mCons (mBin ixD (mVar 4) (mVar 8)) mNil))) mNil))))
 (sSeq (sFor (setV 10) (mRng3 (mVar 8) (mUn lenD (mVar 5)) (mVar 2)) bodyG)
 (sSeq (sWhile WF cndF bodyF)
 (sSeq (sSet 11 (mBin ixD (mVar 9) (mC (.int 0))))
 (sSeq wrapB
 (sSeq (sSet 7 (mAnd (mVar 7) (mCall 2 (F__law_all_known RF) (mCons (mVar 11) (mCons (mSl (mVar 4) oNone (oSome (mBin addD (mVar 8) (mC (.int 1))))) mNil)))))
 (sX (mApp 6 (mJoin (mC (.str [32])) (mCat (mLstF (mCons (mC (.str [100, 101, 102])) (mCons (mBin ixD (mVar 4) (mVar 8)) mNil))) (mCallF 1 (F__law_words RF) (mCons (mVar 11) mNil))))))))))))
theorem wrap_eq {S : D} {F : Int} {M : Nat} {ns Cw : Ws} (hn : Nms ns) {cs : List Int} {ln : List D} {gd : Bool} {x8 x9 x10 : Sl} {t : Tm} (ht : t.ok) : ∃ t' : Tm, t'.ok ∧ t'.lv ≤ t.lv + 2 ∧ t'.pc ≤ t.pc + 2 ∧ wrapB (E12 S F M ns Cw cs ln gd x8 x9 x10 (.v t.ds)) = some (.nx (E12 S F M ns Cw cs ln gd x8 x9 x10 (.v t'.ds))) := by
  let R : En := E12 S F M ns Cw cs ln gd x8 x9 x10 (.v t.ds)
  have c : mBl (mBin eqA (mBin modD (mBin fdivD (mVar 1) (mC (.int 9))) (mC (.int 2))) (mC (.int 0))) R = some (decide (F / 9 % 2 = 0)) := bl_of (bin_of (mod_of (fdiv_of rfl con_of (by decide)) con_of (by decide)) con_of rfl)
  by_cases h : F / 9 % 2 = 0
  · have l5 := hn.len
    have n3 : ns[3]'(by omega) ∈ ns := List.getElem_mem _
    have n4 : ns[4]'(by omega) ∈ ns := List.getElem_mem _
    refine ⟨.fn (ns[3]'(by omega)) (.fn (ns[4]'(by omega)) t), ⟨(hn.ok _ n3).1, (hn.ok _ n4).1, ht⟩, Nat.le_refl _, Nat.le_refl _, (sIf_t (c.trans (by rw [decide_eq_true h]))).trans (sSet_of ?_ rfl)⟩
    have i3 : mBin ixD (mVar 3) (mC (.int 3)) R = some (.str (ns[3]'(by omega))) := bin_of (x := .lst (ns.map D.str)) rfl con_of (atI_nat (j := 3) (by simp [l5]))
    have i4 : mBin ixD (mVar 3) (mC (.int 4)) R = some (.str (ns[4]'(by omega))) := bin_of (x := .lst (ns.map D.str)) rfl con_of (atI_nat (j := 4) (by simp [l5]))
    exact tup_of (cons_of con_of (cons_of i3 (cons_of (tup_of (cons_of con_of (cons_of i4 (cons_of rfl nil_of))) (by show 3 ≤ 100; decide)) nil_of))) (by show 3 ≤ 100; decide)
  · exact ⟨t, ht, by omega, by omega, (sIf_f (c.trans (by rw [decide_eq_false h]))).trans rfl⟩
theorem line_eq {S : D} {F : Int} {M : Nat} (hM : M = 3 ∨ M = 4) {ns Cw : Ws} (hn : Nms ns) (hC : ∀ x ∈ Cw, nmok x) (hCl : Cw.length = M) {cs : List Int} (hcs : cs.length ≤ 60) {ln : List D} (hln : ln.length ≤ 100) {gd : Bool} {k : Nat} (hk : k < M) {x9 x10 x11 : Sl} (h9 : fre x9) (h10 : fre x10) (h11 : fre x11) :
    ∃ t : Tm, t.ok ∧ t.lv ≤ 31 ∧ t.pc ≤ 80 ∧ ∃ y9 y10 y11, fre y9 ∧ fre y10 ∧ fre y11 ∧ bodyK (E12 S F M ns Cw cs ln gd (.v (.int (k : Int))) x9 x10 x11) = some (.nx (E12 S F M ns Cw cs (ln ++ [.str (lin (Cw[k]'(by omega), t))]) (gd && t.kn (Cw.take (k + 1))) (.v (.int (k : Int))) y9 y10 y11)) := by
  have kC : k < Cw.length := by omega
  have hw := hC Cw[k] (List.getElem_mem kC)
  have ixk : ∀ (g' : Bool) (l' : List D) (a b c : Sl), mBin ixD (mVar 4) (mVar 8) (E12 S F M ns Cw cs l' g' (.v (.int (k : Int))) a b c) = some (.str Cw[k]) := fun g' l' a b c => bin_of (x := .lst (Cw.map D.str)) (y := .int (k : Int)) rfl rfl (atI_nat (by simp [kC]))
  have g1 : GOk [.nam Cw[k]] 2 := ⟨fun f hf => by rw [List.mem_singleton.mp hf]; exact hw, fun f hf => by rw [List.mem_singleton.mp hf]; exact Nat.le_refl _, by show 1 + 0 + 1 ≤ 4; omega⟩
  obtain ⟨sz, si⟩ := sizes (k := k) (n := cs.length) hM hcs
  let n3 := size3 (k : Int) (cs.length : Int) (M : Int)
  let L : List Nat := (List.range n3).map fun i => k + i * M
  have lL : L.length = n3 := by simp [L]
  have hL : ∀ j ∈ L, j < cs.length := fun j hj => by
    obtain ⟨i, hi, rfl⟩ := List.mem_map.mp hj
    exact si i (List.mem_range.mp hi)
  let P0 : D := .lst ([Tm.nam Cw[k]].map Tm.ds)
  let R0 : En := E12 S F M ns Cw cs ln gd (.v (.int (k : Int))) x9 x10 x11
  let R1 : En := E12 S F M ns Cw cs ln gd (.v (.int (k : Int))) (.v P0) x10 x11
  have s1 : sSet 9 (mOfF (mLstF (mCons (mTup (mCons (mC (.str [110, 97, 109, 101])) (mCons (mBin ixD (mVar 4) (mVar 8)) mNil))) mNil))) R0 = some (.nx R1) := sSet_of (d := P0) (lstF_of (cons_of (tup_of (cons_of con_of (cons_of (ixk _ _ _ _ _) nil_of)) (by show 2 ≤ 100; decide)) nil_of) (by show 1 ≤ 100; decide)) (setV_fre (x := x9) rfl h9)
  obtain ⟨qs, z10, hq, q0, f10, eg⟩ := grow_loop (S := S) (F := F) (M := (M : Int)) (C := .lst (Cw.map D.str)) (ln := ln) (g := .bl gd) (k := .int (k : Int)) (x11 := x11) hn (cs := cs) L [.nam Cw[k]] 2 x10 g1 (by simp) (by omega) hL h10
  have rg : mRng3 (mVar 8) (mUn lenD (mVar 5)) (mVar 2) R1 = some (L.map fun (j : Nat) => D.int (j : Int)) := by
    have e5 : mUn lenD (mVar 5) R1 = some (.int (cs.length : Int)) := len_lst (l := cs) (g := D.int) rfl
    unfold mRng3
    rw [show mVar 8 R1 = some (.int (k : Int)) from rfl, Option.bind_some, show DD.intD (D.int (k : Int)) = some (k : Int) from rfl, Option.bind_some, e5, Option.bind_some, show DD.intD (D.int (cs.length : Int)) = some (cs.length : Int) from rfl, Option.bind_some, show mVar 2 R1 = some (.int (M : Int)) from rfl, Option.bind_some, show DD.intD (D.int (M : Int)) = some (M : Int) from rfl, Option.bind_some, if_pos ⟨by omega, by omega, by omega, by omega, by omega, by omega⟩]
    show some ((List.range n3).map fun (i : Nat) => D.int ((k : Int) + (i : Int) * (M : Int))) = some (((List.range n3).map fun i => k + i * M).map fun (j : Nat) => D.int (j : Int))
    rw [List.map_map]
    first | rfl | (congr 1; done)
  let R2 : En := E12 S F M ns Cw cs ln gd (.v (.int (k : Int))) (.v (.lst (qs.map Tm.ds))) z10 x11
  have s2 : sFor (setV 10) (mRng3 (mVar 8) (mUn lenD (mVar 5)) (mVar 2)) bodyG R1 = some (.nx R2) := by
    unfold sFor
    rw [rg]
    exact eg
  have ql : 1 ≤ qs.length := List.length_pos_iff.mpr q0
  have qb : qs.length ≤ 22 := by
    obtain ⟨a, ha⟩ := List.exists_mem_of_ne_nil qs q0
    have := hq.lv a ha; omega
  obtain ⟨t, ht, lp⟩ := fold_loop (S := S) (F := F) (M := (M : Int)) (N := .lst (ns.map D.str)) (C := .lst (Cw.map D.str)) (Cs := .lst (cs.map D.int)) (ln := ln) (g := .bl gd) (k := .int (k : Int)) (x11 := x11) (x10 := z10) (qs.length - 1) qs hq (by omega) (by omega)
  have s3 : sWhile WF cndF bodyF R2 = some (.nx (E12 S F M ns Cw cs ln gd (.v (.int (k : Int))) (.v (.lst [t.ds])) z10 x11)) := by
    have := lp (WF - (qs.length - 1 + 1))
    rw [show qs.length - 1 + 1 + (WF - (qs.length - 1 + 1)) = WF by unfold WF; omega] at this
    exact this
  have tl := ht.lv t (by simp)
  have tp := ht.pc
  have to := ht.ok t (by simp)
  simp only [pcs, List.map_cons, List.map_nil, List.sum_cons, List.sum_nil, List.length_cons, List.length_nil] at tl tp
  let R4 : En := E12 S F M ns Cw cs ln gd (.v (.int (k : Int))) (.v (.lst [t.ds])) z10 (.v t.ds)
  have s4 : sSet 11 (mBin ixD (mVar 9) (mC (.int 0))) (E12 S F M ns Cw cs ln gd (.v (.int (k : Int))) (.v (.lst [t.ds])) z10 x11) = some (.nx R4) := sSet_of (d := t.ds) (bin_of (x := .lst [t.ds]) rfl con_of (at_zero _ _)) (setV_fre (x := x11) rfl h11)
  obtain ⟨u, uo, ul, up, s5⟩ := wrap_eq (S := S) (F := F) (M := M) (Cw := Cw) hn (cs := cs) (ln := ln) (gd := gd) (x8 := .v (.int (k : Int))) (x9 := .v (.lst [t.ds])) (x10 := z10) to
  let R5 : En := E12 S F M ns Cw cs ln gd (.v (.int (k : Int))) (.v (.lst [t.ds])) z10 (.v u.ds)
  let gd' : Bool := gd && u.kn (Cw.take (k + 1))
  let R6 : En := E12 S F M ns Cw cs ln gd' (.v (.int (k : Int))) (.v (.lst [t.ds])) z10 (.v u.ds)
  have cut : mSl (mVar 4) oNone (oSome (mBin addD (mVar 8) (mC (.int 1)))) R5 = some (.lst ((Cw.take (k + 1)).map D.str)) := by
    refine sl_of (x := .lst (Cw.map D.str)) (a := none) (b := some ((k + 1 : Nat) : Int)) rfl rfl (osome_of (i := ((k + 1 : Nat) : Int)) (by rw [Int.natCast_add]; exact add_of rfl con_of)) ?_
    show some (D.lst (cutL (Cw.map D.str) none (some ((k + 1 : Nat) : Int)))) = _
    rw [cut_to, List.map_take]
  have ak : mCall 2 (F__law_all_known RF) (mCons (mVar 11) (mCons (mSl (mVar 4) oNone (oSome (mBin addD (mVar 8) (mC (.int 1))))) mNil)) R5 = some (.bl (u.kn (Cw.take (k + 1)))) := call_of (p := .v (.bl _)) (cons_of rfl (cons_of cut nil_of)) rfl (ak_ok RF u (by unfold RF; omega) _ (by rw [List.length_take]; omega))
  have s6 : sSet 7 (mAnd (mVar 7) (mCall 2 (F__law_all_known RF) (mCons (mVar 11) (mCons (mSl (mVar 4) oNone (oSome (mBin addD (mVar 8) (mC (.int 1))))) mNil)))) R5 = some (.nx R6) := by
    refine sSet_of (d := .bl gd') ?_ rfl
    show _ = some (D.bl (gd && u.kn (Cw.take (k + 1))))
    cases gd with
    | true => exact (and_t rfl ak).trans (by rw [Bool.true_and])
    | false => exact and_f rfl
  have wl := u.ws_pc
  have ws := ws_sum (u.ws_ok uo)
  have wd := hw.wd.len
  have jn : mJoin (mC (.str [32])) (mCat (mLstF (mCons (mC (.str [100, 101, 102])) (mCons (mBin ixD (mVar 4) (mVar 8)) mNil))) (mCallF 1 (F__law_words RF) (mCons (mVar 11) mNil))) R6 = some (.str (lin (Cw[k], u))) := by
    refine join_of (l := sDef :: Cw[k] :: u.ws) con_of ?_ ?_
    · have a : mLstF (mCons (mC (.str [100, 101, 102])) (mCons (mBin ixD (mVar 4) (mVar 8)) mNil)) R6 = some [.str sDef, .str Cw[k]] := by
        have a0 : mCons (mC (.str [100, 101, 102])) (mCons (mBin ixD (mVar 4) (mVar 8)) mNil) R6 = some [.str sDef, .str Cw[k]] := cons_of con_of (cons_of (ixk _ _ _ _ _) nil_of)
        unfold mLstF
        rw [a0]; rfl
      exact cat_of a (callF_of (l := [u.ds]) (cons_of rfl nil_of) rfl (words_ok RF u (by unfold RF; omega) (by omega))) (by rw [List.length_map]; show 2 + _ ≤ _; omega)
    · simp only [List.map_cons, List.sum_cons, List.length_cons, List.length_nil]
      have : sDef.length = 3 := rfl
      omega
  have s7 : sX (mApp 6 (mJoin (mC (.str [32])) (mCat (mLstF (mCons (mC (.str [100, 101, 102])) (mCons (mBin ixD (mVar 4) (mVar 8)) mNil))) (mCallF 1 (F__law_words RF) (mCons (mVar 11) mNil))))) R6 = some (.nx (E12 S F M ns Cw cs (ln ++ [.str (lin (Cw[k], u))]) gd' (.v (.int (k : Int))) (.v (.lst [t.ds])) z10 (.v u.ds))) := sX_of (d := .non) (app_of rfl jn (Nat.lt_of_le_of_lt hln (by decide)))
  refine ⟨u, uo, by omega, by omega, .v (.lst [t.ds]), z10, .v u.ds, trivial, f10, trivial, ?_⟩
  unfold bodyK
  exact (seq_of s1).trans ((seq_of s2).trans ((seq_of s3).trans ((seq_of s4).trans ((seq_of s5).trans ((seq_of s6).trans s7)))))
theorem FineL.snoc {Ds : List Df} {q : Df} (h : FineL [] Ds) (hq : Fine q (Ds.map Prod.fst)) : FineL [] (Ds ++ [q]) := fun C r E e => by
  rcases List.eq_nil_or_concat E with rfl | ⟨E', z, rfl⟩
  · obtain ⟨rfl, h2⟩ := List.append_inj' e rfl
    cases h2
    exact hq
  · have e2 : Ds ++ [q] = (C ++ r :: E') ++ [z] := by rw [e]; simp
    exact h C r E' (List.append_inj' e2 rfl).1
theorem good_snoc (q : Df) : ∀ (B A : List Df), goodL A (B ++ [q]) = (goodL A B && q.2.kn ((A ++ B).map Prod.fst ++ [q.1]))
  | [], A => by
    show (q.2.kn (A.map Prod.fst ++ [q.1]) && true) = (true && q.2.kn ((A ++ []).map Prod.fst ++ [q.1]))
    rw [Bool.and_true, Bool.true_and, List.append_nil]
  | p :: B, A => by
    have ih := good_snoc q B (A ++ [p])
    show (p.2.kn (A.map Prod.fst ++ [p.1]) && goodL (A ++ [p]) (B ++ [q])) = ((p.2.kn (A.map Prod.fst ++ [p.1]) && goodL (A ++ [p]) B) && _)
    rw [ih, Bool.and_assoc, List.append_assoc]; rfl
theorem nodup_take {l : Ws} (h : l.Nodup) {k : Nat} (hk : k < l.length) : l[k] ∉ l.take k := fun z => by
  obtain ⟨j, hj, e⟩ := List.mem_take_iff_getElem.mp z
  exact (List.pairwise_iff_getElem.mp h) j k (by omega) hk (by omega) e
theorem take_one {l : Ws} {k : Nat} (hk : k < l.length) : l.take (k + 1) = l.take k ++ [l[k]] := by
  rw [List.take_succ, List.getElem?_eq_getElem hk]; rfl
structure Cal (M : Nat) (Cw : Ws) : Prop where
  len : Cw.length = M
  ok : ∀ x ∈ Cw, nmok x
  nd : Cw.Nodup
  last : ∃ A, Cw = A ++ [sMain]
theorem lines_loop {S : D} {F : Int} {M : Nat} (hM : M = 3 ∨ M = 4) {ns Cw : Ws} (hn : Nms ns) (hC : Cal M Cw) {cs : List Int} (hcs : cs.length ≤ 60) : ∀ (r i : Nat) (Ds : List Df) (x8 x9 x10 x11 : Sl), i + r = M → Ds.map Prod.fst = Cw.take i → FineL [] Ds → fre x8 → fre x9 → fre x10 → fre x11 →
    ∃ Ds' : List Df, ∃ y8 y9 y10 y11, Ds'.map Prod.fst = Cw ∧ FineL [] Ds' ∧ forL (setV 8) bodyK ((List.range' i r).map fun (k : Nat) => D.int ((0 : Int) + (k : Int))) (E12 S F M ns Cw cs (Ds.map fun q => .str (lin q)) (goodL [] Ds) x8 x9 x10 x11) = some (.nx (E12 S F M ns Cw cs (Ds'.map fun q => .str (lin q)) (goodL [] Ds') y8 y9 y10 y11))
  | 0, i, Ds, x8, x9, x10, x11, hi, hd, hf, _, _, _, _ => ⟨Ds, x8, x9, x10, x11, by rw [hd, List.take_of_length_le (by have := hC.len; omega)], hf, rfl⟩
  | r + 1, i, Ds, x8, x9, x10, x11, hi, hd, hf, h8, h9, h10, h11 => by
    have cl := hC.len
    have iC : i < Cw.length := by omega
    have dl : Ds.length = i := by
      have := congrArg List.length hd
      rw [List.length_map, List.length_take] at this; omega
    obtain ⟨t, to, tl, tp, y9, y10, y11, f9, f10, f11, e⟩ := line_eq (S := S) (F := F) hM hn hC.ok hC.len hcs (ln := Ds.map fun q => .str (lin q)) (by rw [List.length_map]; omega) (gd := goodL [] Ds) (k := i) (by omega) h9 h10 h11
    let q : Df := (Cw[i], t)
    have hq : Fine q (Ds.map Prod.fst) := ⟨hC.ok _ (List.getElem_mem iC), by rw [hd]; exact nodup_take hC.nd iC, to, tl, tp⟩
    have hd' : (Ds ++ [q]).map Prod.fst = Cw.take (i + 1) := by rw [List.map_append, hd, take_one iC]; rfl
    have gd' : goodL [] (Ds ++ [q]) = (goodL [] Ds && t.kn (Cw.take (i + 1))) := by
      rw [good_snoc, List.nil_append, hd, take_one iC]
    obtain ⟨Ds', z8, z9, z10, z11, h1, h2, h3⟩ := lines_loop (S := S) (F := F) hM hn hC hcs r (i + 1) (Ds ++ [q]) (.v (.int (i : Int))) y9 y10 y11 (by omega) hd' (hf.snoc hq) trivial f9 f10 f11
    refine ⟨Ds', z8, z9, z10, z11, h1, h2, ?_⟩
    have u : setV 8 (.int ((0 : Int) + (i : Int))) (E12 S F M ns Cw cs (Ds.map fun q => .str (lin q)) (goodL [] Ds) x8 x9 x10 x11) = some (E12 S F M ns Cw cs (Ds.map fun q => .str (lin q)) (goodL [] Ds) (.v (.int (i : Int))) x9 x10 x11) := by
      rw [Int.zero_add]
      exact setV_fre (x := x8) rfl h8
    rw [gd', List.map_append] at h3
    rw [List.range'_succ, List.map_cons, for_go u e]
    exact h3
theorem cell_eq (ns : List Int) (k : Nat) : ∃ c : Int, ∃ as, F__law_cell [.v (.lst (ns.map .int)), .v (.int (k : Int))] = some (.v (.int c), as) := by
  have ln : mUn lenD (mVar 0) [.v (.lst (ns.map .int)), .v (.int (k : Int))] = some (.int (ns.length : Int)) := len_lst (l := ns) (g := D.int) rfl
  have c0 : mBl (mBin ltA (mVar 1) (mUn lenD (mVar 0))) [.v (.lst (ns.map .int)), .v (.int (k : Int))] = some (decide (k < ns.length)) := (bl_of (bin_of (x := .int (k : Int)) rfl ln (d := .bl (decide ((k : Int) < (ns.length : Int)))) rfl)).trans (by congr 1; rw [decide_eq_decide]; omega)
  by_cases h : k < ns.length
  · refine ⟨ns[k], mk_rt (r' := [.v (.lst (ns.map .int)), .v (.int (k : Int))]) (seq_tt (c0.trans (by rw [decide_eq_true h])) (ret_of (bin_of (x := .lst (ns.map .int)) rfl rfl ?_)))⟩
    exact atI_nat (by simp [h])
  · exact ⟨0, mk_rt (r' := [.v (.lst (ns.map .int)), .v (.int (k : Int))]) (seq_ff (c0.trans (by rw [decide_eq_false h])) (ret_of con_of))⟩
theorem prog_of {M : Nat} (hM : M = 3 ∨ M = 4) {Cw : Ws} (hC : Cal M Cw) {Ds : List Df} (h1 : Ds.map Prod.fst = Cw) (h2 : FineL [] Ds) : Prog Ds := by
  have dl : Ds.length = M := by rw [← hC.len, ← h1, List.length_map]
  refine ⟨h2, by omega, ?_⟩
  obtain ⟨A, e⟩ := hC.last
  rcases List.eq_nil_or_concat Ds with rfl | ⟨B, q, rfl⟩
  · simp only [List.length_nil] at dl; omega
  · rw [e, List.concat_eq_append, List.map_append] at h1
    have := (List.append_inj' h1 rfl).2
    have e2 : q.1 = sMain := (List.cons.inj this).1
    exact ⟨B, q.2, by rw [List.concat_eq_append, ← e2]⟩
theorem cal_of {ns : Ws} (hn : Nms ns) {M : Nat} (hM : M = 3 ∨ M = 4) {C0 : Ws} (h : C0 = ns.take (M - 1) ∨ C0 = (ns.take (M - 1)).reverse) : Cal M (C0 ++ [sMain]) := by
  have l5 := hn.len
  have sub : ∀ x ∈ C0, x ∈ ns := fun x hx => by
    rcases h with rfl | rfl
    · exact List.mem_of_mem_take hx
    · exact List.mem_of_mem_take (List.mem_reverse.mp hx)
  have nt : (ns.take (M - 1)).Nodup := hn.nd.sublist (List.take_sublist _ _)
  have nd : C0.Nodup := by
    rcases h with rfl | rfl
    · exact nt
    · exact List.pairwise_reverse.mpr (nt.imp fun h => h.symm)
  have len : C0.length = M - 1 := by
    rcases h with rfl | rfl
    · rw [List.length_take]; omega
    · rw [List.length_reverse, List.length_take]; omega
  refine ⟨by rw [List.length_append, len]; simp only [List.length_cons, List.length_nil]; omega, fun x hx => ?_, ?_, C0, rfl⟩
  · rcases List.mem_append.mp hx with z | z
    · exact (hn.ok x (sub x z)).1
    · rw [List.mem_singleton.mp z]; exact main_nm
  · refine List.nodup_append.mpr ⟨nd, List.pairwise_singleton _ _, fun a ha b hb => ?_⟩
    rw [List.mem_singleton.mp hb]
    exact (hn.ok a (sub a ha)).2
theorem law_math : ∀ ns : List Int, ns.length ≤ 63 → ∃ as, F_law [.v (.lst (ns.map .int))] = some (.v (.bl true), as) := by
  intro sc hsc
  let S : D := .lst (sc.map .int)
  obtain ⟨c0, ec0⟩ := cell_eq sc 0
  obtain ⟨c1, ec1⟩ := cell_eq sc 1
  obtain ⟨F, F0, eF⟩ := mixed_eq c0 900
  obtain ⟨G, G0, eG⟩ := mixed_eq c1 901
  obtain ⟨ns, hn, en⟩ := names_eq G G0
  obtain ⟨b, hb, eb⟩ := nat_mod F 2 (by decide)
  obtain ⟨M, hM, eM⟩ : ∃ M : Nat, (M = 3 ∨ M = 4) ∧ (M : Int) = 3 + F % 2 := ⟨3 + b, by omega, by rw [show F % 2 = (b : Int) from eb, Int.natCast_add]; rfl⟩
  let N : D := .lst (ns.map D.str)
  let cs : List Int := (sc.take 62).drop 2
  have lcs : cs.length ≤ 60 := by simp only [cs, List.length_drop, List.length_take]; omega
  let R0 : En := [.v S, .un, .un, .un, .un, .un, .un, .un, .un, .un, .un, .un]
  let R1 : En := [.v S, .v (.int F), .un, .un, .un, .un, .un, .un, .un, .un, .un, .un]
  let R2 : En := [.v S, .v (.int F), .v (.int (M : Int)), .un, .un, .un, .un, .un, .un, .un, .un, .un]
  let R3 : En := [.v S, .v (.int F), .v (.int (M : Int)), .v N, .un, .un, .un, .un, .un, .un, .un, .un]
  let C0 : Ws := ns.take (M - 1)
  let R4 : En := [.v S, .v (.int F), .v (.int (M : Int)), .v N, .v (.lst (C0.map D.str)), .un, .un, .un, .un, .un, .un, .un]
  have s1 : mCall 2 F__law_mixed (mCons (mCall 2 F__law_cell (mCons (mVar 0) (mCons (mC (.int 0)) mNil))) (mCons (mC (.int 900)) mNil)) R0 = some (.int F) := call_of (p := .v (.int F)) (cons_of (call_of (p := .v (.int c0)) (cons_of rfl (cons_of con_of nil_of)) rfl ec0) (cons_of con_of nil_of)) rfl eF
  have s2 : mBin addD (mC (.int 3)) (mBin modD (mVar 1) (mC (.int 2))) R1 = some (.int (M : Int)) := by
    rw [eM]
    exact add_of con_of (mod_of rfl con_of (by decide))
  have s3 : mCall 2 F__law_names (mCons (mCall 2 F__law_mixed (mCons (mCall 2 F__law_cell (mCons (mVar 0) (mCons (mC (.int 1)) mNil))) (mCons (mC (.int 901)) mNil))) (mCons (mC (.int 5)) mNil)) R2 = some N := call_of (p := .v N) (cons_of (call_of (p := .v (.int G)) (cons_of (call_of (p := .v (.int c1)) (cons_of rfl (cons_of con_of nil_of)) rfl ec1) (cons_of con_of nil_of)) rfl eG) (cons_of con_of nil_of)) rfl en
  have s4 : mSl (mVar 3) oNone (oSome (mBin subD (mVar 2) (mC (.int 1)))) R3 = some (.lst (C0.map D.str)) := by
    refine sl_of (x := N) (a := none) (b := some ((M - 1 : Nat) : Int)) rfl rfl (osome_of (i := ((M - 1 : Nat) : Int)) ?_) ?_
    · rw [show ((M - 1 : Nat) : Int) = (M : Int) - 1 by omega]
      exact bin_of (x := .int (M : Int)) (y := .int 1) rfl con_of rfl
    · show some (D.lst (cutL (ns.map D.str) none (some ((M - 1 : Nat) : Int)))) = _
      rw [cut_to, ← List.map_take]
  obtain ⟨C1, hC1, s5⟩ : ∃ C1 : Ws, (C1 = ns.take (M - 1) ∨ C1 = (ns.take (M - 1)).reverse) ∧ sIf (mBl (mBin eqA (mBin modD (mBin fdivD (mVar 1) (mC (.int 3))) (mC (.int 3))) (mC (.int 0)))) (sSet 4 (mOfF (mRevL (mAsL (mVar 4))))) sSkip R4 = some (.nx [.v S, .v (.int F), .v (.int (M : Int)), .v N, .v (.lst (C1.map D.str)), .un, .un, .un, .un, .un, .un, .un]) := by
    have c : mBl (mBin eqA (mBin modD (mBin fdivD (mVar 1) (mC (.int 3))) (mC (.int 3))) (mC (.int 0))) R4 = some (decide (F / 3 % 3 = 0)) := bl_of (bin_of (mod_of (fdiv_of rfl con_of (by decide)) con_of (by decide)) con_of rfl)
    by_cases h : F / 3 % 3 = 0
    · refine ⟨C0.reverse, .inr rfl, (sIf_t (c.trans (by rw [decide_eq_true h]))).trans (sSet_of (d := .lst (C0.reverse.map D.str)) ?_ rfl)⟩
      show some (D.lst (C0.map D.str).reverse) = _
      rw [List.map_reverse]
    · exact ⟨C0, .inl rfl, (sIf_f (c.trans (by rw [decide_eq_false h]))).trans rfl⟩
  have cal := cal_of hn hM hC1
  let Cw : Ws := C1 ++ [sMain]
  have l1 : C1.length ≤ 4 := by have := cal.len; rw [List.length_append] at this; simp only [List.length_cons, List.length_nil] at this; omega
  let R6 : En := [.v S, .v (.int F), .v (.int (M : Int)), .v N, .v (.lst (Cw.map D.str)), .un, .un, .un, .un, .un, .un, .un]
  let R7 : En := [.v S, .v (.int F), .v (.int (M : Int)), .v N, .v (.lst (Cw.map D.str)), .v (.lst (cs.map D.int)), .un, .un, .un, .un, .un, .un]
  have s6 : mBin addD (mVar 4) (mOfF (mLstF (mCons (mC (.str [109, 97, 105, 110])) mNil))) [.v S, .v (.int F), .v (.int (M : Int)), .v N, .v (.lst (C1.map D.str)), .un, .un, .un, .un, .un, .un, .un] = some (.lst (Cw.map D.str)) := by
    show _ = some (D.lst ((C1 ++ [sMain]).map D.str))
    rw [List.map_append]
    exact ladd (l := C1.map D.str) rfl (lstF_of (cons_of con_of nil_of) (by show 1 ≤ 100; decide)) (by rw [List.length_map]; show _ + 1 ≤ _; omega)
  have s7 : mSl (mVar 0) (oSome (mC (.int 2))) (oSome (mC (.int 62))) R6 = some (.lst (cs.map D.int)) := by
    refine sl_of (x := S) (a := some 2) (b := some 62) rfl rfl rfl ?_
    show some (D.lst (cutL (sc.map D.int) (some ((2 : Nat) : Int)) (some ((62 : Nat) : Int)))) = _
    rw [cut_mid, ← List.map_take, ← List.map_drop]
  obtain ⟨Ds, y8, y9, y10, y11, d1, d2, lp⟩ := lines_loop (S := S) (F := F) hM hn cal lcs M 0 [] .un .un .un .un (by omega) rfl (fun C q E e => by cases C <;> cases e) trivial trivial trivial trivial
  have pr := prog_of hM cal d1 d2
  let ln : List D := Ds.map fun q => .str (lin q)
  let R9 : En := E12 S F M ns Cw cs ln (goodL [] Ds) y8 y9 y10 y11
  have fe : sFor (setV 8) (mRng1 (mVar 2)) bodyK (E12 S F M ns Cw cs [] true .un .un .un .un) = some (.nx R9) := by
    have rg : mRng1 (mVar 2) (E12 S F M ns Cw cs [] true .un .un .un .un) = some ((List.range' 0 M).map fun (k : Nat) => D.int ((0 : Int) + (k : Int))) := by
      rw [← List.range_eq_range']
      exact rng_of rfl (by omega)
    unfold sFor
    rw [rg]
    exact lp
  have jn : mJoin (mC (.str [10])) (mOwn 6) R9 = some (.str (txt Ds)) := by
    refine join_of (l := Ds.map lin) con_of ?_ ?_
    · show some (Ds.map fun q => D.str (lin q)) = _
      rw [List.map_map]; rfl
    · have s := sum_le (Ds := Ds) fun q hq => (pr.mem hq).elim fun ab f => lin_len f
      have := pr.few
      rw [List.length_map]
      simp only [List.length_nil, List.length_cons]; omega
  have tl : mCall 1 F__law_told (mCons (mJoin (mC (.str [10])) (mOwn 6)) mNil) R9 = some (.str (if goodL [] Ds = true then sRead else sNoN)) := call_of (p := .v (.str _)) (cons_of jn nil_of) rfl (told_eq pr)
  have dx : mBin ixD (mOfF (mLstF (mCons (mC (.str [78, 111, 78, 97, 109, 101])) (mCons (mC (.str [114, 101, 97, 100])) mNil)))) (mUn intBD (mVar 7)) R9 = some (.str (if goodL [] Ds = true then sRead else sNoN)) := by
    refine bin_of (x := .lst [.str sNoN, .str sRead]) (y := .int (if goodL [] Ds = true then 1 else 0)) (lstF_of (cons_of con_of (cons_of con_of nil_of)) (by show 2 ≤ 100; decide)) (un_of (x := .bl (goodL [] Ds)) rfl (by cases goodL [] Ds <;> rfl)) ?_
    show atI [D.str sNoN, D.str sRead] (if goodL [] Ds = true then 1 else 0) = _
    cases goodL [] Ds <;> rfl
  have last : mBin eqA (mCall 1 F__law_told (mCons (mJoin (mC (.str [10])) (mOwn 6)) mNil)) (mBin ixD (mOfF (mLstF (mCons (mC (.str [78, 111, 78, 97, 109, 101])) (mCons (mC (.str [114, 101, 97, 100])) mNil)))) (mUn intBD (mVar 7))) R9 = some (.bl true) := bin_of tl dx (by show some (D.bl (decide _)) = _; rw [decide_eq_true rfl])
  refine mk_rt (r' := R9) ?_
  show g_law R0 = _
  unfold g_law
  refine seq_set (r2 := R1) (.int F) s1 rfl (seq_set (r2 := R2) (.int (M : Int)) s2 rfl (seq_set (r2 := R3) N s3 rfl (seq_set (r2 := R4) (.lst (C0.map D.str)) s4 rfl ?_)))
  refine (seq_of s5).trans (seq_set (r2 := R6) (.lst (Cw.map D.str)) s6 rfl (seq_set (r2 := R7) (.lst (cs.map D.int)) s7 rfl ?_))
  refine (seq_of (r' := [.v S, .v (.int F), .v (.int (M : Int)), .v N, .v (.lst (Cw.map D.str)), .v (.lst (cs.map D.int)), .o [], .un, .un, .un, .un, .un]) rfl).trans ?_
  refine (seq_of (r' := E12 S F M ns Cw cs [] true .un .un .un .un) rfl).trans ?_
  exact (seq_of fe).trans (ret_of last)
theorem len1 {α : Type} {l : List α} (h : l.length = 1) : ∃ a0, l = [a0] := List.length_eq_one_iff.mp h
theorem len2 {α : Type} {l : List α} (h : l.length = 2) : ∃ a0 a1, l = [a0, a1] := by
  cases l with
  | nil => cases h
  | cons a0 l => obtain ⟨a1, rfl⟩ := len1 (Nat.succ.inj h); exact ⟨a0, a1, rfl⟩
theorem len3 {α : Type} {l : List α} (h : l.length = 3) : ∃ a0 a1 a2, l = [a0, a1, a2] := by
  cases l with
  | nil => cases h
  | cons a0 l => obtain ⟨a1, a2, rfl⟩ := len2 (Nat.succ.inj h); exact ⟨a0, a1, a2, rfl⟩
theorem len4 {α : Type} {l : List α} (h : l.length = 4) : ∃ a0 a1 a2 a3, l = [a0, a1, a2, a3] := by
  cases l with
  | nil => cases h
  | cons a0 l => obtain ⟨a1, a2, a3, rfl⟩ := len3 (Nat.succ.inj h); exact ⟨a0, a1, a2, a3, rfl⟩
noncomputable def DfOk (K : Fg) (n : Str) (st : Stmt) : Prop := ∃ (f : Addr) (od an : Option Addr) (sl : Array (Option Value)) (oc kV dc pm cd ct : Value), PySem.W.nsIn K mainGlobals n = some (some (.ref f)) ∧ K.lookup f = some ⟨oc, od, .func (PySem.W.fnOf n n (defArgs st) (defBody st) (defScope st) .none kV dc pm an cd ct), sl⟩ ∧ PySem.W.codeIn K cd n = true ∧ PySem.W.keepIn K (.ref f) = true
theorem dfo {K : Fg} {n : Str} {st : Stmt} {f : Addr} {od an : Option Addr} {sl : Array (Option Value)} {oc kV dc pm cd ct : Value} (a : PySem.W.nsIn K mainGlobals n = some (some (.ref f))) (l : K.lookup f = some ⟨oc, od, .func (PySem.W.fnOf n n (defArgs st) (defBody st) (defScope st) .none kV dc pm an cd ct), sl⟩) (c : PySem.W.codeIn K cd n = true) (k : PySem.W.keepIn K (.ref f) = true) : DfOk K n st := ⟨f, od, an, sl, oc, kV, dc, pm, cd, ct, a, l, c, k⟩
theorem deo {K : Fg} {h : Heap} {mg : Str → Option Value} {n : Str} {i : Nat} {ps : List Str} (X : K.In h) (G : h.Ns mainGlobals mg) (D : DfOk K n (top i)) (hb : ∀ {f : Addr} {d : FuncData}, Fun K n n (top i) f d → Binds K d ps []) : Nonempty (De K mg n i ps) := by
  obtain ⟨f, _, _, _, _, _, _, _, _, _, a, l, c, k⟩ := D
  have F := fun_mk (st := top i) l c k
  exact ⟨⟨f, _, F, PySem.W.mg_of X G a, hb F⟩⟩
theorem law_sp {K : Fg} (hm : ∀ ns : List Int, ns.length ≤ 63 → ∃ as, F_law [.v (.lst (ns.map .int))] = some (.v (.bl true), as)) (H : Hp) (a : Addr) (ns : List Int) (hl : ns.length ≤ 63) (hS : SqL K H a (ns.map V.int)) : spD K 1 F_law [.ref a] H (fun v _ => v = .bl true) (fun _ _ _ => False) := by
  have il : ∀ l : List Int, IsL K (fun _ => False) H (l.map D.int) (l.map V.int) := fun l => by
    induction l with
    | nil => exact IsL.nil
    | cons x l ih => exact .cons (by rw [Is.int_iff]) ih
  obtain ⟨as, e⟩ := hm ns hl
  refine ⟨fun _ => False, [.v (.lst (ns.map .int))], _, as, rfl, R.args (ds := [.lst (ns.map .int)]) noF (.cons (by rw [Is.lst_iff]; exact ⟨a, _, rfl, hS.imp (fun z => ⟨id, z⟩) id, il ns⟩) .nil), fun i l => ?_, e, fun v H' _ iv => by rw [Is.bl_iff] at iv; exact iv⟩
  cases i with
  | zero => exact ⟨(fun z => by cases z), (fun z => by cases z)⟩
  | succ i => exact ⟨(fun z => by cases z), (fun z => by cases z)⟩
theorem all_mk {l : PySem.W.OpenLaw} {w : World} {K : Fg} {h : Heap} {mg : Str → Option Value} {fa : Addr} (X : K.In h) (G : h.Ns mainGlobals mg) (hfa : mg "law" = some (.ref fa))
    (D0 : DfOk K "inner" (top 8))
    (D1 : DfOk K "places" (top 7))
    (D2 : DfOk K "all_between" (top 15))
    (D3 : DfOk K "is_name" (top 16))
    (D4 : DfOk K "is_number" (top 17))
    (D5 : DfOk K "read_number" (top 18))
    (D6 : DfOk K "take_word" (top 20))
    (D7 : DfOk K "take_name" (top 21))
    (D8 : DfOk K "read_leaf" (top 23))
    (D9 : DfOk K "take_expression" (top 22))
    (D10 : DfOk K "read_expression" (top 19))
    (D11 : DfOk K "refuse_open_name" (top 30))
    (D12 : DfOk K "scopes_in" (top 31))
    (D13 : DfOk K "refuse_open_names" (top 29))
    (D14 : DfOk K "read_def" (top 28))
    (D15 : DfOk K "read" (top 27))
    (D16 : DfOk K "_law_cell" (top 33))
    (D17 : DfOk K "_law_mixed" (top 34))
    (D18 : DfOk K "_law_names" (top 35))
    (D19 : DfOk K "_law_grown" (top 36))
    (D20 : DfOk K "_law_words" (top 37))
    (D21 : DfOk K "_law_all_known" (top 38))
    (D22 : DfOk K "_law_told" (top 39))
    (D23 : DfOk K "law" (top 40))
    (z_ValueError : PySem.W.nsIn K mainGlobals "ValueError" = some none)
    (z_all : PySem.W.nsIn K mainGlobals "all" = some none)
    (z_int : PySem.W.nsIn K mainGlobals "int" = some none)
    (z_isinstance : PySem.W.nsIn K mainGlobals "isinstance" = some none)
    (z_len : PySem.W.nsIn K mainGlobals "len" = some none)
    (z_list : PySem.W.nsIn K mainGlobals "list" = some none)
    (z_range : PySem.W.nsIn K mainGlobals "range" = some none)
    (z_reversed : PySem.W.nsIn K mainGlobals "reversed" = some none)
    (z_tuple : PySem.W.nsIn K mainGlobals "tuple" = some none)
    {a_FieldError : Addr} (m_FieldError : PySem.W.nsIn K mainGlobals "FieldError" = some (some (.ref a_FieldError)))
    {a_TooMuch : Addr} (m_TooMuch : PySem.W.nsIn K mainGlobals "TooMuch" = some (some (.ref a_TooMuch)))
    {a_NoLine : Addr} (m_NoLine : PySem.W.nsIn K mainGlobals "NoLine" = some (some (.ref a_NoLine)))
    {a_NoName : Addr} (m_NoName : PySem.W.nsIn K mainGlobals "NoName" = some (some (.ref a_NoName)))
    {a_NoKind : Addr} (m_NoKind : PySem.W.nsIn K mainGlobals "NoKind" = some (some (.ref a_NoKind)))
    (y_NoName : errB K a_FieldError a_NoName [.ref a_NoName, .type "ValueError"] [.ref a_TooMuch, .ref a_NoLine, .ref a_NoKind] = true)
    {t_LONGEST_NAME : Tok} (c_LONGEST_NAME : PySem.W.nsIn K mainGlobals "LONGEST_NAME" = some (some (.int 8 t_LONGEST_NAME)))
    {t_MOST_FIGURES : Tok} (c_MOST_FIGURES : PySem.W.nsIn K mainGlobals "MOST_FIGURES" = some (some (.int 6 t_MOST_FIGURES)))
    {t_DEEPEST : Tok} (c_DEEPEST : PySem.W.nsIn K mainGlobals "DEEPEST" = some (some (.int 30 t_DEEPEST)))
    {p_KEPT_WORDS : Addr} {dd_KEPT_WORDS : Option Addr} {it_KEPT_WORDS : Array Value} {n_KEPT_WORDS : Nat} {sl_KEPT_WORDS : Array (Option Value)} (c_KEPT_WORDS : PySem.W.nsIn K mainGlobals "KEPT_WORDS" = some (some (.ref p_KEPT_WORDS))) (l_KEPT_WORDS : K.lookup p_KEPT_WORDS = some ⟨.type "tuple", dd_KEPT_WORDS, .seq it_KEPT_WORDS n_KEPT_WORDS, sl_KEPT_WORDS⟩) (s_KEPT_WORDS : it_KEPT_WORDS.size ≤ sizeLine) (v_KEPT_WORDS : Vals (C_KEPT_WORDS.map fun s => V.str ⟨s.toArray⟩) it_KEPT_WORDS.toList)
    {p_FORMS : Addr} {es_FORMS : Array DictEntry} {n_FORMS : Nat} (c_FORMS : PySem.W.nsIn K mainGlobals "FORMS" = some (some (.ref p_FORMS))) (l_FORMS : K.lookup p_FORMS = some ⟨.type "dict", none, .dict es_FORMS n_FORMS, #[]⟩) (y_FORMS : (p_FORMS == sysModules) = false) (k_FORMS : PySem.W.KeysLit w.params es_FORMS.toList) (e_FORMS : Ents es_FORMS.toList C_FORMS)
    {t_MOST_LINES : Tok} (c_MOST_LINES : PySem.W.nsIn K mainGlobals "MOST_LINES" = some (some (.int 12 t_MOST_LINES)))
    {t_MOST_PLACES : Tok} (c_MOST_PLACES : PySem.W.nsIn K mainGlobals "MOST_PLACES" = some (some (.int 80 t_MOST_PLACES))) :
    ∃ fd : FuncData, (∀ (s : Shared) (v : Value), BindsTo s fd ⟨[v], []⟩ [("_law_script", v)]) ∧ ∀ base : Heap, K.In base → base.Ns mainGlobals mg → FnOk l.prog w K mg base CX0 49 fa fd ["_law_script"] (spD K 1 F_law) := by
  obtain ⟨f23, _, _, _, _, _, _, _, _, _, a23, l23, c23, k23⟩ := D23
  have e := hfa.symm.trans (PySem.W.mg_of X G a23)
  cases e
  have F23 := fun_mk (st := top 40) l23 c23 k23
  have b23 := F23.binds (ps := ["_law_script"]) fun _ _ _ _ _ _ us hl => by obtain ⟨_, rfl⟩ := len1 hl; rfl
  exact ⟨_, fun s v => .of_eq rfl, fun base _ _ => ok_law ⟨Classical.choice (deo (ps := ["expression"]) X G D0 fun F => F.binds (ps := ["expression"]) fun _ _ _ _ _ _ us hl => by obtain ⟨_, rfl⟩ := len1 hl; rfl),
    Classical.choice (deo (ps := ["E"]) X G D1 fun F => F.binds (ps := ["E"]) fun _ _ _ _ _ _ us hl => by obtain ⟨_, rfl⟩ := len1 hl; rfl),
    Classical.choice (deo (ps := ["text", "least", "greatest"]) X G D2 fun F => F.binds (ps := ["text", "least", "greatest"]) fun _ _ _ _ _ _ us hl => by obtain ⟨_, _, _, rfl⟩ := len3 hl; rfl),
    Classical.choice (deo (ps := ["text"]) X G D3 fun F => F.binds (ps := ["text"]) fun _ _ _ _ _ _ us hl => by obtain ⟨_, rfl⟩ := len1 hl; rfl),
    Classical.choice (deo (ps := ["text"]) X G D4 fun F => F.binds (ps := ["text"]) fun _ _ _ _ _ _ us hl => by obtain ⟨_, rfl⟩ := len1 hl; rfl),
    Classical.choice (deo (ps := ["text"]) X G D5 fun F => F.binds (ps := ["text"]) fun _ _ _ _ _ _ us hl => by obtain ⟨_, rfl⟩ := len1 hl; rfl),
    Classical.choice (deo (ps := ["waiting"]) X G D6 fun F => F.binds (ps := ["waiting"]) fun _ _ _ _ _ _ us hl => by obtain ⟨_, rfl⟩ := len1 hl; rfl),
    Classical.choice (deo (ps := ["waiting"]) X G D7 fun F => F.binds (ps := ["waiting"]) fun _ _ _ _ _ _ us hl => by obtain ⟨_, rfl⟩ := len1 hl; rfl),
    Classical.choice (deo (ps := ["word"]) X G D8 fun F => F.binds (ps := ["word"]) fun _ _ _ _ _ _ us hl => by obtain ⟨_, rfl⟩ := len1 hl; rfl),
    Classical.choice (deo (ps := ["waiting", "around"]) X G D9 fun F => F.binds (ps := ["waiting", "around"]) fun _ _ _ _ _ _ us hl => by obtain ⟨_, _, rfl⟩ := len2 hl; rfl),
    Classical.choice (deo (ps := ["text"]) X G D10 fun F => F.binds (ps := ["text"]) fun _ _ _ _ _ _ us hl => by obtain ⟨_, rfl⟩ := len1 hl; rfl),
    Classical.choice (deo (ps := ["expression", "known"]) X G D11 fun F => F.binds (ps := ["expression", "known"]) fun _ _ _ _ _ _ us hl => by obtain ⟨_, _, rfl⟩ := len2 hl; rfl),
    Classical.choice (deo (ps := ["expression", "known"]) X G D12 fun F => F.binds (ps := ["expression", "known"]) fun _ _ _ _ _ _ us hl => by obtain ⟨_, _, rfl⟩ := len2 hl; rfl),
    Classical.choice (deo (ps := ["expression", "known"]) X G D13 fun F => F.binds (ps := ["expression", "known"]) fun _ _ _ _ _ _ us hl => by obtain ⟨_, _, rfl⟩ := len2 hl; rfl),
    Classical.choice (deo (ps := ["line", "above"]) X G D14 fun F => F.binds (ps := ["line", "above"]) fun _ _ _ _ _ _ us hl => by obtain ⟨_, _, rfl⟩ := len2 hl; rfl),
    Classical.choice (deo (ps := ["text"]) X G D15 fun F => F.binds (ps := ["text"]) fun _ _ _ _ _ _ us hl => by obtain ⟨_, rfl⟩ := len1 hl; rfl),
    Classical.choice (deo (ps := ["_law_script", "_law_k"]) X G D16 fun F => F.binds (ps := ["_law_script", "_law_k"]) fun _ _ _ _ _ _ us hl => by obtain ⟨_, _, rfl⟩ := len2 hl; rfl),
    Classical.choice (deo (ps := ["_law_cell_here", "_law_k"]) X G D17 fun F => F.binds (ps := ["_law_cell_here", "_law_k"]) fun _ _ _ _ _ _ us hl => by obtain ⟨_, _, rfl⟩ := len2 hl; rfl),
    Classical.choice (deo (ps := ["_law_cell_here", "_law_many"]) X G D18 fun F => F.binds (ps := ["_law_cell_here", "_law_many"]) fun _ _ _ _ _ _ us hl => by obtain ⟨_, _, rfl⟩ := len2 hl; rfl),
    Classical.choice (deo (ps := ["_law_pile", "_law_cell_here", "_law_k", "_law_names_here"]) X G D19 fun F => F.binds (ps := ["_law_pile", "_law_cell_here", "_law_k", "_law_names_here"]) fun _ _ _ _ _ _ us hl => by obtain ⟨_, _, _, _, rfl⟩ := len4 hl; rfl),
    Classical.choice (deo (ps := ["_law_told_here"]) X G D20 fun F => F.binds (ps := ["_law_told_here"]) fun _ _ _ _ _ _ us hl => by obtain ⟨_, rfl⟩ := len1 hl; rfl),
    Classical.choice (deo (ps := ["_law_told_here", "_law_known"]) X G D21 fun F => F.binds (ps := ["_law_told_here", "_law_known"]) fun _ _ _ _ _ _ us hl => by obtain ⟨_, _, rfl⟩ := len2 hl; rfl),
    Classical.choice (deo (ps := ["_law_text"]) X G D22 fun F => F.binds (ps := ["_law_text"]) fun _ _ _ _ _ _ us hl => by obtain ⟨_, rfl⟩ := len1 hl; rfl),
    ⟨_, _, F23, PySem.W.mg_of X G a23, b23⟩, PySem.W.mg_none_of X G z_ValueError, PySem.W.mg_none_of X G z_all, PySem.W.mg_none_of X G z_int, PySem.W.mg_none_of X G z_isinstance, PySem.W.mg_none_of X G z_len, PySem.W.mg_none_of X G z_list, PySem.W.mg_none_of X G z_range, PySem.W.mg_none_of X G z_reversed, PySem.W.mg_none_of X G z_tuple, a_FieldError, PySem.W.mg_of X G m_FieldError, a_TooMuch, PySem.W.mg_of X G m_TooMuch, a_NoLine, PySem.W.mg_of X G m_NoLine, a_NoName, PySem.W.mg_of X G m_NoName, a_NoKind, PySem.W.mg_of X G m_NoKind, errB_ok y_NoName, ⟨_, PySem.W.mg_of X G c_LONGEST_NAME⟩, ⟨_, PySem.W.mg_of X G c_MOST_FIGURES⟩, ⟨_, PySem.W.mg_of X G c_DEEPEST⟩, ⟨_, _, _, _, PySem.W.mg_of X G c_KEPT_WORDS, l_KEPT_WORDS, rfl, rfl, s_KEPT_WORDS, v_KEPT_WORDS⟩, ⟨_, _, _, PySem.W.mg_of X G c_FORMS, y_FORMS, l_FORMS, k_FORMS, e_FORMS⟩, ⟨_, PySem.W.mg_of X G c_MOST_LINES⟩, ⟨_, PySem.W.mg_of X G c_MOST_PLACES⟩⟩⟩
theorem walk {l : PySem.W.OpenLaw} {q : Program} {loose : List Str} {XP : (Str → Option Value) → Heap → Prop} {YP : World → Heap → Prop} {d : DefRec} {K : Params → Fg} (hm : ∀ ns : List Int, ns.length ≤ 63 → ∃ as, F_law [.v (.lst (ns.map .int))] = some (.v (.bl true), as)) (hn : l.most = some 63) (hdf : d.params.defaults = [])
    (hY : ∀ (w : World) (h : Heap), YP w h → (K w.params).In h)
    (F : ∀ (w : World) (mg : Str → Option Value) (fa : Addr) (h : Heap), (K w.params).In h → h.Ns mainGlobals mg → mg d.name = some (.ref fa) →
      ∃ fd : FuncData, (∀ (s : Shared) (u : Value), BindsTo s fd ⟨[u], []⟩ [("_law_script", u)]) ∧ ∀ base : Heap, (K w.params).In base → base.Ns mainGlobals mg → FnOk l.prog w (K w.params) mg base CX0 49 fa fd ["_law_script"] (spD (K w.params) 1 F_law)) :
    PySem.W.WalkO q loose XP YP l.row.toRowW d [] (fun f vs => PySem.call f vs) :=
  L2.walk_ofK (n := 63) (k := 49) (x := "_law_script") (CX := CX0) (sp := fun K => spD K 1 F_law) hn (by decide) hdf ⟨rfl, by decide, by decide⟩ hY F (fun K H a ns hl _ hS => law_sp hm H a ns hl hS) fun _ _ _ _ z => z
end K07
open PyProof.Rows PySem PySem.W
set_option maxRecDepth 100000 in
set_option maxHeartbeats 0 in
theorem PySem.Challenge.cw_fieldrows_k07_open_names_holds : PySem.Challenge.rw_fieldrows_k07_open_names.Holds := by
  w_on; o_law; k_head; (case hw => w_witness2)
  k_fill
  refine K07.walk (l := PySem.Challenge.rw_fieldrows_k07_open_names) K07.law_math rfl rfl (fun w h Y => PySem.W.kIn_of Y) ?F
  case F =>
    intro w mg fa h KX G hmg
    refine' K07.all_mk KX G hmg (K07.dfo ?a0 ?l0 ?c0 ?k0) (K07.dfo ?a1 ?l1 ?c1 ?k1) (K07.dfo ?a2 ?l2 ?c2 ?k2) (K07.dfo ?a3 ?l3 ?c3 ?k3) (K07.dfo ?a4 ?l4 ?c4 ?k4) (K07.dfo ?a5 ?l5 ?c5 ?k5) (K07.dfo ?a6 ?l6 ?c6 ?k6) (K07.dfo ?a7 ?l7 ?c7 ?k7) (K07.dfo ?a8 ?l8 ?c8 ?k8) (K07.dfo ?a9 ?l9 ?c9 ?k9) (K07.dfo ?a10 ?l10 ?c10 ?k10) (K07.dfo ?a11 ?l11 ?c11 ?k11) (K07.dfo ?a12 ?l12 ?c12 ?k12) (K07.dfo ?a13 ?l13 ?c13 ?k13) (K07.dfo ?a14 ?l14 ?c14 ?k14) (K07.dfo ?a15 ?l15 ?c15 ?k15) (K07.dfo ?a16 ?l16 ?c16 ?k16) (K07.dfo ?a17 ?l17 ?c17 ?k17) (K07.dfo ?a18 ?l18 ?c18 ?k18) (K07.dfo ?a19 ?l19 ?c19 ?k19) (K07.dfo ?a20 ?l20 ?c20 ?k20) (K07.dfo ?a21 ?l21 ?c21 ?k21) (K07.dfo ?a22 ?l22 ?c22 ?k22) (K07.dfo ?a23 ?l23 ?c23 ?k23) ?z_ValueError ?z_all ?z_int ?z_isinstance ?z_len ?z_list ?z_range ?z_reversed ?z_tuple ?m_FieldError ?m_TooMuch ?m_NoLine ?m_NoName ?m_NoKind ?y_NoName ?c_LONGEST_NAME ?c_MOST_FIGURES ?c_DEEPEST ?c_KEPT_WORDS ?l_KEPT_WORDS ?s_KEPT_WORDS ?v_KEPT_WORDS ?c_FORMS ?l_FORMS ?y_FORMS ?k_FORMS ?e_FORMS ?c_MOST_LINES ?c_MOST_PLACES
    (case a0 => k_is)
    (case l0 => k_is)
    (case c0 => k_is)
    (case k0 => k_is)
    (case a1 => k_is)
    (case l1 => k_is)
    (case c1 => k_is)
    (case k1 => k_is)
    (case a2 => k_is)
    (case l2 => k_is)
    (case c2 => k_is)
    (case k2 => k_is)
    (case a3 => k_is)
    (case l3 => k_is)
    (case c3 => k_is)
    (case k3 => k_is)
    (case a4 => k_is)
    (case l4 => k_is)
    (case c4 => k_is)
    (case k4 => k_is)
    (case a5 => k_is)
    (case l5 => k_is)
    (case c5 => k_is)
    (case k5 => k_is)
    (case a6 => k_is)
    (case l6 => k_is)
    (case c6 => k_is)
    (case k6 => k_is)
    (case a7 => k_is)
    (case l7 => k_is)
    (case c7 => k_is)
    (case k7 => k_is)
    (case a8 => k_is)
    (case l8 => k_is)
    (case c8 => k_is)
    (case k8 => k_is)
    (case a9 => k_is)
    (case l9 => k_is)
    (case c9 => k_is)
    (case k9 => k_is)
    (case a10 => k_is)
    (case l10 => k_is)
    (case c10 => k_is)
    (case k10 => k_is)
    (case a11 => k_is)
    (case l11 => k_is)
    (case c11 => k_is)
    (case k11 => k_is)
    (case a12 => k_is)
    (case l12 => k_is)
    (case c12 => k_is)
    (case k12 => k_is)
    (case a13 => k_is)
    (case l13 => k_is)
    (case c13 => k_is)
    (case k13 => k_is)
    (case a14 => k_is)
    (case l14 => k_is)
    (case c14 => k_is)
    (case k14 => k_is)
    (case a15 => k_is)
    (case l15 => k_is)
    (case c15 => k_is)
    (case k15 => k_is)
    (case a16 => k_is)
    (case l16 => k_is)
    (case c16 => k_is)
    (case k16 => k_is)
    (case a17 => k_is)
    (case l17 => k_is)
    (case c17 => k_is)
    (case k17 => k_is)
    (case a18 => k_is)
    (case l18 => k_is)
    (case c18 => k_is)
    (case k18 => k_is)
    (case a19 => k_is)
    (case l19 => k_is)
    (case c19 => k_is)
    (case k19 => k_is)
    (case a20 => k_is)
    (case l20 => k_is)
    (case c20 => k_is)
    (case k20 => k_is)
    (case a21 => k_is)
    (case l21 => k_is)
    (case c21 => k_is)
    (case k21 => k_is)
    (case a22 => k_is)
    (case l22 => k_is)
    (case c22 => k_is)
    (case k22 => k_is)
    (case a23 => k_is)
    (case l23 => k_is)
    (case c23 => k_is)
    (case k23 => k_is)
    (case z_ValueError => k_is)
    (case z_all => k_is)
    (case z_int => k_is)
    (case z_isinstance => k_is)
    (case z_len => k_is)
    (case z_list => k_is)
    (case z_range => k_is)
    (case z_reversed => k_is)
    (case z_tuple => k_is)
    (case m_FieldError => k_is)
    (case m_TooMuch => k_is)
    (case m_NoLine => k_is)
    (case m_NoName => k_is)
    (case m_NoKind => k_is)
    (case y_NoName => kernel_rfl)
    (case c_LONGEST_NAME => k_is)
    (case c_MOST_FIGURES => k_is)
    (case c_DEEPEST => k_is)
    (case c_KEPT_WORDS => k_is)
    (case l_KEPT_WORDS => k_is)
    (case s_KEPT_WORDS => decide)
    (case v_KEPT_WORDS => repeat (first | exact .nil | refine .cons ⟨_, rfl⟩ ?_))
    (case c_FORMS => k_is)
    (case l_FORMS => k_is)
    (case y_FORMS => decide)
    (case k_FORMS => repeat (first | exact trivial | refine ⟨⟨_, _, rfl, rfl⟩, ?_⟩))
    (case e_FORMS => repeat (first | exact rfl | refine ⟨_, _, rfl, ⟨_, _, rfl, rfl⟩, ?_⟩))
    (case c_MOST_LINES => k_is)
    (case c_MOST_PLACES => k_is)
