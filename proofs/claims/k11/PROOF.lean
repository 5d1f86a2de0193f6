import PyProof.Rows.All
import Wide.All
import OpenK.AllK
import Wide.FinOn
import PySem.Challenge.RW_fieldrows_k11_parts_and_numbers
import Lean
set_option Elab.async false
set_option linter.all false
set_option maxRecDepth 100000
set_option maxHeartbeats 4100000
noncomputable abbrev Fg := PySem.W.Frag
namespace L2
open PySem PySem.Spec PyProof.Rows
noncomputable abbrev Key := Sum Int Str
noncomputable def keyIs : Key → Value → Bool
  | .inl k, v => Value.isInt k v
  | .inr x, v => Value.isStrOf x v
noncomputable def keyH (w : World) : Key → Int
  | .inl k => hashInt k
  | .inr x => hashStr w x
theorem keyIs_shape : ∀ {k : Key} {v : Value}, keyIs k v = true → (∃ i t, k = Sum.inl i ∧ v = Value.int i t) ∨ (∃ x t, k = Sum.inr x ∧ v = Value.str x t)
  | .inl i, v, h => by
    obtain ⟨t, e⟩ := Value.isInt_shape (k := i) (v := v) h
    exact .inl ⟨i, t, rfl, e⟩
  | .inr x, v, h => by
    obtain ⟨t, e⟩ := Value.isStrOf_shape (x := x) (v := v) h
    exact .inr ⟨x, t, rfl, e⟩
theorem keyIs_int (i : Int) (t : Tok) : keyIs (.inl i) (.int i t) = true := by simp [keyIs, Value.isInt]
theorem keyIs_str (x : Str) (t : Tok) : keyIs (.inr x) (.str x t) = true := by simp [keyIs, Value.isStrOf]
theorem key_ll (a b : Int) : decide ((Sum.inl a : Key) = Sum.inl b) = (a == b) := by
  by_cases e : a = b
  · subst e; simp
  · have h : ¬ (Sum.inl a : Key) = Sum.inl b := fun q => e (Sum.inl.inj q)
    rw [decide_eq_false h]
    exact (beq_eq_false_iff_ne.mpr e).symm
theorem key_rr (a b : Str) : decide ((Sum.inr a : Key) = Sum.inr b) = decide (a = b) := by
  by_cases e : a = b
  · subst e; simp
  · have h : ¬ (Sum.inr a : Key) = Sum.inr b := fun q => e (Sum.inr.inj q)
    rw [decide_eq_false h, decide_eq_false e]
theorem key_lr (a : Int) (b : Str) : decide ((Sum.inl a : Key) = Sum.inr b) = false := decide_eq_false (fun q => nomatch q)
theorem key_rl (a : Str) (b : Int) : decide ((Sum.inr a : Key) = Sum.inl b) = false := decide_eq_false (fun q => nomatch q)
noncomputable def mixKind (prog : Program) (w : World) : PySem.KeyKind prog w Key where
  is := keyIs
  hash := keyH w
  inj := fun v a b ha hb => by
    rcases keyIs_shape ha with ⟨i, t, rfl, rfl⟩ | ⟨x, t, rfl, rfl⟩
    · rcases keyIs_shape hb with ⟨j, u, rfl, e⟩ | ⟨y, u, rfl, e⟩
      · injection e with e1 _; rw [e1]
      · exact nomatch e
    · rcases keyIs_shape hb with ⟨j, u, rfl, e⟩ | ⟨y, u, rfl, e⟩
      · exact nomatch e
      · injection e with e1 _; rw [e1]
  byValue := fun k v h => by
    rcases keyIs_shape h with ⟨i, t, rfl, rfl⟩ | ⟨x, t, rfl, rfl⟩ <;> rfl
  pyHash := fun hv h => by
    rcases keyIs_shape hv with ⟨i, t, rfl, rfl⟩ | ⟨x, t, rfl, rfl⟩
    · exact wpAny_pyHash_int h
    · exact wpAny_pyHash_str h
  eqBool := fun hu hv h => by
    rcases keyIs_shape hu with ⟨i, t, rfl, rfl⟩ | ⟨x, t, rfl, rfl⟩
    · rcases keyIs_shape hv with ⟨j, u, rfl, rfl⟩ | ⟨y, u, rfl, rfl⟩
      · rw [key_ll] at h; exact wpAny_eqBool_int h
      · rw [key_lr] at h; exact SeqAt.EqAt.int_str i t y u _ _ _ _ h
    · rcases keyIs_shape hv with ⟨j, u, rfl, rfl⟩ | ⟨y, u, rfl, rfl⟩
      · rw [key_rl] at h; exact SeqAt.EqAt.str_int x t j u _ _ _ _ h
      · rw [key_rr] at h; exact wpAny_eqBool_str h
  «strs» := fun k x t v h => by
    rcases keyIs_shape h with ⟨i, u, rfl, e⟩ | ⟨y, u, rfl, e⟩
    · exact nomatch e
    · injection e with e1 _
      subst e1
      cases v <;> rfl
theorem mixKind_int (prog : Program) (w : World) (i : Int) (t : Tok) : (mixKind prog w).is (.inl i) (.int i t) = true := keyIs_int i t
theorem mixKind_str (prog : Program) (w : World) (x : Str) (t : Tok) : (mixKind prog w).is (.inr x) (.str x t) = true := keyIs_str x t
end L2
namespace L2
open PySem PySem.Spec PyProof.Rows
inductive V where
  | non | bl (b : Bool) | int (i : Int) | str (x : Str) | byt (b : Array UInt8) | flt (b : UInt64) | ref (a : Addr) | ty (n : String)
  deriving DecidableEq
noncomputable def RelV : V → Value → Prop
  | .non, u => u = Value.none
  | .bl b, u => u = Value.bool b
  | .int i, u => ∃ t, u = Value.int i t
  | .str x, u => ∃ t, u = Value.str x t
  | .byt b, u => ∃ t, u = Value.bytes b t
  | .flt b, u => ∃ t, u = Value.float b t
  | .ref a, u => u = Value.ref a
  | .ty n, u => u = Value.type n
noncomputable abbrev Vals : List V → List Value → Prop := Paired RelV
theorem Vals.length {xs : List V} {us : List Value} (r : Vals xs us) : xs.length = us.length := Paired.length r
theorem Vals.get : ∀ {xs : List V} {us : List Value} {i : Nat} {x : V}, Vals xs us → xs[i]? = some x → ∃ u, us[i]? = some u ∧ RelV x u
  | _, _, _, _, .nil, e => by simp at e
  | _, _, 0, _, .cons r _, e => by simp at e; subst e; exact ⟨_, rfl, r⟩
  | _, _, i + 1, x, .cons _ t, e => by
    obtain ⟨u, h1, h2⟩ := Vals.get (i := i) (x := x) t (by simpa using e)
    exact ⟨u, by simpa using h1, h2⟩
theorem Vals.append : ∀ {xs ys : List V} {us ws : List Value}, Vals xs us → Vals ys ws → Vals (xs ++ ys) (us ++ ws)
  | _, _, _, _, .nil, s => s
  | _, _, _, _, .cons r t, s => .cons r (Vals.append t s)
theorem Vals.take : ∀ {xs : List V} {us : List Value} (n : Nat), Vals xs us → Vals (xs.take n) (us.take n)
  | _, _, 0, _ => .nil
  | _, _, _ + 1, .nil => .nil
  | _, _, n + 1, .cons r t => .cons r (Vals.take n t)
theorem Vals.drop : ∀ {xs : List V} {us : List Value} (n : Nat), Vals xs us → Vals (xs.drop n) (us.drop n)
  | _, _, 0, r => r
  | _, _, _ + 1, .nil => .nil
  | _, _, n + 1, .cons _ t => Vals.drop n t
noncomputable def RelO : Option V → Option Value → Prop
  | some v, some u => RelV v u
  | none, none => True
  | _, _ => False
noncomputable def KV {κ : Type} : List (κ × V) → List (κ × Value) → Prop := Paired fun (p : κ × V) (q : κ × Value) => p.1 = q.1 ∧ RelV p.2 q.2
noncomputable def kV : Key → V
  | .inl i => .int i
  | .inr x => .str x
inductive HO where
  | lst (xs : List V)
  | tup (xs : List V)
  | dK (kvs : List (Key × V)) | dT (kvs : List (List Key × V))
  | set (S : Int → Bool) (n : Nat)
  | ins (C dx : Addr) (fs : List (Str × V))
  | own (x : Addr)
  | xd (fs : List (Str × V))
  | met (f x : Addr)
  | rng (lo hi : Int)
  | frz (o : Obj) (u : HO)
  | tbl (ps : Array Value)
  | ext (φ : Heap → Prop)
noncomputable abbrev Hp := Addr → Option HO
noncomputable def upd (H : Hp) (a : Addr) (o : HO) : Hp := fun b => if b = a then some o else H b
theorem upd_same {H : Hp} {a : Addr} {o : HO} : upd H a o a = some o := by unfold upd; rw [if_pos rfl]
theorem upd_ne {H : Hp} {a b : Addr} {o : HO} (h : b ≠ a) : upd H a o b = H b := by unfold upd; rw [if_neg h]
theorem ne_of {H : Hp} {a b : Addr} {o u : HO} (h : H a = some o) (h' : H b = some u) (d : o ≠ u) : a ≠ b := by
  intro e; subst e; rw [h] at h'; exact d (Option.some.inj h')
theorem ne_of_none {H : Hp} {a b : Addr} {o : HO} (h : H a = some o) (h' : H b = none) : a ≠ b := by
  intro e; subst e; rw [h] at h'; cases h'
noncomputable def qOf (ps : Array Value) : Str := match (ps[0]? : Option Value) with
  | some (.str q _) => q
  | _ => ""
noncomputable def IsCd (q : Str) (o : Obj) : Prop := ∃ vs t, o.data = .fields vs ∧ vs[1]? = some (.str q t)
noncomputable def TabOk (H : Hp) (h : Heap) (a : Addr) (q : Str) : Prop := ∃ ts : Array Value, h.get? a = some (PySem.W.tabObj ts) ∧ TriplesOk ts.toList ∧ ∀ pos cv, codeAmong pos ts.toList = some cv → ∃ c oc u, cv = .ref c ∧ H c = some (.frz oc u) ∧ IsCd q oc
section
variable (P : Program) (w : World)
noncomputable def ObjOk (H : Hp) (h : Heap) (a : Addr) : HO → Prop
  | .lst xs => xs.length ≤ sizeLine ∧ ∃ (its : List Value) (n : Nat), Vals xs its ∧ h.get? a = some { cls := .type "list", data := .seq its.toArray n }
  | .tup xs => xs.length ≤ sizeLine ∧ ∃ its : List Value, Vals xs its ∧ IsTup h a its.toArray
  | .dK kvs => kvs.length ≤ sizeLine ∧ (a == sysModules) = false ∧ ∃ vs, KV kvs vs ∧ h.DictOf (mixKind P w) a vs
  | .dT kvs => kvs.length ≤ sizeLine ∧ (a == sysModules) = false ∧ ∃ xs : List (List Key × Addr × Value),
      Paired (fun (p : List Key × V) (q : List Key × Addr × Value) => p.1 = q.1 ∧ H q.2.1 = some (.tup (p.1.map kV)) ∧ RelV p.2 q.2.2) kvs xs ∧
      ∃ o es ep, h.get? a = some o ∧ o.ExactDict ∧ o.data = .dict es ep ∧ es.toList = xs.map (entryOfKey (tupleKind (mixKind P w))) ∧ (xs.map (·.1)).Nodup
  | .set S n => h.SetOf (intKind P w) a S n
  | .ins C dx fs => H dx = some (.own a) ∧ fs.length ≤ 1000 ∧ dx ≠ a ∧ h.get? a = some (PySem.W.instObj C dx) ∧
      ∃ mA, h.Ns1 dx mA ∧ (∀ f, RelO (fs.lookup f) (mA f)) ∧ PySem.Within mA (fs.map (·.1))
  | .own _ => ∃ o, h.get? a = some o
  | .xd fs => ∃ mA, h.Ns1 a mA ∧ ∀ f, RelO (fs.lookup f) (mA f)
  | .rng lo hi => ∃ t u v, h.get? a = some { cls := .type "range", data := .fields #[.int lo t, .int hi u, .int 1 v] }
  | .frz o u => h.get? a = some o ∧ ObjOk H h a u
  | .tbl ps => TabOk H h a (qOf ps)
  | .met f x => h.get? a = some (PySem.W.methodObj (.ref f) (.ref x))
  | .ext φ => φ h ∧ (∃ o, h.get? a = some o) ∧ ∀ h1 h2 : Heap, φ h1 → (∀ o, h1.get? a = some o → h2.get? a = some o) → φ h2
noncomputable def HOk (H : Hp) (h : Heap) : Prop := ∀ a o, H a = some o → ObjOk P w H h a o
end
section
variable {P : Program} {w : World} {H H' : Hp} {h h' : Heap} {a : Addr} {o : HO}
theorem ObjOk.lt (x : ObjOk P w H h a o) : a < h.objs.size := by
  cases o with
  | lst xs => obtain ⟨_, _, _, _, e⟩ := x; exact Heap.lt_size e
  | tup xs => obtain ⟨_, _, _, p⟩ := x; exact p.lt
  | dK kvs => obtain ⟨_, _, _, _, o, _, _, e, _⟩ := x; exact Heap.lt_size e
  | dT kvs => obtain ⟨_, _, _, _, o, _, _, e, _⟩ := x; exact Heap.lt_size e
  | set S n => obtain ⟨o, _, _, _, e, _⟩ := x; exact Heap.lt_size e
  | ins C dx fs => obtain ⟨_, _, _, e, _⟩ := x; exact Heap.lt_size e
  | own y => obtain ⟨_, e⟩ := x; exact Heap.lt_size e
  | xd fs => obtain ⟨_, ⟨_, _, _, e, _⟩, _⟩ := x; exact Heap.lt_size e
  | rng lo hi => obtain ⟨_, _, _, e⟩ := x; exact Heap.lt_size e
  | frz ob u => obtain ⟨e, _⟩ := x; exact Heap.lt_size e
  | tbl ps => obtain ⟨_, e, _⟩ := x; exact Heap.lt_size e
  | met f y => exact Heap.lt_size (show h.get? a = some _ from x)
  | ext φ => obtain ⟨_, ⟨_, e⟩, _⟩ := x; exact Heap.lt_size e
theorem Paired.mapP {α β : Type} {F G : α → β → Prop} : ∀ {l₁ : List α} {l₂ : List β}, Paired F l₁ l₂ → (∀ a b, F a b → G a b) → Paired G l₁ l₂
  | _, _, .nil, _ => .nil
  | _, _, .cons r t, f => .cons (f _ _ r) (Paired.mapP t f)
theorem ObjOk.stay (x : ObjOk P w H h a o) (k : ∀ b u, (b = a ∨ H b = some (.own a)) → h.get? b = some u → h'.get? b = some u)
    (ho : ∀ b, H b = some (.own a) → H' b = some (.own a)) (ht : ∀ b xs, H b = some (.tup xs) → H' b = some (.tup xs)) (hf : ∀ b o u, H b = some (.frz o u) → H' b = some (.frz o u)) : ObjOk P w H' h' a o := by
  induction o with
  | lst xs => obtain ⟨z, its, n, r, e⟩ := x; exact ⟨z, its, n, r, k _ _ (.inl rfl) e⟩
  | tup xs => obtain ⟨z, its, r, ob, e, c⟩ := x; exact ⟨z, its, r, ob, k _ _ (.inl rfl) e, c⟩
  | dK kvs => obtain ⟨z, y, vs, r, ob, es, ep, e, c⟩ := x; exact ⟨z, y, vs, r, ob, es, ep, k _ _ (.inl rfl) e, c⟩
  | dT kvs =>
    obtain ⟨z, y, xs, r, ob, es, ep, e, c⟩ := x
    exact ⟨z, y, xs, Paired.mapP r fun p q z => ⟨z.1, ht _ _ z.2.1, z.2.2⟩, ob, es, ep, k _ _ (.inl rfl) e, c⟩
  | set S n => obtain ⟨ob, es, ep, t, e, c⟩ := x; exact ⟨ob, es, ep, t, k _ _ (.inl rfl) e, c⟩
  | ins C dx fs =>
    obtain ⟨d, z, ne, e, mA, ⟨od, es, ep, e2, c⟩, r⟩ := x
    exact ⟨ho _ d, z, ne, k _ _ (.inl rfl) e, mA, ⟨od, es, ep, k _ _ (.inr d) e2, c⟩, r⟩
  | own y => obtain ⟨ob, e⟩ := x; exact ⟨ob, k _ _ (.inl rfl) e⟩
  | xd fs => obtain ⟨mA, ⟨od, es, ep, e, c⟩, r⟩ := x; exact ⟨mA, ⟨od, es, ep, k _ _ (.inl rfl) e, c⟩, r⟩
  | rng lo hi => obtain ⟨t, u, v, e⟩ := x; exact ⟨t, u, v, k _ _ (.inl rfl) e⟩
  | frz ob u ih => obtain ⟨e, q⟩ := x; exact ⟨k _ _ (.inl rfl) e, ih q⟩
  | tbl ps => obtain ⟨ts, e, z, r⟩ := x; exact ⟨ts, k _ _ (.inl rfl) e, z, fun p v q => let ⟨c, oc, u, e1, e2, e3⟩ := r p v q; ⟨c, oc, u, e1, hf _ _ _ e2, e3⟩⟩
  | met f y =>
    have e : h.get? a = some (PySem.W.methodObj (.ref f) (.ref y)) := x
    show h'.get? a = some (PySem.W.methodObj (.ref f) (.ref y))
    exact k a _ (.inl rfl) e
  | ext φ => obtain ⟨p, ⟨o, e⟩, st⟩ := x; exact ⟨st _ _ p fun o q => k _ _ (.inl rfl) q, ⟨o, k _ _ (.inl rfl) e⟩, st⟩
theorem HOk.lt (x : HOk P w H h) (e : H a = some o) : a < h.objs.size := (x a o e).lt
theorem HOk.fresh (x : HOk P w H h) (e : h.objs.size ≤ a) : H a = none := by
  cases q : H a with
  | none => rfl
  | some u => exact absurd (Nat.lt_of_lt_of_le (x.lt q) e) (Nat.lt_irrefl _)
theorem HOk.kept (x : HOk P w H h) (k : ∀ b u, h.get? b = some u → h'.get? b = some u) : HOk P w H h' := fun a o e =>
  (x a o e).stay (fun b u _ q => k b u q) (fun _ q => q) (fun _ _ q => q) fun _ _ _ q => q
theorem HOk.laid (x : HOk P w H h) (k : ∀ b u, h.get? b = some u → h'.get? b = some u) (hp : h.objs.size ≤ a) (new : ObjOk P w (upd H a o) h' a o) : HOk P w (upd H a o) h' := fun b u e => by
  have hn := x.fresh hp
  by_cases hb : b = a
  · subst hb; rw [upd_same] at e; cases e; exact new
  · rw [upd_ne hb] at e
    exact (x b u e).stay (fun c v _ q => k c v q) (fun c q => by rw [upd_ne (ne_of_none q hn)]; exact q) (fun c xs q => by rw [upd_ne (ne_of_none q hn)]; exact q) fun c o u q => by rw [upd_ne (ne_of_none q hn)]; exact q
end
noncomputable def Rd (H : Hp) (a : Addr) (u : HO) : Prop := H a = some u ∨ ∃ o, H a = some (.frz o u)
theorem Rd.ok {P : Program} {w : World} {H : Hp} {h : Heap} {a : Addr} {u : HO} (r : Rd H a u) (x : HOk P w H h) : ObjOk P w H h a u := by
  rcases r with r | ⟨o, r⟩
  · exact x a u r
  · obtain ⟨_, q⟩ := x a _ r
    exact q
noncomputable def Mut : Option HO → Prop
  | some (.lst _) => True
  | some (.dK _) => True
  | some (.dT _) => True
  | some (.set _ _) => True
  | some (.ins _ _ _) => True
  | some (.ext _) => True
  | _ => False
section
variable {P : Program} {w : World} {H : Hp} {h h' : Heap} {x e : Addr} {o' : HO}
theorem HOk.write (ok : HOk P w H h) (mu : Mut (H x)) (he : e = x ∨ H e = some (.own x)) (k : ∀ b u, b ≠ e → h.get? b = some u → h'.get? b = some u) (heo : ∃ u, h'.get? e = some u)
    (new : ObjOk P w (upd H x o') h' x o') : HOk P w (upd H x o') h' := fun b u q => by
  have nown : ∀ c y, H c = some (.own y) → c ≠ x := fun c y r z => by subst z; rw [r] at mu; exact mu
  have ntup : ∀ c xs, H c = some (.tup xs) → c ≠ x := fun c xs r z => by subst z; rw [r] at mu; exact mu
  by_cases hb : b = x
  · subst hb; rw [upd_same] at q; cases q; exact new
  · rw [upd_ne hb] at q
    by_cases hbe : b = e
    · have q' : H b = some (.own x) := by
        rcases he with z | z
        · exact absurd (hbe.trans z) hb
        · rw [hbe]; exact z
      rw [q] at q'; cases q'
      obtain ⟨v, hv⟩ := heo
      exact ⟨v, by rw [hbe]; exact hv⟩
    · refine (ok b u q).stay (fun c v hc r => k c v ?_ r) (fun c r => by rw [upd_ne (nown c b r)]; exact r) (fun c xs r => by rw [upd_ne (ntup c xs r)]; exact r) fun c o u r => by rw [upd_ne (fun z => by subst z; rw [r] at mu; exact mu)]; exact r
      rcases hc with rfl | hc
      · exact hbe
      · rintro rfl
        rcases he with z | z
        · exact nown c b hc z
        · rw [hc] at z; cases z; exact hb rfl
end
structure Un (fs ex : List Addr) (H H' : Hp) (h h' : Heap) : Prop where
  keep : ∀ b o, h.get? b = some o → H b = none → b ∉ fs → b ∉ ex → h'.get? b = some o
  slot : ∀ b o, h.get? b = some o → H b = none → b ∈ fs → b ∉ ex → ∃ sl, h'.get? b = some { o with slots := sl }
  free : ∀ b o, h.get? b = some o → H b = none → b ∉ ex → H' b = none
  there : ∀ b o, h.get? b = some o → b ∉ ex → ∃ o', h'.get? b = some o'
  tups : ∀ b xs, H b = some (.tup xs) → H' b = some (.tup xs)
  frzs : ∀ b o u, H b = some (.frz o u) → H' b = some (.frz o u)
  tbls : ∀ b ps, H b = some (.tbl ps) → ∃ more, H' b = some (.tbl (ps ++ more))
section
variable {fs fs' ex ex' : List Addr} {H H1 H2 : Hp} {h h1 h2 h' : Heap} {a x e : Addr} {o : HO}
theorem Un.any (u : Un fs ex H H1 h h1) {b : Addr} {ob : Obj} (q : h.get? b = some ob) (n : H b = none) (hx : b ∉ ex) : ∃ sl, h1.get? b = some { ob with slots := sl } := by
  by_cases hb : b ∈ fs
  · exact u.slot b ob q n hb hx
  · exact ⟨ob.slots, u.keep b ob q n hb hx⟩
theorem Un.kept (k : ∀ b u, h.get? b = some u → h'.get? b = some u) : Un fs ex H H h h' :=
  ⟨fun b ob q _ _ _ => k b ob q, fun b ob q _ _ _ => ⟨ob.slots, k b ob q⟩, fun _ _ _ n _ => n, fun b ob q _ => ⟨ob, k b ob q⟩, fun _ _ q => q, fun _ _ _ q => q, fun _ ps q => ⟨#[], by rw [q]; simp⟩⟩
theorem Un.refl : Un fs ex H H h h := Un.kept fun _ _ q => q
theorem Un.laid (k : ∀ b u, h.get? b = some u → h'.get? b = some u) (hp : h.objs.size ≤ a) (hn : H a = none) : Un fs ex H (upd H a o) h h' where
  keep := fun b u q _ _ _ => k b u q
  slot := fun b u q _ _ _ => ⟨u.slots, k b u q⟩
  free := fun b u q n _ => by rw [upd_ne (Nat.ne_of_lt (Nat.lt_of_lt_of_le (Heap.lt_size q) hp))]; exact n
  there := fun b u q _ => ⟨u, k b u q⟩
  tups := fun b xs q => by rw [upd_ne (ne_of_none q hn)]; exact q
  frzs := fun b u xs q => by rw [upd_ne (ne_of_none q hn)]; exact q
  tbls := fun b ps q => ⟨#[], by rw [upd_ne (ne_of_none q hn), q]; simp⟩
theorem Un.write (mu : Mut (H x)) (he : e = x ∨ H e = some (.own x)) (k : ∀ b u, b ≠ e → h.get? b = some u → h'.get? b = some u) (heo : ∃ u, h'.get? e = some u) : Un fs ex H (upd H x o) h h' := by
  have hx : ∀ b, H b = none → b ≠ x := fun b n z => by subst z; rw [n] at mu; exact mu
  have hb : ∀ b, H b = none → b ≠ e := fun b n z => by
    subst z
    rcases he with r | r
    · exact hx b n r
    · rw [n] at r; cases r
  have hm : ∀ b u, H b = some u → ¬ Mut (some u) → b ≠ x := fun b u q nm z => by subst z; rw [q] at mu; exact nm mu
  refine ⟨fun b u q n _ _ => k b u (hb b n) q, fun b u q n _ _ => ⟨u.slots, k b u (hb b n) q⟩, fun b u q n _ => by rw [upd_ne (hx b n)]; exact n, fun b u q _ => ?_,
    fun b xs q => by rw [upd_ne (hm b _ q fun z => z)]; exact q, fun b u xs q => by rw [upd_ne (hm b _ q fun z => z)]; exact q, fun b ps q => ⟨#[], by rw [upd_ne (hm b _ q fun z => z), q]; simp⟩⟩
  by_cases hbe : b = e
  · subst hbe; exact heo
  · exact ⟨u, k b u hbe q⟩
end
noncomputable def trk (h : Heap) (H : Hp) : List Addr := (List.range h.objs.size).filter fun a => (H a).isSome
noncomputable def hidT (h : Heap) (H : Hp) : Heap := PySem.W.hideAll h (trk h H)
theorem hidT_size (h : Heap) (H : Hp) : (hidT h H).objs.size = h.objs.size := PySem.W.hideAll_size _ _
theorem hidT_get {h : Heap} {H : Hp} {b : Addr} {o : Obj} (e : h.get? b = some o) (n : H b = none) : (hidT h H).get? b = some o :=
  PySem.W.hideAll_get _ e fun hm => by
    have q : (H b).isSome = true := (List.mem_filter.mp hm).2
    rw [n] at q; simp at q
theorem of_hidT {h : Heap} {H : Hp} {b : Addr} {o : Obj} (e : (hidT h H).get? b = some o) : h.get? b = some o ∧ H b = none := by
  have e' : h.get? b = some o := PySem.W.of_hideAll (trk h H) e
  refine ⟨e', ?_⟩
  cases q : H b with
  | none => rfl
  | some x =>
    have hm : b ∈ trk h H := List.mem_filter.mpr ⟨List.mem_range.mpr (Heap.lt_size e'), by simp [q]⟩
    have z : (hidT h H).get? b = none := PySem.W.hideAll_none (trk h H) hm
    rw [z] at e; cases e
end L2
namespace L2
open PySem PySem.Spec PyProof.Rows
structure Mod (K : Fg) (mg : Str → Option Value) (base : Heap) : Prop where
  kin : K.In base
  glob : base.Ns mainGlobals mg
  blt : ∃ mb, base.Ns builtinsNs mb ∧ ∀ x : Str, x ≠ "__name__" → mb x = bootBuiltins x
  nolimit : base.NoLimit
  bm : ∃ bm ob, mg "__builtins__" = some (.ref bm) ∧ bm ≠ builtinsNs ∧ base.get? bm = some ob ∧ ob.cls = .type "module" ∧ ob.dict = some builtinsNs ∧ ob.data = .plain
structure Cx where
  prog : Program
  w : World
  K : Fg
  mg : Str → Option Value
  base : Heap
  A : Around
  N : List Str
  s₀ : Shared
  H₀ : Hp
  env : Env
  outer : List Env
  stack : List Env
  ex : List Addr
  fn : Str → Bool
  calm : Bool
  pn : List (Addr × Obj)
  xe : Value → Shared → Prop
noncomputable def frs (l : List Env) : List Addr := l.filterMap (·.frame)
noncomputable abbrev Cx.fs (X : Cx) : List Addr := frs X.outer
noncomputable def Vis (sc : Scope) (x : Str) : Prop := sc.names.lookup x = some .local ∨ sc.names.lookup x = some .cell ∨ sc.names.lookup x = some .free
noncomputable def Loc (sc : Scope) (x : Str) : Prop := sc.names.lookup x = some .local ∨ sc.names.lookup x = some .cell
noncomputable def Look (env : Env) (h : Heap) (m : Str → Option Value) (x : Str) (u : Value) : Prop :=
  (env.kindOf x = some .local ∧ m x = some u) ∨ ((env.kindOf x = some .cell ∨ env.kindOf x = some .free) ∧ ∃ c, env.cells.lookup x = some c ∧ h.IsCell c (some u))
noncomputable def TabIn (K : Fg) (H : Hp) : Prop := ∀ f o fd c P, PySem.W.nsIn K mainGlobals "_law_of_fields" = some (some (.ref f)) → K.lookup f = some o → o.data = .func fd → fd.code = .ref c → PySem.W.codeHdIn K c P = true → ∃ more, H P = some (.tbl (#[.str "_law_of_fields.<locals>.<lambda>" 0] ++ more))
structure FrF (K : Fg) (l : List Env) (H : Hp) : Prop where
  fr : ∀ b ∈ frs l, H b = none
  tb : TabIn K H
structure Cx.Ok (X : Cx) : Prop where
  mod : Mod X.K X.mg X.base
  kind : X.env.scope.kind = .function
  glob : X.env.globals = mainGlobals
  blt : X.env.builtins = builtinsNs
  above : X.s₀.heap.objs.size ≤ X.env.locals
  inj : ∀ x y c, X.env.cells.lookup x = some c → X.env.cells.lookup y = some c → x = y
  has : ∀ x, (X.env.kindOf x = some .cell ∨ X.env.kindOf x = some .free) → ∃ c, X.env.cells.lookup x = some c
  cab : ∀ x c, X.fn x = true → X.env.cells.lookup x = some c → X.s₀.heap.objs.size ≤ c
  hd : X.calm = true → X.A.handled = none
  frames : X.A.frames = some X.stack
  stk : X.stack = X.outer ∨ (X.stack = X.env :: X.outer ∧ X.env.frame = some X.env.locals)
  exf : ∀ b ∈ X.ex, b ≠ X.env.locals ∧ ∀ x c, X.env.cells.lookup x = some c → c ≠ b
  bs : ∀ b o, X.base.get? b = some o → X.s₀.heap.get? b = some o ∧ X.H₀ b = none
  bsz : X.base.objs.size ≤ X.s₀.heap.objs.size
  noex : ∀ b o, X.base.get? b = some o → b ∉ X.ex
  exfs : ∀ b ∈ X.ex, b ∉ X.fs
  funs : X.s₀.heap.FunFrames X.base X.outer
  frf : FrF X.K X.outer X.H₀
structure Inv (X : Cx) (pins : List (Addr × Obj)) (σ : List (Option V)) (H : Hp) (s : Shared) : Prop where
  ok : X.Ok
  os : s.os = X.s₀.os
  bare : AllBare s.gens
  base : Un X.fs X.ex X.H₀ H X.s₀.heap s.heap
  loc : ∃ m, s.heap.Ns X.env.locals m ∧ ∀ (i : Nat) (x : Str) (v : V), X.N[i]? = some x → σ[i]? = some (some v) → Vis X.env.scope x → ∃ u, RelV v u ∧ Look X.env s.heap m x u
  cell : ∀ x c, X.env.cells.lookup x = some c → ∃ v, s.heap.IsCell c v
  free : H X.env.locals = none
  freeC : ∀ x c, X.env.cells.lookup x = some c → H c = none
  pin : ∀ p ∈ X.pn ++ pins, s.heap.get? p.1 = some p.2 ∧ H p.1 = none ∧ p.1 ≠ X.env.locals ∧ p.1 ∉ X.fs ∧ ∀ v, p.2.data ≠ .cell v
  hok : HOk X.prog X.w H s.heap
  len : σ.length = X.N.length
section
variable {X : Cx} {pins : List (Addr × Obj)} {σ : List (Option V)} {H H' : Hp} {s : Shared} {h' : Heap}
theorem Cx.Ok.nofr (ok : X.Ok) {b : Addr} {o : Obj} (e : X.base.get? b = some o) : b ∉ X.fs := fun hb => by
  have := (ok.funs.mem hb).1
  rw [e] at this; cases this
theorem Inv.bs (I : Inv X pins σ H s) : ∀ b o, X.base.get? b = some o → s.heap.get? b = some o ∧ H b = none := fun b o e =>
  ⟨I.base.keep b o (I.ok.bs b o e).1 (I.ok.bs b o e).2 (I.ok.nofr e) (I.ok.noex b o e), I.base.free b o (I.ok.bs b o e).1 (I.ok.bs b o e).2 (I.ok.noex b o e)⟩
theorem Inv.bk (I : Inv X pins σ H s) : ∀ b o, X.base.get? b = some o → s.heap.get? b = some o := fun b o e => (I.bs b o e).1
theorem Inv.mod (I : Inv X pins σ H s) : Mod X.K X.mg X.base := I.ok.mod
theorem Inv.kIn (I : Inv X pins σ H s) : X.K.In s.heap := I.ok.mod.kin.keeps I.bk
theorem Inv.lt (I : Inv X pins σ H s) : X.env.locals < s.heap.objs.size := let ⟨_, hn, _⟩ := I.loc; hn.lt
theorem Inv.sz (I : Inv X pins σ H s) : X.s₀.heap.objs.size ≤ s.heap.objs.size := Nat.le_trans I.ok.above (Nat.le_of_lt I.lt)
theorem Inv.nofs (I : Inv X pins σ H s) {a : Addr} (h : s.heap.objs.size ≤ a) : a ∉ X.fs := fun hb => by
  obtain ⟨_, o, ho, _⟩ := I.ok.funs.mem hb
  exact absurd (Nat.lt_of_lt_of_le (Heap.lt_size ho) (Nat.le_trans I.sz h)) (Nat.lt_irrefl _)
theorem Inv.cne (I : Inv X pins σ H s) : ∀ x c, X.env.cells.lookup x = some c → c ≠ X.env.locals := fun x c e z => by
  obtain ⟨v, o, ho, hd⟩ := I.cell x c e
  obtain ⟨m, ⟨o', es, ep, ho', hd', _⟩, _⟩ := I.loc
  rw [z, ho'] at ho; cases ho; rw [hd'] at hd; cases hd
theorem Inv.funs (I : Inv X pins σ H s) : s.heap.FunFrames X.base X.outer := by
  have all : ∀ (l : List Env), (∀ b ∈ frs l, b ∈ X.fs) → X.s₀.heap.FunFrames X.base l → s.heap.FunFrames X.base l := by
    intro l
    induction l with
    | nil => intro _ _; trivial
    | cons env r ih =>
      intro hs hl
      obtain ⟨hk, ⟨L, o, hf, hn, ho, hd⟩, hr⟩ := hl
      have hL : L ∈ X.fs := hs L (by unfold frs; rw [List.filterMap_cons, hf]; exact List.mem_cons_self)
      obtain ⟨sl, e⟩ := I.base.slot L o ho (I.ok.frf.fr L hL) hL fun z => I.ok.exfs L z hL
      exact ⟨hk, ⟨L, _, hf, hn, e, hd⟩, ih (fun b hb => hs b (by unfold frs; rw [List.filterMap_cons, hf]; exact List.mem_cons_of_mem _ hb)) hr⟩
  exact all X.outer (fun _ hb => hb) I.ok.funs
theorem Inv.stack (I : Inv X pins σ H s) : s.heap.FunFrames X.base X.stack := by
  rcases I.ok.stk with e | ⟨e, hf⟩
  · rw [e]; exact I.funs
  · rw [e]
    obtain ⟨m, hn, _⟩ := I.loc
    refine .cons (by rw [I.ok.kind]; decide) hf hn ?_ I.funs
    exact Heap.get?_none_of_le (Nat.le_trans I.ok.bsz I.ok.above)
theorem Inv.stkSub (I : Inv X pins σ H s) : ∀ b ∈ frs X.stack, b ∈ X.env.locals :: X.fs := fun b hb => by
  rcases I.ok.stk with e | ⟨e, hf⟩
  · rw [e] at hb; exact List.mem_cons_of_mem _ hb
  · rw [e] at hb
    unfold frs at hb
    rw [List.filterMap_cons, hf] at hb
    exact hb
theorem Inv.stkFree (I : Inv X pins σ H s) : ∀ b ∈ frs X.stack, H b = none := fun b hb => by
  rcases List.mem_cons.mp (I.stkSub b hb) with e | hb
  · rw [e]; exact I.free
  · obtain ⟨_, o, ho, _⟩ := I.ok.funs.mem hb
    exact I.base.free b o ho (I.ok.frf.fr b hb) fun z => I.ok.exfs b z hb
theorem Inv.tabIn (I : Inv X pins σ H s) : TabIn X.K H :=
  fun f o fd c P a b d e g => by
  obtain ⟨m, q⟩ := I.ok.frf.tb f o fd c P a b d e g
  obtain ⟨m2, q2⟩ := I.base.tbls P _ q
  exact ⟨m ++ m2, by rw [q2, Array.append_assoc]⟩
theorem Inv.step {g' : Array GenState} {t' : Nat} {d' : Drawn} {ch : List Addr} (I : Inv X pins σ H s)
    (hch : ∀ b ∈ ch, (b ∈ X.ex ∨ X.s₀.heap.objs.size ≤ b) ∧ b ≠ X.env.locals ∧ (∀ x c, X.env.cells.lookup x = some c → c ≠ b) ∧ ∀ p ∈ X.pn ++ pins, p.1 ≠ b)
    (keep : ∀ b o, b ≠ X.env.locals → b ∉ X.fs → b ∉ ch → s.heap.get? b = some o → H b = none → h'.get? b = some o)
    (slot : ∀ b o, b ≠ X.env.locals → b ∈ X.fs → b ∉ ch → s.heap.get? b = some o → H b = none → ∃ sl, h'.get? b = some { o with slots := sl }) (free : ∀ b o, b ∉ ch → s.heap.get? b = some o → H b = none → H' b = none)
    (there : ∀ b o, b ∉ ch → s.heap.get? b = some o → ∃ o', h'.get? b = some o')
    (tups : ∀ b xs, H b = some (.tup xs) → H' b = some (.tup xs)) (frzs : ∀ b o u, H b = some (.frz o u) → H' b = some (.frz o u)) (tbls : ∀ b ps, H b = some (.tbl ps) → ∃ more, H' b = some (.tbl (ps ++ more)))
    (ns : ∀ m, s.heap.Ns X.env.locals m → h'.Ns X.env.locals m) (hok : HOk X.prog X.w H' h') (hg : AllBare g') :
    Inv X pins σ H' { s with heap := h', gens := g', drawn := d', toks := t' } := by
  have neL : ∀ b o, X.s₀.heap.get? b = some o → b ≠ X.env.locals := fun b o e => Nat.ne_of_lt (Nat.lt_of_lt_of_le (Heap.lt_size e) I.ok.above)
  have neC : ∀ b o, X.s₀.heap.get? b = some o → b ∉ X.ex → b ∉ ch := fun b o e hx hb => by
    rcases (hch b hb).1 with z | z
    · exact hx z
    · exact absurd (Nat.lt_of_lt_of_le (Heap.lt_size e) z) (Nat.lt_irrefl _)
  have cellK : ∀ x c, X.env.cells.lookup x = some c → ∀ v, s.heap.IsCell c v → h'.IsCell c v := fun x c e v ⟨o, ho, hd⟩ => by
    have nch : c ∉ ch := fun z => (hch c z).2.2.1 x c e rfl
    by_cases hc : c ∈ X.fs
    · obtain ⟨sl, q⟩ := slot c o (I.cne x c e) hc nch ho (I.freeC x c e)
      exact ⟨_, q, hd⟩
    · exact ⟨o, keep c o (I.cne x c e) hc nch ho (I.freeC x c e), hd⟩
  refine ⟨I.ok, I.os, hg, ⟨fun b o e n hb hx => ?_, fun b o e n hb hx => ?_, fun b o e n hx => ?_, fun b o e hx => ?_, fun b xs e => tups b xs (I.base.tups b xs e), fun b o xs e => frzs b o xs (I.base.frzs b o xs e), fun b ps e => ?_⟩, ?_, fun x c e => ?_, ?_, fun x c e => ?_, fun p hp => ?_, hok, I.len⟩
  · exact keep b o (neL b o e) hb (neC b o e hx) (I.base.keep b o e n hb hx) (I.base.free b o e n hx)
  · obtain ⟨sl, e1⟩ := I.base.slot b o e n hb hx
    obtain ⟨sl', e2⟩ := slot b _ (neL b o e) hb (neC b o e hx) e1 (I.base.free b o e n hx)
    exact ⟨sl', e2⟩
  · obtain ⟨o', e1⟩ := I.base.there b o e hx
    exact free b o' (neC b o e hx) e1 (I.base.free b o e n hx)
  · obtain ⟨o', e1⟩ := I.base.there b o e hx
    exact there b o' (neC b o e hx) e1
  · obtain ⟨m1, e1⟩ := I.base.tbls b ps e
    obtain ⟨m2, e2⟩ := tbls b _ e1
    exact ⟨m1 ++ m2, by rw [e2, Array.append_assoc]⟩
  · obtain ⟨m, hn, hl⟩ := I.loc
    refine ⟨m, ns m hn, fun i x v e1 e2 e3 => ?_⟩
    obtain ⟨u, r, l⟩ := hl i x v e1 e2 e3
    refine ⟨u, r, ?_⟩
    rcases l with l | ⟨k, c, e, z⟩
    · exact .inl l
    · exact .inr ⟨k, c, e, cellK x c e _ z⟩
  · obtain ⟨v, z⟩ := I.cell x c e
    exact ⟨v, cellK x c e v z⟩
  · obtain ⟨m, ⟨o, _, _, ho, _⟩, _⟩ := I.loc
    exact free _ o (fun z => (hch _ z).2.1 rfl) ho I.free
  · obtain ⟨v, o, ho, hd⟩ := I.cell x c e
    exact free c o (fun z => (hch c z).2.2.1 x c e rfl) ho (I.freeC x c e)
  · obtain ⟨e, n, ne, nf, d⟩ := I.pin p hp
    have nch : p.1 ∉ ch := fun z => (hch p.1 z).2.2.2 p hp rfl
    exact ⟨keep p.1 p.2 ne nf nch e n, free p.1 p.2 nch e n, ne, nf, d⟩
theorem Inv.un {t' : Nat} (I : Inv X pins σ H s) (u : Un X.fs [] H H' s.heap h') (hok : HOk X.prog X.w H' h') : Inv X pins σ H' { s with heap := h', toks := t' } := by
  obtain ⟨m, ⟨o, es, ep, ho, r⟩, _⟩ := id I.loc
  obtain ⟨sl, hL⟩ := u.any ho I.free (by simp)
  exact I.step (g' := s.gens) (d' := s.drawn) (ch := []) (fun _ z => nomatch z) (fun b o _ hb _ e n => u.keep b o e n hb (by simp)) (fun b o _ hb _ e n => u.slot b o e n hb (by simp)) (fun b o _ e n => u.free b o e n (by simp)) (fun b o _ e => u.there b o e (by simp)) u.tups u.frzs u.tbls (fun m' hm => by
    obtain ⟨o', es', ep', ho', r'⟩ := hm
    rw [ho] at ho'; cases ho'
    exact ⟨_, es', ep', hL, r'⟩) hok I.bare
theorem Inv.call {g' : Array GenState} {t' : Nat} {d' : Drawn} {ch : List Addr} (I : Inv X pins σ H s) (u : Un (frs X.stack) ch H H' s.heap h') (hok : HOk X.prog X.w H' h') (hg : AllBare g')
    (hch : ∀ b ∈ ch, (b ∈ X.ex ∨ X.s₀.heap.objs.size ≤ b) ∧ b ≠ X.env.locals ∧ (∀ x c, X.env.cells.lookup x = some c → c ≠ b) ∧ ∀ p ∈ X.pn ++ pins, p.1 ≠ b) :
    Inv X pins σ H' { s with heap := h', gens := g', drawn := d', toks := t' } := by
  obtain ⟨m, ⟨o, es, ep, ho, r⟩, _⟩ := id I.loc
  obtain ⟨sl, hL⟩ := u.any ho I.free fun z => (hch _ z).2.1 rfl
  exact I.step (ch := ch) hch (fun b o hL hb hc e n => u.keep b o e n (fun z => (List.mem_cons.mp (I.stkSub b z)).elim hL hb) hc) (fun b o _ _ hc e n => u.any e n hc) (fun b o hc e n => u.free b o e n hc) (fun b o hc e => u.there b o e hc) u.tups u.frzs u.tbls (fun m' hm => by
    obtain ⟨o', es', ep', ho', r'⟩ := hm
    rw [ho] at ho'; cases ho'
    exact ⟨_, es', ep', hL, r'⟩) hok hg
theorem Inv.turned {t' : Nat} {it : Addr} (I : Inv X pins σ H s) (k : ∀ b o, b ≠ it → s.heap.get? b = some o → h'.get? b = some o) (hn : H it = none) (hL : it ≠ X.env.locals)
    (h1 : it ∈ X.ex ∨ X.s₀.heap.objs.size ≤ it) (h2 : ∀ x c, X.env.cells.lookup x = some c → c ≠ it) (h3 : ∀ p ∈ X.pn ++ pins, p.1 ≠ it) : Inv X pins σ H { s with heap := h', toks := t' } := by
  have nit : ∀ b u, H b = some u → b ≠ it := fun b u e z => by rw [z, hn] at e; cases e
  refine I.step (g' := s.gens) (d' := s.drawn) (ch := [it]) (fun b hb => ?_) (fun b o _ _ hc e _ => k b o (fun z => hc (by simp [z])) e) (fun b o _ _ hc e _ => ⟨o.slots, k b o (fun z => hc (by simp [z])) e⟩) (fun _ _ _ _ n => n)
    (fun b o hc e => ⟨o, k b o (fun z => hc (by simp [z])) e⟩) (fun _ _ e => e) (fun _ _ _ e => e) (fun b ps e => ⟨#[], by rw [e]; simp⟩) (fun m hm => ?_) (fun b u e => ?_) I.bare
  · have e : b = it := by simpa using hb
    subst e
    exact ⟨h1, hL, h2, h3⟩
  · obtain ⟨o, es, ep, ho, r⟩ := hm
    exact ⟨o, es, ep, k _ o (Ne.symm hL) ho, r⟩
  · refine (I.hok b u e).stay (fun c v hc q => k c v ?_ q) (fun _ q => q) (fun _ _ q => q) fun _ _ _ q => q
    rcases hc with z | z
    · rw [z]; exact nit b u e
    · exact nit c _ z
theorem Inv.tok (I : Inv X pins σ H s) (t : Nat) : Inv X pins σ H { s with toks := t } := I.un (h' := s.heap) (t' := t) Un.refl I.hok
theorem Inv.kept {t' : Nat} (I : Inv X pins σ H s) (k : ∀ b u, s.heap.get? b = some u → h'.get? b = some u) : Inv X pins σ H { s with heap := h', toks := t' } := I.un (Un.kept k) (I.hok.kept k)
theorem Inv.laid {a : Addr} {o : HO} {t' : Nat} (I : Inv X pins σ H s) (k : ∀ b u, s.heap.get? b = some u → h'.get? b = some u) (hp : s.heap.objs.size ≤ a) (new : ObjOk X.prog X.w (upd H a o) h' a o) :
    Inv X pins σ (upd H a o) { s with heap := h', toks := t' } := I.un (Un.laid k hp (I.hok.fresh hp)) (I.hok.laid k hp new)
theorem Inv.write {x e : Addr} {o : HO} {t' : Nat} (I : Inv X pins σ H s) (mu : Mut (H x)) (he : e = x ∨ H e = some (.own x)) (k : ∀ b u, b ≠ e → s.heap.get? b = some u → h'.get? b = some u) (heo : ∃ u, h'.get? e = some u)
    (new : ObjOk X.prog X.w (upd H x o) h' x o) : Inv X pins σ (upd H x o) { s with heap := h', toks := t' } := I.un (Un.write mu he k heo) (I.hok.write mu he k heo new)
theorem Inv.pins_of {pins' : List (Addr × Obj)} (I : Inv X pins σ H s) (h : ∀ p ∈ pins', s.heap.get? p.1 = some p.2 ∧ H p.1 = none ∧ p.1 ≠ X.env.locals ∧ p.1 ∉ X.fs ∧ ∀ v, p.2.data ≠ .cell v) : Inv X pins' σ H s :=
  ⟨I.ok, I.os, I.bare, I.base, I.loc, I.cell, I.free, I.freeC, fun p hp => (List.mem_append.mp hp).elim (fun z => I.pin p (List.mem_append_left _ z)) (h p), I.hok, I.len⟩
theorem nodup_ix {N : List Str} (hN : N.Nodup) {i j : Nat} {x : Str} (a : N[i]? = some x) (b : N[j]? = some x) : i = j := by
  obtain ⟨h1, e1⟩ := List.getElem?_eq_some_iff.mp a
  obtain ⟨h2, e2⟩ := List.getElem?_eq_some_iff.mp b
  exact (List.getElem_inj hN).mp (e1.trans e2.symm)
theorem store_ok2 {M : Model} {A : Around} {E : Value → Shared → Prop} {i : Nat} {x : Str} {v : V} {u : Value} {Q : Unit → Shared → Prop} (I : Inv X pins σ H s) (hN : X.N.Nodup) (hi : X.N[i]? = some x) (hx : Loc X.env.scope x) (r : RelV v u)
    (h : ∀ s', Inv X pins (σ.set i (some v)) H s' → (∃ a, Heap.SameBut a s.heap s'.heap ∧ (a = X.env.locals ∨ X.env.cells.lookup x = some a)) → Q () s') (hf : X.fn x = true ∨ X.env.scope.names.lookup x = some .local := by first | exact .inl rfl | exact .inr rfl | assumption) : wpAny M A (storeName X.env x u) Q E s := by
  obtain ⟨m, hn, hl⟩ := id I.loc
  have hcls : (X.env.scope.kind == .class || (X.env.scope.kind == .module && X.env.locals != X.env.globals)) = false := by rw [I.ok.kind]; rfl
  have hiσ : i < σ.length := by rw [I.len]; exact (List.getElem?_eq_some_iff.mp hi).1
  have cne := I.cne
  have tracked : ∀ {a : Addr} {h' : Heap}, (∃ o, s.heap.get? a = some o ∧ H a = none) → Heap.SameBut a s.heap h' → HOk X.prog X.w H h' := fun {a h'} ha hs b ob e => by
    obtain ⟨_, _, hfree⟩ := ha
    refine (I.hok b ob e).stay (fun c w' hc q => (hs.2 c ?_).trans q) (fun _ q => q) (fun _ _ q => q) fun _ _ _ q => q
    rintro rfl
    rcases hc with rfl | hc
    · rw [hfree] at e; cases e
    · rw [hfree] at hc; cases hc
  rcases hx with hk | hk
  · refine wpAny_storeName_local hk hn (fun h' hn' hs => ?_) hcls
    obtain ⟨oL, _, _, hoL, _⟩ := id hn
    refine h _ ⟨I.ok, I.os, I.bare, ⟨fun b o e n hb hx => ?_, fun b o e n hb hx => ?_, I.base.free, fun b o e hx => ?_, I.base.tups, I.base.frzs, I.base.tbls⟩, ⟨_, hn', fun j y v' e1 e2 e3 => ?_⟩, fun y c e => ?_, I.free, I.freeC, fun p hp => ?_, tracked ⟨oL, hoL, I.free⟩ hs, by simpa using I.len⟩ ⟨_, hs, .inl rfl⟩
    · exact (hs.2 b (Nat.ne_of_lt (Nat.lt_of_lt_of_le (Heap.lt_size e) I.ok.above))).trans (I.base.keep b o e n hb hx)
    · obtain ⟨sl, e1⟩ := I.base.slot b o e n hb hx
      exact ⟨sl, (hs.2 b (Nat.ne_of_lt (Nat.lt_of_lt_of_le (Heap.lt_size e) I.ok.above))).trans e1⟩
    · obtain ⟨o', e1⟩ := I.base.there b o e hx
      exact ⟨o', (hs.2 b (Nat.ne_of_lt (Nat.lt_of_lt_of_le (Heap.lt_size e) I.ok.above))).trans e1⟩
    · by_cases hj : j = i
      · subst hj
        rw [hi] at e1; cases e1
        rw [List.getElem?_set_self hiσ] at e2
        cases e2
        exact ⟨u, r, .inl ⟨hk, by simp⟩⟩
      · rw [List.getElem?_set_ne (Ne.symm hj)] at e2
        obtain ⟨u', r', q⟩ := hl j y v' e1 e2 e3
        refine ⟨u', r', ?_⟩
        rcases q with ⟨k, e⟩ | ⟨k, c, e, z⟩
        · refine .inl ⟨k, ?_⟩
          have : y ≠ x := fun e => hj (nodup_ix hN e1 (e ▸ hi))
          simp [this, e]
        · exact .inr ⟨k, c, e, z.sameBut hs (cne y c e)⟩
    · obtain ⟨w', z⟩ := I.cell y c e
      exact ⟨w', z.sameBut hs (cne y c e)⟩
    · obtain ⟨e, n, ne, nf, d⟩ := I.pin p hp
      exact ⟨(hs.2 p.1 ne).trans e, n, ne, nf, d⟩
  · have hfn : X.fn x = true := by
      rcases hf with z | z
      · exact z
      · rw [z] at hk; cases hk
    obtain ⟨c, hc⟩ := I.ok.has x (.inl hk)
    obtain ⟨w', z⟩ := I.cell x c hc
    refine wpAny_storeName_cell I.ok.kind hk hc z (fun h' hc' hs => ?_)
    obtain ⟨oc, hoc, hocd⟩ := id z
    refine h { s with heap := h' } ⟨I.ok, I.os, I.bare, ⟨fun b o e n hb hx => ?_, fun b o e n hb hx => ?_, I.base.free, fun b o e hx => ?_, I.base.tups, I.base.frzs, I.base.tbls⟩, ⟨m, hn.sameBut hs (Ne.symm (cne x c hc)), fun j y v' e1 e2 e3 => ?_⟩, fun y c' e => ?_, I.free, I.freeC, fun p hp => ?_, tracked ⟨oc, hoc, I.freeC x c hc⟩ hs, by simpa using I.len⟩ ⟨c, hs, .inr hc⟩
    · exact (hs.2 b (Nat.ne_of_lt (Nat.lt_of_lt_of_le (Heap.lt_size e) (I.ok.cab x c hfn hc)))).trans (I.base.keep b o e n hb hx)
    · obtain ⟨sl, e1⟩ := I.base.slot b o e n hb hx
      exact ⟨sl, (hs.2 b (Nat.ne_of_lt (Nat.lt_of_lt_of_le (Heap.lt_size e) (I.ok.cab x c hfn hc)))).trans e1⟩
    · obtain ⟨o', e1⟩ := I.base.there b o e hx
      exact ⟨o', (hs.2 b (Nat.ne_of_lt (Nat.lt_of_lt_of_le (Heap.lt_size e) (I.ok.cab x c hfn hc)))).trans e1⟩
    · by_cases hj : j = i
      · subst hj
        rw [hi] at e1; cases e1
        rw [List.getElem?_set_self hiσ] at e2
        cases e2
        exact ⟨u, r, .inr ⟨.inl hk, c, hc, hc'⟩⟩
      · rw [List.getElem?_set_ne (Ne.symm hj)] at e2
        obtain ⟨u', r', q⟩ := hl j y v' e1 e2 e3
        refine ⟨u', r', ?_⟩
        rcases q with q | ⟨k, c', e, z'⟩
        · exact .inl q
        · refine .inr ⟨k, c', e, z'.sameBut hs ?_⟩
          rintro rfl
          exact hj (nodup_ix hN e1 (I.ok.inj _ _ _ e hc ▸ hi))
    · by_cases hcc : c' = c
      · subst hcc; exact ⟨_, hc'⟩
      · obtain ⟨w2, z2⟩ := I.cell y c' e
        exact ⟨w2, z2.sameBut hs hcc⟩
    · obtain ⟨e, n, ne, nf, d⟩ := I.pin p hp
      refine ⟨(hs.2 p.1 ?_).trans e, n, ne, nf, d⟩
      intro q
      rw [q, hoc] at e
      have q' : oc = p.2 := Option.some.inj e
      exact d w' (by rw [← q']; exact hocd)
theorem store_ok {M : Model} {A : Around} {E : Value → Shared → Prop} {i : Nat} {x : Str} {v : V} {u : Value} {Q : Unit → Shared → Prop} (I : Inv X pins σ H s) (hN : X.N.Nodup) (hi : X.N[i]? = some x) (hx : Loc X.env.scope x) (r : RelV v u)
    (h : ∀ s', Inv X pins (σ.set i (some v)) H s' → Q () s') (hf : X.fn x = true ∨ X.env.scope.names.lookup x = some .local := by first | exact .inl rfl | exact .inr rfl | assumption) : wpAny M A (storeName X.env x u) Q E s :=
  store_ok2 I hN hi hx r (fun s' I' _ => h s' I') hf
theorem Inv.call' {s' : Shared} {ch : List Addr} (I : Inv X pins σ H s) (ho : s'.os = s.os) (u : Un (frs X.stack) ch H H' s.heap s'.heap) (hok : HOk X.prog X.w H' s'.heap) (hg : AllBare s'.gens)
    (hch : ∀ b ∈ ch, (b ∈ X.ex ∨ X.s₀.heap.objs.size ≤ b) ∧ b ≠ X.env.locals ∧ (∀ x c, X.env.cells.lookup x = some c → c ≠ b) ∧ ∀ p ∈ X.pn ++ pins, p.1 ≠ b) : Inv X pins σ H' s' := by
  obtain ⟨h', g', d', t', o'⟩ := s'
  have e : o' = s.os := ho
  subst e
  exact I.call (g' := g') (t' := t') (d' := d') u hok hg hch
end
noncomputable abbrev XK := Value → Option Addr → Hp → Prop
noncomputable abbrev St := List (Option V)
noncomputable abbrev VK := V → Hp → Prop
noncomputable abbrev TE := St → Hp → VK → Prop
noncomputable abbrev TT := St → Hp → (Bool → Hp → Prop) → Prop
noncomputable abbrev TA := St → Hp → (List V → Hp → Prop) → Prop
structure Ends where
  nx : St → Hp → Prop
  rt : VK
  bk : St → Hp → Prop := fun _ _ => False
  ct : St → Hp → Prop := fun _ _ => False
noncomputable abbrev TS := Ends → St → Hp → Prop
noncomputable def EP (X : Cx) (pins : List (Addr × Obj)) (σ : St) (Q : VK) (u : Value) (s' : Shared) : Prop := ∃ v H', Inv X pins σ H' s' ∧ RelV v u ∧ Q v H'
noncomputable def TP (X : Cx) (pins : List (Addr × Obj)) (σ : St) (Q : Bool → Hp → Prop) (b : Bool) (s' : Shared) : Prop := ∃ H', Inv X pins σ H' s' ∧ Q b H'
noncomputable def AP (X : Cx) (pins : List (Addr × Obj)) (σ : St) (Q : List V → Hp → Prop) (us : List Value) (s' : Shared) : Prop := ∃ vs H', Inv X pins σ H' s' ∧ Vals vs us ∧ Q vs H'
noncomputable def SP (X : Cx) (pins : List (Addr × Obj)) (D : Ends) (f : Flow) (s' : Shared) : Prop :=
  match f with
  | .next => ∃ σ' H', Inv X pins σ' H' s' ∧ D.nx σ' H'
  | .brk => ∃ σ' H', Inv X pins σ' H' s' ∧ D.bk σ' H'
  | .cont => ∃ σ' H', Inv X pins σ' H' s' ∧ D.ct σ' H'
  | .ret u => ∃ v σ' H', Inv X pins σ' H' s' ∧ RelV v u ∧ D.rt v H'
noncomputable def PE (X : Cx) (e : Expr) (t : TE) : Prop :=
  ∀ (pins : List (Addr × Obj)) (s : Shared) (σ : St) (H : Hp) (Q : VK), Inv X pins σ H s → t σ H Q → wpAny (model X.prog X.w) X.A (eval e X.env) (EP X pins σ Q) X.xe s
noncomputable def PT (X : Cx) (e : Expr) (t : TT) : Prop :=
  ∀ (pins : List (Addr × Obj)) (s : Shared) (σ : St) (H : Hp) (Q : Bool → Hp → Prop), Inv X pins σ H s → t σ H Q → wpAny (model X.prog X.w) X.A (isTrue e X.env (eval e X.env)) (TP X pins σ Q) X.xe s
noncomputable def PW (X : Cx) (e : Expr) (t : TT) : Prop :=
  ∀ (whole : Sem Value) (pins : List (Addr × Obj)) (s : Shared) (σ : St) (H : Hp) (Q : Bool → Hp → Prop), Inv X pins σ H s → t σ H Q → wpAny (model X.prog X.w) X.A (isTrue e X.env whole) (TP X pins σ Q) X.xe s
theorem PW.pt {X : Cx} {e : Expr} {t : TT} (h : PW X e t) : PT X e t := h _
noncomputable def PA (X : Cx) (es : List Expr) (t : TA) : Prop :=
  ∀ (pos : Pos) (pins : List (Addr × Obj)) (s : Shared) (σ : St) (H : Hp) (Q : List V → Hp → Prop), Inv X pins σ H s → t σ H Q → wpAny (model X.prog X.w) X.A (spliced (backTo pos (starEach es X.env))) (AP X pins σ Q) X.xe s
noncomputable def PS (X : Cx) (st : Stmt) (t : TS) : Prop :=
  ∀ (pins : List (Addr × Obj)) (s : Shared) (σ : St) (H : Hp) (D : Ends), Inv X pins σ H s → t D σ H → wpAny (model X.prog X.w) X.A (exec st X.env) (SP X pins D) X.xe s
noncomputable def PSs (X : Cx) (st : List Stmt) (t : TS) : Prop :=
  ∀ (pins : List (Addr × Obj)) (s : Shared) (σ : St) (H : Hp) (D : Ends), Inv X pins σ H s → t D σ H → wpAny (model X.prog X.w) X.A (execs st X.env) (SP X pins D) X.xe s
theorem thn {α : Type} {t : Sem α} {Q Q' : α → Shared → Prop} {M : Model} {A : Around} {E : Value → Shared → Prop} {s : Shared} (h : wpAny M A t Q E s) (hQ : ∀ a s, Q a s → Q' a s) : wpAny M A t Q' E s := wpAny_mono h hQ fun _ _ x => x
end L2
namespace L2
open PySem PySem.Spec PyProof.Rows
section
variable {X : Cx}
noncomputable def tVar (i : Nat) : TE := fun σ H Q => ∃ v, σ[i]? = some (some v) ∧ Q v H
noncomputable def tC (v : V) : TE := fun _ H Q => Q v H
theorem pe_var {i : Nat} {x : Str} {pos : Pos} (hN : X.N[i]? = some x) (hv : Vis X.env.scope x) (hd : (x == ("__debug__" : Str)) = false := by decide) (hcd : (x == ("__classdict__" : Str)) = false := by decide) : PE X (.Name x pos) (tVar i) := by
  intro pins s σ H Q I h
  obtain ⟨v, e, h⟩ := h
  obtain ⟨m, hn, hl⟩ := I.loc
  obtain ⟨u, r, l⟩ := hl i x v hN e hv
  have fin : EP X pins σ Q u s := ⟨v, H, I, r, h⟩
  rcases l with ⟨hk, hm⟩ | ⟨hk, c, hc, hcell⟩
  · exact wpAny_Name (wpAny_loadName_local I.ok.kind hk hn hm fin) hd
  · rcases hk with hk | hk
    · exact wpAny_Name (wpAny_loadName_cell I.ok.kind hk hc hcell fin) hd
    · exact wpAny_Name (wpAny_loadName_free I.ok.kind hk hc hcell fin hcd) hd
theorem pe_int {i j pos} : PE X (.Constant (.int i) j pos) (tC (.int i)) := fun _ _ _ H _ I h => wpAny_Constant_int ⟨.int i, H, I.tok _, ⟨_, rfl⟩, h⟩
theorem pe_bl {b j pos} : PE X (.Constant (.bool b) j pos) (tC (.bl b)) := fun _ _ _ H _ I h => Constant_bool ⟨.bl b, H, I, rfl, h⟩
theorem pe_non {j pos} : PE X (.Constant .none j pos) (tC .non) := fun _ _ _ H _ I h => Constant_none ⟨.non, H, I, rfl, h⟩
theorem pe_str {x j pos} : PE X (.Constant (.str x) j pos) (tC (.str x)) := fun _ _ _ H _ I h => Calls.Constant_str ⟨.str x, H, I.tok _, ⟨_, rfl⟩, h⟩
noncomputable def Gl (X : Cx) (x : Str) : Prop := X.env.kindOf x = some .globalImplicit
theorem ld_glob {E : Value → Shared → Prop} {pins : List (Addr × Obj)} {s : Shared} {σ : St} {H : Hp} {x : Str} {u : Value} {pos : Pos} {Q : Value → Shared → Prop} (I : Inv X pins σ H s) (hg : Gl X x) (hm : X.mg x = some u) (h : Q u s)
    (hd : (x == ("__debug__" : Str)) = false := by decide) : wpAny (model X.prog X.w) X.A (eval (.Name x pos) X.env) Q E s :=
  Calls.Name_function_global I.ok.kind hg (Calls.loadGlobal_global (by rw [I.ok.glob]; exact I.mod.glob.keeps I.bk) hm h) hd
theorem ld_blt {E : Value → Shared → Prop} {pins : List (Addr × Obj)} {s : Shared} {σ : St} {H : Hp} {x : Str} {u : Value} {pos : Pos} {Q : Value → Shared → Prop} (I : Inv X pins σ H s) (hg : Gl X x) (hm : X.mg x = none) (hv : bootBuiltins x = some u) (h : Q u s)
    (hn : x ≠ "__name__" := by decide) (hd : (x == ("__debug__" : Str)) = false := by decide) : wpAny (model X.prog X.w) X.A (eval (.Name x pos) X.env) Q E s := by
  obtain ⟨mb, h1, h2⟩ := I.mod.blt
  exact Calls.Name_function_global I.ok.kind hg (Calls.loadGlobal_builtin (by rw [I.ok.glob]; exact I.mod.glob.keeps I.bk) hm (by rw [I.ok.blt]; exact h1.keeps I.bk) ((h2 x hn).trans hv) h) hd
theorem pe_bltn {x : Str} {v : V} {u : Value} {pos : Pos} (hg : Gl X x) (hm : X.mg x = none) (hv : bootBuiltins x = some u) (r : RelV v u) (hn : x ≠ "__name__" := by decide) (hd : (x == ("__debug__" : Str)) = false := by decide) : PE X (.Name x pos) (tC v) :=
  fun _ _ _ H _ I h => ld_blt I hg hm hv ⟨v, H, I, r, h⟩ hn hd
variable {a b : Expr} {ta tb : TE} {pos : Pos}
variable {tA tB' : TT} {rest : List Expr}
noncomputable def tAnd (t u : TT) : TT := fun σ H Q => t σ H fun c H1 => if c = true then u σ H1 Q else Q false H1
noncomputable def tOr (t u : TT) : TT := fun σ H Q => t σ H fun c H1 => if c = true then Q true H1 else u σ H1 Q
noncomputable def tNot (t : TT) : TT := fun σ H Q => t σ H fun c H1 => Q (!c) H1
theorem pw_and1 (ha : PT X a tA) : PW X (.BoolOp .And [a] pos) tA := by
  intro wh pins s σ H Q I h
  refine isTrue_and (thn (ha pins s σ H Q I h) fun c s1 e => ?_)
  cases c with
  | true => exact isTrue_and_nil e
  | false => exact e
theorem pw_or1 (ha : PT X a tA) : PW X (.BoolOp .Or [a] pos) tA := by
  intro wh pins s σ H Q I h
  refine isTrue_or (thn (ha pins s σ H Q I h) fun c s1 e => ?_)
  cases c with
  | false => exact isTrue_or_nil e
  | true => exact e
theorem pw_and (ha : PT X a tA) (hb : PW X (.BoolOp .And (b :: rest) pos) tB') : PW X (.BoolOp .And (a :: b :: rest) pos) (tAnd tA tB') := by
  intro wh pins s σ H Q I h
  refine isTrue_and (thn (ha pins s σ H _ I h) fun c s1 ⟨H1, I1, q1⟩ => ?_)
  cases c with
  | true => exact hb wh pins s1 σ H1 Q I1 q1
  | false => exact ⟨H1, I1, q1⟩
theorem pw_or (ha : PT X a tA) (hb : PW X (.BoolOp .Or (b :: rest) pos) tB') : PW X (.BoolOp .Or (a :: b :: rest) pos) (tOr tA tB') := by
  intro wh pins s σ H Q I h
  refine isTrue_or (thn (ha pins s σ H _ I h) fun c s1 ⟨H1, I1, q1⟩ => ?_)
  cases c with
  | true => exact ⟨H1, I1, q1⟩
  | false => exact hb wh pins s1 σ H1 Q I1 q1
theorem pt_not (ha : PT X a tA) : PT X (.UnaryOp .Not a pos) (tNot tA) := by
  intro pins s σ H Q I h
  exact isTrue_not (ha pins s σ H (fun c H1 => Q (!c) H1) I h)
noncomputable def tAndV (ta tb : TE) : TE := fun σ H Q => ta σ H fun x H1 => ∃ c, x = .bl c ∧ if c = true then tb σ H1 Q else Q (.bl false) H1
noncomputable def tNotV (ta : TE) : TE := fun σ H Q => ta σ H fun x H1 => ∃ c, x = .bl c ∧ Q (.bl (!c)) H1
theorem pe_one {op} {t : TE} (h : PE X a t) : PE X (.BoolOp op [a] pos) t := fun pins s σ H Q I hw => BoolOp_one (h pins s σ H Q I hw)
theorem pe_and (ha : PE X a ta) (hb : PE X (.BoolOp .And (b :: rest) pos) tb) : PE X (.BoolOp .And (a :: b :: rest) pos) (tAndV ta tb) := by
  intro pins s σ H Q I h
  refine BoolOp_and (thn (ha pins s σ H _ I h) fun v s1 ⟨x, H1, I1, r1, q1⟩ => ?_)
  obtain ⟨c, rfl, q1⟩ := q1
  cases r1
  refine wpAny_truthy_bool ?_
  cases c with
  | true => exact hb pins s1 σ H1 Q I1 q1
  | false => exact ⟨.bl false, H1, I1, rfl, q1⟩
theorem pe_not (ha : PE X a ta) : PE X (.UnaryOp .Not a pos) (tNotV ta) := by
  intro pins s σ H Q I h
  refine UnaryOp_ (thn (ha pins s σ H _ I h) fun v s1 ⟨x, H1, I1, r1, q1⟩ => ?_)
  obtain ⟨c, rfl, q1⟩ := q1
  cases r1
  exact not_of (wpAny_truthy_bool ⟨.bl (!c), H1, I1, rfl, q1⟩)
end
end L2
namespace L2
open PySem PySem.Spec PyProof.Rows
noncomputable def SqL (K : Fg) (H : Hp) (a : Addr) (xs : List V) : Prop :=
  Rd H a (.lst xs) ∨
    ∃ (o : Obj) (its : Array Value) (n : Nat), K.lookup a = some o ∧ o.cls = .type "list" ∧ o.dict = none ∧ o.data = .seq its n ∧ its.size ≤ sizeLine ∧ Vals xs its.toList
noncomputable def SqT (K : Fg) (H : Hp) (a : Addr) (xs : List V) : Prop :=
  Rd H a (.tup xs) ∨
    ∃ (o : Obj) (its : Array Value) (n : Nat), K.lookup a = some o ∧ o.cls = .type "tuple" ∧ o.data = .seq its n ∧ its.size ≤ sizeLine ∧ Vals xs its.toList
noncomputable def absV : Value → Option V
  | .none => some .non
  | .bool b => some (.bl b)
  | .int i _ => some (.int i)
  | .str x _ => some (.str x)
  | .bytes b _ => some (.byt b)
  | .float b _ => some (.flt b)
  | .ref a => some (.ref a)
  | .type n => some (.ty n)
  | _ => none
theorem RelV.abs {x : V} {u : Value} (r : RelV x u) : absV u = some x := by
  cases x with
  | non => cases r; rfl
  | bl _ => cases r; rfl
  | int _ => obtain ⟨t, rfl⟩ := r; rfl
  | str _ => obtain ⟨t, rfl⟩ := r; rfl
  | byt _ => obtain ⟨t, rfl⟩ := r; rfl
  | flt _ => obtain ⟨t, rfl⟩ := r; rfl
  | ref _ => cases r; rfl
  | ty _ => cases r; rfl
theorem RelV.inj {x y : V} {u : Value} (r : RelV x u) (q : RelV y u) : x = y := Option.some.inj (r.abs.symm.trans q.abs)
theorem Vals.inj : ∀ {xs ys : List V} {us : List Value}, Vals xs us → Vals ys us → xs = ys
  | _, _, _, .nil, .nil => rfl
  | _, _, _, .cons r t, .cons r' t' => by rw [r.inj r', Vals.inj t t']
section
variable {X : Cx} {pins : List (Addr × Obj)} {σ : St} {H : Hp} {s : Shared} {a : Addr} {xs ys : List V}
theorem SqL.of {K : Fg} (h : H a = some (.lst xs)) : SqL K H a xs := .inl (.inl h)
theorem SqT.of {K : Fg} (h : H a = some (.tup xs)) : SqT K H a xs := .inl (.inl h)
theorem Inv.list (I : Inv X pins σ H s) (h : SqL X.K H a xs) : ∃ its : List Value, Vals xs its ∧ PlainL s.heap a its.toArray ∧ xs.length ≤ sizeLine := by
  rcases h with h | ⟨o, its, n, hk, hc, hd, hs, hz, r⟩
  · obtain ⟨z, its, n, r, e⟩ := h.ok I.hok
    exact ⟨its, r, ⟨_, n, e, rfl, rfl, rfl⟩, z⟩
  · refine ⟨its.toList, r, ⟨o, n, I.kIn a o hk, hc, hd, by simpa using hs⟩, ?_⟩
    have e := r.length
    simp only [Array.length_toList] at e
    omega
theorem Inv.tuple (I : Inv X pins σ H s) (h : SqT X.K H a xs) : ∃ its : List Value, Vals xs its ∧ IsTup s.heap a its.toArray ∧ xs.length ≤ sizeLine := by
  rcases h with h | ⟨o, its, n, hk, hc, hs, hz, r⟩
  · obtain ⟨z, its, r, p⟩ := h.ok I.hok
    exact ⟨its, r, p, z⟩
  · refine ⟨its.toList, r, ⟨o, I.kIn a o hk, hc, n, by simpa using hs⟩, ?_⟩
    have e := r.length
    simp only [Array.length_toList] at e
    omega
theorem Inv.list_inj (I : Inv X pins σ H s) (h : SqL X.K H a xs) (h' : SqL X.K H a ys) : xs = ys := by
  obtain ⟨its, r, ⟨o, n, e, _, _, d⟩, _⟩ := I.list h
  obtain ⟨its', r', ⟨o', n', e', _, _, d'⟩, _⟩ := I.list h'
  rw [e] at e'; cases e'
  rw [d] at d'
  injection d' with d1 _
  have : its = its' := by simpa using congrArg Array.toList d1
  subst this
  exact r.inj r'
theorem Inv.tuple_inj (I : Inv X pins σ H s) (h : SqT X.K H a xs) (h' : SqT X.K H a ys) : xs = ys := by
  obtain ⟨its, r, ⟨o, e, _, n, d⟩, _⟩ := I.tuple h
  obtain ⟨its', r', ⟨o', e', _, n', d'⟩, _⟩ := I.tuple h'
  rw [e] at e'; cases e'
  rw [d] at d'
  injection d' with d1 _
  have : its = its' := by simpa using congrArg Array.toList d1
  subst this
  exact r.inj r'
end
noncomputable abbrev Cx.wish (X : Cx) (E : Value → Shared → Prop) : Cx := { X with xe := E }
noncomputable abbrev Cx.nox (X : Cx) : Cx := X.wish fun _ _ => False
theorem Cx.Ok.wish {X : Cx} (ok : X.Ok) (E : Value → Shared → Prop) : (X.wish E).Ok :=
  ⟨ok.mod, ok.kind, ok.glob, ok.blt, ok.above, ok.inj, ok.has, ok.cab, ok.hd, ok.frames, ok.stk, ok.exf, ok.bs, ok.bsz, ok.noex, ok.exfs, ok.funs, ok.frf⟩
theorem Cx.Ok.unwish {X : Cx} {E : Value → Shared → Prop} (ok : (X.wish E).Ok) : X.Ok :=
  ⟨ok.mod, ok.kind, ok.glob, ok.blt, ok.above, ok.inj, ok.has, ok.cab, ok.hd, ok.frames, ok.stk, ok.exf, ok.bs, ok.bsz, ok.noex, ok.exfs, ok.funs, ok.frf⟩
section
variable {X : Cx} {pins : List (Addr × Obj)} {σ : St} {H : Hp} {s : Shared} {E : Value → Shared → Prop}
theorem Inv.wish (I : Inv X pins σ H s) (E : Value → Shared → Prop) : Inv (X.wish E) pins σ H s := ⟨I.ok.wish E, I.os, I.bare, I.base, I.loc, I.cell, I.free, I.freeC, I.pin, I.hok, I.len⟩
theorem Inv.unwish (I : Inv (X.wish E) pins σ H s) : Inv X pins σ H s := ⟨I.ok.unwish, I.os, I.bare, I.base, I.loc, I.cell, I.free, I.freeC, I.pin, I.hok, I.len⟩
theorem SP.unwish {D : Ends} {f : Flow} {s' : Shared} (h : SP (X.wish E) pins D f s') : SP X pins D f s' := by
  cases f with
  | next => obtain ⟨σ', H', I, q⟩ := h; exact ⟨σ', H', I.unwish, q⟩
  | brk => obtain ⟨σ', H', I, q⟩ := h; exact ⟨σ', H', I.unwish, q⟩
  | cont => obtain ⟨σ', H', I, q⟩ := h; exact ⟨σ', H', I.unwish, q⟩
  | ret u => obtain ⟨v, σ', H', I, r, q⟩ := h; exact ⟨v, σ', H', I.unwish, r, q⟩
theorem PSs.nox {st : List Stmt} {t : TS} (h : PSs X.nox st t) : PSs X st t := fun pins s σ H D I hw =>
  wpAny_mono (h pins s σ H D (I.wish _) hw) (fun _ _ q => q.unwish) fun _ _ z => False.elim z
end
section
variable {X : Cx} {st : Stmt} {rest : List Stmt} {t u : TS} {e : Expr} {te : TE} {pos : Pos}
noncomputable def tNext : TS := fun D σ H => D.nx σ H
noncomputable def tSeq (t u : TS) : TS := fun D σ H => t { D with nx := u D } σ H
theorem pss_nil : PSs X [] tNext := fun _ _ σ H _ I h => wpAny_execs_nil ⟨σ, H, I, h⟩
theorem pss_cons (h1 : PS X st t) (h2 : PSs X rest u) : PSs X (st :: rest) (tSeq t u) := by
  intro pins s σ H D I h
  refine wpAny_execs_cons (thn (h1 pins s σ H { D with nx := u D } I h) fun f s1 q => ?_)
  cases f with
  | next =>
    obtain ⟨σ', H', I', q⟩ := q
    exact h2 pins s1 σ' H' D I' q
  | ret v => exact q
  | brk => exact q
  | cont => exact q
theorem pss_one (h1 : PS X st t) : PSs X [st] t := by
  intro pins s σ H D I h
  refine wpAny_execs_cons (thn (h1 pins s σ H D I h) fun f s1 q => ?_)
  cases f with
  | next => exact wpAny_execs_nil q
  | ret v => exact q
  | brk => exact q
  | cont => exact q
theorem Inv.quiet {pins : List (Addr × Obj)} {σ : St} {H : Hp} {s : Shared} (I : Inv X pins σ H s) : interactive X.env = false := by simp [interactive, I.ok.kind]
noncomputable def tDrop (te : TE) : TS := fun D σ H => te σ H fun _ H1 => D.nx σ H1
theorem ps_expr (he : PE X e te) (hs : swapsWith e none pos.line X.env = pure false := by rfl) : PS X (.Expr e pos) (tDrop te) := by
  intro pins s σ H D I h
  exact wpAny_Expr_any (thn (he pins s σ H _ I h) fun v s1 ⟨x, H1, I1, r1, q1⟩ => ⟨σ, H1, I1, q1⟩) I.quiet hs
noncomputable def tRet (te : TE) : TS := fun D σ H => te σ H D.rt
theorem ps_ret (he : PE X e te) : PS X (.Return (some e) pos) (tRet te) := by
  intro pins s σ H D I h
  exact wpAny_Return_some (thn (he pins s σ H _ I h) fun v s1 ⟨x, H1, I1, r1, q1⟩ => ⟨x, σ, H1, I1, r1, q1⟩)
noncomputable def tIfS (c : TT) (t u : TS) : TS := fun D σ H => c σ H fun b H1 => if b = true then t D σ H1 else u D σ H1
theorem ps_if {c : Expr} {a b : List Stmt} {tc : TT} (hc : PT X c tc) (ha : PSs X a t) (hb : PSs X b u) : PS X (.If c a b pos) (tIfS tc t u) := by
  intro pins s σ H D I h
  refine wpAny_If (thn (hc pins s σ H _ I h) fun d s1 ⟨H1, I1, q1⟩ => ?_)
  cases d with
  | true => exact ha pins s1 σ H1 D I1 q1
  | false => exact hb pins s1 σ H1 D I1 q1
end
noncomputable abbrev TG := V → St → Hp → (St → Hp → Prop) → Prop
noncomputable abbrev TGs := List V → St → Hp → (St → Hp → Prop) → Prop
noncomputable def PG (X : Cx) (target : Expr) (t : TG) : Prop :=
  ∀ (pins : List (Addr × Obj)) (s : Shared) (σ : St) (H : Hp) (v : V) (u : Value) (Q : St → Hp → Prop), Inv X pins σ H s → RelV v u → t v σ H Q →
    wpAny (model X.prog X.w) X.A (assign target X.env u) (fun _ s' => ∃ σ' H', Inv X pins σ' H' s' ∧ Q σ' H') X.xe s
noncomputable def PGs (X : Cx) (ts : List Expr) (t : TGs) : Prop :=
  ∀ (pins : List (Addr × Obj)) (s : Shared) (σ : St) (H : Hp) (vs : List V) (us : List Value) (Q : St → Hp → Prop), Inv X pins σ H s → Vals vs us → t vs σ H Q →
    wpAny (model X.prog X.w) X.A (assignInOrder ((assignEach ts X.env).map (·.2)) us) (fun _ s' => ∃ σ' H', Inv X pins σ' H' s' ∧ Q σ' H') X.xe s
section
variable {X : Cx} {pos : Pos}
noncomputable def gName (i : Nat) : TG := fun v σ H Q => Q (σ.set i (some v)) H
theorem pg_name {i : Nat} {x : Str} (hN : X.N.Nodup) (hi : X.N[i]? = some x) (hx : Loc X.env.scope x) (hf : X.fn x = true ∨ X.env.scope.names.lookup x = some .local := by first | exact .inl rfl | exact .inr rfl | assumption) : PG X (.Name x pos) (gName i) := by
  intro pins s σ H v u Q I r h
  exact wpAny_assign_Name (store_ok I hN hi hx r (fun s' I' => ⟨_, H, I', h⟩) hf)
noncomputable def gNil : TGs := fun vs σ H Q => vs = [] ∧ Q σ H
noncomputable def gCons (t : TG) (u : TGs) : TGs := fun vs σ H Q => ∃ v r, vs = v :: r ∧ t v σ H fun σ' H' => u r σ' H' Q
theorem pgs_nil : PGs X [] gNil := by
  intro pins s σ H vs us Q I r h
  obtain ⟨e, h⟩ := h
  subst e
  cases r
  exact assignInOrder_nil ⟨σ, H, I, h⟩
theorem pgs_cons {e : Expr} {es : List Expr} {t : TG} {u : TGs} (h1 : PG X e t) (h2 : PGs X es u)
    (hs : (assignEach (e :: es) X.env).map (·.2) = assign e X.env :: (assignEach es X.env).map (·.2) := by rfl) : PGs X (e :: es) (gCons t u) := by
  intro pins s σ H vs us Q I r h
  obtain ⟨v, vr, e1, h⟩ := h
  subst e1
  cases r with
  | cons r rr =>
    rw [hs]
    refine assignInOrder_cons (thn (h1 pins s σ H _ _ _ I r h) fun _ s1 ⟨σ1, H1, I1, q1⟩ => ?_)
    exact h2 pins s1 σ1 H1 _ _ Q I1 rr q1
noncomputable def gTup (K : Fg) (n : Nat) (t : TGs) : TG := fun v σ H Q => ∃ a xs, v = .ref a ∧ SqT K H a xs ∧ xs.length = n ∧ t xs σ H Q
theorem pg_tup {es : List Expr} {k : Nat} {t : TGs} {n : Nat} (hc : X.calm = true) (h : PGs X es t)
    (hn : (assignEach es X.env).length = n := by rfl) (hst : (assignEach es X.env).findIdx? (·.1) = none := by rfl) : PG X (.Tuple es k pos) (gTup X.K n t) := by
  intro pins s σ H v u Q I r hw
  obtain ⟨a, xs, e1, hq, hl, hw⟩ := hw
  subst e1
  cases r
  obtain ⟨its, rv, ht, hz⟩ := I.tuple hq
  refine assign_Tuple_tuple (I.ok.hd hc) ht (by simp [hn, ← hl, rv.length]) hst fun h' hx => ?_
  have I1 : Inv X pins σ H { s with heap := h' } := I.kept (t' := s.toks) fun b o e => hx b o (Nat.ne_of_lt (Heap.lt_size e)) e
  exact h pins _ σ H xs _ Q I1 (by simpa using rv) hw
noncomputable def tAsg (te : TE) (g : TG) : TS := fun D σ H => te σ H fun x H1 => g x σ H1 D.nx
theorem ps_set {i : Nat} {x : Str} {e : Expr} {te : TE} {pos' : Pos} (hN : X.N.Nodup) (hi : X.N[i]? = some x) (hx : Loc X.env.scope x) (he : PE X e te) (hs : swapsWith e (some (.Name x pos')) pos.line X.env = pure false := by rfl) (hf : X.fn x = true ∨ X.env.scope.names.lookup x = some .local := by first | exact .inl rfl | exact .inr rfl | assumption) :
    PS X (.Assign [.Name x pos'] e pos) (tAsg te (gName i)) := by
  intro pins s σ H D I h
  refine wpAny_Assign_Name (thn (he pins s σ H _ I h) fun v s1 ⟨y, H1, I1, r1, q1⟩ => ?_) hs
  exact store_ok I1 hN hi hx r1 (fun s2 I2 => ⟨_, H1, I2, q1⟩) hf
end
section
variable {X : Cx} {pos : Pos}
noncomputable def tWhile (c : TT) (tb : TS) : TS := fun D σ H => ∃ W : Nat → St → Hp → Prop, (∃ m, W m σ H) ∧ ∀ m σ H, W m σ H →
  c σ H fun b H1 => if b = true then ∃ N : St → Hp → Prop, (∀ σ' H', N σ' H' → ∃ m', m' < m ∧ W m' σ' H') ∧ tb { D with nx := N, ct := N, bk := D.nx } σ H1 else D.nx σ H1
theorem ps_while {c : Expr} {body : List Stmt} {tc : TT} {tb : TS} (hp : PassesOwn (model X.prog X.w) X.A X.env X.xe) (hc : PT X c tc) (hb : PSs X body tb) : PS X (.While c body [] pos) (tWhile tc tb) := by
  intro pins s σ H D I h
  obtain ⟨W, ⟨m0, w0⟩, turn⟩ := h
  refine wpAny_While (codeAny_whileLoop (fun n s' => ∃ σ' H', Inv X pins σ' H' s' ∧ W n σ' H') ?_ m0 ⟨σ, H, I, w0⟩)
  rintro n s1 ⟨σ1, H1, I1, w1⟩
  refine wpAny_passesOwn hp (thn (hc pins s1 σ1 H1 _ I1 (turn n σ1 H1 w1)) fun b s2 ⟨H2, I2, q2⟩ => ?_)
  cases b with
  | true =>
    obtain ⟨N, hN, q2⟩ := q2
    rw [if_pos rfl]
    refine wpAny_passesOwn hp (thn (hb pins s2 σ1 H2 _ I2 q2) fun f s3 q3 => ?_)
    cases f with
    | next =>
      obtain ⟨σ3, H3, I3, n3⟩ := q3
      obtain ⟨m', hm, w3⟩ := hN σ3 H3 n3
      exact ⟨m', hm, σ3, H3, I3, w3⟩
    | cont =>
      obtain ⟨σ3, H3, I3, n3⟩ := q3
      obtain ⟨m', hm, w3⟩ := hN σ3 H3 n3
      exact ⟨m', hm, σ3, H3, I3, w3⟩
    | brk => exact q3
    | ret v => exact q3
  | false =>
    rw [if_neg Bool.false_ne_true]
    exact wpAny_execs_nil ⟨σ1, H2, I2, q2⟩
end
structure It where
  go : Nat → Hp → Prop
  yld : Nat → Hp → V → Hp → Prop
  stop : Nat → Hp → Prop
noncomputable def FpOk (X : Cx) (pins : List (Addr × Obj)) (H : Hp) (b : Addr) : Prop :=
  H b = none ∧ b ≠ X.env.locals ∧ b ∉ X.fs ∧ (b ∈ X.ex ∨ X.s₀.heap.objs.size ≤ b) ∧ (∀ x c, X.env.cells.lookup x = some c → c ≠ b) ∧ ∀ p ∈ X.pn ++ pins, p.1 ≠ b
theorem Inv.fpOk {X : Cx} {pins : List (Addr × Obj)} {σ : St} {H H' : Hp} {s : Shared} {b : Addr} (I : Inv X pins σ H s) (hb : s.heap.objs.size ≤ b) (hn : H' b = none) : FpOk X pins H' b := by
  refine ⟨hn, Nat.ne_of_gt (Nat.lt_of_lt_of_le I.lt hb), I.nofs hb, .inr (Nat.le_trans I.sz hb), fun x c e z => ?_, fun p hp z => ?_⟩
  · obtain ⟨v, q⟩ := I.cell x c e
    exact absurd (Nat.lt_of_lt_of_le q.lt (by rw [z]; exact hb)) (Nat.lt_irrefl _)
  · exact absurd (Nat.lt_of_lt_of_le (Heap.lt_size (I.pin p hp).1) (by rw [z]; exact hb)) (Nat.lt_irrefl _)
structure Turn (P : Program) (w : World) (K : Fg) (tg : Expr) (J : It) (fp : List Addr) (it : Addr) (tn : Nat → Heap → Prop) : Prop where
  mem : it ∈ fp
  obj : ∀ i h, tn i h → ∀ b ∈ fp, ∃ o, h.get? b = some o ∧ ∀ v, o.data ≠ .cell v
  keep : ∀ i h h', tn i h → (∀ b ∈ fp, ∀ o, h.get? b = some o → h'.get? b = some o) → tn i h'
  item : ∀ (X : Cx), X.prog = P → X.w = w → X.K = K → X.calm = true → ∀ (i : Nat) (pins : List (Addr × Obj)) (s : Shared) (σ : St) (H : Hp) (E : Value → Shared → Prop), Inv X pins σ H s → (∀ b ∈ fp, FpOk X pins H b) → tn i s.heap → J.go i H →
    wpAny (model P w) X.A (pyNext (.ref it)) (fun r s1 => ∃ u, r = some u ∧
      wpAny (model P w) X.A (letOwnedTupleGo tg (.ref it) u) (fun _ s2 => ∃ x H', Inv X pins σ H' s2 ∧ RelV x u ∧ J.yld i H x H' ∧ tn (i + 1) s2.heap ∧ ∀ b ∈ fp, H' b = none) E s1) E s
  done : ∀ (X : Cx), X.prog = P → X.w = w → X.K = K → X.calm = true → ∀ (i : Nat) (pins : List (Addr × Obj)) (s : Shared) (σ : St) (H : Hp) (E : Value → Shared → Prop), Inv X pins σ H s → (∀ b ∈ fp, FpOk X pins H b) → tn i s.heap → J.stop i H →
    wpAny (model P w) X.A (pyNext (.ref it)) (fun r s1 => r = none ∧ Inv X pins σ H s1) E s
  self : ∀ (A : Around) (i : Nat) (s : Shared) (Q : Value → Shared → Prop) (E : Value → Shared → Prop), tn i s.heap → Q (.ref it) s → wpAny (model P w) A (pyIter (.ref it)) Q E s
noncomputable abbrev TI := St → Hp → (It → Hp → Prop) → Prop
noncomputable def PIE (X : Cx) (pins : List (Addr × Obj)) (σ : St) (tg : Expr) (R : It → Hp → Prop) (itv : Value) (s2 : Shared) : Prop :=
  ∃ (it : Addr) (fp : List Addr) (tn : Nat → Heap → Prop) (J : It) (H' : Hp), itv = .ref it ∧ Inv X pins σ H' s2 ∧ Turn X.prog X.w X.K tg J fp it tn ∧ tn 0 s2.heap ∧ (∀ b ∈ fp, FpOk X pins H' b) ∧ R J H'
noncomputable def PI (X : Cx) (tg iter : Expr) (wi : TI) : Prop :=
  ∀ (pins : List (Addr × Obj)) (s : Shared) (σ : St) (H : Hp) (R : It → Hp → Prop), Inv X pins σ H s → wi σ H R →
    wpAny (model X.prog X.w) X.A (eval iter X.env) (fun v s1 => wpAny (model X.prog X.w) X.A (pyIter v) (PIE X pins σ tg R) X.xe s1) X.xe s
theorem go_of {M : Model} {A : Around} {E : Value → Shared → Prop} {s : Shared} {tg : Expr} {it : Addr} {u : Value} {o : Obj} {n : String} {vs : Array Value} {Q : Unit → Shared → Prop} (ho : s.heap.get? it = some o) (hc : o.cls = .type n) (hd : o.data = .fields vs)
    (hn : ["enumerate", "zip", "dict_itemiterator", "dict_reverseitemiterator", "odict_iterator", "itertools.zip_longest", "itertools.pairwise"].contains n = false) (hQ : Q () s) : wpAny M A (letOwnedTupleGo tg (.ref it) u) Q E s := by
  unfold letOwnedTupleGo
  cases tg <;> first
    | exact wpAny_pure hQ
    | (cases u <;> first
        | exact wpAny_pure hQ
        | (refine wpAny_bind (wpAny_load ho ?_)
           rw [hc, hd]
           show wpAny M A (if (["enumerate", "zip", "dict_itemiterator", "dict_reverseitemiterator", "odict_iterator", "itertools.zip_longest", "itertools.pairwise"].contains n && vs[0]? == some (rawInt _)) = true then _ else _) Q E s
           rw [if_neg (by intro h; rw [hn, Bool.false_and] at h; cases h)]
           exact wpAny_pure hQ))
noncomputable def Itl (K : Fg) (a : Addr) : It :=
  ⟨fun i H => ∃ xs x, SqL K H a xs ∧ xs[i]? = some x, fun i H x H' => H' = H ∧ ∀ xs, SqL K H a xs → xs[i]? = some x, fun i H => ∃ xs, SqL K H a xs ∧ xs.length ≤ i⟩
noncomputable def Itt (K : Fg) (a : Addr) : It :=
  ⟨fun i H => ∃ xs x, SqT K H a xs ∧ xs[i]? = some x, fun i H x H' => H' = H ∧ ∀ xs, SqT K H a xs → xs[i]? = some x, fun i H => ∃ xs, SqT K H a xs ∧ xs.length ≤ i⟩
noncomputable def Itr (lo : Int) (n : Nat) : It := ⟨fun i _ => i < n, fun i H x H' => H' = H ∧ x = .int (lo + i), fun i _ => n ≤ i⟩
theorem turn_list {P : Program} {w : World} {K : Fg} {tg : Expr} (a it : Addr) : Turn P w K tg (Itl K a) [it] it (fun i h => h.IsListIter it a i) where
  mem := by simp
  obj := fun i h st b hb => by
    have e : b = it := by simpa using hb
    subst e
    obtain ⟨o, e, c, d⟩ := st
    exact ⟨o, e, fun v z => by rw [d] at z; cases z⟩
  keep := fun i h h' st k => st.at fun o e => k it (by simp) o e
  item := by
    intro X hP hw hK hc i pins s σ H E I hf st hg
    subst hP hw hK
    obtain ⟨xs, x, hq, hx⟩ := hg
    obtain ⟨its, rv, p, hz⟩ := I.list hq
    obtain ⟨u, hu, ru⟩ := rv.get hx
    obtain ⟨f0, f1, f2, f3, f4, f5⟩ := hf it (by simp)
    refine wpAny_pyNext_list_item st p.isList (x := u) (by simpa using hu) fun h' st' sb => ?_
    have I1 : Inv X pins σ H { s with heap := h' } := I.turned (t' := s.toks) (fun b o hb e => (sb.2 b hb).trans e) f0 f1 f3 f4 f5
    obtain ⟨o, e, c, d⟩ := id st'
    exact ⟨u, rfl, go_of (s := { s with heap := h' }) e c d (by decide) ⟨x, H, I1, ru, ⟨rfl, fun ys hy => by rw [I.list_inj hy hq]; exact hx⟩, st', fun b hb => (hf b hb).1⟩⟩
  done := by
    intro X hP hw hK hc i pins s σ H E I hf st hg
    subst hP hw hK
    obtain ⟨xs, hq, hx⟩ := hg
    obtain ⟨its, rv, p, hz⟩ := I.list hq
    obtain ⟨f0, f1, f2, f3, f4, f5⟩ := hf it (by simp)
    have hl := rv.length
    exact wpAny_pyNext_list_end (I.ok.hd hc) st p.isList (by simp; omega) fun h' eb => ⟨rfl, I.turned (t' := s.toks) (fun b o hb e => eb b o hb e) f0 f1 f3 f4 f5⟩
  self := fun _ _ _ _ _ st h => wpAny_pyIter_listiter st h
theorem turn_tuple {P : Program} {w : World} {K : Fg} {tg : Expr} (a it : Addr) : Turn P w K tg (Itt K a) [it] it (fun i h => h.IsTupleIter it a i) where
  mem := by simp
  obj := fun i h st b hb => by
    have e : b = it := by simpa using hb
    subst e
    obtain ⟨o, e, c, d⟩ := st
    exact ⟨o, e, fun v z => by rw [d] at z; cases z⟩
  keep := fun i h h' st k => st.at fun o e => k it (by simp) o e
  item := by
    intro X hP hw hK hc i pins s σ H E I hf st hg
    subst hP hw hK
    obtain ⟨xs, x, hq, hx⟩ := hg
    obtain ⟨its, rv, p, hz⟩ := I.tuple hq
    obtain ⟨u, hu, ru⟩ := rv.get hx
    obtain ⟨f0, f1, f2, f3, f4, f5⟩ := hf it (by simp)
    refine wpAny_pyNext_tuple_item st (show s.heap.IsTuple a its.toArray from p) (x := u) (by simpa using hu) fun h' st' sb => ?_
    have I1 : Inv X pins σ H { s with heap := h' } := I.turned (t' := s.toks) (fun b o hb e => (sb.2 b hb).trans e) f0 f1 f3 f4 f5
    obtain ⟨o, e, c, d⟩ := id st'
    exact ⟨u, rfl, go_of (s := { s with heap := h' }) e c d (by decide) ⟨x, H, I1, ru, ⟨rfl, fun ys hy => by rw [I.tuple_inj hy hq]; exact hx⟩, st', fun b hb => (hf b hb).1⟩⟩
  done := by
    intro X hP hw hK hc i pins s σ H E I hf st hg
    subst hP hw hK
    obtain ⟨xs, hq, hx⟩ := hg
    obtain ⟨its, rv, p, hz⟩ := I.tuple hq
    obtain ⟨f0, f1, f2, f3, f4, f5⟩ := hf it (by simp)
    have hl := rv.length
    exact wpAny_pyNext_tuple_end (I.ok.hd hc) st (show s.heap.IsTuple a its.toArray from p) (by simp; omega) fun h' eb => ⟨rfl, I.turned (t' := s.toks) (fun b o hb e => eb b o hb e) f0 f1 f3 f4 f5⟩
  self := fun _ _ _ _ _ st h => wpAny_pyIter_tupleiter st h
theorem turn_range {P : Program} {w : World} {K : Fg} {tg : Expr} (it : Addr) (lo : Int) (n : Nat) : Turn P w K tg (Itr lo n) [it] it (fun i h => IsRangeIter h it (lo + (i : Nat) * 1) ((n : Int) - (i : Nat)) 1) where
  mem := by simp
  obj := fun i h st b hb => by
    have e : b = it := by simpa using hb
    subst e
    exact ⟨_, st, fun v z => by
      have z' : Data.fields _ = Data.cell v := z
      cases z'⟩
  keep := fun i h h' st k => k it (by simp) _ st
  item := by
    intro X hP hw hK hc i pins s σ H E I hf st hg
    subst hP hw hK
    obtain ⟨f0, f1, f2, f3, f4, f5⟩ := hf it (by simp)
    have W := Walks.range (prog := X.prog) (w := X.w) (I.ok.hd hc) it lo 1 n
    refine W.item i s _ _ hg st fun v h' tk hv st' kk => ?_
    obtain ⟨t, rfl⟩ := hv
    have I1 : Inv X pins σ H { s with heap := h', toks := tk } := I.turned (fun b o hb e => kk b o (by simpa using hb) e) f0 f1 f3 f4 f5
    refine ⟨_, rfl, go_of (s := { s with heap := h', toks := tk }) (n := "range_iterator") st' rfl rfl (by decide) ⟨.int (lo + i), H, I1, ⟨t, ?_⟩, ⟨rfl, rfl⟩, st', fun b hb => (hf b hb).1⟩⟩
    rw [Int.mul_one]
  done := by
    intro X hP hw hK hc i pins s σ H E I hf st hg
    subst hP hw hK
    obtain ⟨f0, f1, f2, f3, f4, f5⟩ := hf it (by simp)
    exact wpAny_pyNext_range_end (I.ok.hd hc) st (by have : n ≤ i := hg; omega) fun h' eb => ⟨rfl, I.turned (t' := s.toks) (fun b o hb e => eb b o hb e) f0 f1 f3 f4 f5⟩
  self := fun _ _ _ _ _ st h => wpAny_pyIter_rangeiter st h
end L2
namespace L2
open PySem PySem.Spec PyProof.Rows
section
variable {X : Cx} {tg : Expr}
theorem range_it {pins : List (Addr × Obj)} {σ : St} {H : Hp} {s : Shared} {R : It → Hp → Prop} {E : Value → Shared → Prop} {lo hi : Int} {t u v : Tok} {tk : Nat} (I : Inv X pins σ H s) (h1 : -(2 ^ 62) ≤ lo) (h2 : lo < 2 ^ 62) (h3 : -(2 ^ 62) ≤ hi) (h4 : hi < 2 ^ 62)
    (q : R (Itr lo (hi - lo).toNat) H) : wpAny (model X.prog X.w) X.A (pyIter (.ref s.heap.objs.size)) (PIE X pins σ tg R) E { s with heap := s.heap.push { cls := .type "range", data := .fields #[.int lo t, .int hi u, .int 1 v] }, toks := tk } := by
  refine wpAny_pyIter_range (IsRange.new ..) (small_one h1 h2 h3 h4) ?_
  have I1 : Inv X pins σ H { s with heap := s.heap.push { cls := .type "range", data := .fields #[.int lo t, .int hi u, .int 1 v] }, toks := tk } := I.kept fun b o e => Heap.get?_push_of_some _ e
  refine ⟨(s.heap.push { cls := .type "range", data := .fields #[.int lo t, .int hi u, .int 1 v] }).objs.size, [(s.heap.push { cls := .type "range", data := .fields #[.int lo t, .int hi u, .int 1 v] }).objs.size], _, _, H, rfl,
    I1.kept (t' := tk) fun b o e => Heap.get?_push_of_some _ e, turn_range _ lo (hi - lo).toNat, ?_, fun b hb => ?_, q⟩
  · have e1 : lo + ((0 : Nat) : Int) * 1 = lo := by simp
    have e2 : (((hi - lo).toNat : Nat) : Int) - ((0 : Nat) : Int) = Builtin.Range.rangeSize lo hi 1 := by rw [rangeSize_one]; split <;> omega
    show IsRangeIter _ _ (lo + ((0 : Nat) : Int) * 1) ((((hi - lo).toNat : Nat) : Int) - ((0 : Nat) : Int)) 1
    rw [e1, e2]
    exact Heap.get?_push_size _ rfl
  · have e : b = (s.heap.push { cls := .type "range", data := .fields #[.int lo t, .int hi u, .int 1 v] }).objs.size := by simpa using hb
    subst e
    exact I1.fpOk (Nat.le_refl _) (I1.hok.fresh (Nat.le_refl _))
noncomputable def iRng1 (ta : TA) : TI := fun σ H R => ta σ H fun vs H1 => ∃ j : Int, vs = [.int j] ∧ -(2 ^ 62) ≤ j ∧ j < 2 ^ 62 ∧ R (Itr 0 j.toNat) H1
theorem pi_range1 {a : Expr} {ta : TA} {p pos : Pos} (hg : Gl X "range") (hm : X.mg "range" = none) (ha : PA X [a] ta) (hs : starEach [a] X.env = [(false, eval a X.env)] := by rfl) : PI X tg (.Call (.Name "range" p) [a] [] pos) (iRng1 ta) := by
  intro pins s σ H R I h
  refine Call_ (ld_blt I hg hm boot_range (PyProof.Rows.callWith_type1 (thn (ha pos pins s σ H _ I h) fun us s1 ⟨vs, H1, I1, r1, q1⟩ => ?_) hs rfl))
  obtain ⟨j, e, q1, q2, q⟩ := q1
  subst e
  cases r1 with
  | cons r rr =>
    cases rr
    obtain ⟨t, rfl⟩ := r
    exact call_range_1 (range_it I1 (by omega) (by omega) q1 q2 (by simpa using q))
noncomputable def tFor (wi : TI) (g : TG) (tb : TS) : TS := fun D σ H => wi σ H fun J H1 => ∃ W : Nat → Nat → St → Hp → Prop, (∃ m, W 0 m σ H1) ∧ ∀ i m σ H, W i m σ H →
  (J.stop i H ∧ D.nx σ H) ∨ (J.go i H ∧ ∃ N : St → Hp → Prop, (∀ σ' H', N σ' H' → ∃ m', m' < m ∧ W (i + 1) m' σ' H') ∧ ∀ x H', J.yld i H x H' → g x σ H' fun σ2 H2 => tb { D with nx := N, ct := N, bk := D.nx } σ2 H2)
noncomputable def pinsAt (fp : List Addr) (h : Heap) : List (Addr × Obj) := fp.filterMap fun b => (h.get? b).map fun o => (b, o)
theorem mem_pinsAt {fp : List Addr} {h : Heap} {b : Addr} {o : Obj} (hb : b ∈ fp) (e : h.get? b = some o) : (b, o) ∈ pinsAt fp h := List.mem_filterMap.mpr ⟨b, hb, by rw [e]; rfl⟩
theorem of_pinsAt {fp : List Addr} {h : Heap} {p : Addr × Obj} (hp : p ∈ pinsAt fp h) : p.1 ∈ fp ∧ h.get? p.1 = some p.2 := by
  obtain ⟨b, hb, e⟩ := List.mem_filterMap.mp hp
  cases q : h.get? b with
  | none => rw [q] at e; cases e
  | some o =>
    rw [q] at e
    have e' : (b, o) = p := Option.some.inj e
    subst e'
    exact ⟨hb, q⟩
theorem Inv.pinned {pins : List (Addr × Obj)} {σ : St} {H : Hp} {s : Shared} {fp : List Addr} (I : Inv X pins σ H s) (hf : ∀ b ∈ fp, FpOk X pins H b) (ho : ∀ b ∈ fp, ∃ o, s.heap.get? b = some o ∧ ∀ v, o.data ≠ .cell v) : Inv X (pins ++ pinsAt fp s.heap) σ H s :=
  I.pins_of fun p hp => (List.mem_append.mp hp).elim (fun z => I.pin p (List.mem_append_right _ z)) fun z => by
    obtain ⟨hb, e⟩ := of_pinsAt z
    obtain ⟨f0, f1, f2, _⟩ := hf p.1 hb
    obtain ⟨o, e', d⟩ := ho p.1 hb
    rw [e] at e'; cases e'
    exact ⟨e, f0, f1, f2, d⟩
theorem Inv.unpinned {pins pl : List (Addr × Obj)} {σ : St} {H : Hp} {s : Shared} (I : Inv X (pins ++ pl) σ H s) : Inv X pins σ H s := I.pins_of fun p hp => I.pin p (List.mem_append_right _ (List.mem_append_left _ hp))
theorem ps_for {iter : Expr} {body : List Stmt} {wi : TI} {g : TG} {tb : TS} {pos : Pos} (hp : PassesOwn (model X.prog X.w) X.A X.env X.xe) (hc : X.calm = true) (hi : PI X tg iter wi) (hg : PG X tg g) (hb : PSs X body tb)
    (hs : ∀ x, foldedSetIterable iter X.env x = pure x := by intro _; rfl) : PS X (.For tg iter body [] pos) (tFor wi g tb) := by
  intro pins s σ H D I h
  refine wpAny_For (thn (hi pins s σ H _ I h) fun v s1 h1 => thn h1 fun itv s2 h2 => ?_) hs
  obtain ⟨it, fp, tn, J, H2, e, I2, T, st2, f2, W, ⟨m0, w0⟩, turn⟩ := h2
  subst e
  have stat : ∀ {H' : Hp}, (∀ b ∈ fp, H' b = none) → ∀ b ∈ fp, FpOk X pins H' b := fun hn b hb => ⟨hn b hb, (f2 b hb).2⟩
  refine codeAny_forLoop_any (fun n s' => ∃ i σ' H', Inv X pins σ' H' s' ∧ tn i s'.heap ∧ (∀ b ∈ fp, H' b = none) ∧ W i n σ' H') ?_ m0 ⟨0, σ, H2, I2, st2, fun b hb => (f2 b hb).1, w0⟩
  rintro n s3 ⟨i, σ3, H3, I3, st3, fr3, w3⟩
  rcases turn i n σ3 H3 w3 with ⟨stop, qn⟩ | ⟨go, N, hN, step⟩
  · refine wpAny_passesOwn hp (thn (T.done X rfl rfl rfl hc i pins s3 σ3 H3 X.xe I3 (stat fr3) st3 stop) fun r s4 ⟨hr, I4⟩ => ?_)
    subst hr
    exact wpAny_execs_nil ⟨σ3, H3, I4, qn⟩
  · refine wpAny_passesOwn hp (thn (T.item X rfl rfl rfl hc i pins s3 σ3 H3 X.xe I3 (stat fr3) st3 go) fun r s4 ⟨u, hr, h4⟩ => ?_)
    subst hr
    refine wpAny_passesOwn hp (thn h4 fun _ s5 ⟨x, H5, I5, r5, y5, st5, fr5⟩ => ?_)
    have I5' := I5.pinned (stat fr5) (T.obj _ _ st5)
    refine wpAny_passesOwn hp (thn (hg _ s5 σ3 H5 x u _ I5' r5 (step x H5 y5)) fun _ s6 ⟨σ6, H6, I6, q6⟩ => ?_)
    refine wpAny_passesOwn hp (thn (hb _ s6 σ6 H6 _ I6 q6) fun f s7 q7 => ?_)
    have again : ∀ {σ7 : St} {H7 : Hp}, Inv X (pins ++ pinsAt fp s5.heap) σ7 H7 s7 → N σ7 H7 → ∃ m, m < n ∧ ∃ i σ' H', Inv X pins σ' H' s7 ∧ tn i s7.heap ∧ (∀ b ∈ fp, H' b = none) ∧ W i m σ' H' := fun {σ7 H7} I7 n7 => by
      obtain ⟨m', hm, w7⟩ := hN σ7 H7 n7
      refine ⟨m', hm, i + 1, σ7, H7, I7.unpinned, T.keep _ _ _ st5 fun b hb o e => (I7.pin (b, o) (List.mem_append_right _ (List.mem_append_right _ (mem_pinsAt hb e)))).1, fun b hb => ?_, w7⟩
      obtain ⟨o, e, d⟩ := T.obj _ _ st5 b hb
      exact (I7.pin (b, o) (List.mem_append_right _ (List.mem_append_right _ (mem_pinsAt hb e)))).2.1
    cases f with
    | next => obtain ⟨σ7, H7, I7, n7⟩ := q7; exact again I7 n7
    | cont => obtain ⟨σ7, H7, I7, n7⟩ := q7; exact again I7 n7
    | brk => obtain ⟨σ7, H7, I7, q7⟩ := q7; exact ⟨σ7, H7, I7.unpinned, q7⟩
    | ret v => obtain ⟨x7, σ7, H7, I7, r7, q7⟩ := q7; exact ⟨x7, σ7, H7, I7.unpinned, r7, q7⟩
end
end L2
namespace L2
open PySem PySem.Spec PyProof.Rows
noncomputable abbrev R2 := V → V → Hp → VK → Prop
noncomputable def OpR (X : Cx) (f : Value → Value → Sem Value) (r : R2) : Prop :=
  ∀ (pins : List (Addr × Obj)) (s : Shared) (σ : St) (H : Hp) (x y : V) (v u : Value) (Q : VK), Inv X pins σ H s → RelV x v → RelV y u → r x y H Q →
    wpAny (model X.prog X.w) X.A (f v u) (EP X pins σ Q) X.xe s
noncomputable def UnR (X : Cx) (f : Value → Sem Value) (r : V → Hp → VK → Prop) : Prop :=
  ∀ (pins : List (Addr × Obj)) (s : Shared) (σ : St) (H : Hp) (x : V) (v : Value) (Q : VK), Inv X pins σ H s → RelV x v → r x H Q →
    wpAny (model X.prog X.w) X.A (f v) (EP X pins σ Q) X.xe s
noncomputable def CallR (X : Cx) (f : Value) (r : List V → Hp → VK → Prop) : Prop :=
  ∀ (pins : List (Addr × Obj)) (s : Shared) (σ : St) (H : Hp) (xs : List V) (us : List Value) (Q : VK), Inv X pins σ H s → Vals xs us → r xs H Q →
    wpAny (model X.prog X.w) X.A (call f us) (EP X pins σ Q) X.xe s
noncomputable def TruR (X : Cx) (r : V → Hp → (Bool → Hp → Prop) → Prop) : Prop :=
  ∀ (pins : List (Addr × Obj)) (s : Shared) (σ : St) (H : Hp) (x : V) (v : Value) (Q : Bool → Hp → Prop), Inv X pins σ H s → RelV x v → r x H Q →
    wpAny (model X.prog X.w) X.A (truthy v) (TP X pins σ Q) X.xe s
noncomputable def tOp (r : R2) (ta tb : TE) : TE := fun σ H Q => ta σ H fun x H1 => tb σ H1 fun y H2 => r x y H2 Q
noncomputable def tUn (r : V → Hp → VK → Prop) (ta : TE) : TE := fun σ H Q => ta σ H fun x H1 => r x H1 Q
noncomputable def rI (C : Int → Int → Prop) (g : Int → Int → V) : R2 := fun x y H Q => ∃ i j, x = .int i ∧ y = .int j ∧ C i j ∧ Q (g i j) H
noncomputable def rI0 (g : Int → Int → V) : R2 := fun x y H Q => ∃ i j, x = .int i ∧ y = .int j ∧ Q (g i j) H
noncomputable def rU (g : Int → V) : V → Hp → VK → Prop := fun x H Q => ∃ i, x = .int i ∧ Q (g i) H
section
variable {X : Cx} {a b c : Expr} {ta tb tc : TE} {pos : Pos}
theorem binT (ha : PE X a ta) (hb : PE X b tb) {pins : List (Addr × Obj)} {s : Shared} {σ : St} {H : Hp} {R : V → V → Hp → Prop} (I : Inv X pins σ H s)
    (h : ta σ H fun x H1 => tb σ H1 fun y H2 => R x y H2) {Q : Value → Shared → Prop} {f : Value → Value → Sem Value}
    (hf : ∀ v u s2 x y H2, Inv X pins σ H2 s2 → RelV x v → RelV y u → R x y H2 → wpAny (model X.prog X.w) X.A (f v u) Q X.xe s2) :
    wpAny (model X.prog X.w) X.A (eval a X.env) (fun v s₁ => wpAny (model X.prog X.w) X.A (eval b X.env) (fun u s₂ => wpAny (model X.prog X.w) X.A (f v u) Q X.xe s₂) X.xe s₁) X.xe s := by
  refine thn (ha pins s σ H _ I h) fun v s1 ⟨x, H1, I1, r1, q1⟩ => ?_
  refine thn (hb pins s1 σ H1 _ I1 q1) fun u s2 ⟨y, H2, I2, r2, q2⟩ => ?_
  exact hf v u s2 x y H2 I2 r1 r2 q2
theorem pe_op {op : Operator} {r : R2} (ho : OpR X (binaryOp op) r) (ha : PE X a ta) (hb : PE X b tb) : PE X (.BinOp a op b pos) (tOp r ta tb) := by
  intro pins s σ H Q I h
  exact wpAny_BinOp (binT ha hb I h fun v u s2 x y H2 I2 rx ry q => ho pins s2 σ H2 x y v u Q I2 rx ry q)
theorem pe_un {op : UnaryOp} {r : V → Hp → VK → Prop} (ho : UnR X (unaryOp op) r) (ha : PE X a ta) : PE X (.UnaryOp op a pos) (tUn r ta) := by
  intro pins s σ H Q I h
  exact UnaryOp_ (thn (ha pins s σ H _ I h) fun v s1 ⟨x, H1, I1, r1, q1⟩ => ho pins s1 σ H1 x v Q I1 r1 q1)
theorem opI {f : Value → Value → Sem Value} {C : Int → Int → Prop} {g : Int → Int → Int}
    (rule : ∀ (i j : Int) (t u : Tok) (s : Shared) (Q : Value → Shared → Prop) (E : Value → Shared → Prop), C i j → Q (.int (g i j) s.toks) { s with toks := s.toks + 1 } → wpAny (model X.prog X.w) X.A (f (.int i t) (.int j u)) Q E s) :
    OpR X f (rI C fun i j => .int (g i j)) := by
  intro pins s σ H x y v u Q I rx ry h
  obtain ⟨i, j, rfl, rfl, hc, q⟩ := h
  obtain ⟨t, rfl⟩ := rx
  obtain ⟨t', rfl⟩ := ry
  exact rule i j t t' s _ _ hc ⟨.int (g i j), H, I.tok _, ⟨_, rfl⟩, q⟩
theorem opI0 {f : Value → Value → Sem Value} {g : Int → Int → Int}
    (rule : ∀ (i j : Int) (t u : Tok) (s : Shared) (Q : Value → Shared → Prop) (E : Value → Shared → Prop), Q (.int (g i j) s.toks) { s with toks := s.toks + 1 } → wpAny (model X.prog X.w) X.A (f (.int i t) (.int j u)) Q E s) :
    OpR X f (rI0 fun i j => .int (g i j)) := by
  intro pins s σ H x y v u Q I rx ry h
  obtain ⟨i, j, rfl, rfl, q⟩ := h
  obtain ⟨t, rfl⟩ := rx
  obtain ⟨t', rfl⟩ := ry
  exact rule i j t t' s _ _ ⟨.int (g i j), H, I.tok _, ⟨_, rfl⟩, q⟩
theorem opB0 {f : Value → Value → Sem Value} {g : Int → Int → Bool}
    (rule : ∀ (i j : Int) (t u : Tok) (s : Shared) (Q : Value → Shared → Prop) (E : Value → Shared → Prop), Q (.bool (g i j)) s → wpAny (model X.prog X.w) X.A (f (.int i t) (.int j u)) Q E s) :
    OpR X f (rI0 fun i j => .bl (g i j)) := by
  intro pins s σ H x y v u Q I rx ry h
  obtain ⟨i, j, rfl, rfl, q⟩ := h
  obtain ⟨t, rfl⟩ := rx
  obtain ⟨t', rfl⟩ := ry
  exact rule i j t t' s _ _ ⟨.bl (g i j), H, I, rfl, q⟩
noncomputable def CDiv (i j : Int) : Prop := 0 < j ∧ j < 1073741824
noncomputable def CPow (i j : Int) : Prop := 0 ≤ j ∧ j ≤ 1000000 ∧ i.natAbs < 2 ^ 64
noncomputable def CMul (i j : Int) : Prop := (-(2 ^ 64) < i ∧ i < 2 ^ 64) ∨ (-(2 ^ 64) < j ∧ j < 2 ^ 64)
theorem CMul.ok {i j : Int} (h : CMul i j) : IntMulOk i j := by
  rcases h with ⟨h1, h2⟩ | ⟨h1, h2⟩
  · exact .of_left (intBits_le_64 h1 h2)
  · exact .of_right (intBits_le_64 h1 h2)
theorem op_add : OpR X (binaryOp .Add) (rI0 fun i j => .int (i + j)) := opI0 fun _ _ _ _ _ _ _ q => add_int q
theorem op_sub : OpR X (binaryOp .Sub) (rI0 fun i j => .int (i - j)) := opI0 fun _ _ _ _ _ _ _ q => sub_int q
theorem op_mul : OpR X (binaryOp .Mult) (rI CMul fun i j => .int (i * j)) := opI fun _ _ _ _ _ _ _ hc q => mul_int q hc.ok
theorem op_fdiv : OpR X (binaryOp .FloorDiv) (rI CDiv fun i j => .int (i / j)) := opI fun i j _ _ _ _ _ hc q => by
  have h1 : (0 : Int) < j := hc.1
  have h2 : j < 1073741824 := hc.2
  exact floordiv_int (by omega) (by rw [Int.fdiv_eq_ediv_of_nonneg i (by omega)]; exact q) (.inl (PyProof.noPylong_small (by omega)))
theorem op_mod : OpR X (binaryOp .Mod) (rI (fun _ j => 0 < j) fun i j => .int (i % j)) := opI fun i j _ _ _ _ _ hc q => by
  have h1 : (0 : Int) < j := hc
  exact mod_int' (by omega) (by rw [Int.fmod_eq_emod_of_nonneg i (by omega)]; exact q)
theorem op_pow : OpR X (binaryOp .Pow) (rI CPow fun i j => .int (i ^ j.toNat)) := opI fun _ _ _ _ _ _ _ hc q => pow_int_small hc.1 hc.2.1 hc.2.2 q
theorem unI {f : Value → Sem Value} {g : Int → Int}
    (rule : ∀ (i : Int) (t : Tok) (s : Shared) (Q : Value → Shared → Prop) (E : Value → Shared → Prop), Q (.int (g i) s.toks) { s with toks := s.toks + 1 } → wpAny (model X.prog X.w) X.A (f (.int i t)) Q E s) :
    UnR X f (rU fun i => .int (g i)) := by
  intro pins s σ H x v Q I rx h
  obtain ⟨i, rfl, q⟩ := h
  obtain ⟨t, rfl⟩ := rx
  exact rule i t s _ _ ⟨.int (g i), H, I.tok _, ⟨_, rfl⟩, q⟩
theorem un_neg : UnR X (unaryOp .USub) (rU fun i => .int (-i)) := unI fun _ _ _ _ _ q => neg_int q
end
noncomputable def scal : V → V → Bool
  | .non, .non => true | .non, .int _ => true | .int _, .non => true | .non, .bl _ => true | .bl _, .non => true | .non, .str _ => true | .str _, .non => true
  | .int _, .int _ => true | .bl _, .bl _ => true | .str _, .str _ => true | .byt _, .byt _ => true
  | .int _, .str _ => true | .str _, .int _ => true | .bl _, .str _ => true | .str _, .bl _ => true
  | _, _ => false
noncomputable def rEq : R2 := fun x y H Q => scal x y = true ∧ Q (.bl (decide (x = y))) H
theorem dec_int {i j : Int} : decide (V.int i = V.int j) = (i == j) := by
  rw [Bool.eq_iff_iff]
  simp
theorem dec_bl {i j : Bool} : decide (V.bl i = V.bl j) = (i == j) := by
  rw [Bool.eq_iff_iff]
  simp
theorem dec_str {i j : Str} : decide (V.str i = V.str j) = (i == j) := by
  rw [Bool.eq_iff_iff]
  simp
theorem dec_byt {i j : Array UInt8} : decide (V.byt i = V.byt j) = (i.toList == j.toList) := by
  rw [Bool.eq_iff_iff]
  cases i
  cases j
  simp
section
variable {X : Cx} {a b c : Expr} {ta tb tc : TE} {pos : Pos}
theorem fin_bl {pins : List (Addr × Obj)} {σ : St} {H : Hp} {s : Shared} {Q : VK} {k k' : Bool} (I : Inv X pins σ H s) (q : Q (.bl k) H) (e : k = k') : EP X pins σ Q (.bool k') s := by
  subst e
  exact ⟨.bl k, H, I, rfl, q⟩
theorem op_eq : OpR X (compareOp .Eq) rEq := by
  intro pins s σ H x y v u Q I rx ry h
  obtain ⟨hs, q⟩ := h
  cases x with
  | non =>
    cases rx
    cases y with
    | non => cases ry; exact PySem.EqNone.eq_none_none (fin_bl I q (by simp))
    | bl j => cases ry; exact PySem.EqNone.eq_none_bool (fin_bl I q (by simp))
    | int j => obtain ⟨t', rfl⟩ := ry; exact PySem.EqNone.eq_none_int (fin_bl I q (by simp))
    | str j => obtain ⟨t', rfl⟩ := ry; exact PySem.EqNone.eq_none_str (fin_bl I q (by simp))
    | _ => exact absurd (show false = true from hs) Bool.false_ne_true
  | bl i =>
    cases rx
    cases y with
    | non => cases ry; exact PySem.EqNone.eq_bool_none (fin_bl I q (by simp))
    | bl j => cases ry; exact eq_bool (fin_bl I q dec_bl)
    | str j => obtain ⟨t', rfl⟩ := ry; exact PySem.EqMixed.eq_bool_str (fin_bl I q (by simp))
    | _ => exact absurd (show false = true from hs) Bool.false_ne_true
  | int i =>
    obtain ⟨t, rfl⟩ := rx
    cases y with
    | non => cases ry; exact PySem.EqNone.eq_int_none (fin_bl I q (by simp))
    | int j => obtain ⟨t', rfl⟩ := ry; exact eq_int (fin_bl I q dec_int)
    | str j => obtain ⟨t', rfl⟩ := ry; exact PySem.EqMixed.eq_int_str (fin_bl I q (by simp))
    | _ => exact absurd (show false = true from hs) Bool.false_ne_true
  | str i =>
    obtain ⟨t, rfl⟩ := rx
    cases y with
    | non => cases ry; exact PySem.EqNone.eq_str_none (fin_bl I q (by simp))
    | bl j => cases ry; exact PySem.EqMixed.eq_str_bool (fin_bl I q (by simp))
    | int j => obtain ⟨t', rfl⟩ := ry; exact PySem.EqMixed.eq_str_int (fin_bl I q (by simp))
    | str j => obtain ⟨t', rfl⟩ := ry; exact eq_str (fin_bl I q dec_str)
    | _ => exact absurd (show false = true from hs) Bool.false_ne_true
  | byt i =>
    obtain ⟨t, rfl⟩ := rx
    cases y with
    | byt j => obtain ⟨t', rfl⟩ := ry; exact PySem.W.eq_bytes (fin_bl I q dec_byt)
    | _ => exact absurd (show false = true from hs) Bool.false_ne_true
  | _ => cases y <;> exact absurd (show false = true from hs) Bool.false_ne_true
theorem op_lt : OpR X (compareOp .Lt) (rI0 fun i j => .bl (decide (i < j))) := opB0 fun _ _ _ _ _ _ _ q => lt_int q
theorem op_gt : OpR X (compareOp .Gt) (rI0 fun i j => .bl (decide (j < i))) := opB0 fun _ _ _ _ _ _ _ q => gt_int q
theorem op_notN : OpR X (compareOp .IsNot) (fun x y H Q => y = .non ∧ Q (.bl (!decide (x = .non))) H) := by
  intro pins s σ H x y v u Q I rx ry h
  obtain ⟨rfl, q⟩ := h
  cases ry
  refine isnot_none_gen (fin_bl I q ?_)
  cases x <;> first
    | (cases rx; rfl)
    | (obtain ⟨t, rfl⟩ := rx; rfl)
theorem OpR.or {f : Value → Value → Sem Value} {r r' : R2} (h : OpR X f r) (h' : OpR X f r') : OpR X f (fun x y H Q => r x y H Q ∨ r' x y H Q) := by
  intro pins s σ H x y v u Q I rx ry q
  rcases q with q | q
  · exact h pins s σ H x y v u Q I rx ry q
  · exact h' pins s σ H x y v u Q I rx ry q
theorem nomark (b : Expr) {op : CmpOp} (h : op ≠ .In := by decide) (h2 : op ≠ .NotIn := by decide) : behindInMarks op b = false := by
  have e1 : (op == CmpOp.In) = false := by cases op <;> first | rfl | exact absurd rfl h
  have e2 : (op == CmpOp.NotIn) = false := by cases op <;> first | rfl | exact absurd rfl h2
  cases b <;> simp [behindInMarks, e1, e2]
theorem pe_cmpR {op : CmpOp} {r : R2} (ho : OpR X (compareOp op) r) (ha : PE X a ta) (hb : PE X b tb) (hm : behindInMarks op b = false) : PE X (.Compare a [op] [b] pos) (tOp r ta tb) := by
  intro pins s σ H Q I h
  exact wpAny_Compare1 (binT ha hb I h fun v u s2 x y H2 I2 rx ry q => ho pins s2 σ H2 x y v u Q I2 rx ry q) hm
noncomputable def tTest (t : TE) : TT := fun σ H Q => t σ H fun x H' => ∃ k, x = .bl k ∧ Q k H'
theorem pt_cmpR {op : CmpOp} {r : R2} (ho : OpR X (compareOp op) r) (ha : PE X a ta) (hb : PE X b tb) (hm : behindInMarks op b = false) : PT X (.Compare a [op] [b] pos) (tTest (tOp r ta tb)) := by
  intro pins s σ H Q I h
  refine wpAny_isTrue_Compare1 (thn (ha pins s σ H _ I h) fun v s1 ⟨x, H1, I1, r1, q1⟩ => thn (hb pins s1 σ H1 _ I1 q1) fun u s2 ⟨y, H2, I2, r2, q2⟩ =>
    thn (ho pins s2 σ H2 x y v u _ I2 r1 r2 q2) fun c s3 ⟨z, H3, I3, r3, k, e, q3⟩ => ?_) hm
  subst e
  cases r3
  exact wpAny_truthy_bool ⟨H3, I3, q3⟩
noncomputable def TruV (K : Fg) (x : V) (H : Hp) (k : Bool) : Prop :=
  match x with
  | .non => k = false
  | .bl b => k = b
  | .int i => k = (i != 0)
  | .str y => y.length ≤ sizeLine ∧ k = ((y.length : Int) != 0)
  | .byt y => y.size ≤ sizeLine ∧ k = ((y.size : Int) != 0)
  | .ref p => (∃ xs, SqL K H p xs ∧ k = !xs.isEmpty) ∨ (∃ xs, SqT K H p xs ∧ k = !xs.isEmpty) ∨ ∃ kvs, H p = some (.dK kvs) ∧ k = !kvs.isEmpty
  | _ => False
theorem isEmpty_kv {κ : Type} {kvs : List (κ × V)} {vs : List (κ × Value)} (r : KV kvs vs) : (!vs.isEmpty) = !kvs.isEmpty := by
  cases r <;> rfl
theorem isEmpty_of {xs : List V} {its : List Value} (r : Vals xs its) : (!its.toArray.isEmpty) = !xs.isEmpty := by
  cases r <;> simp
theorem line63 : (sizeLine : Nat) < 2 ^ 63 := by rw [sizeLine_eq]; decide
theorem tru_ok : TruR X (fun x H Q => ∃ k, TruV X.K x H k ∧ Q k H) := by
  intro pins s σ H x v Q I rx h
  obtain ⟨k, e, q⟩ := h
  have hl := line63
  have hs : sizeLine = 16777216 := sizeLine_eq
  cases x with
  | non =>
    cases rx
    have e' : k = false := e
    subst e'
    exact truthy_none ⟨H, I, q⟩
  | bl b =>
    cases rx
    have e' : k = b := e
    subst e'
    exact wpAny_truthy_bool ⟨H, I, q⟩
  | int i =>
    obtain ⟨t, rfl⟩ := rx
    have e' : k = (i != 0) := e
    subst e'
    exact PySem.P.truthy_int ⟨H, I, q⟩
  | str y =>
    obtain ⟨t, rfl⟩ := rx
    obtain ⟨hy, e'⟩ : y.length ≤ sizeLine ∧ k = ((y.length : Int) != 0) := e
    subst e'
    exact PySem.P.truthy_str (by omega) ⟨H, I.tok _, q⟩
  | byt y =>
    obtain ⟨t, rfl⟩ := rx
    obtain ⟨hy, e'⟩ : y.size ≤ sizeLine ∧ k = ((y.size : Int) != 0) := e
    subst e'
    exact PySem.W.truthy_bytes (by omega) ⟨H, I.tok _, q⟩
  | ref p =>
    cases rx
    have e' : (∃ xs, SqL X.K H p xs ∧ k = !xs.isEmpty) ∨ (∃ xs, SqT X.K H p xs ∧ k = !xs.isEmpty) ∨ ∃ kvs, H p = some (.dK kvs) ∧ k = !kvs.isEmpty := e
    rcases e' with ⟨xs, hx, e'⟩ | ⟨xs, hx, e'⟩ | ⟨kvs, hx, e'⟩
    · subst e'
      obtain ⟨its, r, pl, hz⟩ := I.list hx
      have hlen := r.length
      exact wpAny_truthy_list pl.isList (by simp only [List.size_toArray]; omega) ⟨H, I.tok _, by rw [isEmpty_of r]; exact q⟩
    · subst e'
      obtain ⟨its, r, pl, hz⟩ := I.tuple hx
      have hlen := r.length
      exact truthy_tuple pl (by simp only [List.size_toArray]; omega) ⟨H, I.tok _, by rw [isEmpty_of r]; exact q⟩
    · subst e'
      obtain ⟨hz, hS, vs, r, m⟩ : kvs.length ≤ sizeLine ∧ (p == sysModules) = false ∧ ∃ vs, KV kvs vs ∧ s.heap.DictOf (mixKind X.prog X.w) p vs := I.hok p _ hx
      have hlen : kvs.length = vs.length := Paired.length r
      exact wpAny_truthy_dict hS m (by omega) ⟨H, I.tok _, by rw [isEmpty_kv r]; exact q⟩
  | _ => exact (show False from e).elim
theorem pt_truth (ha : PE X a ta) (he : ∀ whole, isTrue a X.env whole = (do let v ← whole; standAt a.pos; holding [v] (truthy v))) :
    PT X a (fun σ H Q => ta σ H fun x H' => ∃ k, TruV X.K x H' k ∧ Q k H') := by
  intro pins s σ H Q I h
  exact isTrue_plain (thn (ha pins s σ H _ I h) fun v s1 ⟨x, H1, I1, r1, q1⟩ => tru_ok pins s1 σ H1 x v Q I1 r1 q1) (he _)
theorem op_add_str : OpR X (binaryOp .Add) (fun x y H Q => ∃ i j, x = .str i ∧ y = .str j ∧ i.length + j.length ≤ sizeLine ∧ Q (.str (i ++ j)) H) := by
  intro pins s σ H x y v u Q I rx ry h
  obtain ⟨i, j, rfl, rfl, hz, q⟩ := h
  obtain ⟨t, rfl⟩ := rx
  obtain ⟨t', rfl⟩ := ry
  exact add_str (fun t' tk => ⟨.str (i ++ j), H, I.tok _, ⟨_, rfl⟩, q⟩) hz
theorem vals1 {x : V} {us : List Value} (r : Vals [x] us) : ∃ u, us = [u] ∧ RelV x u := by
  cases r with
  | cons r1 r2 => cases r2; exact ⟨_, rfl, r1⟩
theorem vals2 {x y : V} {us : List Value} (r : Vals [x, y] us) : ∃ u w', us = [u, w'] ∧ RelV x u ∧ RelV y w' := by
  cases r with
  | cons r1 r2 =>
    cases r2 with
    | cons r3 r4 => cases r4; exact ⟨_, _, rfl, r1, r3⟩
theorem call_min2 (hc : X.calm = true) : CallR X (.builtin "min") (fun xs H Q => ∃ i j, xs = [.int i, .int j] ∧ Q (.int (if j < i then j else i)) H) := by
  intro pins s σ H xs us Q I r h
  obtain ⟨i, j, rfl, q⟩ := h
  obtain ⟨u, w', rfl, ⟨t, rfl⟩, ⟨t', rfl⟩⟩ := vals2 r
  refine min_two_ints (I.ok.hd hc) fun h' tk k => ⟨_, H, I.kept k, ?_, q⟩
  by_cases hj : j < i
  · rw [if_pos hj, if_pos hj]; exact ⟨_, rfl⟩
  · rw [if_neg hj, if_neg hj]; exact ⟨_, rfl⟩
end
end L2
namespace L2
open PySem PySem.Spec PyProof.Rows
structure ObjM (h : Heap) (x dx C : Addr) (mA : Str → Option Value) : Prop where
  obj : h.get? x = some (PySem.W.instObj C dx)
  ns : h.Ns1 dx mA
  ne : dx ≠ x
theorem lookIn_ns {h : Heap} {dx : Addr} {mA : Str → Option Value} (n : h.Ns1 dx mA) : ∃ od, h.get? dx = some od ∧ ∀ name, PySem.W.lookIn name od = some (mA name) := by
  obtain ⟨o, es, ep, ho, hd, hk, _, hm⟩ := n
  refine ⟨o, ho, fun name => ?_⟩
  have e := hm name
  unfold nsFind findBy at e
  rw [← Array.find?_toList] at e
  unfold PySem.W.lookIn
  rw [hd]
  dsimp only
  split
  · rename_i y q
    rw [q] at e
    exact congrArg some e
  · rename_i q
    rw [q] at e
    have a : es.toList.any (·.refKey) = false := by
      rw [List.any_eq_false]
      intro y hy
      obtain ⟨z, t, hkey⟩ := hk y (Array.mem_toList_iff.mp hy)
      simp [DictEntry.refKey, hkey]
    have a' : ¬ es.toList.any (·.refKey) = true := by rw [a]; exact Bool.false_ne_true
    rw [if_neg a']
    exact congrArg some e
theorem ObjM.look {h : Heap} {x dx C : Addr} {mA : Str → Option Value} (I : ObjM h x dx C mA) : ∃ od, PySem.W.InstAt h x (PySem.W.instObj C dx) C (some od) ∧ ∀ name, PySem.W.lookIn name od = some (mA name) :=
  let ⟨od, ho, hl⟩ := lookIn_ns I.ns
  ⟨od, ⟨I.obj, rfl, rfl, ho⟩, hl⟩
section
variable {P : Program} {w : World} {H H' : Hp} {h h' : Heap} {a C dx : Addr} {fs fs' : List (Str × V)}
theorem ins_get (hok : HOk P w H h) (e : H a = some (.ins C dx fs)) : ∃ mA, ObjM h a dx C mA ∧ (∀ f, RelO (fs.lookup f) (mA f)) ∧ PySem.Within mA (fs.map (·.1)) ∧ fs.length ≤ 1000 ∧ H dx = some (.own a) := by
  obtain ⟨d, z, ne, ob, mA, n, r, q⟩ := (show ObjOk P w H h a (.ins C dx fs) from hok a _ e)
  exact ⟨mA, ⟨ob, n, ne⟩, r, q, z, d⟩
end
structure Cls (K : Fg) (C : Addr) : Prop where
  pg : PySem.W.plainGet K C Str.empty = true
  hd : PySem.W.hasDictIn K C = true
  po : PySem.W.plainOver K C = true
  sa : PySem.W.findIn K (.ref C) "__setattr__" = some (some (.builtin "object.__setattr__"))
theorem Cls.get {K : Fg} {C : Addr} (c : Cls K C) (f : Str) : PySem.W.plainGet K C f = true := c.pg
section
variable {X : Cx} {pins : List (Addr × Obj)} {σ : St} {H : Hp} {s : Shared} {A : Around} {E : Value → Shared → Prop} {Q : Value → Shared → Prop} {c : Value} {b : Bool}
inductive TyOf (K : Fg) (H : Hp) : V → Value → Prop where
  | non : TyOf K H .non (.type "NoneType")
  | bl (x : Bool) : TyOf K H (.bl x) (.type "bool")
  | int (i : Int) : TyOf K H (.int i) (.type "int")
  | str (x : Str) : TyOf K H (.str x) (.type "str")
  | flt (x : UInt64) : TyOf K H (.flt x) (.type "float")
  | lst {a : Addr} {xs : List V} (e : H a = some (.lst xs)) : TyOf K H (.ref a) (.type "list")
  | frz {a : Addr} {o : Obj} {xs : List V} (e : H a = some (.frz o (.lst xs))) : TyOf K H (.ref a) (.type "list")
  | tup {a : Addr} {xs : List V} (e : H a = some (.tup xs)) : TyOf K H (.ref a) (.type "tuple")
  | dK {a : Addr} {kvs : List (Key × V)} (e : H a = some (.dK kvs)) : TyOf K H (.ref a) (.type "dict")
  | dT {a : Addr} {kvs : List (List Key × V)} (e : H a = some (.dT kvs)) : TyOf K H (.ref a) (.type "dict")
  | ins {a C dx : Addr} {fs : List (Str × V)} (e : H a = some (.ins C dx fs)) (cl : Cls K C) (ha : PySem.W.findIn K (.ref C) "__class__" = some (some (.builtin "object.__class__")))
      (hn : PySem.W.specialIn K (.builtin "object.__class__") "__get__" = some (some (.builtin "getset_descriptor.__get__"))) (htk : PySem.W.takesIn K (.builtin "object.__class__") = some true)
      (hm : PySem.W.mroIn K C (.type "object") = some true) : TyOf K H (.ref a) (.ref C)
theorem isinst_ok {x : V} {u t : Value} (I : Inv X pins σ H s) (rx : RelV x u) (ty : TyOf X.K H x t) (e : PySem.W.kitOne X.K t c = some b) (h : ∀ tk, Q (.bool b) { s with toks := tk }) :
    wpAny (model X.prog X.w) A (call (.builtin "isinstance") [u, c]) Q E s := by
  cases ty with
  | non => cases (show u = Value.none from rx); exact PySem.W.kia_one PySem.W.kitx_none I.kIn True.intro e (fun z => nomatch z) h
  | bl y => cases (show u = Value.bool y from rx); exact PySem.W.kia_one PySem.W.kitx_bool I.kIn True.intro e (fun z => nomatch z) h
  | int i => obtain ⟨t, q⟩ := (show ∃ t, u = Value.int i t from rx); cases q; exact PySem.W.kia_one PySem.W.kitx_int I.kIn True.intro e (fun z => nomatch z) h
  | str y => obtain ⟨t, q⟩ := (show ∃ t, u = Value.str y t from rx); cases q; exact PySem.W.kia_one PySem.W.kitx_str I.kIn True.intro e (fun z => nomatch z) h
  | flt y => obtain ⟨t, q⟩ := (show ∃ t, u = Value.float y t from rx); cases q; exact PySem.W.kia_one PySem.W.kitx_float I.kIn True.intro e (fun z => nomatch z) h
  | @lst a xs ea =>
    cases (show u = Value.ref a from rx)
    obtain ⟨_, _, n, _, h1⟩ := (show ObjOk X.prog X.w H s.heap a (.lst xs) from I.hok a _ ea)
    exact PySem.W.kia_one PySem.W.kitx_list I.kIn ⟨_, h1, rfl⟩ e (fun z => nomatch z) h
  | @frz a ob xs ea =>
    cases (show u = Value.ref a from rx)
    obtain ⟨_, _, _, n, _, h1⟩ := (show ObjOk X.prog X.w H s.heap a (.frz ob (.lst xs)) from I.hok a _ ea)
    exact PySem.W.kia_one PySem.W.kitx_list I.kIn ⟨_, h1, rfl⟩ e (fun z => nomatch z) h
  | @tup a xs ea =>
    cases (show u = Value.ref a from rx)
    obtain ⟨_, _, _, p⟩ := (show ObjOk X.prog X.w H s.heap a (.tup xs) from I.hok a _ ea)
    obtain ⟨o, h1, h2, _⟩ := p
    exact PySem.W.kia_one PySem.W.kitx_tuple I.kIn ⟨o, h1, h2⟩ e (fun z => nomatch z) h
  | @dK a kvs ea =>
    cases (show u = Value.ref a from rx)
    obtain ⟨_, _, vs, _, p⟩ := (show ObjOk X.prog X.w H s.heap a (.dK kvs) from I.hok a _ ea)
    obtain ⟨o, es, ep, h1, h2, _⟩ := p
    exact PySem.W.kia_one PySem.W.kitx_dict I.kIn ⟨o, h1, h2.1⟩ e (fun z => nomatch z) h
  | @dT a kvs ea =>
    cases (show u = Value.ref a from rx)
    obtain ⟨_, _, xs, _, o, es, ep, h1, h2, _⟩ := (show ObjOk X.prog X.w H s.heap a (.dT kvs) from I.hok a _ ea)
    exact PySem.W.kia_one PySem.W.kitx_dict I.kIn ⟨o, h1, h2.1⟩ e (fun z => nomatch z) h
  | @ins a C dx fs ea cl ha hn htk hm =>
    cases (show u = Value.ref a from rx)
    obtain ⟨mA, O, _⟩ := ins_get I.hok ea
    obtain ⟨od, J, _⟩ := O.look
    exact PySem.W.kia_one (PySem.W.kitx_own (cl.get _) cl.hd ha hn htk hm) I.kIn J e (fun z => nomatch z) h
end
end L2
namespace L2
open PySem PySem.Spec PyProof.Rows
structure Room (k : Nat) (A : Around) : Prop where
  hd : A.handled = none
  dp : A.depth + 3 * k + 5 < recursionLimit
  un : A.units + 16 * k + 200 < cLine
theorem Room.mono {j k : Nat} {A : Around} (r : Room k A) (h : j ≤ k) : Room j A := ⟨r.hd, by have := r.dp; omega, by have := r.un; omega⟩
theorem Room.deeper {k : Nat} {A : Around} (r : Room (k + 1) A) (env : Env) : Room k (A.deeper env) :=
  ⟨r.hd, by have := r.dp; show A.depth + 1 + 3 * k + 5 < _; omega, by have := r.un; show A.units + 3 + 16 * k + 200 < _; omega⟩
theorem Room.in1 {k : Nat} {A : Around} (r : Room (k + 1) A) : Room k A.in1 :=
  ⟨r.hd, by have := r.dp; show A.depth + 3 * k + 5 < _; omega, by have := r.un; show A.units + 1 + 16 * k + 200 < _; omega⟩
theorem Room.depth {k : Nat} {A : Around} (r : Room k A) : A.depth < recursionLimit := by have := r.dp; omega
theorem Room.units0 {k : Nat} {A : Around} (r : Room k A) : A.units < cLine := by have := r.un; omega
noncomputable def tNil : TA := fun _ H Q => Q [] H
noncomputable def tCons (ta : TE) (tr : TA) : TA := fun σ H Q => ta σ H fun x H1 => tr σ H1 fun xs H2 => Q (x :: xs) H2
section
variable {X : Cx} {e : Expr} {es : List Expr} {te : TE} {t : TA} {pos : Pos}
theorem pa_nil : PA X [] tNil := fun _ _ _ _ H Q I h => Calls.spliced_nil ⟨[], H, I, .nil, h⟩
theorem pa_cons (ha : PE X e te) (hr : PA X es t) (hs : starEach (e :: es) X.env = (false, eval e X.env) :: starEach es X.env := by rfl) : PA X (e :: es) (tCons te t) := by
  intro pos pins s σ H Q I h
  rw [hs]
  show wpAny _ _ (spliced ((false, eval e X.env) :: backTo pos (starEach es X.env))) _ _ s
  refine Calls.spliced_cons (thn (ha pins s σ H _ I h) fun u s1 ⟨x, H1, I1, r1, q1⟩ => ?_)
  exact thn (hr pos pins s1 σ H1 _ I1 q1) fun us s2 ⟨xs, H2, I2, r2, q2⟩ => ⟨x :: xs, H2, I2, .cons r1 r2, q2⟩
noncomputable def tTup (t : TA) : TE := fun σ H Q => t σ H fun xs H1 => xs.length ≤ sizeLine ∧ ∀ p, H1 p = none → Q (.ref p) (upd H1 p (.tup xs))
noncomputable def tLst (t : TA) : TE := fun σ H Q => t σ H fun xs H1 => xs.length ≤ sizeLine ∧ ∀ p, H1 p = none → Q (.ref p) (upd H1 p (.lst xs))
theorem pe_tup {x1} (h : PA X es t) : PE X (.Tuple es x1 pos) (tTup t) := by
  intro pins s σ H Q I hq
  refine wpAny_Tuple_spliced (thn (h pos pins s σ H _ I hq) fun us s1 ⟨xs, H1, I1, r, z, q⟩ => ⟨by rw [← r.length]; exact z, ?_⟩)
  have hf : H1 s1.heap.objs.size = none := I1.hok.fresh (Nat.le_refl _)
  refine ⟨.ref s1.heap.objs.size, upd H1 s1.heap.objs.size (.tup xs), I1.laid (t' := s1.toks) (fun b u e => Heap.get?_push_of_some _ e) (Nat.le_refl _) ?_, rfl, q _ hf⟩
  exact ⟨z, us, r, ⟨_, Heap.get?_push_size _ rfl, rfl, _, rfl⟩⟩
theorem pe_lst (h : PA X es t) : PE X (.List es pos) (tLst t) := by
  intro pins s σ H Q I hq
  refine wpAny_List_spliced (thn (h pos pins s σ H _ I hq) fun us s1 ⟨xs, H1, I1, r, z, q⟩ => ⟨by rw [← r.length]; exact z, ?_⟩)
  have hf : H1 s1.heap.objs.size = none := I1.hok.fresh (Nat.le_refl _)
  refine ⟨.ref s1.heap.objs.size, upd H1 s1.heap.objs.size (.lst xs), I1.laid (t' := s1.toks) (fun b u e => Heap.get?_push_of_some _ e) (Nat.le_refl _) ?_, rfl, q _ hf⟩
  exact ⟨z, us, 0, r, Heap.get?_push_size _ rfl⟩
end
noncomputable abbrev Sp := List V → Hp → VK → XK → Prop
noncomputable abbrev CXT := List Env → Hp → Shared → XK → Value → Shared → Prop
structure Env0 (P : Program) (w : World) (K : Fg) (mg : Str → Option Value) (base : Heap) (A : Around) (outer : List Env) (s : Shared) (H : Hp) : Prop where
  frames : A.frames = some outer
  mod : Mod K mg base
  bs : ∀ b o, base.get? b = some o → s.heap.get? b = some o ∧ H b = none
  bsz : base.objs.size ≤ s.heap.objs.size
  funs : s.heap.FunFrames base outer
  frf : FrF K outer H
  hok : HOk P w H s.heap
  bare : AllBare s.gens
noncomputable def CE (outer : List Env) (P : Program) (w : World) (H : Hp) (s : Shared) (Q : VK) (u : Value) (s' : Shared) : Prop :=
  ∃ v H', s'.os = s.os ∧ AllBare s'.gens ∧ Un (frs outer) [] H H' s.heap s'.heap ∧ HOk P w H' s'.heap ∧ RelV v u ∧ Q v H'
noncomputable def CR (CX : CXT) (outer : List Env) (P : Program) (w : World) (H : Hp) (s : Shared) (Q : VK) (E : XK) (r : Result) (s' : Shared) : Prop :=
  match r with
  | .ok (.ret u) => CE outer P w H s Q u s'
  | .ok _ => False
  | .error e => CX outer H s E e s'
structure FnOk (P : Program) (w : World) (K : Fg) (mg : Str → Option Value) (base : Heap) (CX : CXT) (k : Nat) (f : Addr) (fd : FuncData) (ps : List Str) (sp : Sp) : Prop where
  len : ∀ vs H Q E, sp vs H Q E → vs.length = ps.length
  run : ∀ (A : Around) (outer : List Env) (s : Shared) (H : Hp) (args : Args) (us : List Value) (vs : List V) (Q : VK) (E : XK), Room k A → Env0 P w K mg base A outer s H → BindsTo s fd args (ps.zip us) → Vals vs us → sp vs H Q E →
    codeAny (model P w) A (.call (.ref f) args) (CR CX outer P w H s Q E) s
section
variable {X : Cx} {pins : List (Addr × Obj)} {σ : St} {H : Hp} {s s' : Shared}
theorem Inv.env0 (I : Inv X pins σ H s) : Env0 X.prog X.w X.K X.mg X.base X.A X.stack s H :=
  ⟨I.ok.frames, I.ok.mod, I.bs, Nat.le_trans I.ok.bsz I.sz, I.stack, ⟨I.stkFree, I.tabIn⟩, I.hok, I.bare⟩
theorem Inv.after {Q : VK} {u : Value} (I : Inv X pins σ H s) (h : CE X.stack X.prog X.w H s Q u s') : EP X pins σ Q u s' := by
  obtain ⟨v, H', os, bare, un, hok, r, q⟩ := h
  obtain ⟨hh, g, d, t, os'⟩ := s'
  obtain rfl : os' = s.os := os
  exact ⟨v, H', I.call (h' := hh) (g' := g) (d' := d) (t' := t) (ch := []) un hok bare (fun b z => absurd z (by simp)), r, q⟩
end
noncomputable def tCall (sp : Sp) (dvs : List V) (E : XK) (t : TA) : TE := fun σ H Q => t σ H fun vs H1 => sp (vs ++ dvs) H1 Q E
noncomputable def Binds (K : Fg) (fd : FuncData) (ps : List Str) (ds : List Value) : Prop :=
  ∀ (s : Shared) (us : List Value), K.In s.heap → (us ++ ds).length = ps.length → BindsTo s fd ⟨us, []⟩ (ps.zip (us ++ ds))
theorem Binds.all {K : Fg} {fd : FuncData} {ps : List Str} (h : ∀ us : List Value, us.length = ps.length → bindArgs fd ⟨us, []⟩ = pure (ps.zip us)) : Binds K fd ps [] := fun s us _ hl => by
  rw [List.append_nil] at hl ⊢
  exact .of_eq (h us hl)
noncomputable def Passes (CX : CXT) (X : Cx) (E : XK) : Prop := ∀ (pins : List (Addr × Obj)) (σ : St) (H : Hp) (s : Shared) (e : Value) (s' : Shared), Inv X pins σ H s → CX X.stack H s E e s' → X.xe e s'
section
variable {X : Cx} {CX : CXT} {k : Nat} {f C : Addr} {fd : FuncData} {ps : List Str} {sp : Sp} {dvs : List V} {ds : List Value} {E : XK} {x m : Str} {p pos apos : Pos} {e o : Expr} {es : List Expr} {ta : TE} {t : TA}
theorem run_fn {pins : List (Addr × Obj)} {σ : St} {H : Hp} {s : Shared} {Q : VK} {us : List Value} {vs : List V} (F : FnOk X.prog X.w X.K X.mg X.base CX k f fd ps sp) (hr : Room k X.A) (hb : Binds X.K fd ps ds) (hd : Vals dvs ds) (hx : Passes CX X E)
    (I : Inv X pins σ H s) (r : Vals vs us) (h : sp (vs ++ dvs) H Q E) : wpAny (model X.prog X.w) X.A (call (.ref f) us) (EP X pins σ Q) X.xe s := by
  have r2 : Vals (vs ++ dvs) (us ++ ds) := r.append hd
  have hl : (us ++ ds).length = ps.length := by rw [← r2.length]; exact F.len _ _ _ _ h
  refine wpAny_call (codeAny_mono (F.run X.A X.stack s H ⟨us, []⟩ (us ++ ds) (vs ++ dvs) Q E hr I.env0 (hb s us I.kIn hl) r2 h) fun r s' hq => ?_)
  cases r with
  | error e => exact hx pins σ H s e s' I hq
  | ok fl =>
    cases fl with
    | ret u => exact I.after hq
    | next => exact False.elim hq
    | brk => exact False.elim hq
    | cont => exact False.elim hq
theorem pe_call (F : FnOk X.prog X.w X.K X.mg X.base CX k f fd ps sp) (hr : Room k X.A) (hg : Gl X x) (hm : X.mg x = some (.ref f)) (hk : PySem.W.keepIn X.K (.ref f) = true) (hb : Binds X.K fd ps ds) (hd : Vals dvs ds) (hx : Passes CX X E)
    (ha : PA X (e :: es) t) (hdb : (x == ("__debug__" : Str)) = false := by decide) (he : starEach (e :: es) X.env = (false, eval e X.env) :: starEach es X.env := by rfl) (hpl : (backTo pos (starEach es X.env)).any (·.1) = false := by rfl) :
    PE X (.Call (.Name x p) (e :: es) [] pos) (tCall sp dvs E t) := by
  intro pins s σ H Q I h
  refine wpAny_Call_Name_kw (ld_glob I hg hm ?_ hdb)
  refine PySem.W.callWith_K (h₀ := X.base) I.ok.mod.kin hk (thn (ha pos pins s σ H _ I h) fun us s1 ⟨vs, H1, I1, r, q⟩ => ⟨I1.kIn, ?_⟩) he hpl
  exact run_fn F hr hb hd hx I1 r q
end
noncomputable def PK (X : Cx) (kws : List Keyword) (t : TA) : Prop :=
  ∀ (pos : Pos) (pins : List (Addr × Obj)) (s : Shared) (σ : St) (H : Hp) (Q : List V → Hp → Prop), Inv X pins σ H s → t σ H Q → wpAny (model X.prog X.w) X.A (evalAll ((backToKw pos (keywordEach kws X.env)).map (·.2))) (AP X pins σ Q) X.xe s
section
variable {X : Cx} {CX : CXT} {k : Nat} {f C : Addr} {fd : FuncData} {ps ks : List Str} {sp : Sp} {E : XK} {x m : Str} {p pos apos kpos : Pos} {e o : Expr} {es : List Expr} {kws : List Keyword} {te ta : TE} {t tk : TA} {nm : Option Str}
theorem pk_nil : PK X [] tNil := fun _ _ _ _ H Q I h => wpAny_evalAll_nil ⟨[], H, I, .nil, h⟩
theorem pk_cons (ha : PE X e te) (hr : PK X kws t) : PK X (⟨nm, e, kpos⟩ :: kws) (tCons te t) := by
  intro pos pins s σ H Q I h
  show wpAny _ _ (evalAll ((do let v ← eval e X.env; standAt pos; pure v) :: (backToKw pos (keywordEach kws X.env)).map (·.2))) _ _ s
  refine wpAny_evalAll_cons (wpAny_bind (thn (ha pins s σ H _ I h) fun u s1 ⟨x, H1, I1, r1, q1⟩ => wpAny_bind (wpAny_standAt (wpAny_pure ?_))))
  exact thn (hr pos pins s1 σ H1 _ I1 q1) fun us s2 ⟨xs, H2, I2, r2, q2⟩ => ⟨x :: xs, H2, I2, .cons r1 r2, q2⟩
variable {g : List Value → List Value → List Value} {gV : List V → List V → List V}
end
structure FnScope (N P : List Str) (sc : Scope) : Prop where
  kind : sc.kind = .function
  co : sc.isCoroutine = false
  gen : sc.isGenerator = false
  nd : N.Nodup
  pre : N.take P.length = P
  par : ∀ x ∈ P, sc.names.lookup x = some .local ∨ sc.names.lookup x = some .cell
  nofree : ∀ y ∈ sc.names, y.2 ≠ .free
theorem bindL_out {kindOf : Str → Option NameKind} {x : Str} : ∀ {binds : List (Str × Value)} {m : Str → Option Value}, (∀ v, (x, v) ∉ binds) → bindL kindOf binds m x = m x
  | [], _, _ => rfl
  | (n, v) :: r, m, h => by
    unfold bindL
    rw [bindL_out fun w hw => h w (List.mem_cons_of_mem _ hw)]
    split
    · have : x ≠ n := by rintro rfl; exact h v List.mem_cons_self
      simp [this]
    · rfl
theorem bindC_out {kindOf : Str → Option NameKind} {x : Str} : ∀ {binds : List (Str × Value)} {m : Str → Option Value}, (∀ v, (x, v) ∉ binds) → bindC kindOf binds m x = m x
  | [], _, _ => rfl
  | (n, v) :: r, m, h => by
    unfold bindC
    rw [bindC_out fun w hw => h w (List.mem_cons_of_mem _ hw)]
    split
    · rfl
    · have : x ≠ n := by rintro rfl; exact h v List.mem_cons_self
      simp [this]
theorem bindL_get {kindOf : Str → Option NameKind} {x : Str} {v : Value} : ∀ {P : List Str} {vs : List Value} {i : Nat} {m : Str → Option Value}, P.Nodup → P[i]? = some x → vs[i]? = some v → kindOf x = some .local →
    bindL kindOf (P.zip vs) m x = some v
  | [], _, _, _, _, h, _, _ => by simp at h
  | _ :: _, [], _, _, _, _, h, _ => by simp at h
  | p :: P, w :: vs, 0, m, nd, h1, h2, hk => by
    simp at h1 h2; subst h1; subst h2
    show bindL kindOf ((p, w) :: P.zip vs) m p = _
    unfold bindL
    rw [bindL_out fun v hv => (List.nodup_cons.mp nd).1 (List.of_mem_zip hv).1, if_pos hk]
    simp
  | p :: P, w :: vs, i + 1, m, nd, h1, h2, hk => by
    show bindL kindOf ((p, w) :: P.zip vs) m x = _
    unfold bindL
    exact bindL_get (i := i) (List.nodup_cons.mp nd).2 (by simpa using h1) (by simpa using h2) hk
theorem bindC_get {kindOf : Str → Option NameKind} {x : Str} {v : Value} : ∀ {P : List Str} {vs : List Value} {i : Nat} {m : Str → Option Value}, P.Nodup → P[i]? = some x → vs[i]? = some v → kindOf x ≠ some .local →
    bindC kindOf (P.zip vs) m x = some v
  | [], _, _, _, _, h, _, _ => by simp at h
  | _ :: _, [], _, _, _, _, h, _ => by simp at h
  | p :: P, w :: vs, 0, m, nd, h1, h2, hk => by
    simp at h1 h2; subst h1; subst h2
    show bindC kindOf ((p, w) :: P.zip vs) m p = _
    unfold bindC
    rw [bindC_out fun v hv => (List.nodup_cons.mp nd).1 (List.of_mem_zip hv).1, if_neg hk]
    simp
  | p :: P, w :: vs, i + 1, m, nd, h1, h2, hk => by
    show bindC kindOf ((p, w) :: P.zip vs) m x = _
    unfold bindC
    exact bindC_get (i := i) (List.nodup_cons.mp nd).2 (by simpa using h1) (by simpa using h2) hk
noncomputable def start (N : List Str) (vs : List V) : St := vs.map some ++ List.replicate (N.length - vs.length) none
noncomputable def cxOf (CX : CXT) (P : Program) (w : World) (K : Fg) (mg : Str → Option Value) (base : Heap) (N : List Str) (qual : Str) (scope : Scope) (f : Addr) (cd : Value) (A : Around) (outer : List Env) (s : Shared) (H : Hp) (E : XK) : Cx where
  prog := P
  w := w
  K := K
  mg := mg
  base := base
  A := A.deeper (envOfC qual scope s.heap.objs.size f cd)
  N := N
  s₀ := s
  H₀ := H
  env := envOfC qual scope s.heap.objs.size f cd
  outer := outer
  stack := envOfC qual scope s.heap.objs.size f cd :: outer
  ex := []
  calm := true
  fn := fun _ => true
  pn := []
  xe := fun e s' => wpAny (model P w) (A.deeper (envOfC qual scope s.heap.objs.size f cd)) (leaving (envOfC qual scope s.heap.objs.size f cd) e) (fun _ s'' => CX outer H s E e s'') (fun e' s'' => CX outer H s E e' s'') s'
theorem cell_has {sc : Scope} {n : Nat} {x : Str} (h : sc.names.lookup x = some .cell) : ∃ c, (cellsFrom n sc.names []).lookup x = some c := by
  have q := PySem.W.cellsFrom_some sc.names n [] (.inl h)
  exact Option.isSome_iff_exists.mp q
theorem inv_start {CX : CXT} {P : Program} {w : World} {K : Fg} {mg : Str → Option Value} {base : Heap} {N ps : List Str} {qual : Str} {scope : Scope} {f : Addr} {cd : Value} {A : Around} {outer : List Env} {s s1 : Shared} {H : Hp} {E : XK} {us : List Value} {vs : List V}
    (S : FnScope N ps scope) (hd : A.handled = none) (e0 : Env0 P w K mg base A outer s H) (hl : vs.length = ps.length) (r : Vals vs us)
    (x : InCallC s s.heap.objs.size (bindL (envOfC qual scope s.heap.objs.size f cd).kindOf (ps.zip us) fun _ => none) (cellsFrom (s.heap.objs.size + 1) scope.names []) (bindC (envOfC qual scope s.heap.objs.size f cd).kindOf (ps.zip us) fun _ => none) s1) :
    Inv (cxOf CX P w K mg base N qual scope f cd A outer s H E) [] (start N vs) H s1 := by
  have hpl : ps.length ≤ N.length := by have := congrArg List.length S.pre; rw [List.length_take] at this; omega
  obtain ⟨h1, tk, rfl, hk⟩ := x.done
  have noA : ∀ b : Addr, b ∉ (cxOf CX P w K mg base N qual scope f cd A outer s H E).ex := fun b z => absurd (show b ∈ ([] : List Addr) from z) (by simp)
  refine ⟨⟨e0.mod, S.kind, rfl, rfl, Nat.le_refl _, fun y z c h1 h2 => ?_, fun y hy => ?_, fun y c _ h => ?_, fun _ => hd, Around.frames_deeper e0.frames, .inr ⟨rfl, rfl⟩, fun b z => absurd z (noA b), e0.bs, e0.bsz, fun b _ _ => noA b, fun b z => absurd z (noA b), e0.funs, e0.frf⟩,
    rfl, e0.bare, Un.kept hk, ⟨_, x.toInCall.ns, fun i y v h1 h2 h3 => ?_⟩, fun y c h => ⟨_, x.cell y c h⟩, e0.hok.fresh (Nat.le_refl _), fun y c h => ?_, fun p hp => absurd (show p ∈ ([] : List (Addr × Obj)) from hp) (by simp), e0.hok.kept hk, ?_⟩
  · exact name_of_addr x.apart (PySem.mem_of_lookup h1) (PySem.mem_of_lookup h2)
  · have hy : scope.names.lookup y = some .cell ∨ scope.names.lookup y = some .free := hy
    rcases hy with hy | hy
    · exact cell_has hy
    · exact absurd rfl (S.nofree _ (PySem.mem_of_lookup hy))
  · exact Nat.le_of_lt (x.above y c (PySem.mem_of_lookup h))
  · have hi : i < vs.length := by
      unfold start at h2
      by_cases hi : i < vs.length
      · exact hi
      · rw [List.getElem?_append_right (by simpa using hi)] at h2
        rw [List.getElem?_replicate] at h2
        split at h2 <;> cases h2
    have ha : vs[i]? = some v := by
      unfold start at h2
      rw [List.getElem?_append_left (by simpa using hi), List.getElem?_map] at h2
      cases e : vs[i]? with
      | none => rw [e] at h2; cases h2
      | some a => rw [e] at h2; cases h2; rfl
    obtain ⟨u, hu, rv⟩ := r.get ha
    have hp : ps[i]? = some y := by
      rw [← S.pre, List.getElem?_take_of_lt (by omega)]; exact h1
    have ndP : ps.Nodup := by rw [← S.pre]; exact S.nd.sublist (List.take_sublist _ _)
    refine ⟨u, rv, ?_⟩
    rcases S.par y (List.mem_of_getElem? hp) with k | k
    · exact .inl ⟨k, bindL_get ndP hp hu k⟩
    · obtain ⟨c, e⟩ := cell_has (n := s.heap.objs.size + 1) k
      refine .inr ⟨.inl k, c, e, ?_⟩
      have q := x.cell y c e
      rw [bindC_get ndP hp hu (by show scope.names.lookup y ≠ _; rw [k]; decide)] at q
      exact q
  · exact e0.hok.fresh (Nat.le_of_lt (x.above y c (PySem.mem_of_lookup h)))
  · unfold start
    show _ = N.length
    rw [List.length_append, List.length_map, List.length_replicate]
    omega
theorem fn_of {CX : CXT} {P : Program} {w : World} {K : Fg} {mg : Str → Option Value} {base : Heap} {k : Nat} {f : Addr} {name qual : Str} {params : Arguments} {body : List Stmt} {scope : Scope} {dV kV doc pm cdv ct oc : Value} {an od : Option Addr}
    {osl : Array (Option Value)} {N ps : List Str} {sp : Sp} (lk : K.lookup f = some ⟨oc, od, .func (PySem.W.fnOf name qual params body scope dV kV doc pm an cdv ct), osl⟩) (hcd : PySem.W.codeIn K cdv qual = true) (S : FnScope N ps scope)
    (len : ∀ vs H Q E, sp vs H Q E → vs.length = ps.length)
    (hbody : ∀ (A : Around) (outer : List Env) (s : Shared) (H : Hp) (vs : List V) (Q : VK) (E : XK), Room k (A.deeper (envOfC qual scope s.heap.objs.size f cdv)) → sp vs H Q E →
      ∃ t, PSs (cxOf CX P w K mg base N qual scope f cdv A outer s H E) body t ∧ t { nx := fun _ H' => Q .non H', rt := Q } (start N vs) H) :
    FnOk P w K mg base CX (k + 1) f (PySem.W.fnOf name qual params body scope dV kV doc pm an cdv ct) ps sp := by
  refine ⟨len, fun A outer s H args us vs Q E hr e0 hb r hsp => ?_⟩
  have hl := len _ _ _ _ hsp
  have KX : K.In s.heap := e0.mod.kin.keeps fun b o e => (e0.bs b o e).1
  have lim : s.heap.NoLimit := e0.mod.nolimit.keeps fun b o e => (e0.bs b o e).1
  have hkind : ∀ y ∈ ps.zip us, scope.names.lookup y.1 = some .local ∨ (scope.names.lookup y.1 = some .cell ∧ ((cellsFrom (s.heap.objs.size + 1) scope.names []).lookup y.1).isSome = true) := fun ⟨n, v⟩ hy => by
    rcases S.par n (List.of_mem_zip hy).1 with q | q
    · exact .inl q
    · exact .inr ⟨q, PySem.W.cellsFrom_some _ _ _ (.inl q)⟩
  refine codeAny_call_function hr.depth (KX _ _ lk) rfl S.co S.gen rfl (PySem.W.codeRec_of KX hcd) (hb _ _ _ _ ?_)
  refine wpAny_newFunctionEnv_cells S.kind hkind fun env he s1 x => ?_
  subst he
  refine ⟨lim.keeps x.toInCall.keep, codeAny_func ?_⟩
  obtain ⟨t, ht, hq⟩ := hbody A outer s H vs Q E (hr.deeper _) hsp
  have I : Inv (cxOf CX P w K mg base N qual scope f cdv A outer s H E) [] (start N vs) H s1 := inv_start S hr.hd e0 hl r x
  refine wpAny_mono (ht [] s1 (start N vs) H _ I hq) (fun fl s' hs => ?_) fun e s' hs => hs
  have fin : ∀ {σ' : St} {H' : Hp} {v : V} {u : Value}, Inv (cxOf CX P w K mg base N qual scope f cdv A outer s H E) [] σ' H' s' → RelV v u → Q v H' → CE outer P w H s Q u s' :=
    fun {σ' H' v u} J rv q => ⟨v, H', J.os, J.bare, J.base, J.hok, rv, q⟩
  cases fl with
  | ret u =>
    obtain ⟨v, σ', H', J, rv, q⟩ := hs
    exact fin J rv q
  | next =>
    obtain ⟨σ', H', J, q⟩ := hs
    exact fin (v := V.non) (u := Value.none) J rfl q
  | brk =>
    obtain ⟨_, _, _, q⟩ := hs
    exact False.elim q
  | cont =>
    obtain ⟨_, _, _, q⟩ := hs
    exact False.elim q
end L2
namespace L2
open PySem PySem.Spec PyProof.Rows
section
variable {X : Cx} {x : Str} {p pos : Pos} {e : Expr} {es : List Expr} {t : TA} {id T : String} {r : List V → Hp → VK → Prop}
noncomputable def tCB (r : List V → Hp → VK → Prop) (t : TA) : TE := fun σ H Q => t σ H fun vs H1 => r vs H1 Q
theorem pe_callB (hc : CallR X (.builtin id) r) (hg : Gl X x) (hm : X.mg x = none) (hv : bootBuiltins x = some (.builtin id)) (ha : PA X (e :: es) t) (hn : x ≠ "__name__" := by decide) (hdb : (x == ("__debug__" : Str)) = false := by decide)
    (he : starEach (e :: es) X.env = (false, eval e X.env) :: starEach es X.env := by rfl) (hpl : (backTo pos (starEach es X.env)).any (·.1) = false := by rfl) : PE X (.Call (.Name x p) (e :: es) [] pos) (tCB r t) := by
  intro pins s σ H Q I h
  refine wpAny_Call_Name_kw (ld_blt I hg hm hv ?_ hn hdb)
  exact PyProof.Rows.callWith_builtin1 (thn (ha pos pins s σ H _ I h) fun us s1 ⟨vs, H1, I1, r1, q1⟩ => hc pins s1 σ H1 vs us Q I1 r1 q1) he hpl
theorem pe_callTy (hc : CallR X (.type T) r) (hg : Gl X x) (hm : X.mg x = none) (hv : bootBuiltins x = some (.type T)) (ha : PA X (e :: es) t) (hn : x ≠ "__name__" := by decide) (hdb : (x == ("__debug__" : Str)) = false := by decide)
    (he : starEach (e :: es) X.env = (false, eval e X.env) :: starEach es X.env := by rfl) (hpl : (backTo pos (starEach es X.env)).any (·.1) = false := by rfl) : PE X (.Call (.Name x p) (e :: es) [] pos) (tCB r t) := by
  intro pins s σ H Q I h
  refine wpAny_Call_Name_kw (ld_blt I hg hm hv ?_ hn hdb)
  exact PyProof.Rows.callWith_type1 (thn (ha pos pins s σ H _ I h) fun us s1 ⟨vs, H1, I1, r1, q1⟩ => hc pins s1 σ H1 vs us Q I1 r1 q1) he hpl
end
end L2
namespace HT
open PySem PyProof.Rows
section
open PySem.SeqAt
open PySem.AutoSeq1 (wpAny_loadPart')
open PySem.MeetsSeq PySem.MeetsSeq2 PySem.MeetsSeq3
end
section
variable {prog : Program} {w : World} {A : Around} {E : Value → Shared → Prop} {s : Shared}
theorem cat_tup {t b : Addr} {vs ws : List Value} {Q : Value → Shared → Prop} (ht : IsTup s.heap t vs.toArray) (hb : IsTup s.heap b ws.toArray) (hv : vs ≠ [])
    (h1 : ws = [] → Q (.ref t) s) (h2 : ws ≠ [] → Q (.ref s.heap.objs.size) { s with heap := s.heap.push { cls := .type "tuple", data := .seq (vs ++ ws).toArray } })
    (hsz : vs.length + ws.length ≤ sizeLine) : wpAny (model prog w) A (binaryOp .Add (.ref t) (.ref b)) Q E s := by
  obtain ⟨⟨cls, dd, data, sl⟩, ho, hc, n, hd⟩ := id ht
  obtain ⟨⟨cls2, dd2, data2, sl2⟩, ho2, hc2, n2, hd2⟩ := id hb
  simp only at hc hd hc2 hd2
  subst hc hd hc2 hd2
  have e : vs.toArray ++ ws.toArray = (vs ++ ws).toArray := by simp
  by_cases hw : ws = []
  · exact concat_meets ⟨_, ho, rfl⟩ ⟨_, ho2, rfl⟩ noFill_tuple_add seq_tuple_add PySem.F.slot_tuple_add PySem.F.entry_tuple_add (PySem.F.args_tuple_add_2 _ _)
      (tuple_addW1 t b vs.toArray ws.toArray n n2 dd dd2 sl sl2 (by simpa using hv) (by simp [hw])) ⟨ho, ho2, h1 hw⟩
  · refine concat_meets ⟨_, ho, rfl⟩ ⟨_, ho2, rfl⟩ noFill_tuple_add seq_tuple_add PySem.F.slot_tuple_add PySem.F.entry_tuple_add (PySem.F.args_tuple_add_2 _ _)
      (tuple_addW2 t b vs.toArray ws.toArray n n2 dd dd2 sl sl2 (by simpa using hv) (by simpa using hw) (by rw [List.size_toArray, List.size_toArray]; exact hsz)) ⟨ho, ho2, ?_⟩
    rw [e]
    exact h2 hw
noncomputable def sIx (n d : Nat) : Option Int → Nat
  | none => d
  | some v => if v < 0 then (v + (n : Int)).toNat else min v.toNat n
theorem sIx_none (n d : Nat) : sIx n d none = d := rfl
theorem sIx_nat (n d k : Nat) : sIx n d (some (k : Int)) = min k n := by
  show (if (k : Int) < 0 then ((k : Int) + (n : Int)).toNat else min (k : Int).toNat n) = min k n
  rw [if_neg (by omega), Int.toNat_natCast]
theorem sIx_le (n d : Nat) (hd : d ≤ n) (o : Option Int) : sIx n d o ≤ n := by
  cases o with
  | none => exact hd
  | some v =>
    show (if v < 0 then (v + (n : Int)).toNat else min v.toNat n) ≤ n
    by_cases hv : v < 0
    · rw [if_pos hv]; omega
    · rw [if_neg hv]; exact Nat.min_le_right _ _
theorem clip_eq (v : Int) (n d : Nat) : (if v < 0 then max (v + (n : Int)) 0 else min v (n : Int)) = ((sIx n d (some v) : Nat) : Int) := by
  show (if v < 0 then max (v + (n : Int)) 0 else min v (n : Int)) = (((if v < 0 then (v + (n : Int)).toNat else min v.toNat n) : Nat) : Int)
  by_cases hv : v < 0
  · simp only [if_pos hv]; omega
  · simp only [if_neg hv]; omega
theorem adjust_gen (lo hi : Option Int) (n : Nat) : Builtin.Slice.sliceAdjust lo hi 1 (n : Int) = (((sIx n 0 lo : Nat) : Int), ((sIx n n hi : Nat) : Int)) := by
  have h1 : ¬ ((1 : Int) < 0) := by omega
  unfold Builtin.Slice.sliceAdjust
  simp only [h1, if_false]
  refine Prod.ext ?_ ?_
  · cases lo with
    | none => rfl
    | some v => exact clip_eq v n 0
  · cases hi with
    | none => rfl
    | some v => exact clip_eq v n n
theorem places_gen (i j : Nat) : Builtin.Slice.slicePlaces (i : Int) (j : Int) 1 = j - i := by
  unfold Builtin.Slice.slicePlaces
  have h1 : (1 : Int) > 0 := by omega
  simp only [h1, if_true, Int.ediv_one]
  split <;> omega
theorem slicePart_ {v : Value} {o : Option Int} {Q : Option Int → Shared → Prop} (p : IsPart v o) (h : Q o s) : wpAny (model prog w) A (Builtin.Slice.slicePartIndex v) Q E s := by
  cases p with
  | none => exact slicePart_none h
  | int i t => exact slicePart_int h
theorem sliceApplied_gen {sl : Addr} {vl vu : Value} {lo hi : Option Int} {n : Nat} {Q : Int × Int × Nat → Shared → Prop} (hs : s.heap.IsSliceOf sl vl vu .none) (pl : IsPart vl lo) (pu : IsPart vu hi)
    (h : Q (((sIx n 0 lo : Nat) : Int), 1, sIx n n hi - sIx n 0 lo) s) : wpAny (model prog w) A (Builtin.Slice.sliceApplied (.ref sl) (pure (n : Int))) Q E s := by
  obtain ⟨os, hos, hcs, hds⟩ := id hs
  unfold Builtin.Slice.sliceApplied Builtin.Slice.sliceFields
  refine wpAny_bind (wpAny_bind (wpAny_field hos hds (x := vl) rfl (wpAny_bind (wpAny_field hos hds (x := vu) rfl (wpAny_bind (wpAny_field hos hds (x := .none) rfl (wpAny_pure ?_)))))))
  refine wpAny_bind (slicePart_none ?_)
  show wpAny _ _ (if ((1 : Int) == 0) = true then _ else _) _ _ s
  rw [if_neg (by decide)]
  refine wpAny_bind (slicePart_ pl (wpAny_bind (slicePart_ pu (wpAny_bind (wpAny_pure ?_)))))
  show wpAny _ _ (match Builtin.Slice.sliceAdjust lo hi 1 (n : Int) with | (lo, hi) => pure (lo, (1 : Int), Builtin.Slice.slicePlaces lo hi 1)) _ _ s
  rw [adjust_gen lo hi n]
  show wpAny _ _ (pure (((sIx n 0 lo : Nat) : Int), (1 : Int), Builtin.Slice.slicePlaces ((sIx n 0 lo : Nat) : Int) ((sIx n n hi : Nat) : Int) 1)) _ _ s
  rw [places_gen]
  exact wpAny_pure h
theorem pick_gen (xs : Array Value) (i k : Nat) : ((List.range k).filterMap fun (m : Nat) => xs[((i : Int) + (m : Int) * 1).toNat]?).toArray = ((xs.toList.drop i).take k).toArray := by
  have e : (fun (m : Nat) => xs[((i : Int) + (m : Int) * 1).toNat]?) = fun m => xs[i + m]? := by
    funext m
    have : ((i : Int) + (m : Int) * 1).toNat = i + m := by omega
    rw [this]
  rw [e]
  have := pick_run xs i k
  rw [List.filterMap_map] at this
  have e2 : ((fun x => xs[x]?) ∘ fun x => i + x) = fun m => xs[i + m]? := rfl
  rw [e2] at this
  rw [this]
theorem getItem_tuple_cut {t sl : Addr} {items : Array Value} {vl vu : Value} {lo hi : Option Int} {Q : Value → Shared → Prop} (ht : IsTup s.heap t items) (hs : s.heap.IsSliceOf sl vl vu .none) (pl : IsPart vl lo) (pu : IsPart vu hi)
    (hw : ¬ (sIx items.size 0 lo = 0 ∧ sIx items.size items.size hi = items.size))
    (h : Q (.ref s.heap.objs.size) { s with heap := s.heap.push { cls := .type "tuple", data := .seq ((items.toList.drop (sIx items.size 0 lo)).take (sIx items.size items.size hi - sIx items.size 0 lo)).toArray } })
    (hsz : items.size ≤ sizeLine) : wpAny (model prog w) A (getItem (.ref t) (.ref sl)) Q E s := by
  have htake : sizeOk (.seq ((items.toList.drop (sIx items.size 0 lo)).take (sIx items.size items.size hi - sIx items.size 0 lo)).toArray) := by
    show ((items.toList.drop (sIx items.size 0 lo)).take (sIx items.size items.size hi - sIx items.size 0 lo)).toArray.size ≤ sizeLine
    rw [List.size_toArray, List.length_take, List.length_drop, Array.length_toList]
    omega
  have hj : sIx items.size items.size hi ≤ items.size := sIx_le _ _ (Nat.le_refl _) hi
  obtain ⟨os, hos, hcs, hds⟩ := id hs
  have hTs : s.TypeIs (.ref sl) "slice" := ⟨os, hos, hcs⟩
  unfold getItem
  try with_reducible refine wpAny_holding ?_
  first | refine wpAny_bind (wpAny_pure ?_) | skip
  refine wpAny_bind (wpAny_sequenceKey ht.typeIs (by decide) ?_)
  refine wpAny_bind (wpAny_callSpecial?_slot (name := Str.ofString "__getitem__") ht.typeIs PyProof.Rows.slot_tuple_getitem
    (wpAny_call_entry PyProof.Rows.slot_tuple_getitem ht.typeIs entry_tuple_getitem ?_ (args_tuple_getitem _ _)))
  show wpAny _ _ (Builtin.Tuple.tupleItemsOf (.ref t) >>= _) _ _ s
  refine wpAny_bind (tupleItemsOf_ ht ?_)
  refine wpAny_bind (wpAny_typeOf hTs ?_)
  rw [if_pos (by decide)]
  refine wpAny_bind (sliceApplied_gen hs pl pu ?_)
  have hno : ¬ ((((sIx items.size 0 lo : Nat) : Int) == 0 && (1 : Int) == 1 && (sIx items.size items.size hi - sIx items.size 0 lo) == items.size) = true) := by
    intro q
    rw [Bool.and_eq_true, Bool.and_eq_true] at q
    have q1 : ((sIx items.size 0 lo : Nat) : Int) = 0 := eq_of_beq q.1.1
    have q2 : sIx items.size items.size hi - sIx items.size 0 lo = items.size := eq_of_beq q.2
    exact hw ⟨by omega, by omega⟩
  show wpAny _ _ (if (((sIx items.size 0 lo : Nat) : Int) == 0 && (1 : Int) == 1 && (sIx items.size items.size hi - sIx items.size 0 lo) == items.size) = true then _ else _) _ _ s
  rw [if_neg hno, pick_gen]
  first
    | exact wpAny_bind (m := Builtin.Tuple.tupleExact _) (wpAny_newObj_type (wpAny_pure ⟨_, rfl, wpAny_pure h⟩) htake)
    | exact wpAny_bind (m := Builtin.Tuple.tupleExact _) (wpAny_newObj_type (wpAny_bind (wpAny_pure (wpAny_pure ⟨_, rfl, wpAny_pure h⟩))) htake)
    | exact wpAny_bind (wpAny_bind (m := Builtin.Tuple.tupleExact _) (wpAny_newObj_type (wpAny_pure (wpAny_pure ⟨_, rfl, wpAny_pure h⟩)) htake))
    | exact wpAny_bind (wpAny_bind (m := Builtin.Tuple.tupleExact _) (wpAny_newObj_type (wpAny_pure ⟨_, rfl, wpAny_pure h⟩) htake))
end
end HT
namespace L2
open PySem PySem.Spec PyProof.Rows
noncomputable abbrev TO := St → Hp → (Option Int → Hp → Prop) → Prop
noncomputable def PO (X : Cx) (e : Option Expr) (t : TO) : Prop :=
  ∀ (pins : List (Addr × Obj)) (s : Shared) (σ : St) (H : Hp) (Q : Option Int → Hp → Prop), Inv X pins σ H s → t σ H Q →
    wpAny (model X.prog X.w) X.A (evalPart e X.env) (fun u s' => ∃ o H', Inv X pins σ H' s' ∧ IsPart u o ∧ Q o H') X.xe s
noncomputable def tNoPart : TO := fun _ H Q => Q none H
noncomputable def tPart (t : TE) : TO := fun σ H Q => t σ H fun x H1 => ∃ i, x = .int i ∧ Q (some i) H1
theorem intsAre_of {ns : List Int} : ∀ {us : List Value}, Vals (ns.map V.int) us → IntsAre us ns := by
  induction ns with
  | nil => intro us r; rw [List.map_nil] at r; cases r; exact .nil
  | cons n ns ih =>
    intro us r
    rw [List.map_cons] at r
    cases r with
    | cons r1 r2 =>
      obtain ⟨t, e⟩ := r1
      subst e
      exact .cons n t (ih r2)
section
variable {X : Cx} {e : Expr} {te : TE} {lo hi : Option Expr} {tl th : TO} {pos p2 : Pos}
theorem po_none : PO X none tNoPart := by
  intro pins s σ H Q I h
  rw [evalPart_none]
  exact wpAny_pure ⟨none, H, I, .none, h⟩
theorem po_some (h : PE X e te) : PO X (some e) (tPart te) := by
  intro pins s σ H Q I hw
  rw [evalPart_some]
  refine thn (h pins s σ H _ I hw) fun u s1 ⟨x, H1, I1, r1, q1⟩ => ?_
  obtain ⟨i, rfl, q⟩ := q1
  obtain ⟨t, rfl⟩ := r1
  exact ⟨some i, H1, I1, .int i t, q⟩
noncomputable def SlR (X : Cx) (r : V → Option Int → Option Int → Hp → VK → Prop) : Prop :=
  ∀ (pins : List (Addr × Obj)) (s : Shared) (σ : St) (H : Hp) (x : V) (v vl vu : Value) (lo hi : Option Int) (sl : Addr) (Q : VK), Inv X pins σ H s → RelV x v → s.heap.IsSliceOf sl vl vu .none → IsPart vl lo → IsPart vu hi → r x lo hi H Q →
    ∃ T id, typeLookup (.type T) "__getitem__" = pure (some (.builtin id)) ∧ s.TypeIs v T ∧ wpAny (model X.prog X.w) X.A (getItem v (.ref sl)) (EP X pins σ Q) X.xe s
theorem SlR.or {r r' : V → Option Int → Option Int → Hp → VK → Prop} (h : SlR X r) (h' : SlR X r') : SlR X (fun x lo hi H Q => r x lo hi H Q ∨ r' x lo hi H Q) := by
  intro pins s σ H x v vl vu lo hi sl Q I rx hs pl pu q
  rcases q with q | q
  · exact h pins s σ H x v vl vu lo hi sl Q I rx hs pl pu q
  · exact h' pins s σ H x v vl vu lo hi sl Q I rx hs pl pu q
noncomputable def tSl (r : V → Option Int → Option Int → Hp → VK → Prop) (te : TE) (tl th : TO) : TE := fun σ H Q => te σ H fun x H1 => tl σ H1 fun l H2 => th σ H2 fun u H3 => r x l u H3 Q
theorem pe_slice {r : V → Option Int → Option Int → Hp → VK → Prop} (hr : SlR X r) (he : PE X e te) (hl : PO X lo tl) (hu : PO X hi th) : PE X (.Subscript e (.Slice lo hi none p2) pos) (tSl r te tl th) := by
  intro pins s σ H Q I h
  refine Subscript_ (thn (he pins s σ H _ I h) fun v s1 ⟨x, H1, I1, r1, q1⟩ => ?_)
  refine wpAny_Slice (thn (hl pins s1 σ H1 _ I1 q1) fun vl s2 ⟨l, H2, I2, pl, q2⟩ => thn (hu pins s2 σ H2 _ I2 q2) fun vu s3 ⟨u, H3, I3, pu, q3⟩ => ?_)
  rw [evalPart_none]
  refine wpAny_pure ?_
  have I4 : Inv X pins σ H3 { s3 with heap := s3.heap.push { cls := .type "slice", data := .fields #[vl, vu, .none] } } := I3.kept (t' := s3.toks) fun b ob q => Heap.get?_push_of_some _ q
  obtain ⟨T, id, hT, ht, hg⟩ := hr pins { s3 with heap := s3.heap.push { cls := .type "slice", data := .fields #[vl, vu, .none] } } σ H3 x v vl vu l u s3.heap.objs.size Q I4 r1 (Heap.IsSliceOf.new ..) pl pu q3
  show wpAny (model X.prog X.w) X.A (subscriptTail e (.Slice lo hi none p2) v (.ref s3.heap.objs.size)) (EP X pins σ Q) X.xe { s3 with heap := s3.heap.push { cls := .type "slice", data := .fields #[vl, vu, .none] } }
  exact tail_any (ops := [.ref s3.heap.objs.size, v]) ht hT hg (by with_unfolding_all rfl)
noncomputable def cutV (xs : List V) (lo hi : Option Int) : List V := (xs.drop (HT.sIx xs.length 0 lo)).take (HT.sIx xs.length xs.length hi - HT.sIx xs.length 0 lo)
theorem cutV_length (xs : List V) (lo hi : Option Int) : (cutV xs lo hi).length ≤ xs.length := by
  unfold cutV
  rw [List.length_take, List.length_drop]
  omega
noncomputable def rSlT (K : Fg) : V → Option Int → Option Int → Hp → VK → Prop := fun x lo hi H Q => ∃ a xs, x = .ref a ∧ SqT K H a xs ∧
  ¬ (HT.sIx xs.length 0 lo = 0 ∧ HT.sIx xs.length xs.length hi = xs.length) ∧ ∀ p, H p = none → Q (.ref p) (upd H p (.tup (cutV xs lo hi)))
theorem sl_tup : SlR X (rSlT X.K) := by
  intro pins s σ H x v vl vu lo hi sl Q I rx hs pl pu h
  obtain ⟨a, xs, rfl, hx, hw, q⟩ := h
  cases rx
  obtain ⟨its, r, ht, hz⟩ := I.tuple hx
  have hlen : its.toArray.size = xs.length := by rw [List.size_toArray]; exact r.length.symm
  refine ⟨"tuple", _, PyProof.Rows.slot_tuple_getitem.lookup, ht.typeIs, ?_⟩
  refine HT.getItem_tuple_cut ht hs pl pu (by rw [hlen]; exact hw) ?_ (by rw [hlen]; exact hz)
  rw [hlen]
  refine ⟨.ref s.heap.objs.size, _, I.laid (t' := s.toks) (o := .tup (cutV xs lo hi)) (fun b ob q => Heap.get?_push_of_some _ q) (Nat.le_refl _) ?_, rfl, q _ (I.hok.fresh (Nat.le_refl _))⟩
  exact ⟨Nat.le_trans (cutV_length xs lo hi) hz, _, (r.drop (HT.sIx xs.length 0 lo)).take (HT.sIx xs.length xs.length hi - HT.sIx xs.length 0 lo), IsTup.new _ _⟩
noncomputable def rCatT (K : Fg) : R2 := fun x y H Q => ∃ a b xs ys, x = .ref a ∧ y = .ref b ∧ SqT K H a xs ∧ SqT K H b ys ∧ xs ≠ [] ∧ xs.length + ys.length ≤ sizeLine ∧
  (ys = [] → Q (.ref a) H) ∧ (ys ≠ [] → ∀ p, H p = none → Q (.ref p) (upd H p (.tup (xs ++ ys))))
theorem Vals.nil_iff {xs : List V} {us : List Value} (r : Vals xs us) : us = [] ↔ xs = [] := by
  cases r with
  | nil => simp
  | cons _ _ => simp
theorem op_catT : OpR X (binaryOp .Add) (rCatT X.K) := by
  intro pins s σ H x y v u Q I rx ry h
  obtain ⟨a, b, xs, ys, rfl, rfl, ha, hb, hx, hz, q1, q2⟩ := h
  cases rx
  cases ry
  obtain ⟨its, r1, p1, _⟩ := I.tuple ha
  obtain ⟨its2, r2, p2, _⟩ := I.tuple hb
  refine HT.cat_tup p1 p2 (fun z => hx (r1.nil_iff.mp z)) (fun z => ⟨.ref a, H, I, rfl, q1 (r2.nil_iff.mp z)⟩) (fun z => ?_) (by rw [← r1.length, ← r2.length]; exact hz)
  refine ⟨.ref s.heap.objs.size, _, I.laid (t' := s.toks) (o := .tup (xs ++ ys)) (fun b ob q => Heap.get?_push_of_some _ q) (Nat.le_refl _) ?_, rfl, q2 (fun w => z (r2.nil_iff.mpr w)) _ (I.hok.fresh (Nat.le_refl _))⟩
  exact ⟨by rw [List.length_append]; exact hz, _, r1.append r2, IsTup.new _ _⟩
end
end L2
namespace L2
open PySem PySem.Spec PyProof.Rows
noncomputable def ixN (n : Nat) (i : Int) : Option Nat := if 0 ≤ i then (if i < n then some i.toNat else none) else if -(n : Int) ≤ i then some (i + n).toNat else none
noncomputable def atI {α : Type} (xs : List α) (i : Int) : Option α := (ixN xs.length i).bind fun j => xs[j]?
theorem ixN_seq {n : Nat} {i : Int} {j : Nat} (h : ixN n i = some j) : seqIndex? i n = some j ∧ j < n ∧ -(n : Int) ≤ i ∧ i < n := by
  unfold ixN at h
  by_cases h0 : 0 ≤ i
  · rw [if_pos h0] at h
    by_cases h1 : i < n
    · rw [if_pos h1] at h
      have e : i.toNat = j := Option.some.inj h
      exact ⟨by rw [seqIndex_of h0 h1, e], by omega, by omega, h1⟩
    · rw [if_neg h1] at h; cases h
  · rw [if_neg h0] at h
    by_cases h1 : -(n : Int) ≤ i
    · rw [if_pos h1] at h
      have e : (i + n).toNat = j := Option.some.inj h
      exact ⟨by rw [seqIndex_neg (by omega) h1, e], by omega, h1, by omega⟩
    · rw [if_neg h1] at h; cases h
theorem atI_get {α : Type} {xs : List α} {i : Int} {v : α} (h : atI xs i = some v) : ∃ j, seqIndex? i xs.length = some j ∧ xs[j]? = some v ∧ j < xs.length ∧ -(xs.length : Int) ≤ i ∧ i < xs.length := by
  unfold atI at h
  cases e : ixN xs.length i with
  | none => rw [e] at h; cases h
  | some j =>
    rw [e] at h
    obtain ⟨h1, h2, h3, h4⟩ := ixN_seq e
    exact ⟨j, h1, h, h2, h3, h4⟩
theorem atI_nat {α : Type} {xs : List α} {j : Nat} {v : α} (h : xs[j]? = some v) : atI xs (j : Int) = some v := by
  have hj : j < xs.length := (List.getElem?_eq_some_iff.mp h).1
  have e : ixN xs.length (j : Int) = some j := by
    unfold ixN
    rw [if_pos (by omega), if_pos (by omega)]; simp
  unfold atI; rw [e]; exact h
noncomputable def PlainIx (b : Expr) : Prop := ∀ o i, subscripted b false o i = operate [o, i] (getItem o i)
noncomputable def IxR (X : Cx) (r : R2) : Prop :=
  ∀ (value slice : Expr) (pins : List (Addr × Obj)) (s : Shared) (σ : St) (H : Hp) (x y : V) (v u : Value) (Q : VK), Inv X pins σ H s → RelV x v → RelV y u → r x y H Q →
    subscripted slice false v u = operate [v, u] (getItem v u) → wpAny (model X.prog X.w) X.A (subscriptTail value slice v u) (EP X pins σ Q) X.xe s
noncomputable def MtR (X : Cx) (id : String) (r : V → List V → Hp → VK → Prop) : Prop :=
  ∀ (pins : List (Addr × Obj)) (s : Shared) (σ : St) (H : Hp) (x : V) (xs : List V) (v : Value) (us : List Value) (Q : VK), Inv X pins σ H s → RelV x v → Vals xs us → r x xs H Q →
    wpAny (model X.prog X.w) X.A (call (.builtin id) (v :: us)) (EP X pins σ Q) X.xe s
section
variable {X : Cx} {a b : Expr} {ta tb : TE} {pos : Pos}
theorem IxR.or {r r' : R2} (h : IxR X r) (h' : IxR X r') : IxR X (fun x y H Q => r x y H Q ∨ r' x y H Q) := by
  intro value slice pins s σ H x y v u Q I rx ry q hs
  rcases q with q | q
  · exact h value slice pins s σ H x y v u Q I rx ry q hs
  · exact h' value slice pins s σ H x y v u Q I rx ry q hs
theorem pe_ix {r : R2} (hr : IxR X r) (ha : PE X a ta) (hb : PE X b tb) (hs : PlainIx b) : PE X (.Subscript a b pos) (tOp r ta tb) := by
  intro pins s σ H Q I h
  exact Subscript_ (binT ha hb I h fun v u s2 x y H2 I2 rx ry q => hr a b pins s2 σ H2 x y v u Q I2 rx ry q (hs _ _))
noncomputable def rIxL (K : Fg) : R2 := fun x y H Q => ∃ p xs i v, x = .ref p ∧ y = .int i ∧ SqL K H p xs ∧ atI xs i = some v ∧ Q v H
noncomputable def rIxT (K : Fg) : R2 := fun x y H Q => ∃ p xs i v, x = .ref p ∧ y = .int i ∧ SqT K H p xs ∧ atI xs i = some v ∧ Q v H
noncomputable def rIxS : R2 := fun x y H Q => ∃ z i c, x = .str z ∧ y = .int i ∧ z.length ≤ sizeLine ∧ atI z.cps.toList i = some c ∧ Q (.str ⟨#[c]⟩) H
theorem ix_list : IxR X (rIxL X.K) := by
  intro value slice pins s σ H x y v u Q I rx ry h hs
  obtain ⟨p, xs, i, z, rfl, rfl, hq, he, q⟩ := h
  cases rx
  obtain ⟨t, rfl⟩ := ry
  obtain ⟨its, r, pl, hz⟩ := I.list hq
  obtain ⟨j, h1, h2, h3, h4, h5⟩ := atI_get he
  obtain ⟨w, ew, rw'⟩ := r.get h2
  have hl := r.length
  have hn := line63
  have fin : EP X pins σ Q w s := ⟨z, H, I, rw', q⟩
  by_cases h0 : 0 ≤ i
  · have hj : i.toNat = j := by
      rw [seqIndex_of h0 h5] at h1
      exact Option.some.inj h1
    exact item_listR pl.isList h0 (by omega) (by rw [hj]; simpa using ew) fin hs
  · have hj : (i + (its.toArray.size : Int)).toNat = j := by
      rw [seqIndex_neg (by omega) h4] at h1
      rw [List.size_toArray, ← hl]
      exact Option.some.inj h1
    exact subscriptTail_builtinR (x := w) pl.isList.typeIs slot_list_getitem.lookup
      (wpAny_getItem_list_neg (Q := fun r s' => r = w ∧ EP X pins σ Q r s') pl.isList (by omega) (by rw [List.size_toArray] <;> omega) (by omega) (by rw [hj]; simpa using ew) ⟨rfl, fin⟩) hs
theorem ix_tup : IxR X (rIxT X.K) := by
  intro value slice pins s σ H x y v u Q I rx ry h hs
  obtain ⟨p, xs, i, z, rfl, rfl, hq, he, q⟩ := h
  cases rx
  obtain ⟨t, rfl⟩ := ry
  obtain ⟨its, r, pl, hz⟩ := I.tuple hq
  obtain ⟨j, h1, h2, h3, h4, h5⟩ := atI_get he
  obtain ⟨w, ew, rw'⟩ := r.get h2
  have hl := r.length
  have hn := line63
  have fin : EP X pins σ Q w s := ⟨z, H, I, rw', q⟩
  exact subscriptTail_builtinR (x := w) pl.typeIs slot_tuple_getitem.lookup
    (getItem_tuple (j := j) (Q := fun r s' => r = w ∧ EP X pins σ Q r s') pl (by omega) (by omega) (by rw [List.size_toArray, ← hl]; exact h1) (by simpa using ew) ⟨rfl, fin⟩) hs
theorem ix_str : IxR X rIxS := by
  intro value slice pins s σ H x y v u Q I rx ry h hs
  obtain ⟨z, i, c, rfl, rfl, hz, he, q⟩ := h
  obtain ⟨t, rfl⟩ := rx
  obtain ⟨t', rfl⟩ := ry
  obtain ⟨j, h1, h2, h3, h4, h5⟩ := atI_get he
  have hl : z.cps.toList.length = z.length := by simp [Str.length]
  rw [hl] at h1 h4 h5
  have hn := line63
  exact tail_any (typeIs_str s z t) slot_str_getitem.lookup (getItem_str (c := c) (by
    have e1 : decide (i < -(2 ^ 63 : Int)) = false := decide_eq_false (by omega)
    have e2 : decide (i ≥ 2 ^ 63) = false := decide_eq_false (by omega)
    rw [e1, e2, Bool.or_false]) (by rw [h1]; simpa using h2) ⟨.str ⟨#[c]⟩, H, I.tok _, ⟨_, rfl⟩, q⟩) hs
noncomputable def rIx (K : Fg) : R2 := fun x y H Q => rIxL K x y H Q ∨ rIxT K x y H Q ∨ rIxS x y H Q
theorem ix_seq : IxR X (rIx X.K) := ix_list.or (ix_tup.or ix_str)
theorem slice_bounds (lo hi : Option Int) (n : Nat) : (sliceBounds lo hi none n).1 = ((HT.sIx n 0 lo : Nat) : Int) ∧ (sliceBounds lo hi none n).2.1 = ((HT.sIx n n hi : Nat) : Int) ∧ (sliceBounds lo hi none n).2.2 = 1 := by
  refine ⟨?_, ?_, rfl⟩
  · cases lo with
    | none => simp [sliceBounds, HT.sIx]
    | some i =>
      simp only [sliceBounds, HT.sIx, Option.getD_none, show (1 : Int) > 0 by decide, if_true]
      by_cases h : i < 0
      · simp only [h, if_true] <;> omega
      · simp only [h, if_false] <;> omega
  · cases hi with
    | none => simp [sliceBounds, HT.sIx]
    | some i =>
      simp only [sliceBounds, HT.sIx, Option.getD_none, show (1 : Int) > 0 by decide, if_true]
      by_cases h : i < 0
      · simp only [h, if_true] <;> omega
      · simp only [h, if_false] <;> omega
theorem slicePick_cut (its : List Value) (lo hi : Option Int) : slicePick its.toArray lo hi none = ((its.drop (HT.sIx its.length 0 lo)).take (HT.sIx its.length its.length hi - HT.sIx its.length 0 lo)).toArray := by
  obtain ⟨h1, h2, h3⟩ := slice_bounds lo hi its.toArray.size
  unfold slicePick
  rw [h1, h2, h3]
  simp only [sliceRange_one, pick_run, List.size_toArray] <;> rfl
noncomputable def rSlL (K : Fg) : V → Option Int → Option Int → Hp → VK → Prop := fun x lo hi H Q => ∃ a xs, x = .ref a ∧ SqL K H a xs ∧ ∀ p, H p = none → Q (.ref p) (upd H p (.lst (cutV xs lo hi)))
theorem sl_list : SlR X (rSlL X.K) := by
  intro pins s σ H x v vl vu lo hi sl Q I rx hs pl pu h
  obtain ⟨a, xs, rfl, hx, q⟩ := h
  cases rx
  obtain ⟨its, r, ht, hz⟩ := I.list hx
  have hlen := r.length
  refine ⟨"list", _, slot_list_getitem.lookup, ht.isList.typeIs, ?_⟩
  refine wpAny_getItem_list_slice ht.isList hs pl pu .none (by simp) ?_ (by rw [List.size_toArray] <;> omega)
  rw [slicePick_cut, ← hlen]
  refine ⟨.ref s.heap.objs.size, _, I.laid (t' := s.toks) (o := .lst (cutV xs lo hi)) (fun b ob q => Heap.get?_push_of_some _ q) (Nat.le_refl _) ?_, rfl, q _ (I.hok.fresh (Nat.le_refl _))⟩
  exact ⟨Nat.le_trans (cutV_length xs lo hi) hz, _, 0, (r.drop (HT.sIx xs.length 0 lo)).take (HT.sIx xs.length xs.length hi - HT.sIx xs.length 0 lo), Heap.get?_push_size _ rfl⟩
noncomputable def flatV : V → Bool
  | .non => true
  | .bl _ => true
  | .int _ => true
  | .str _ => true
  | _ => false
noncomputable def eqV : V → V → Bool
  | .non, .non => true
  | .bl a, .bl b => a == b
  | .bl a, .int b => (if a then 1 else 0) == b
  | .int a, .bl b => a == (if b then 1 else 0)
  | .int a, .int b => a == b
  | .str a, .str b => a == b
  | _, _ => false
theorem eqAt_V {A : Around} {s : Shared} {y x : V} {u v : Value} (ry : RelV y u) (rx : RelV x v) (fy : flatV y = true) (fx : flatV x = true) : SeqAt.EqAt A s u v (eqV y x) := by
  cases y with
  | non =>
    cases ry
    cases x with
    | non => cases rx; exact SeqAt.EqAt.same _
    | bl b => cases rx; exact SeqAt.EqAt.none_bool b
    | int b => obtain ⟨t, rfl⟩ := rx; exact SeqAt.EqAt.none_int b t
    | str b => obtain ⟨t, rfl⟩ := rx; exact SeqAt.EqAt.none_str b t
    | _ => exact absurd (show false = true from fx) Bool.false_ne_true
  | bl a =>
    cases ry
    cases x with
    | non => cases rx; exact SeqAt.EqAt.bool_none a
    | bl b => cases rx; exact SeqAt.EqAt.bool_bool a b
    | int b => obtain ⟨t, rfl⟩ := rx; exact SeqAt.EqAt.bool_int a b t
    | str b => obtain ⟨t, rfl⟩ := rx; exact SeqAt.EqAt.bool_str a b t
    | _ => exact absurd (show false = true from fx) Bool.false_ne_true
  | int a =>
    obtain ⟨t', rfl⟩ := ry
    cases x with
    | non => cases rx; exact SeqAt.EqAt.int_none a t'
    | bl b => cases rx; exact SeqAt.EqAt.int_bool a t' b
    | int b => obtain ⟨t, rfl⟩ := rx; exact SeqAt.EqAt.int_int a t' b t
    | str b => obtain ⟨t, rfl⟩ := rx; exact SeqAt.EqAt.int_str a t' b t
    | _ => exact absurd (show false = true from fx) Bool.false_ne_true
  | str a =>
    obtain ⟨t', rfl⟩ := ry
    cases x with
    | non => cases rx; exact SeqAt.EqAt.str_none a t'
    | bl b => cases rx; exact SeqAt.EqAt.str_bool a t' b
    | int b => obtain ⟨t, rfl⟩ := rx; exact SeqAt.EqAt.str_int a t' b t
    | str b => obtain ⟨t, rfl⟩ := rx; exact SeqAt.EqAt.str_str a t' b t
    | _ => exact absurd (show false = true from fx) Bool.false_ne_true
  | _ => exact absurd (show false = true from fy) Bool.false_ne_true
noncomputable def eqU (x : V) (u : Value) : Bool := match u with
  | .none => eqV .non x
  | .bool b => eqV (.bl b) x
  | .int i _ => eqV (.int i) x
  | .str z _ => eqV (.str z) x
  | _ => false
theorem eqU_of {x y : V} {u : Value} (r : RelV y u) (f : flatV y = true) : eqU x u = eqV y x := by
  cases y with
  | non => cases r; rfl
  | bl b => cases r; rfl
  | int i => obtain ⟨t, rfl⟩ := r; rfl
  | str z => obtain ⟨t, rfl⟩ := r; rfl
  | _ => exact absurd (show false = true from f) Bool.false_ne_true
theorem any_eqU {x : V} : ∀ {xs : List V} {us : List Value}, Vals xs us → xs.all flatV = true → us.any (eqU x) = xs.any fun y => eqV y x
  | _, _, .nil, _ => rfl
  | y :: xs, u :: us, .cons r t, f => by
    rw [List.all_cons, Bool.and_eq_true] at f
    rw [List.any_cons, List.any_cons, eqU_of r f.1, any_eqU t f.2]
theorem mem_eqAt {A : Around} {s : Shared} {x : V} {v : Value} (rx : RelV x v) (fx : flatV x = true) : ∀ {xs : List V} {us : List Value}, Vals xs us → xs.all flatV = true → ∀ u ∈ us, SeqAt.EqAt A s u v (eqU x u)
  | _, _, .nil, _ => fun u hu => by cases hu
  | y :: xs, u :: us, .cons r t, f => fun u' hu => by
    rw [List.all_cons, Bool.and_eq_true] at f
    rcases List.mem_cons.mp hu with rfl | hu
    · rw [eqU_of r f.1]; exact eqAt_V r rx f.1 fx
    · exact mem_eqAt rx fx t f.2 u' hu
noncomputable def inV (x : V) (xs : List V) : Bool := xs.any fun y => eqV y x
noncomputable def rIn (K : Fg) (neg : Bool) : R2 := fun x y H Q => ∃ p xs, y = .ref p ∧ (SqL K H p xs ∨ SqT K H p xs) ∧ flatV x = true ∧ xs.all flatV = true ∧ Q (.bl (if neg then !inV x xs else inV x xs)) H
theorem op_in_seq : OpR X (compareOp .In) (rIn X.K false) := by
  intro pins s σ H x y v u Q I rx ry h
  obtain ⟨p, xs, rfl, hq, fx, fs, q⟩ := h
  cases ry
  rcases hq with hq | hq
  · obtain ⟨its, r, pl, hz⟩ := I.list hq
    refine SeqAt.in_listAt (eqU x) pl.isList (fun w hw => mem_eqAt rx fx r fs w (by simpa using hw)) ⟨.bl _, H, I, rfl, ?_⟩
    rw [show its.toArray.any (eqU x) = its.any (eqU x) by simp, any_eqU r fs]
    exact q
  · obtain ⟨its, r, pl, hz⟩ := I.tuple hq
    refine SeqAt.in_tupleAt (eqU x) pl (fun w hw => mem_eqAt rx fx r fs w (by simpa using hw)) ⟨.bl _, H, I, rfl, ?_⟩
    rw [show its.toArray.any (eqU x) = its.any (eqU x) by simp, any_eqU r fs]
    exact q
theorem op_notIn_seq : OpR X (compareOp .NotIn) (rIn X.K true) := by
  intro pins s σ H x y v u Q I rx ry h
  obtain ⟨p, xs, rfl, hq, fx, fs, q⟩ := h
  cases ry
  rcases hq with hq | hq
  · obtain ⟨its, r, pl, hz⟩ := I.list hq
    refine SeqAt.notIn_listAt (eqU x) pl.isList (fun w hw => mem_eqAt rx fx r fs w (by simpa using hw)) ⟨.bl _, H, I, rfl, ?_⟩
    rw [show its.toArray.any (eqU x) = its.any (eqU x) by simp, any_eqU r fs]
    exact q
  · obtain ⟨its, r, pl, hz⟩ := I.tuple hq
    refine SeqAt.notIn_tupleAt (eqU x) pl (fun w hw => mem_eqAt rx fx r fs w (by simpa using hw)) ⟨.bl _, H, I, rfl, ?_⟩
    rw [show its.toArray.any (eqU x) = its.any (eqU x) by simp, any_eqU r fs]
    exact q
theorem call_len_seq : CallR X (.builtin "len") (fun xs H Q => ∃ p ys, xs = [.ref p] ∧ (SqL X.K H p ys ∨ SqT X.K H p ys) ∧ Q (.int ys.length) H) := by
  intro pins s σ H xs us Q I r h
  obtain ⟨p, ys, rfl, hq, q⟩ := h
  obtain ⟨u, rfl, rx⟩ := vals1 r
  cases rx
  have hn := line63
  rcases hq with hq | hq
  · obtain ⟨its, r', pl, hz⟩ := I.list hq
    have hlen := r'.length
    exact Calls.call_len_list pl.isList (by simp only [List.size_toArray] <;> omega) ⟨.int ys.length, H, I.tok _, ⟨s.toks + 1, by rw [List.size_toArray, hlen]⟩, q⟩
  · obtain ⟨its, r', pl, hz⟩ := I.tuple hq
    have hlen := r'.length
    exact len_tuple pl (by simp only [List.size_toArray] <;> omega) ⟨.int ys.length, H, I.tok _, ⟨s.toks + 1, by rw [List.size_toArray, hlen]⟩, q⟩
theorem call_len_str : CallR X (.builtin "len") (fun xs H Q => ∃ z, xs = [.str z] ∧ z.length ≤ sizeLine ∧ Q (.int z.length) H) := by
  intro pins s σ H xs us Q I r h
  obtain ⟨z, rfl, hz, q⟩ := h
  obtain ⟨u, rfl, t, rfl⟩ := vals1 r
  have hn := line63
  exact len_str (by omega) ⟨.int z.length, H, I.tok _, ⟨_, rfl⟩, q⟩
theorem CallR.or {f : Value} {r r' : List V → Hp → VK → Prop} (h : CallR X f r) (h' : CallR X f r') : CallR X f (fun xs H Q => r xs H Q ∨ r' xs H Q) := by
  intro pins s σ H xs us Q I rs q
  rcases q with q | q
  · exact h pins s σ H xs us Q I rs q
  · exact h' pins s σ H xs us Q I rs q
theorem call_tuple_of : CallR X (.type "tuple") (fun xs H Q => ∃ p ys, xs = [.ref p] ∧ ((SqL X.K H p ys ∧ ∀ l, H l = none → Q (.ref l) (upd H l (.tup ys))) ∨ (SqT X.K H p ys ∧ Q (.ref p) H))) := by
  intro pins s σ H xs us Q I r h
  obtain ⟨p, ys, rfl, h⟩ := h
  obtain ⟨u, rfl, rx⟩ := vals1 r
  cases rx
  rcases h with ⟨hq, q⟩ | ⟨hq, q⟩
  · obtain ⟨its, r', pl, hz⟩ := I.list hq
    have hlen := r'.length
    refine call_tuple_list pl.isList (fun h' kp => ?_) (by simp only [List.size_toArray] <;> omega)
    have I1 : Inv X pins σ H { s with heap := h' } := I.kept (t' := s.toks) kp
    have I2 : Inv X pins σ (upd H h'.objs.size (.tup ys)) { s with heap := h'.push { cls := .type "tuple", data := .seq its.toArray } } :=
      I1.laid (t' := s.toks) (fun b o e => Heap.get?_push_of_some _ e) (Nat.le_refl _) (show ObjOk X.prog X.w _ _ _ (.tup ys) from ⟨hz, its, r', IsTup.new _ _⟩)
    exact ⟨.ref h'.objs.size, _, I2, rfl, q _ (I1.hok.fresh (Nat.le_refl _))⟩
  · obtain ⟨its, r', pl, hz⟩ := I.tuple hq
    exact call_tuple_same pl ⟨.ref p, H, I, rfl, q⟩
noncomputable def tyV (K : Fg) (T : String) (x : V) (H : Hp) : Prop := match x with
  | .str _ => T = "str"
  | .int _ => T = "int"
  | .ref p => (T = "list" ∧ ∃ xs, SqL K H p xs) ∨ (T = "tuple" ∧ ∃ o, K.lookup p = some o ∧ o.cls = .type "tuple" ∧ o.dict = none) ∨
      (T = "dict" ∧ ((∃ kvs, H p = some (.dK kvs)) ∨ ∃ kvs, H p = some (.dT kvs))) ∨ (T = "set" ∧ ∃ S n, H p = some (.set S n))
  | _ => False
theorem tyV_is {pins : List (Addr × Obj)} {σ : St} {H : Hp} {s : Shared} {T : String} {x : V} {v : Value} (I : Inv X pins σ H s) (r : RelV x v) (ty : tyV X.K T x H) :
    s.TypeIs v T ∧ ∀ a, v = .ref a → ∃ ob, s.heap.get? a = some ob ∧ ob.dict = none := by
  cases x with
  | str z =>
    obtain ⟨t, rfl⟩ := r
    cases (show T = "str" from ty)
    exact ⟨typeIs_str s z t, fun _ e => nomatch e⟩
  | int i =>
    obtain ⟨t, rfl⟩ := r
    cases (show T = "int" from ty)
    exact ⟨typeIs_int s i t, fun _ e => nomatch e⟩
  | ref p =>
    cases r
    rcases ty with ⟨rfl, xs, hq⟩ | ⟨rfl, o, hk, hc, hd⟩ | ⟨rfl, hk⟩ | ⟨rfl, S, n, hk⟩
    · obtain ⟨its, _, pl, _⟩ := I.list hq
      refine ⟨pl.isList.typeIs, fun a e => ?_⟩
      cases e
      obtain ⟨o, n, e, c, hd, _⟩ := pl
      exact ⟨o, e, hd⟩
    · refine ⟨⟨o, I.kIn p o hk, hc⟩, fun a e => ?_⟩
      cases e
      exact ⟨o, I.kIn _ o hk, hd⟩
    · have z : ∃ o, s.heap.get? p = some o ∧ o.ExactDict := by
        rcases hk with ⟨kvs, hk⟩ | ⟨kvs, hk⟩
        · obtain ⟨_, _, _, _, o, _, _, e, ex, _⟩ := I.hok p _ hk
          exact ⟨o, e, ex⟩
        · obtain ⟨_, _, _, _, o, _, _, e, ex, _⟩ := I.hok p _ hk
          exact ⟨o, e, ex⟩
      obtain ⟨o, e, ex⟩ := z
      refine ⟨⟨o, e, ex.1⟩, fun a e2 => ?_⟩
      cases e2
      exact ⟨o, e, ex.2.1⟩
    · obtain ⟨o, _, _, _, e, ex, _⟩ := I.hok p _ hk
      refine ⟨⟨o, e, ex.1⟩, fun a e2 => ?_⟩
      cases e2
      exact ⟨o, e, ex.2.1⟩
  | _ => exact False.elim ty
noncomputable def tBM0 (K : Fg) (T : String) (r : V → List V → Hp → VK → Prop) (to : TE) : TE := fun σ H Q => to σ H fun x H1 => tyV K T x H1 ∧ r x [] H1 Q
noncomputable def tBM (K : Fg) (T : String) (r : V → List V → Hp → VK → Prop) (to : TE) (t : TA) : TE := fun σ H Q => to σ H fun x H1 => tyV K T x H1 ∧ t σ H1 fun xs H2 => r x xs H2 Q
variable {o e : Expr} {es : List Expr} {to : TE} {t : TA} {name : Str} {apos cpos : Pos} {T id : String} {r : V → List V → Hp → VK → Prop}
theorem pe_bm0 (pa : PlainAttrs T) (slot : Slot T name id) (hty : typeOf (.builtin id) = pure (.type "method_descriptor")) (hm : MtR X id r) (ho : PE X o to)
    (hbase : attributeBase o name X.env (eval o X.env) = eval o X.env := by rfl) (hline : (apos.endLine == cpos.line) = true := by rfl) : PE X (.Call (.Attribute o name apos) [] [] cpos) (tBM0 X.K T r to) := by
  intro pins s σ H Q I h
  refine wpAny_Call_method0_late hbase hline (thn (ho pins s σ H _ I h) fun v s1 ⟨x, H1, I1, r1, ty, q1⟩ => ?_)
  obtain ⟨h1, h2⟩ := tyV_is I1 r1 ty
  exact ⟨T, id, pa, slot, hty, h1, h2, Calls.callWith_builtin rfl (PySem.evalArgs_none (hm pins s1 σ H1 x [] v [] Q I1 r1 .nil q1))⟩
theorem pe_bm (pa : PlainAttrs T) (slot : Slot T name id) (hty : typeOf (.builtin id) = pure (.type "method_descriptor")) (hm : MtR X id r) (ho : PE X o to) (ha : PA X (e :: es) t)
    (hbase : attributeBase o name X.env (eval o X.env) = eval o X.env := by rfl)
    (hfew : ((backTo cpos (starEach (e :: es) X.env)).all (fun x => !x.1) && (backToKw cpos (keywordEach [] X.env)).all (fun x => x.1.isSome)
      && decide ((e :: es).length + ([] : List Keyword).length + (if ([] : List Keyword).isEmpty then 0 else 1) < 30)) = true := by rfl)
    (hline : (apos.endLine == cpos.line) = true := by rfl) (hs : starEach (e :: es) X.env = (false, eval e X.env) :: starEach es X.env := by rfl) (hplain : (backTo cpos (starEach es X.env)).any (·.1) = false := by rfl) :
    PE X (.Call (.Attribute o name apos) (e :: es) [] cpos) (tBM X.K T r to t) := by
  intro pins s σ H Q I h
  refine wpAny_Call_method_late hbase hfew hline rfl (thn (ho pins s σ H _ I h) fun v s1 ⟨x, H1, I1, r1, ty, q1⟩ => ?_)
  obtain ⟨h1, h2⟩ := tyV_is I1 r1 ty
  refine ⟨T, id, pa, slot, hty, h1, h2, ?_⟩
  have hA := ha cpos pins s1 σ H1 _ I1 q1
  rw [hs] at hA ⊢
  refine Calls.callWith_builtin (by show (false || (backTo cpos (starEach es X.env)).any (·.1)) = false; rw [hplain] <;> rfl) (Calls.evalArgs_plain ?_)
  exact thn hA fun us s2 ⟨vs, H2, I2, r2, q2⟩ => hm pins s2 σ H2 x vs v us Q I2 r1 r2 q2
end
end L2
namespace L2
open PySem PySem.Spec PyProof.Rows
noncomputable def MtM (X : Cx) (id : String) (r : V → List V → Hp → VK → Prop) : Prop :=
  ∀ (pins : List (Addr × Obj)) (s : Shared) (σ : St) (H : Hp) (x : V) (xs : List V) (v : Value) (us : List Value) (Q : VK), Inv X pins σ H s → RelV x v → Vals xs us → r x xs H Q →
    wpAny (model X.prog X.w) X.A (call (.builtin id) (v :: us)) (EP X pins σ Q) X.xe s
theorem Vals.one : ∀ {x : V} {us : List Value}, Vals [x] us → ∃ u, us = [u] ∧ RelV x u
  | _, _, .cons r .nil => ⟨_, rfl, r⟩
theorem Vals.two : ∀ {x y : V} {us : List Value}, Vals [x, y] us → ∃ u v, us = [u, v] ∧ RelV x u ∧ RelV y v
  | _, _, _, .cons r (.cons q .nil) => ⟨_, _, rfl, r, q⟩
theorem Vals.zero : ∀ {us : List Value}, Vals [] us → us = []
  | _, .nil => rfl
theorem Vals.dropLast {xs : List V} {us : List Value} (h : Vals xs us) : Vals xs.dropLast us.dropLast := by
  induction h with
  | nil => exact .nil
  | cons r t ih =>
    cases t with
    | nil => exact .nil
    | cons q t' => exact .cons r ih
theorem Vals.reverse {xs : List V} {us : List Value} (h : Vals xs us) : Vals xs.reverse us.reverse := by
  induction h with
  | nil => exact .nil
  | cons r t ih => rw [List.reverse_cons, List.reverse_cons]; exact Vals.append ih (.cons r .nil)
theorem erase_last {α : Type} (l : List α) : l.eraseIdx (l.length - 1) = l.dropLast := by
  induction l with
  | nil => rfl
  | cons a r ih =>
    cases r with
    | nil => rfl
    | cons b r =>
      have e : (a :: b :: r).length - 1 = ((b :: r).length - 1) + 1 := by
        have h1 : (a :: b :: r).length = r.length + 2 := rfl
        have h2 : (b :: r).length = r.length + 1 := rfl
        omega
      rw [e, List.eraseIdx_cons_succ, ih]
      all_goals rfl
section
variable {X : Cx} {pins : List (Addr × Obj)} {σ : St} {H : Hp} {s : Shared} {l b : Addr} {xs ys zs : List V}
theorem Inv.lset {its its' : List Value} {n : Nat} {f : Array Value → Array Value} {t' : Nat} (I : Inv X pins σ H s) (hH : H l = some (.lst xs))
    (e : s.heap.get? l = some { cls := .type "list", data := .seq its.toArray n }) (hf : f its.toArray = its'.toArray) (hv : Vals ys its') (hz : ys.length ≤ sizeLine) :
    Inv X pins σ (upd H l (.lst ys)) { s with heap := s.heap.update l (Obj.mapSeq f), toks := t' } := by
  have q := PySem.IsL.update e f
  rw [hf] at q
  refine I.write (x := l) (e := l) (by rw [hH]; exact trivial) (.inl rfl) (fun b' u hb hu => (Heap.get?_update_other s.heap (Obj.mapSeq f) (Ne.symm hb)).trans hu) ⟨_, q⟩ ?_
  exact ⟨hz, its', _, hv, q⟩
theorem Inv.lnew {its : List Value} {t' : Nat} (I : Inv X pins σ H s) (hv : Vals ys its) (hz : ys.length ≤ sizeLine) :
    Inv X pins σ (upd H s.heap.objs.size (.lst ys)) { s with heap := s.heap.push { cls := .type "list", data := .seq its.toArray }, toks := t' } :=
  I.laid (fun _ _ q => Heap.get?_push_of_some _ q) (Nat.le_refl _) ⟨hz, its, 0, hv, Heap.get?_push_size _ rfl⟩
theorem Inv.fresh (I : Inv X pins σ H s) : H s.heap.objs.size = none := I.hok.fresh (Nat.le_refl _)
theorem Inv.lstM (I : Inv X pins σ H s) (hH : H l = some (.lst xs)) : xs.length ≤ sizeLine ∧ ∃ (its : List Value) (n : Nat), Vals xs its ∧ xs.length = its.length ∧ s.heap.get? l = some { cls := .type "list", data := .seq its.toArray n } := by
  obtain ⟨z, its, n, r, e⟩ := I.hok l _ hH
  exact ⟨z, its, n, r, r.length, e⟩
theorem notLongL {n : Nat} (h : n ≤ sizeLine) : Builtin.List.listTooLong n = false := by
  unfold Builtin.List.listTooLong
  exact decide_eq_false (by omega)
end
section
variable {X : Cx}
noncomputable def rAppend : V → List V → Hp → VK → Prop := fun x vs H Q => ∃ l xs y, x = .ref l ∧ vs = [y] ∧ H l = some (.lst xs) ∧ xs.length < sizeLine ∧ Q .non (upd H l (.lst (xs ++ [y])))
theorem mt_append : MtM X "list.append" rAppend := by
  intro pins s σ H x vs v us Q I rx rv h
  obtain ⟨l, xs, y, rfl, rfl, hH, hz, q⟩ := h
  cases rx
  obtain ⟨u, rfl, ru⟩ := rv.one
  obtain ⟨z, its, n, r, hl, e⟩ := I.lstM hH
  refine call_meets F.slot_list_append ⟨_, e, rfl⟩ F.entry_list_append (F.args_list_append_2 _ _) (PySem.list_append l its.toArray n u (by rw [List.size_toArray]; omega)) ⟨e, ?_⟩
  refine ⟨.non, _, I.lset (its' := its ++ [u]) hH e (by simp) (r.append (.cons ru .nil)) ?_, rfl, q⟩
  rw [List.length_append, List.length_singleton]
  omega
noncomputable def rPop : V → List V → Hp → VK → Prop := fun x vs H Q => ∃ l xs y, x = .ref l ∧ vs = [] ∧ H l = some (.lst xs) ∧ xs[xs.length - 1]? = some y ∧ Q y (upd H l (.lst xs.dropLast))
theorem mt_pop : MtM X "list.pop" rPop := by
  intro pins s σ H x vs v us Q I rx rv h
  obtain ⟨l, xs, y, rfl, rfl, hH, hy, q⟩ := h
  cases rx
  have hus := rv.zero
  subst hus
  obtain ⟨z, its, n, r, hl, e⟩ := I.lstM hH
  obtain ⟨u, hu, ru⟩ := r.get hy
  have hy' : its.toArray[its.toArray.size - 1]? = some u := by
    show its.toArray[its.length - 1]? = some u
    rw [← Array.getElem?_toList, ← hl]
    exact hu
  refine call_meets F.slot_list_pop ⟨_, e, rfl⟩ F.entry_list_pop (F.args_list_pop_1 _) (MeetsSeq.list_pop_last l its.toArray n u hy' (by rw [List.size_toArray]; omega)) ⟨e, ?_⟩
  refine ⟨y, _, I.lset (its' := its.dropLast) hH e ?_ r.dropLast ?_, ru, q⟩
  · show its.toArray.eraseIdxIfInBounds (its.toArray.size - 1) = its.dropLast.toArray
    rw [List.size_toArray, List.eraseIdxIfInBounds_toArray, erase_last]
  · rw [List.length_dropLast]
    omega
end
end L2
namespace Att
open PySem PySem.W PySem.Calls PyProof.Rows
theorem ints_of_wellAll {P : Params} {h : Heap} : ∀ (ns : List Int) (vs : List Value), WellAll P h vs (ns.map WData.int) → IntsAre vs ns := by
  intro ns
  induction ns with
  | nil =>
    intro vs w
    rw [List.map_nil] at w
    cases w
    exact .nil
  | cons n ns ih =>
    intro vs w
    rw [List.map_cons] at w
    cases w with
    | cons a b =>
      cases a
      exact .cons _ _ (ih _ b)
theorem script_of {l : OpenLaw} {n : Nat} (hn : l.most = some n) {P : Params} {h : Heap} {args : List WData} {vals : List Value}
    (hpre : l.row.toRowW.claim.pre args = true) (hwl : WellAll P h vals args) :
    ∃ a vs ns, vals = [Value.ref a] ∧ args = [WData.list (ns.map WData.int)] ∧ h.get? a = some { cls := .type "list", data := .seq vs.toArray } ∧ IntsAre vs ns ∧ ns.length ≤ n := by
  have hsh : WShape.hasAll [] args [.list .int] = true := (pre_splitW hpre).1
  have hc : l.pre.holds [] { args := args } = true := (pre_splitW hpre).2
  obtain ⟨d, r, rfl, h1, h2⟩ := hasAllW_cons hsh
  obtain rfl := hasAllW_nil h2
  obtain ⟨xs, rfl, h3⟩ := hasW_list h1
  obtain ⟨ns, rfl⟩ := items_int h3
  have hlen : ns.length ≤ n := by
    unfold OpenLaw.pre at hc
    have h4 : (WTm.not (.lt (.lit (.int (n : Int))) (.len (.arg 0)))).holds [] { args := [.list (ns.map .int)] } = true := by
      have h4 := (holds_andW hc).1
      rw [hn] at h4
      exact h4
    have h5 := condW_of h4 (w_not (w_lt w_lit (w_len_list (w_arg rfl))))
    rw [List.length_map] at h5
    refine Nat.le_of_not_lt fun q => ?_
    have q' : (n : Int) < ((ns.length : Nat) : Int) := by omega
    first
      | (rw [decide_eq_true q'] at h5; exact absurd h5 (by decide))
      | (simp at h5; omega)
  cases hwl with
  | cons w1 w2 =>
    cases w2
    cases w1 with
    | list ho hall => exact ⟨_, _, ns, rfl, rfl, ho, ints_of_wellAll ns _ hall, hlen⟩
theorem post_true (l : OpenLaw) (args : List WData) : l.row.toRowW.claim.post args (.bool true) args = true :=
  postW_of (r := l.row.toRowW) (X := (true == true))
    (show WShape.has [] (.bool true) .bool = true by first | rfl | decide | simp [WShape.has, WShape.arms, WShape.armsAll])
    (show (WTm.eq .res (.lit (.bool true))).value [] { args := args, res := some (.bool true), after := args } = some (.bool (true == true)) from w_eq_bool (w_res rfl) w_lit) rfl
theorem attach_call {l : OpenLaw} {n : Nat} {q : Program} {loose : List Str} {XP : (Str → Option Value) → Heap → Prop} {YP : World → Heap → Prop} {d : DefRec}
    (hn : l.most = some n) (hdf : d.params.defaults = [])
    (call : ∀ (w : World) (s₀ s₁ : Shared) (mg mb : Str → Option Value) (fa : Addr) (o : Obj) (pm cd doc : Value) (a : Addr) (vs : List Value) (ns : List Int),
      Ground q loose [] XP w s₀ mg mb s₁.heap → YP w s₁.heap →
      s₁.heap.get? fa = some o → o.data = .func (docDef d.name d.params d.body d.scope pm cd doc) → s₁.heap.CodeRec cd d.name → mg d.name = some (.ref fa) →
      s₁.heap.get? a = some { cls := .type "list", data := .seq vs.toArray } → IntsAre vs ns → ns.length ≤ n → s₁.gens = #[] →
      codeAny (model l.prog w) callerA (.call (.ref fa) ⟨[.ref a], []⟩) (fun r s' => r = .ok (.ret (.bool true)) ∧ OldK s₁.heap s'.heap ∧ s'.os = s₁.os ∧ AllBare s'.gens) s₁) :
    WalkO q loose XP YP l.row.toRowW d [] (fun f vs => PySem.call f vs) := by
  intro w s₀ s₁ mg mb G Y fa o pm cd doc dV kV ho hd hcd hD hmg hg args vals as hpre hlay hrd hwl hlo
  obtain rfl : dV = .none := Dflts.none hD hdf
  obtain rfl : kV = .none := Dflts.noKw hD
  obtain ⟨a, vs, ns, rfl, rfl, hobj, hints, hlen⟩ := script_of hn hpre hwl
  refine enter_call (codeAny_mono (call w s₀ s₁ mg mb fa o pm cd doc a vs ns G Y ho (fd_plain hd) hcd hmg hobj hints hlen hg) fun r s' hq => ?_)
  obtain ⟨rfl, h2, h3, h4⟩ := hq
  exact ⟨.inl ⟨.bool true, .bool true, [], rfl, fun _ => rfl, .bool true, post_true l _, fun _ => ⟨List.Pairwise.nil, fun _ hm => (nomatch hm)⟩⟩, h2, h3, h4⟩
end Att
namespace L2
open PySem PySem.Spec PyProof.Rows
theorem vals_ints : ∀ {vs : List Value} {ns : List Int}, IntsAre vs ns → Vals (ns.map V.int) vs
  | _, _, .nil => .nil
  | _, _, .cons n t h => .cons ⟨t, rfl⟩ (vals_ints h)
end L2
namespace L2
open PySem PySem.Spec PyProof.Rows
end L2
namespace L2
open PySem PySem.Spec PyProof.Rows
noncomputable def defArgs (s : Stmt) : Arguments := match s with
  | .FunctionDef _ a _ _ _ _ _ _ _ _ => a
  | _ => { posonlyargs := [], args := [], vararg := none, kwonlyargs := [], kw_defaults := [], kwarg := none, defaults := [] }
noncomputable def defBody (s : Stmt) : List Stmt := match s with
  | .FunctionDef _ _ b _ _ _ _ _ _ _ => b
  | _ => []
noncomputable def defScope (s : Stmt) : Scope := match s with
  | .FunctionDef _ _ _ _ _ _ sc _ _ _ => sc
  | _ => { kind := .function, names := [], isGenerator := false, isCoroutine := false }
noncomputable abbrev CX0 : CXT := fun _ _ _ _ _ _ => False
noncomputable abbrev E0 : XK := fun _ _ _ => False
theorem pass0 {X : Cx} : Passes CX0 X E0 := fun _ _ _ _ _ _ _ h => h.elim
structure Fun (K : Fg) (x qual : Str) (st : Stmt) (f : Addr) (fd : FuncData) : Prop where
  ex : ∃ (oc : Value) (od : Option Addr) (kV doc pm : Value) (an : Option Addr) (cdv ct : Value) (osl : Array (Option Value)),
    fd = PySem.W.fnOf x qual (defArgs st) (defBody st) (defScope st) .none kV doc pm an cdv ct ∧ K.lookup f = some ⟨oc, od, .func fd, osl⟩ ∧ PySem.W.codeIn K cdv qual = true
  kp : PySem.W.keepIn K (.ref f) = true
section
variable {P : Program} {w : World} {K : Fg} {mg : Str → Option Value} {base : Heap}
theorem Fun.binds {x qual : Str} {st : Stmt} {f : Addr} {fd : FuncData} {ps : List Str} (F : Fun K x qual st f fd)
    (h : ∀ (kV doc pm : Value) (an : Option Addr) (cdv ct : Value) (us : List Value), us.length = ps.length → bindArgs (PySem.W.fnOf x qual (defArgs st) (defBody st) (defScope st) .none kV doc pm an cdv ct) ⟨us, []⟩ = pure (ps.zip us)) : Binds K fd ps [] := by
  obtain ⟨oc, od, kV, doc, pm, an, cdv, ct, osl, rfl, lk, hcd⟩ := F.ex
  exact .all (h kV doc pm an cdv ct)
theorem fun_mk {x qual : Str} {st : Stmt} {f : Addr} {oc : Value} {od an : Option Addr} {osl : Array (Option Value)} {kV doc pm cdv ct : Value} (l : K.lookup f = some ⟨oc, od, .func (PySem.W.fnOf x qual (defArgs st) (defBody st) (defScope st) .none kV doc pm an cdv ct), osl⟩)
    (c : PySem.W.codeIn K cdv qual = true) (k : PySem.W.keepIn K (.ref f) = true) : Fun K x qual st f (PySem.W.fnOf x qual (defArgs st) (defBody st) (defScope st) .none kV doc pm an cdv ct) := ⟨⟨oc, od, kV, doc, pm, an, cdv, ct, osl, rfl, l, c⟩, k⟩
end
section
variable {X : Cx}
theorem pv (i : Nat) {x : Str} {pos : Pos} (hN : X.N[i]? = some x := by rfl) (hv : Vis X.env.scope x := by first | exact Or.inl rfl | exact Or.inr (Or.inl rfl) | exact Or.inr (Or.inr rfl)) (hd : (x == ("__debug__" : Str)) = false := by decide)
    (hcd : (x == ("__classdict__" : Str)) = false := by decide) : PE X (.Name x pos) (tVar i) := pe_var hN hv hd hcd
end
theorem iteF {A B : Prop} (h : B) : if false = true then A else B := by
  rw [if_neg Bool.false_ne_true]
  exact h
theorem iteT {A B : Prop} (h : A) : if true = true then A else B := by
  rw [if_pos rfl]
  exact h
noncomputable def Same (H H' : Hp) : Prop := ∀ b o, H b = some o → H' b = some o
theorem Same.refl (H : Hp) : Same H H := fun _ _ h => h
theorem Same.trans {H H1 H2 : Hp} (a : Same H H1) (b : Same H1 H2) : Same H H2 := fun c o h => b c o (a c o h)
theorem Same.free {H H' : Hp} (e : Same H H') {l : Addr} (h : H' l = Option.none) : H l = Option.none := by
  cases q : H l with
  | none => rfl
  | some o =>
    rw [e l o q] at h
    cases h
theorem Same.seq {K : Fg} {H H' : Hp} {a : Addr} {xs : List V} (e : Same H H') (h : SqL K H a xs) : SqL K H' a xs := by
  rcases h with (h | ⟨o, h⟩) | h
  · exact .inl (.inl (e _ _ h))
  · exact .inl (.inr ⟨o, e _ _ h⟩)
  · exact .inr h
end L2
namespace DD
open PySem PySem.Spec PyProof.Rows L2
noncomputable abbrev St := L2.St
inductive D where
  | non | bl (b : Bool) | int (i : Int) | str (s : List Nat) | tup (l : List D) | lst (l : List D) | ty (n : String) | ref (a : Addr) | dct (ks : List Key) (l : List D)
noncomputable def LsAt (K : Fg) (O : Addr → Prop) (H : Hp) (a : Addr) (xs : List V) : Prop :=
  (¬ O a ∧ Rd H a (.lst xs)) ∨ ∃ (o : Obj) (its : Array Value) (n : Nat), K.lookup a = some o ∧ o.cls = .type "list" ∧ o.dict = none ∧ o.data = .seq its n ∧ its.size ≤ sizeLine ∧ Vals xs its.toList
theorem LsAt.sq {K : Fg} {O : Addr → Prop} {H : Hp} {a : Addr} {xs : List V} (h : LsAt K O H a xs) : SqL K H a xs := h.imp (·.2) id
mutual
noncomputable def Is (K : Fg) (O : Addr → Prop) (H : Hp) : D → V → Prop
  | .non, v => v = .non
  | .bl b, v => v = .bl b
  | .int i, v => v = .int i
  | .str s, v => v = .str ⟨s.toArray⟩
  | .ty n, v => v = .ty n
  | .ref a, v => v = .ref a
  | .tup l, v => ∃ a xs, v = .ref a ∧ SqT K H a xs ∧ IsL K O H l xs
  | .lst l, v => ∃ a xs, v = .ref a ∧ LsAt K O H a xs ∧ IsL K O H l xs
  | .dct ks l, v => ∃ a kvs, v = .ref a ∧ ¬ O a ∧ Rd H a (.dK kvs) ∧ kvs.map (·.1) = ks ∧ IsL K O H l (kvs.map (·.2))
noncomputable def IsL (K : Fg) (O : Addr → Prop) (H : Hp) : List D → List V → Prop
  | [], vs => vs = []
  | d :: l, vs => ∃ v r, vs = v :: r ∧ Is K O H d v ∧ IsL K O H l r
end
noncomputable def Mb : HO → Prop
  | .lst _ => True
  | .dK _ => True
  | .frz _ (.dK _) => True
  | _ => False
noncomputable def OLst (O : Addr → Prop) (H : Hp) : Prop := ∀ a, O a → ∃ o, H a = some o ∧ Mb o
noncomputable def Keep (O : Addr → Prop) (H H' : Hp) : Prop := ∀ b o, H b = some o → ¬ O b → H' b = some o
theorem Rd.some {H : Hp} {a : Addr} {u : HO} (h : Rd H a u) : ∃ o, H a = some o := by
  rcases h with h | ⟨o, h⟩
  · exact ⟨_, h⟩
  · exact ⟨_, h⟩
theorem SqT.keep {K : Fg} {O : Addr → Prop} {H H' : Hp} {a : Addr} {xs : List V} (k : Keep O H H') (o : OLst O H) (h : SqT K H a xs) : SqT K H' a xs := by
  rcases h with (h | ⟨ob, h⟩) | h
  · exact .inl (.inl (k _ _ h fun z => by obtain ⟨ys, q, m⟩ := o a z; rw [h] at q; cases q; exact m))
  · exact .inl (.inr ⟨ob, k _ _ h fun z => by obtain ⟨ys, q, m⟩ := o a z; rw [h] at q; cases q; exact m⟩)
  · exact .inr h
theorem Rd.keep {O : Addr → Prop} {H H' : Hp} {a : Addr} {u : HO} (k : Keep O H H') (n : ¬ O a) (h : Rd H a u) : Rd H' a u := by
  rcases h with h | ⟨ob, h⟩
  · exact .inl (k _ _ h n)
  · exact .inr ⟨ob, k _ _ h n⟩
mutual
theorem Is.mono {K : Fg} {O O' : Addr → Prop} {H H' : Hp} (k : Keep O H H') (ol : OLst O H) (oo : ∀ a, O' a → H a ≠ none → O a) : ∀ (d : D) (v : V), Is K O H d v → Is K O' H' d v
  | .non, v, h => by unfold Is at h ⊢; exact h
  | .bl b, v, h => by unfold Is at h ⊢; exact h
  | .int i, v, h => by unfold Is at h ⊢; exact h
  | .str s, v, h => by unfold Is at h ⊢; exact h
  | .ty n, v, h => by unfold Is at h ⊢; exact h
  | .ref a, v, h => by unfold Is at h ⊢; exact h
  | .tup l, v, h => by
    unfold Is at h ⊢
    obtain ⟨a, xs, e, q, r⟩ := h
    exact ⟨a, xs, e, SqT.keep k ol q, IsL.mono k ol oo l xs r⟩
  | .lst l, v, h => by
    unfold Is at h ⊢
    obtain ⟨a, xs, e, nq, r⟩ := h
    refine ⟨a, xs, e, ?_, IsL.mono k ol oo l xs r⟩
    rcases nq with ⟨n, q⟩ | q
    · exact .inl ⟨fun z => n (oo a z (by obtain ⟨o, q⟩ := Rd.some q; rw [q]; simp)), Rd.keep k n q⟩
    · exact .inr q
  | .dct ks l, v, h => by
    unfold Is at h ⊢
    obtain ⟨a, kvs, e, n, q, e2, r⟩ := h
    exact ⟨a, kvs, e, fun z => n (oo a z (by obtain ⟨o, q⟩ := Rd.some q; rw [q]; simp)), Rd.keep k n q, e2, IsL.mono k ol oo l _ r⟩
theorem IsL.mono {K : Fg} {O O' : Addr → Prop} {H H' : Hp} (k : Keep O H H') (ol : OLst O H) (oo : ∀ a, O' a → H a ≠ none → O a) : ∀ (l : List D) (vs : List V), IsL K O H l vs → IsL K O' H' l vs
  | [], vs, h => by unfold IsL at h ⊢; exact h
  | d :: l, vs, h => by
    unfold IsL at h ⊢
    obtain ⟨v, r, e, h1, h2⟩ := h
    exact ⟨v, r, e, Is.mono k ol oo d v h1, IsL.mono k ol oo l r h2⟩
end
theorem Same.kp {H H' : Hp} (s : Same H H') (O : Addr → Prop) : Keep O H H' := fun b o e _ => s b o e
theorem Is.same {K : Fg} {O : Addr → Prop} {H H' : Hp} {d : D} {v : V} (s : Same H H') (ol : OLst O H) (h : Is K O H d v) : Is K O H' d v := Is.mono (Same.kp s O) ol (fun _ z _ => z) d v h
theorem IsL.same {K : Fg} {O : Addr → Prop} {H H' : Hp} {l : List D} {vs : List V} (s : Same H H') (ol : OLst O H) (h : IsL K O H l vs) : IsL K O H' l vs := IsL.mono (Same.kp s O) ol (fun _ z _ => z) l vs h
section
variable {K : Fg} {O : Addr → Prop} {H : Hp}
theorem IsL.length : ∀ {l : List D} {vs : List V}, IsL K O H l vs → l.length = vs.length
  | [], vs, h => by unfold IsL at h; subst h; rfl
  | d :: l, vs, h => by unfold IsL at h; obtain ⟨v, r, rfl, _, h2⟩ := h; simp [IsL.length h2]
theorem IsL.get : ∀ {l : List D} {vs : List V} {i : Nat} {d : D}, IsL K O H l vs → l[i]? = some d → ∃ v, vs[i]? = some v ∧ Is K O H d v
  | [], _, _, _, _, e => by simp at e
  | d :: l, vs, 0, d', h, e => by
    unfold IsL at h; obtain ⟨v, r, rfl, h1, h2⟩ := h
    simp at e; subst e; exact ⟨v, rfl, h1⟩
  | d :: l, vs, i + 1, d', h, e => by
    unfold IsL at h; obtain ⟨v, r, rfl, h1, h2⟩ := h
    obtain ⟨u, q1, q2⟩ := IsL.get (i := i) h2 (by simpa using e)
    exact ⟨u, by simpa using q1, q2⟩
theorem IsL.nil : IsL K O H [] [] := by unfold IsL; rfl
theorem IsL.cons {d : D} {v : V} {l : List D} {vs : List V} (h : Is K O H d v) (t : IsL K O H l vs) : IsL K O H (d :: l) (v :: vs) := by unfold IsL; exact ⟨v, vs, rfl, h, t⟩
theorem IsL.append : ∀ {l m : List D} {vs us : List V}, IsL K O H l vs → IsL K O H m us → IsL K O H (l ++ m) (vs ++ us)
  | [], _, _, _, h, t => by unfold IsL at h; subst h; exact t
  | d :: l, m, vs, us, h, t => by unfold IsL at h; obtain ⟨v, r, rfl, h1, h2⟩ := h; exact .cons h1 (IsL.append h2 t)
theorem IsL.take : ∀ {l : List D} {vs : List V} (n : Nat), IsL K O H l vs → IsL K O H (l.take n) (vs.take n)
  | _, _, 0, _ => by simpa using IsL.nil
  | [], _, _ + 1, h => by unfold IsL at h; subst h; simpa using IsL.nil
  | d :: l, vs, n + 1, h => by unfold IsL at h; obtain ⟨v, r, rfl, h1, h2⟩ := h; exact .cons h1 (IsL.take n h2)
theorem IsL.drop : ∀ {l : List D} {vs : List V} (n : Nat), IsL K O H l vs → IsL K O H (l.drop n) (vs.drop n)
  | _, _, 0, h => h
  | [], _, _ + 1, h => by unfold IsL at h; subst h; simpa using IsL.nil
  | d :: l, vs, n + 1, h => by unfold IsL at h; obtain ⟨v, r, rfl, h1, h2⟩ := h; exact IsL.drop n h2
theorem IsL.reverse : ∀ {l : List D} {vs : List V}, IsL K O H l vs → IsL K O H l.reverse vs.reverse
  | [], _, h => by unfold IsL at h; subst h; exact IsL.nil
  | d :: l, vs, h => by
    unfold IsL at h; obtain ⟨v, r, rfl, h1, h2⟩ := h
    rw [List.reverse_cons, List.reverse_cons]; exact (IsL.reverse h2).append (.cons h1 .nil)
theorem IsL.inv1 {d : D} {vs : List V} (h : IsL K O H [d] vs) : ∃ v, vs = [v] ∧ Is K O H d v := by
  unfold IsL at h
  obtain ⟨v, r, rfl, h1, h2⟩ := h
  unfold IsL at h2; subst h2
  exact ⟨v, rfl, h1⟩
theorem IsL.inv2 {d e : D} {vs : List V} (h : IsL K O H [d, e] vs) : ∃ v u, vs = [v, u] ∧ Is K O H d v ∧ Is K O H e u := by
  unfold IsL at h
  obtain ⟨v, r, rfl, h1, h2⟩ := h
  obtain ⟨u, rfl, h3⟩ := h2.inv1
  exact ⟨v, u, rfl, h1, h3⟩
theorem Is.int_iff {i : Int} {v : V} : Is K O H (.int i) v ↔ v = .int i := by unfold Is; exact Iff.rfl
theorem Is.bl_iff {b : Bool} {v : V} : Is K O H (.bl b) v ↔ v = .bl b := by unfold Is; exact Iff.rfl
theorem Is.str_iff {s : List Nat} {v : V} : Is K O H (.str s) v ↔ v = .str ⟨s.toArray⟩ := by unfold Is; exact Iff.rfl
theorem Is.non_iff {v : V} : Is K O H .non v ↔ v = .non := by unfold Is; exact Iff.rfl
theorem Is.ty_iff {n : String} {v : V} : Is K O H (.ty n) v ↔ v = .ty n := by unfold Is; exact Iff.rfl
theorem Is.ref_iff {a : Addr} {v : V} : Is K O H (.ref a) v ↔ v = .ref a := by unfold Is; exact Iff.rfl
theorem Is.tup_iff {l : List D} {v : V} : Is K O H (.tup l) v ↔ ∃ a xs, v = .ref a ∧ SqT K H a xs ∧ IsL K O H l xs := by unfold Is; exact Iff.rfl
theorem Is.lst_iff {l : List D} {v : V} : Is K O H (.lst l) v ↔ ∃ a xs, v = .ref a ∧ LsAt K O H a xs ∧ IsL K O H l xs := by unfold Is; exact Iff.rfl
theorem Is.dct_iff {ks : List Key} {l : List D} {v : V} : Is K O H (.dct ks l) v ↔ ∃ a kvs, v = .ref a ∧ ¬ O a ∧ Rd H a (.dK kvs) ∧ kvs.map (·.1) = ks ∧ IsL K O H l (kvs.map (·.2)) := by unfold Is; exact Iff.rfl
end
inductive Sl where
  | un | v (d : D) | o (l : List D) | p (l : List D) | z (l : List D) | d (ks : List Key) (l : List D)
noncomputable abbrev En := List Sl
noncomputable def Sl.own : Sl → Option (List D)
  | .o l => some l
  | .p l => some l
  | .z l => some l
  | .d _ l => some l
  | _ => none
noncomputable def Sl.mt : Sl → Option (List D)
  | .o l => some l
  | .p l => some l
  | .d _ l => some l
  | _ => none
noncomputable def Sl.ls : Sl → Option (List D)
  | .o l => some l
  | .p l => some l
  | .z l => some l
  | _ => none
noncomputable def Sl.ml : Sl → Option (List D)
  | .o l => some l
  | .p l => some l
  | _ => none
theorem ml_mt {x : Sl} {l : List D} (h : x.ml = some l) : x.mt = some l ∧ x.ls = some l := by
  cases x <;> first | (cases h; exact ⟨rfl, rfl⟩) | cases h
theorem ls_own {x : Sl} {l : List D} (h : x.ls = some l) : x.own = some l := by
  cases x <;> first | (cases h; rfl) | cases h
theorem ls_own' {x : Option Sl} {l : List D} (h : x.bind Sl.ls = some l) : x.bind Sl.own = some l := by
  cases x with
  | none => cases h
  | some x => exact ls_own (x := x) h
theorem own_ls {x : Option Sl} {l : List D} (h : x.bind Sl.own = some l) : x.bind Sl.ls = some l ∨ ∃ ks, x = some (.d ks l) := by
  cases x with
  | none => cases h
  | some x => cases x <;> first | (cases h; exact .inl rfl) | (cases h; exact .inr ⟨_, rfl⟩) | cases h
noncomputable def AtS (q : Sl → Option (List D)) (r : En) (σ : St) (a : Addr) : Prop := ∃ (i : Nat) (l : List D), (r[i]?).bind q = some l ∧ σ[i]? = some (some (.ref a))
noncomputable abbrev OwnAt := AtS Sl.own
noncomputable abbrev MutAt := AtS Sl.mt
theorem mt_own {x : Sl} {l : List D} (h : x.mt = some l) : x.own = some l := by
  cases x <;> first | (cases h; rfl) | cases h
theorem MutAt.own {r : En} {σ : St} {a : Addr} (h : MutAt r σ a) : OwnAt r σ a := by
  obtain ⟨i, l, e, q⟩ := h
  obtain ⟨x, e1, e2⟩ := Option.bind_eq_some_iff.mp e
  exact ⟨i, l, by rw [e1]; exact mt_own e2, q⟩
noncomputable def Ow (O0 : Addr → Prop) (r : En) (σ : St) : Addr → Prop := fun a => O0 a ∨ OwnAt r σ a
structure R (K : Fg) (O0 : Addr → Prop) (H : Hp) (r : En) (σ : St) : Prop where
  len : r.length = σ.length
  val : ∀ (i : Nat) (d : D), r[i]? = some (.v d) → ∃ v, σ[i]? = some (some v) ∧ Is K (Ow O0 r σ) H d v
  own : ∀ (i : Nat) (l : List D), (r[i]?).bind Sl.ls = some l → ∃ a xs, σ[i]? = some (some (.ref a)) ∧ H a = some (.lst xs) ∧ IsL K (Ow O0 r σ) H l xs
  apart : ∀ (i j : Nat) (a : Addr) (l m : List D), (r[i]?).bind Sl.own = some l → (r[j]?).bind Sl.own = some m → σ[i]? = some (some (.ref a)) → σ[j]? = some (some (.ref a)) → i = j
  o0 : OLst O0 H
  loc : ∀ (i : Nat) (l : List D) (a : Addr), (r[i]? = some (.o l) ∨ r[i]? = some (.z l) ∨ ∃ ks, r[i]? = some (.d ks l)) → σ[i]? = some (some (.ref a)) → ¬ O0 a
  par : ∀ (i : Nat) (l : List D) (a : Addr), r[i]? = some (.p l) → σ[i]? = some (some (.ref a)) → O0 a
  dct : ∀ (i : Nat) (ks : List Key) (l : List D), r[i]? = some (.d ks l) → ∃ a kvs, σ[i]? = some (some (.ref a)) ∧ H a = some (.dK kvs) ∧ kvs.map (·.1) = ks ∧ IsL K (Ow O0 r σ) H l (kvs.map (·.2))
theorem R.obj {K : Fg} {O0 : Addr → Prop} {H : Hp} {r : En} {σ : St} (h : R K O0 H r σ) {j : Nat} {m : List D} (e : (r[j]?).bind Sl.own = some m) : ∃ a o, σ[j]? = some (some (.ref a)) ∧ H a = some o ∧ Mb o := by
  rcases own_ls e with e | ⟨ks, e⟩
  · obtain ⟨a, xs, e1, e2, _⟩ := h.own j m e
    exact ⟨a, _, e1, e2, trivial⟩
  · obtain ⟨a, kvs, e1, e2, _⟩ := h.dct j ks m e
    exact ⟨a, _, e1, e2, trivial⟩
theorem R.ol {K : Fg} {O0 : Addr → Prop} {H : Hp} {r : En} {σ : St} (h : R K O0 H r σ) : OLst (Ow O0 r σ) H := fun a z => by
  rcases z with z | ⟨i, l, e, q⟩
  · exact h.o0 a z
  · rcases own_ls e with e | ⟨ks, e⟩
    · obtain ⟨b, xs, e1, e2, _⟩ := h.own i l e
      rw [q] at e1; cases e1
      exact ⟨.lst xs, e2, trivial⟩
    · obtain ⟨b, kvs, e1, e2, _⟩ := h.dct i ks l e
      rw [q] at e1; cases e1
      exact ⟨.dK kvs, e2, trivial⟩
theorem R.nofresh {K : Fg} {O0 : Addr → Prop} {H : Hp} {r : En} {σ : St} (h : R K O0 H r σ) {a : Addr} (n : H a = none) : ¬ Ow O0 r σ a := fun z => by
  obtain ⟨o, e, _⟩ := h.ol a z
  rw [n] at e; cases e
theorem R.same {K : Fg} {O0 : Addr → Prop} {H H' : Hp} {r : En} {σ : St} (h : R K O0 H r σ) (s : Same H H') : R K O0 H' r σ where
  len := h.len
  val := fun i d e => by obtain ⟨v, e1, q⟩ := h.val i d e; exact ⟨v, e1, q.same s h.ol⟩
  own := fun i l e => by obtain ⟨a, xs, e1, e2, q⟩ := h.own i l e; exact ⟨a, xs, e1, s _ _ e2, q.same s h.ol⟩
  dct := fun i ks l e => by obtain ⟨a, kvs, e1, e2, e3, q⟩ := h.dct i ks l e; exact ⟨a, kvs, e1, s _ _ e2, e3, q.same s h.ol⟩
  apart := h.apart
  o0 := fun a z => by obtain ⟨xs, e, m⟩ := h.o0 a z; exact ⟨xs, s _ _ e, m⟩
  loc := h.loc
  par := h.par
structure Kp (H : Hp) (r : En) (σ : St) (H' : Hp) (r' : En) (σ' : St) : Prop where
  keep : Keep (MutAt r σ) H H'
  live : ∀ b, H' b = none → H b = none
  lst : ∀ b o, H b = some o → Mb o → ∃ o', H' b = some o' ∧ Mb o'
  new : ∀ b, OwnAt r' σ' b → OwnAt r σ b ∨ H b = none
  mnew : ∀ b, MutAt r' σ' b → MutAt r σ b ∨ H b = none
  par : ∀ (i : Nat) (l : List D), r[i]? = some (.p l) → (∃ l', r'[i]? = some (.p l')) ∧ σ'[i]? = σ[i]?
  fz : ∀ (i : Nat) (l : List D), r[i]? = some (.z l) → r'[i]? = some (.z l) ∧ σ'[i]? = σ[i]?
theorem Kp.of_same {H H' : Hp} (r : En) (σ : St) (s : Same H H') : Kp H r σ H' r σ :=
  ⟨fun b o e _ => s b o e, fun b e => s.free e, fun b o e m => ⟨o, s _ _ e, m⟩, fun b z => .inl z, fun b z => .inl z, fun i l e => ⟨⟨l, e⟩, rfl⟩, fun i l e => ⟨e, rfl⟩⟩
theorem Kp.refl (H : Hp) (r : En) (σ : St) : Kp H r σ H r σ := .of_same r σ (Same.refl H)
theorem Kp.trans {H H1 H2 : Hp} {r r1 r2 : En} {σ σ1 σ2 : St} (a : Kp H r σ H1 r1 σ1) (b : Kp H1 r1 σ1 H2 r2 σ2) : Kp H r σ H2 r2 σ2 where
  keep := fun c o e n => b.keep c o (a.keep c o e n) fun z => (a.mnew c z).elim n fun q => by rw [e] at q; cases q
  live := fun c e => a.live c (b.live c e)
  lst := fun c o e m => by obtain ⟨o1, q, m1⟩ := a.lst c o e m; exact b.lst c o1 q m1
  new := fun c z => (b.new c z).elim (a.new c) fun q => .inr (a.live c q)
  mnew := fun c z => (b.mnew c z).elim (a.mnew c) fun q => .inr (a.live c q)
  par := fun i l e => by
    obtain ⟨⟨l1, e1⟩, q1⟩ := a.par i l e
    obtain ⟨⟨l2, e2⟩, q2⟩ := b.par i l1 e1
    exact ⟨⟨l2, e2⟩, q2.trans q1⟩
  fz := fun i l e => by
    obtain ⟨e1, q1⟩ := a.fz i l e
    obtain ⟨e2, q2⟩ := b.fz i l e1
    exact ⟨e2, q2.trans q1⟩
theorem PE.conseq {X : Cx} {e : Expr} {t t' : TE} (h : PE X e t) (i : ∀ σ H Q, t' σ H Q → t σ H Q) : PE X e t' := fun pins s σ H Q I q => h pins s σ H Q I (i σ H Q q)
theorem PT.conseq {X : Cx} {e : Expr} {t t' : TT} (h : PT X e t) (i : ∀ σ H Q, t' σ H Q → t σ H Q) : PT X e t' := fun pins s σ H Q I q => h pins s σ H Q I (i σ H Q q)
theorem PA.conseq {X : Cx} {e : List Expr} {t t' : TA} (h : PA X e t) (i : ∀ σ H Q, t' σ H Q → t σ H Q) : PA X e t' := fun pos pins s σ H Q I q => h pos pins s σ H Q I (i σ H Q q)
theorem PS.conseq {X : Cx} {st : Stmt} {t t' : TS} (h : PS X st t) (i : ∀ D σ H, t' D σ H → t D σ H) : PS X st t' := fun pins s σ H D I q => h pins s σ H D I (i D σ H q)
theorem PSs.conseq {X : Cx} {st : List Stmt} {t t' : TS} (h : PSs X st t) (i : ∀ D σ H, t' D σ H → t D σ H) : PSs X st t' := fun pins s σ H D I q => h pins s σ H D I (i D σ H q)
noncomputable abbrev ME := En → Option D
noncomputable abbrev ML := En → Option (List D)
noncomputable abbrev MB := En → Option Bool
noncomputable def lE (K : Fg) (f : ME) : TE := fun σ H Q => ∃ O0 r d, R K O0 H r σ ∧ f r = some d ∧ ∀ v H', Same H H' → Is K (Ow O0 r σ) H' d v → Q v H'
noncomputable def lT (K : Fg) (f : MB) : TT := fun σ H Q => ∃ O0 r b, R K O0 H r σ ∧ f r = some b ∧ ∀ H', Same H H' → Q b H'
noncomputable def lA (K : Fg) (f : ML) : TA := fun σ H Q => ∃ O0 r l, R K O0 H r σ ∧ f r = some l ∧ ∀ vs H', Same H H' → IsL K (Ow O0 r σ) H' l vs → Q vs H'
noncomputable def lF (K : Fg) (f : ML) : TE := fun σ H Q => ∃ O0 r l, R K O0 H r σ ∧ f r = some l ∧ ∀ a xs H', Same H H' → H a = none → H' a = some (.lst xs) → IsL K (fun b => Ow O0 r σ b ∨ b = a) H' l xs → Q (.ref a) H'
noncomputable def lB (K : Fg) (f : ML) : TE := fun σ H Q => ∃ O0 r l, R K O0 H r σ ∧ f r = some l ∧ ∀ a xs H', Same H H' → SqL K H' a xs → IsL K (Ow O0 r σ) H' l xs → Q (.ref a) H'
noncomputable def lX (K : Fg) (f : En → Option (D × En)) : TE := fun σ H Q => ∃ O0 r d r', R K O0 H r σ ∧ f r = some (d, r') ∧ ∀ v H', R K O0 H' r' σ → Kp H r σ H' r' σ → Is K (Ow O0 r' σ) H' d v → Q v H'
noncomputable def DE (X : Cx) (e : Expr) (f : ME) : Prop := PE X e (lE X.K f)
noncomputable def DT (X : Cx) (e : Expr) (f : MB) : Prop := PT X e (lT X.K f)
noncomputable def DA (X : Cx) (es : List Expr) (f : ML) : Prop := PA X es (lA X.K f)
noncomputable def DF (X : Cx) (e : Expr) (f : ML) : Prop := PE X e (lF X.K f)
noncomputable def DB (X : Cx) (e : Expr) (f : ML) : Prop := PE X e (lB X.K f)
noncomputable def DX (X : Cx) (e : Expr) (f : En → Option (D × En)) : Prop := PE X e (lX X.K f)
inductive Fl where
  | nx (r : En) | bk (r : En) | ct (r : En) | rt (d : D) (r : En) | rf (l : List D) (r : En) | rg (ks : List Key) (l : List D) (r : En)
noncomputable abbrev MS := En → Option Fl
noncomputable def FrA (H : Hp) (r : En) (σ : St) (a : Addr) : Prop := H a = none ∨ ∃ (i : Nat) (l : List D), (r[i]? = some (.o l) ∨ ∃ ks, r[i]? = some (.d ks l)) ∧ σ[i]? = some (some (.ref a))
noncomputable def PostS (K : Fg) (O0 : Addr → Prop) (H : Hp) (r : En) (σ : St) (Dn : Ends) : Fl → Prop
  | .nx r' => ∀ σ' H', R K O0 H' r' σ' → Kp H r σ H' r' σ' → Dn.nx σ' H'
  | .bk r' => ∀ σ' H', R K O0 H' r' σ' → Kp H r σ H' r' σ' → Dn.bk σ' H'
  | .ct r' => ∀ σ' H', R K O0 H' r' σ' → Kp H r σ H' r' σ' → Dn.ct σ' H'
  | .rt d r' => ∀ v σ' H', R K O0 H' r' σ' → Kp H r σ H' r' σ' → Is K O0 H' d v → Dn.rt v H'
  | .rf l r' => ∀ a xs σ' H', R K O0 H' r' σ' → Kp H r σ H' r' σ' → FrA H r σ a → ¬ O0 a → H' a = some (.lst xs) → IsL K (fun b => O0 b ∨ b = a) H' l xs → Dn.rt (.ref a) H'
  | .rg ks l r' => ∀ a kvs σ' H', R K O0 H' r' σ' → Kp H r σ H' r' σ' → FrA H r σ a → ¬ O0 a → H' a = some (.dK kvs) → kvs.map (·.1) = ks → IsL K (fun b => O0 b ∨ b = a) H' l (kvs.map (·.2)) → Dn.rt (.ref a) H'
noncomputable def lS (K : Fg) (g : MS) : TS := fun Dn σ H => ∃ O0 r fl, R K O0 H r σ ∧ g r = some fl ∧ PostS K O0 H r σ Dn fl
noncomputable def DS (X : Cx) (st : Stmt) (g : MS) : Prop := PS X st (lS X.K g)
noncomputable def DSs (X : Cx) (st : List Stmt) (g : MS) : Prop := PSs X st (lS X.K g)
theorem PostS.before {K : Fg} {O0 : Addr → Prop} {H H1 : Hp} {r r1 : En} {σ σ1 : St} {Dn : Ends} {fl : Fl} (R1 : R K O0 H1 r1 σ1) (k : Kp H r σ H1 r1 σ1) (h : PostS K O0 H r σ Dn fl) : PostS K O0 H1 r1 σ1 Dn fl := by
  have fra : ∀ a, FrA H1 r1 σ1 a → FrA H r σ a := fun a z => by
    rcases z with z | ⟨i, l, e, q⟩
    · exact .inl (k.live a z)
    · have eo : (r1[i]?).bind Sl.own = some l := by rcases e with e | ⟨ks, e⟩ <;> rw [e] <;> rfl
      have np : ∀ l2, r1[i]? ≠ some (.p l2) := fun l2 z => by rcases e with e | ⟨ks, e⟩ <;> rw [e] at z <;> cases z
      have nz : ∀ l2, r1[i]? ≠ some (.z l2) := fun l2 z => by rcases e with e | ⟨ks, e⟩ <;> rw [e] at z <;> cases z
      rcases k.new a ⟨i, l, eo, q⟩ with ⟨j, m, e2, q2⟩ | z
      · cases ej : r[j]? with
        | none => rw [ej] at e2; cases e2
        | some x =>
          rw [ej] at e2
          cases x with
          | un => cases e2
          | v d => cases e2
          | o l' => exact .inr ⟨j, l', .inl ej, q2⟩
          | p l' =>
            obtain ⟨⟨l2, e3⟩, q3⟩ := k.par j l' ej
            have := R1.apart i j a l l2 eo (by rw [e3]; rfl) q (q3.trans q2)
            subst this
            exact absurd e3 (np _)
          | z l' =>
            obtain ⟨e3, q3⟩ := k.fz j l' ej
            have := R1.apart i j a l l' eo (by rw [e3]; rfl) q (q3.trans q2)
            subst this
            exact absurd e3 (nz _)
          | d ks l' => exact .inr ⟨j, l', .inr ⟨ks, ej⟩, q2⟩
      · exact .inl z
  cases fl with
  | nx r' => exact fun σ' H' h1 h2 => h σ' H' h1 (k.trans h2)
  | bk r' => exact fun σ' H' h1 h2 => h σ' H' h1 (k.trans h2)
  | ct r' => exact fun σ' H' h1 h2 => h σ' H' h1 (k.trans h2)
  | rt d r' => exact fun v σ' H' h1 h2 h3 => h v σ' H' h1 (k.trans h2) h3
  | rf l r' => exact fun a xs σ' H' h1 h2 h3 h4 h5 h6 => h a xs σ' H' h1 (k.trans h2) (fra a h3) h4 h5 h6
  | rg ks l r' => exact fun a xs σ' H' h1 h2 h3 h4 h5 h6 h7 => h a xs σ' H' h1 (k.trans h2) (fra a h3) h4 h5 h6 h7
noncomputable def mC (d : D) : ME := fun _ => some d
noncomputable def mVar (i : Nat) : ME := fun r => match r[i]? with
  | some (.v d) => some d
  | _ => none
noncomputable def mOwn (i : Nat) : ML := fun r => (r[i]?).bind Sl.ls
noncomputable def mBin (m : D → D → Option D) (f g : ME) : ME := fun r => (f r).bind fun x => (g r).bind fun y => m x y
noncomputable def mUn (m : D → Option D) (f : ME) : ME := fun r => (f r).bind m
noncomputable def mNil : ML := fun _ => some []
noncomputable def mCons (f : ME) (g : ML) : ML := fun r => (f r).bind fun x => (g r).bind fun l => some (x :: l)
noncomputable def mTup (f : ML) : ME := fun r => (f r).bind fun l => if l.length ≤ sizeLine then some (.tup l) else none
noncomputable def mLstF (f : ML) : ML := fun r => (f r).bind fun l => if l.length ≤ sizeLine then some l else none
noncomputable def mOfF (f : ML) : ME := fun r => (f r).map .lst
noncomputable def mAnd (f g : ME) : ME := fun r => (f r).bind fun d => match d with
  | .bl true => g r
  | .bl false => some (.bl false)
  | _ => none
noncomputable def notD : D → Option D
  | .bl b => some (.bl !b)
  | _ => none
noncomputable def mAndT (f g : MB) : MB := fun r => (f r).bind fun b => if b = true then g r else some false
noncomputable def mOrT (f g : MB) : MB := fun r => (f r).bind fun b => if b = true then some true else g r
noncomputable def mNotT (f : MB) : MB := fun r => (f r).map (!·)
noncomputable def blD : D → Option Bool
  | .bl b => some b
  | _ => none
noncomputable def mBl (f : ME) : MB := fun r => (f r).bind blD
noncomputable def truD : D → Option Bool
  | .non => some false
  | .bl b => some b
  | .int i => some (i != 0)
  | .str s => if s.length ≤ sizeLine then some (!s.isEmpty) else none
  | .tup l => some (!l.isEmpty)
  | .lst l => some (!l.isEmpty)
  | _ => none
noncomputable def mTruB (fl : ML) : MB := fun r => (fl r).map fun l => !l.isEmpty
noncomputable def mTru (f : ME) : MB := fun r => (f r).bind truD
section
variable {X : Cx} {pos : Pos} {a b c : Expr} {f g : ME}
theorem bind_some {α β : Type} {o : Option α} {h : α → Option β} {y : β} (e : o.bind h = some y) : ∃ x, o = some x ∧ h x = some y := by
  cases o with
  | none => cases e
  | some x => exact ⟨x, rfl, e⟩
theorem de_of {t : TE} (h : PE X a t) (i : ∀ O0 σ H r d Q, R X.K O0 H r σ → f r = some d → (∀ v H', Same H H' → Is X.K (Ow O0 r σ) H' d v → Q v H') → t σ H Q) : DE X a f :=
  PE.conseq h fun σ H Q ⟨O0, r, d, hR, e, q⟩ => i O0 σ H r d Q hR e q
theorem de_var (i : Nat) {x : Str} (h : PE X (.Name x pos) (tVar i)) : DE X (.Name x pos) (mVar i) :=
  de_of h fun O0 σ H r d Q hR e q => by
    unfold mVar at e
    have e' : r[i]? = some (.v d) := by
      split at e
      · rename_i d' h; cases e; exact h
      · cases e
    obtain ⟨v, e1, q1⟩ := hR.val i d e'
    exact ⟨v, e1, q v H (Same.refl H) q1⟩
theorem db_own (i : Nat) {x : Str} (h : PE X (.Name x pos) (tVar i)) : DB X (.Name x pos) (mOwn i) :=
  PE.conseq h fun σ H Q ⟨O0, r, l, hR, e, q⟩ => by
    obtain ⟨a, xs, e1, e2, q1⟩ := hR.own i l e
    exact ⟨.ref a, e1, q a xs H (Same.refl H) (SqL.of e2) q1⟩
theorem de_con {v : V} {d : D} (h : PE X a (tC v)) (hd : ∀ O H, Is X.K O H d v) : DE X a (mC d) :=
  de_of h fun O0 σ H r d' Q hR e q => by
    unfold mC at e
    cases e
    exact q v H (Same.refl H) (hd _ _)
theorem de_int {i j} : DE X (.Constant (.int i) j pos) (mC (.int i)) := de_con pe_int fun O H => by unfold Is; rfl
theorem de_bl {i j} : DE X (.Constant (.bool i) j pos) (mC (.bl i)) := de_con pe_bl fun O H => by unfold Is; rfl
theorem de_non {j} : DE X (.Constant .none j pos) (mC .non) := de_con pe_non fun O H => by unfold Is; rfl
theorem de_str {x : Str} {s : List Nat} {j} (e : x.cps.toList = s := by rfl) : DE X (.Constant (.str x) j pos) (mC (.str s)) := de_con pe_str fun O H => by
  unfold Is; subst e; simp
noncomputable def OpD (K : Fg) (r2 : R2) (m : D → D → Option D) : Prop := ∀ (O : Addr → Prop) (H : Hp) (dx dy d : D) (vx vy : V) (Q : VK), OLst O H → Is K O H dx vx → Is K O H dy vy → m dx dy = some d → (∀ v H', Same H H' → Is K O H' d v → Q v H') → r2 vx vy H Q
theorem two {ta tb : TE} {r2 : R2} {m : D → D → Option D} (hd : OpD X.K r2 m) {σ : St} {H : Hp} {Q : VK} (h : lE X.K (mBin m f g) σ H Q) : tOp r2 (lE X.K f) (lE X.K g) σ H Q := by
  obtain ⟨O0, r, d, hR, e, q⟩ := h
  obtain ⟨x, e1, e⟩ := bind_some e
  obtain ⟨y, e2, e⟩ := bind_some e
  refine ⟨O0, r, x, hR, e1, fun v1 H1 s1 i1 => ⟨O0, r, y, hR.same s1, e2, fun v2 H2 s2 i2 => ?_⟩⟩
  exact hd (Ow O0 r σ) H2 x y d v1 v2 Q (hR.same (s1.trans s2)).ol (i1.same s2 (hR.same s1).ol) i2 e fun v H' s' i' => q v H' ((s1.trans s2).trans s') i'
theorem de_bin {op : Operator} {r2 : R2} {m : D → D → Option D} (ho : OpR X (binaryOp op) r2) (hd : OpD X.K r2 m) (ha : DE X a f) (hb : DE X b g) : DE X (.BinOp a op b pos) (mBin m f g) :=
  PE.conseq (pe_op ho ha hb) fun σ H Q h => two (ta := lE X.K f) (tb := lE X.K g) hd h
theorem de_cmp {op : CmpOp} {r2 : R2} {m : D → D → Option D} (ho : OpR X (compareOp op) r2) (hd : OpD X.K r2 m) (ha : DE X a f) (hb : DE X b g) (hm : behindInMarks op b = false) : DE X (.Compare a [op] [b] pos) (mBin m f g) :=
  PE.conseq (pe_cmpR ho ha hb hm) fun σ H Q h => two (ta := lE X.K f) (tb := lE X.K g) hd h
theorem dt_cmp {op : CmpOp} {r2 : R2} {m : D → D → Option D} (ho : OpR X (compareOp op) r2) (hd : OpD X.K r2 m) (ha : DE X a f) (hb : DE X b g) (hm : behindInMarks op b = false) : DT X (.Compare a [op] [b] pos) (mBl (mBin m f g)) := by
  refine PT.conseq (pt_cmpR ho ha hb hm) fun σ H Q h => ?_
  obtain ⟨O0, r, k, hR, e, q⟩ := h
  obtain ⟨d, e1, e⟩ := bind_some e
  refine two (ta := lE X.K f) (tb := lE X.K g) (m := m) hd ⟨O0, r, d, hR, e1, fun v H' s' i' => ?_⟩
  cases d <;> first | cases e | skip
  rw [Is.bl_iff] at i'
  exact ⟨_, i', q H' s'⟩
theorem de_one {op} (h : DE X a f) : DE X (.BoolOp op [a] pos) f := pe_one h
theorem de_and {rest : List Expr} (ha : DE X a f) (hb : DE X (.BoolOp .And (b :: rest) pos) g) : DE X (.BoolOp .And (a :: b :: rest) pos) (mAnd f g) := by
  refine PE.conseq (pe_and ha hb) fun σ H Q h => ?_
  obtain ⟨O0, r, d, hR, e, q⟩ := h
  obtain ⟨x, e1, e⟩ := bind_some e
  refine ⟨O0, r, x, hR, e1, fun v1 H1 s1 i1 => ?_⟩
  cases x with
  | bl k =>
    rw [Is.bl_iff] at i1
    refine ⟨k, i1, ?_⟩
    cases k with
    | true =>
      rw [if_pos rfl]
      exact ⟨O0, r, d, hR.same s1, e, fun v H' s' i' => q v H' (s1.trans s') i'⟩
    | false =>
      rw [if_neg Bool.false_ne_true]
      cases e
      exact q _ H1 s1 (by rw [Is.bl_iff])
  | _ => cases e
theorem de_not (ha : DE X a f) : DE X (.UnaryOp .Not a pos) (mUn notD f) := by
  refine PE.conseq (pe_not ha) fun σ H Q h => ?_
  obtain ⟨O0, r, d, hR, e, q⟩ := h
  obtain ⟨x, e1, e⟩ := bind_some e
  refine ⟨O0, r, x, hR, e1, fun v1 H1 s1 i1 => ?_⟩
  cases x with
  | bl k =>
    rw [Is.bl_iff] at i1
    cases e
    exact ⟨k, i1, q _ H1 s1 (by rw [Is.bl_iff])⟩
  | _ => cases e
section
variable {tf tg : MB}
theorem dw_and1 (ha : DT X a tf) : PW X (.BoolOp .And [a] pos) (lT X.K tf) := pw_and1 ha
theorem dw_or1 (ha : DT X a tf) : PW X (.BoolOp .Or [a] pos) (lT X.K tf) := pw_or1 ha
theorem PW.conseq {e : Expr} {t t' : TT} (h : PW X e t) (i : ∀ σ H Q, t' σ H Q → t σ H Q) : PW X e t' := fun wh pins s σ H Q I q => h wh pins s σ H Q I (i σ H Q q)
theorem dw_and {rest : List Expr} (ha : DT X a tf) (hb : PW X (.BoolOp .And (b :: rest) pos) (lT X.K tg)) : PW X (.BoolOp .And (a :: b :: rest) pos) (lT X.K (mAndT tf tg)) := by
  refine PW.conseq (pw_and ha hb) fun σ H Q h => ?_
  obtain ⟨O0, r, d, hR, e, q⟩ := h
  obtain ⟨x, e1, e⟩ := bind_some e
  refine ⟨O0, r, x, hR, e1, fun H1 s1 => ?_⟩
  cases x with
  | true =>
    rw [if_pos rfl]
    exact ⟨O0, r, d, hR.same s1, e, fun H' s' => q H' (s1.trans s')⟩
  | false =>
    rw [if_neg Bool.false_ne_true]
    cases e
    exact q H1 s1
theorem dw_or {rest : List Expr} (ha : DT X a tf) (hb : PW X (.BoolOp .Or (b :: rest) pos) (lT X.K tg)) : PW X (.BoolOp .Or (a :: b :: rest) pos) (lT X.K (mOrT tf tg)) := by
  refine PW.conseq (pw_or ha hb) fun σ H Q h => ?_
  obtain ⟨O0, r, d, hR, e, q⟩ := h
  obtain ⟨x, e1, e⟩ := bind_some e
  refine ⟨O0, r, x, hR, e1, fun H1 s1 => ?_⟩
  cases x with
  | true =>
    rw [if_pos rfl]
    cases e
    exact q H1 s1
  | false =>
    rw [if_neg Bool.false_ne_true]
    exact ⟨O0, r, d, hR.same s1, e, fun H' s' => q H' (s1.trans s')⟩
theorem dt_w (h : PW X a (lT X.K tf)) : DT X a tf := h.pt
theorem dt_not (ha : DT X a tf) : DT X (.UnaryOp .Not a pos) (mNotT tf) := by
  refine PT.conseq (pt_not ha) fun σ H Q h => ?_
  obtain ⟨O0, r, d, hR, e, q⟩ := h
  unfold mNotT at e
  cases e1 : tf r with
  | none => rw [e1] at e; cases e
  | some k =>
    rw [e1] at e; cases e
    exact ⟨O0, r, k, hR, e1, fun H1 s1 => q H1 s1⟩
theorem truD_ok {K : Fg} {O : Addr → Prop} {H : Hp} {d : D} {v : V} {k : Bool} (h : Is K O H d v) (e : truD d = some k) : TruV K v H k := by
  cases d with
  | dct ks l => cases e
  | non => rw [Is.non_iff] at h; subst h; cases e; rfl
  | bl b => rw [Is.bl_iff] at h; subst h; cases e; rfl
  | int i => rw [Is.int_iff] at h; subst h; cases e; rfl
  | str s =>
    rw [Is.str_iff] at h; subst h
    simp only [truD] at e
    split at e
    · rename_i hl
      cases e
      refine ⟨by simpa [Str.length] using hl, ?_⟩
      cases s with
      | nil => rfl
      | cons c r =>
        have : ((r.length : Int) + 1) ≠ 0 := by omega
        simpa [Str.length] using this
    · cases e
  | tup l =>
    rw [Is.tup_iff] at h; obtain ⟨a, xs, rfl, hs, hl⟩ := h; cases e
    refine .inr (.inl ⟨xs, hs, ?_⟩)
    have := hl.length
    cases l <;> cases xs <;> simp_all
  | lst l =>
    rw [Is.lst_iff] at h; obtain ⟨a, xs, rfl, hs, hl⟩ := h; cases e
    refine .inl ⟨xs, hs.sq, ?_⟩
    have := hl.length
    cases l <;> cases xs <;> simp_all
  | ty n => cases e
  | ref a => cases e
theorem dt_tru (ha : DE X a f) (he : ∀ whole, isTrue a X.env whole = (do let v ← whole; standAt a.pos; holding [v] (truthy v)) := by intro _; rfl) : DT X a (mTru f) := by
  refine PT.conseq (pt_truth ha he) fun σ H Q h => ?_
  obtain ⟨O0, r, d, hR, e, q⟩ := h
  obtain ⟨x, e1, e⟩ := bind_some e
  exact ⟨O0, r, x, hR, e1, fun v1 H1 s1 i1 => ⟨d, truD_ok i1 e, q H1 s1⟩⟩
theorem dt_truB {fl : ML} (ha : DB X a fl) (he : ∀ whole, isTrue a X.env whole = (do let v ← whole; standAt a.pos; holding [v] (truthy v)) := by intro _; rfl) : DT X a (mTruB fl) := by
  refine PT.conseq (pt_truth ha he) fun σ H Q h => ?_
  obtain ⟨O0, r, d, hR, e, q⟩ := h
  unfold mTruB at e
  cases e1 : fl r with
  | none => rw [e1] at e; cases e
  | some l =>
    rw [e1] at e; cases e
    refine ⟨O0, r, l, hR, e1, fun a xs H1 s1 i1 i2 => ⟨_, .inl ⟨xs, i1, ?_⟩, q H1 s1⟩⟩
    have := i2.length
    cases l <;> cases xs <;> simp_all
end
section
variable {es : List Expr} {fs : ML}
theorem da_nil : DA X [] mNil := PA.conseq pa_nil fun σ H Q ⟨O0, r, l, hR, e, q⟩ => by
  unfold mNil at e; cases e
  exact q [] H (Same.refl H) .nil
theorem da_cons (ha : DE X a f) (hr : DA X es fs) (hs : starEach (a :: es) X.env = (false, eval a X.env) :: starEach es X.env := by rfl) : DA X (a :: es) (mCons f fs) := by
  refine PA.conseq (pa_cons ha hr hs) fun σ H Q h => ?_
  obtain ⟨O0, r, d, hR, e, q⟩ := h
  obtain ⟨x, e1, e⟩ := bind_some e
  obtain ⟨l, e2, e⟩ := bind_some e
  cases e
  exact ⟨O0, r, x, hR, e1, fun v1 H1 s1 i1 => ⟨O0, r, l, hR.same s1, e2, fun vs H2 s2 i2 => q _ H2 (s1.trans s2) (.cons (i1.same s2 (hR.same s1).ol) i2)⟩⟩
theorem same_upd {H : Hp} {p : Addr} {o : HO} (n : H p = none) : Same H (upd H p o) := fun b u e => by rw [upd_ne (ne_of_none e n)]; exact e
theorem de_tup {x1} (h : DA X es fs) : DE X (.Tuple es x1 pos) (mTup fs) := by
  refine PE.conseq (pe_tup h) fun σ H Q h => ?_
  obtain ⟨O0, r, d, hR, e, q⟩ := h
  obtain ⟨l, e1, e⟩ := bind_some e
  split at e
  · rename_i hl
    cases e
    refine ⟨O0, r, l, hR, e1, fun vs H1 s1 i1 => ⟨by rw [← i1.length]; exact hl, fun p hp => q _ _ (s1.trans (same_upd hp)) ?_⟩⟩
    rw [Is.tup_iff]
    exact ⟨p, vs, rfl, SqT.of upd_same, i1.same (same_upd hp) (hR.same s1).ol⟩
  · cases e
theorem df_lst (h : DA X es fs) : DF X (.List es pos) (mLstF fs) := by
  refine PE.conseq (pe_lst h) fun σ H Q h => ?_
  obtain ⟨O0, r, l', hR, e, q⟩ := h
  obtain ⟨l, e1, e⟩ := bind_some e
  split at e
  · rename_i hl
    have e' : l = l' := Option.some.inj e
    subst e'
    refine ⟨O0, r, l, hR, e1, fun vs H1 s1 i1 => ⟨by rw [← i1.length]; exact hl, fun p hp => q _ _ _ (s1.trans (same_upd hp)) (s1.free hp) upd_same ?_⟩⟩
    refine IsL.mono (Same.kp (same_upd hp) _) (hR.same s1).ol (fun a z n => ?_) _ vs i1
    rcases z with z | z
    · exact z
    · subst z; exact absurd hp n
  · cases e
theorem de_f {fl : ML} (h : DF X a fl) : DE X a (mOfF fl) := by
  refine PE.conseq h fun σ H Q h => ?_
  obtain ⟨O0, r, d, hR, e, q⟩ := h
  unfold mOfF at e
  cases e1 : fl r with
  | none => rw [e1] at e; cases e
  | some l =>
    rw [e1] at e; cases e
    refine ⟨O0, r, l, hR, e1, fun p xs H1 s1 n1 e2 i1 => q _ H1 s1 ?_⟩
    rw [Is.lst_iff]
    have ol : OLst (fun b => Ow O0 r σ b ∨ b = p) H1 := fun b z => z.elim (fun z => (hR.same s1).ol b z) fun z => by subst z; exact ⟨.lst xs, e2, trivial⟩
    exact ⟨p, xs, rfl, .inl ⟨hR.nofresh n1, .inl e2⟩, IsL.mono (Same.kp (Same.refl H1) _) ol (fun a z _ => .inl z) l xs i1⟩
end
end
noncomputable def sSkip : MS := fun r => some (.nx r)
noncomputable def sSeq (g h : MS) : MS := fun r => (g r).bind fun fl => match fl with
  | .nx r' => h r'
  | x => some x
noncomputable def setV (i : Nat) (d : D) (r : En) : Option En := match r[i]? with
  | some (.p _) => none
  | some (.z _) => none
  | some _ => some (r.set i (.v d))
  | none => none
noncomputable def setO (i : Nat) (l : List D) (r : En) : Option En := match r[i]? with
  | some (.p _) => none
  | some (.z _) => none
  | some _ => some (r.set i (.o l))
  | none => none
noncomputable def sSet (i : Nat) (f : ME) : MS := fun r => (f r).bind fun d => (setV i d r).map .nx
noncomputable def sOwn (i : Nat) (f : ML) : MS := fun r => (f r).bind fun l => (setO i l r).map .nx
noncomputable def sRet (f : ME) : MS := fun r => (f r).map fun d => .rt d r
noncomputable def sRetF (f : ML) : MS := fun r => (f r).map fun l => .rf l r
noncomputable def sRetOwn (i : Nat) : MS := fun r => match r[i]? with
  | some (.o l) => some (.rf l r)
  | _ => none
noncomputable def sIf (c : MB) (g h : MS) : MS := fun r => (c r).bind fun b => if b = true then g r else h r
noncomputable def sX (f : En → Option (D × En)) : MS := fun r => (f r).map fun p => .nx p.2
noncomputable def sSetX (i : Nat) (f : En → Option (D × En)) : MS := fun r => (f r).bind fun p => (setV i p.1 p.2).map .nx
noncomputable def sWhile : Nat → MB → MS → MS
  | 0, _, _ => fun _ => none
  | n + 1, c, g => fun r => (c r).bind fun b => if b = true then (g r).bind fun fl => match fl with
      | .nx r' => sWhile n c g r'
      | .ct r' => sWhile n c g r'
      | .bk r' => some (.nx r')
      | x => some x
    else some (.nx r)
noncomputable def forL (bd : D → En → Option En) (g : MS) : List D → MS
  | [], r => some (.nx r)
  | d :: l, r => (bd d r).bind fun r1 => (g r1).bind fun fl => match fl with
      | .nx r' => forL bd g l r'
      | .ct r' => forL bd g l r'
      | .bk r' => some (.nx r')
      | x => some x
noncomputable def sFor (bd : D → En → Option En) (it : ML) (g : MS) : MS := fun r => (it r).bind fun l => forL bd g l r
theorem get_set_ne {α : Type} {l : List α} {i j : Nat} {x : α} (h : i ≠ j) : (l.set i x)[j]? = l[j]? := by rw [List.getElem?_set]; simp [h]
theorem get_set_eq {α : Type} {l : List α} {i : Nat} {x : α} (h : i < l.length) : (l.set i x)[i]? = some x := by rw [List.getElem?_set]; simp [h]
section
variable {K : Fg} {O0 : Addr → Prop} {H H1 : Hp} {r : En} {σ : St} {i : Nat} {d : D} {v : V}
theorem own_setv {q : Sl → Option (List D)} (hq : ∀ d, q (.v d) = none) {a : Addr} {x : Option V} (h : AtS q (r.set i (.v d)) (σ.set i x) a) : AtS q r σ a := by
  obtain ⟨j, l, e, q'⟩ := h
  by_cases hj : i = j
  · subst hj
    by_cases hl : i < r.length
    · rw [get_set_eq hl] at e
      have e' : q (.v d) = some l := e
      rw [hq] at e'; cases e'
    · rw [List.getElem?_eq_none (by simpa using hl)] at e; cases e
  · rw [get_set_ne hj] at e q'
    exact ⟨j, l, e, q'⟩
theorem R.setv (h : R K O0 H r σ) (hi : i < r.length) (np : ∀ l, r[i]? ≠ some (.p l) ∧ r[i]? ≠ some (.z l)) (hv : Is K (Ow O0 r σ) H d v) : R K O0 H (r.set i (.v d)) (σ.set i (some v)) ∧ Kp H r σ H (r.set i (.v d)) (σ.set i (some v)) := by
  have his : i < σ.length := by rw [← h.len]; exact hi
  have sub : ∀ a, Ow O0 (r.set i (.v d)) (σ.set i (some v)) a → H a ≠ none → Ow O0 r σ a := fun a z _ => z.elim .inl fun z => .inr (own_setv (fun _ => rfl) z)
  have ne : ∀ (j : Nat) (l : List D), ((r.set i (.v d))[j]?).bind Sl.own = some l → i ≠ j := fun j l e z => by subst z; rw [get_set_eq hi] at e; cases e
  refine ⟨⟨by simp [h.len], fun j d' e => ?_, fun j l e => ?_, fun j k a l m e1 e2 q1 q2 => ?_, h.o0, fun j l a e q => ?_, fun j l a e q => ?_, fun j ks l e => ?_⟩, ⟨fun b o e _ => e, fun b e => e, fun b o e m => ⟨o, e, m⟩, fun b z => .inl (own_setv (fun _ => rfl) z), fun b z => .inl (own_setv (fun _ => rfl) z), fun j l e => ?_, fun j l e => ?_⟩⟩
  · by_cases hj : i = j
    · subst hj
      rw [get_set_eq hi] at e; cases e
      exact ⟨v, get_set_eq his, Is.mono (Same.kp (Same.refl H) _) h.ol sub _ _ hv⟩
    · rw [get_set_ne hj] at e
      obtain ⟨u, e1, q⟩ := h.val j d' e
      exact ⟨u, by rw [get_set_ne hj]; exact e1, Is.mono (Same.kp (Same.refl H) _) h.ol sub _ _ q⟩
  · have hj := ne j l (ls_own' e)
    rw [get_set_ne hj] at e
    obtain ⟨a, xs, e1, e2, q⟩ := h.own j l e
    exact ⟨a, xs, by rw [get_set_ne hj]; exact e1, e2, IsL.mono (Same.kp (Same.refl H) _) h.ol sub _ _ q⟩
  · have hj := ne j l e1
    have hk := ne k m e2
    rw [get_set_ne hj] at e1 q1
    rw [get_set_ne hk] at e2 q2
    exact h.apart j k a l m e1 e2 q1 q2
  · have hj : i ≠ j := ne j l (by rcases e with e | e | ⟨ks, e⟩ <;> rw [e] <;> rfl)
    rw [get_set_ne hj] at e q
    exact h.loc j l a e q
  · have hj : i ≠ j := ne j l (by rw [e]; rfl)
    rw [get_set_ne hj] at e q
    exact h.par j l a e q
  · have hj := ne j l (by rw [e]; rfl)
    rw [get_set_ne hj] at e
    obtain ⟨a, kvs, e1, e2, e3, q⟩ := h.dct j ks l e
    exact ⟨a, kvs, by rw [get_set_ne hj]; exact e1, e2, e3, IsL.mono (Same.kp (Same.refl H) _) h.ol sub _ _ q⟩
  · have hj : i ≠ j := fun z => by subst z; exact (np l).1 e
    exact ⟨⟨l, by rw [get_set_ne hj]; exact e⟩, get_set_ne hj⟩
  · have hj : i ≠ j := fun z => by subst z; exact (np l).2 e
    exact ⟨by rw [get_set_ne hj]; exact e, get_set_ne hj⟩
theorem R.seto {l : List D} {xs : List V} {p : Addr} (h : R K O0 H r σ) (s : Same H H1) (n : H p = none) (e : H1 p = some (.lst xs)) (hl : IsL K (fun b => Ow O0 r σ b ∨ b = p) H1 l xs) (hi : i < r.length) (np : ∀ l, r[i]? ≠ some (.p l) ∧ r[i]? ≠ some (.z l)) :
    R K O0 H1 (r.set i (.o l)) (σ.set i (some (.ref p))) ∧ Kp H r σ H1 (r.set i (.o l)) (σ.set i (some (.ref p))) := by
  have his : i < σ.length := by rw [← h.len]; exact hi
  have ow : ∀ {q : Sl → Option (List D)} a, AtS q (r.set i (.o l)) (σ.set i (some (.ref p))) a → AtS q r σ a ∨ a = p := fun {q} a z => by
    obtain ⟨j, m, e1, q1⟩ := z
    by_cases hj : i = j
    · subst hj
      rw [get_set_eq his] at q1; cases q1; exact .inr rfl
    · rw [get_set_ne hj] at e1 q1
      exact .inl ⟨j, m, e1, q1⟩
  have sub : ∀ a, Ow O0 (r.set i (.o l)) (σ.set i (some (.ref p))) a → H a ≠ none → Ow O0 r σ a := fun a z nn => z.elim .inl fun z => (ow a z).elim .inr fun z => by subst z; exact absurd n nn
  have olp : OLst (fun b => Ow O0 r σ b ∨ b = p) H1 := fun b z => z.elim (fun z => (h.same s).ol b z) fun z => by subst z; exact ⟨.lst xs, e, trivial⟩
  refine ⟨⟨by simp [h.len], fun j d' e1 => ?_, fun j m e1 => ?_, fun j k a l1 m e1 e2 q1 q2 => ?_, (h.same s).o0, fun j m a e1 q => ?_, fun j m a e1 q => ?_, fun j ks m e1 => ?_⟩, ⟨fun b o e1 _ => s b o e1, fun b e1 => s.free e1, fun b o e1 mb => ⟨o, s _ _ e1, mb⟩, fun b z => (ow b z).imp id fun z => by subst z; exact n, fun b z => (ow b z).imp id fun z => by subst z; exact n, fun j m e1 => ?_, fun j m e1 => ?_⟩⟩
  · have hj : i ≠ j := fun z => by subst z; rw [get_set_eq hi] at e1; cases e1
    rw [get_set_ne hj] at e1
    obtain ⟨u, e2, q⟩ := h.val j d' e1
    exact ⟨u, by rw [get_set_ne hj]; exact e2, Is.mono (Same.kp s _) h.ol sub _ _ q⟩
  · by_cases hj : i = j
    · subst hj
      rw [get_set_eq hi] at e1; cases e1
      refine ⟨p, xs, get_set_eq his, e, IsL.mono (Same.kp (Same.refl H1) _) olp (fun a z _ => z.elim (fun z => .inl (.inl z)) fun z => (ow a z).imp .inr id) _ _ hl⟩
    · rw [get_set_ne hj] at e1
      obtain ⟨a, ys, e2, e3, q⟩ := h.own j m e1
      exact ⟨a, ys, by rw [get_set_ne hj]; exact e2, s _ _ e3, IsL.mono (Same.kp s _) h.ol sub _ _ q⟩
  · have out : ∀ (j : Nat) (m : List D) (a : Addr), i ≠ j → ((r.set i (.o l))[j]?).bind Sl.own = some m → (σ.set i (some (.ref p)))[j]? = some (some (.ref a)) → a ≠ p := fun j m a hj e1 q1 z => by
      rw [get_set_ne hj] at e1 q1
      obtain ⟨b, ys, e2, e3, _⟩ := h.obj e1
      rw [q1] at e2; cases e2
      subst z
      rw [n] at e3; cases e3
    by_cases hj : i = j
    · by_cases hk : i = k
      · exact hj.symm.trans hk
      · subst hj
        rw [get_set_eq his] at q1; cases q1
        exact absurd rfl (out k m p hk e2 q2)
    · by_cases hk : i = k
      · subst hk
        rw [get_set_eq his] at q2; cases q2
        exact absurd rfl (out j l1 p hj e1 q1)
      · rw [get_set_ne hj] at e1 q1
        rw [get_set_ne hk] at e2 q2
        exact h.apart j k a l1 m e1 e2 q1 q2
  · by_cases hj : i = j
    · subst hj
      rw [get_set_eq his] at q; cases q
      exact fun z => by obtain ⟨ys, e3, _⟩ := h.o0 p z; rw [n] at e3; cases e3
    · rw [get_set_ne hj] at e1 q
      exact h.loc j m a e1 q
  · have hj : i ≠ j := fun z => by subst z; rw [get_set_eq hi] at e1; cases e1
    rw [get_set_ne hj] at e1 q
    exact h.par j m a e1 q
  · have hj : i ≠ j := fun z => by subst z; rw [get_set_eq hi] at e1; cases e1
    rw [get_set_ne hj] at e1
    obtain ⟨a, kvs, e2, e3, e4, q⟩ := h.dct j ks m e1
    exact ⟨a, kvs, by rw [get_set_ne hj]; exact e2, s _ _ e3, e4, IsL.mono (Same.kp s _) h.ol sub _ _ q⟩
  · have hj : i ≠ j := fun z => by subst z; exact (np m).1 e1
    exact ⟨⟨m, by rw [get_set_ne hj]; exact e1⟩, get_set_ne hj⟩
  · have hj : i ≠ j := fun z => by subst z; exact (np m).2 e1
    exact ⟨by rw [get_set_ne hj]; exact e1, get_set_ne hj⟩
theorem setV_some {r' : En} (e : setV i d r = some r') : i < r.length ∧ (∀ l, r[i]? ≠ some (.p l) ∧ r[i]? ≠ some (.z l)) ∧ r' = r.set i (.v d) := by
  unfold setV at e
  cases e1 : r[i]? with
  | none => rw [e1] at e; cases e
  | some x =>
    have hi : i < r.length := (List.getElem?_eq_some_iff.mp e1).1
    rw [e1] at e
    cases x with
    | p l => cases e
    | z l => cases e
    | _ => cases e; exact ⟨hi, fun l => ⟨(fun z => by cases z), (fun z => by cases z)⟩, rfl⟩
theorem setO_some {r' : En} {l : List D} (e : setO i l r = some r') : i < r.length ∧ (∀ l, r[i]? ≠ some (.p l) ∧ r[i]? ≠ some (.z l)) ∧ r' = r.set i (.o l) := by
  unfold setO at e
  cases e1 : r[i]? with
  | none => rw [e1] at e; cases e
  | some x =>
    have hi : i < r.length := (List.getElem?_eq_some_iff.mp e1).1
    rw [e1] at e
    cases x with
    | p l => cases e
    | z l => cases e
    | _ => cases e; exact ⟨hi, fun l => ⟨(fun z => by cases z), (fun z => by cases z)⟩, rfl⟩
theorem map_some {α β : Type} {o : Option α} {h : α → β} {y : β} (e : o.map h = some y) : ∃ x, o = some x ∧ h x = y := by
  cases o with
  | none => cases e
  | some x => exact ⟨x, rfl, Option.some.inj e⟩
theorem Is.less {O : Addr → Prop} (h : R K O0 H r σ) (hi : Is K (Ow O0 r σ) H1 d v) (s : Same H H1) : Is K O0 H1 d v := Is.mono (Same.kp (Same.refl H1) _) (h.same s).ol (fun _ z _ => .inl z) _ _ hi
end
section
variable {X : Cx} {pos : Pos} {e : Expr} {f : ME} {fl : ML} {g h : MS} {st : Stmt} {rest : List Stmt}
theorem ds_nil : DSs X [] sSkip := PSs.conseq pss_nil fun Dn σ H ⟨O0, r, f', hR, e, q⟩ => by
  unfold sSkip at e; cases e
  exact q σ H hR (Kp.refl H r σ)
theorem ds_cons (h1 : DS X st g) (h2 : DSs X rest h) : DSs X (st :: rest) (sSeq g h) := by
  refine PSs.conseq (pss_cons h1 h2) fun Dn σ H hq => ?_
  obtain ⟨O0, r, fl, hR, e, q⟩ := hq
  obtain ⟨f1, e1, e2⟩ := bind_some e
  cases f1 with
  | nx r1 => exact ⟨O0, r, .nx r1, hR, e1, fun σ' H' R' k => ⟨O0, r1, fl, R', e2, q.before R' k⟩⟩
  | bk r1 => cases e2; exact ⟨O0, r, _, hR, e1, q⟩
  | ct r1 => cases e2; exact ⟨O0, r, _, hR, e1, q⟩
  | rt d r1 => cases e2; exact ⟨O0, r, _, hR, e1, q⟩
  | rf l r1 => cases e2; exact ⟨O0, r, _, hR, e1, q⟩
  | rg ks l r1 => cases e2; exact ⟨O0, r, _, hR, e1, q⟩
theorem ds_one (h1 : DS X st g) : DSs X [st] g := pss_one h1
theorem ds_set (i : Nat) {x : Str} {pos' : Pos} (he : DE X e f) (hN : X.N.Nodup) (hi : X.N[i]? = some x := by rfl) (hx : Loc X.env.scope x := by first | exact Or.inl rfl | exact Or.inr rfl) (hs : swapsWith e (some (.Name x pos')) pos.line X.env = pure false := by rfl) (hf : X.fn x = true ∨ X.env.scope.names.lookup x = some .local := by first | exact .inl rfl | exact .inr rfl) :
    DS X (.Assign [.Name x pos'] e pos) (sSet i f) := by
  refine PS.conseq (ps_set hN hi hx he hs hf) fun Dn σ H hq => ?_
  obtain ⟨O0, r, fl, hR, e, q⟩ := hq
  obtain ⟨d, e1, e2⟩ := bind_some e
  obtain ⟨r', e3, rfl⟩ := map_some e2
  obtain ⟨hl, np, rfl⟩ := setV_some e3
  refine ⟨O0, r, d, hR, e1, fun v H1 s1 i1 => ?_⟩
  obtain ⟨R1, k1⟩ := (hR.same s1).setv hl np i1
  exact q _ H1 R1 ((Kp.of_same r σ s1).trans k1)
theorem ds_own (i : Nat) {x : Str} {pos' : Pos} (he : DF X e fl) (hN : X.N.Nodup) (hi : X.N[i]? = some x := by rfl) (hx : Loc X.env.scope x := by first | exact Or.inl rfl | exact Or.inr rfl) (hs : swapsWith e (some (.Name x pos')) pos.line X.env = pure false := by rfl) (hf : X.fn x = true ∨ X.env.scope.names.lookup x = some .local := by first | exact .inl rfl | exact .inr rfl) :
    DS X (.Assign [.Name x pos'] e pos) (sOwn i fl) := by
  refine PS.conseq (ps_set hN hi hx he hs hf) fun Dn σ H hq => ?_
  obtain ⟨O0, r, fl', hR, e, q⟩ := hq
  obtain ⟨l, e1, e2⟩ := bind_some e
  obtain ⟨r', e4, rfl⟩ := map_some e2
  obtain ⟨hl, np, rfl⟩ := setO_some e4
  refine ⟨O0, r, l, hR, e1, fun p xs H1 s1 n1 e3 i1 => ?_⟩
  obtain ⟨R1, k1⟩ := hR.seto s1 n1 e3 i1 hl np
  exact q _ H1 R1 k1
theorem ds_ret (he : DE X e f) : DS X (.Return (some e) pos) (sRet f) := by
  refine PS.conseq (ps_ret he) fun Dn σ H hq => ?_
  obtain ⟨O0, r, fl, hR, e, q⟩ := hq
  obtain ⟨d, e1, rfl⟩ := map_some e
  exact ⟨O0, r, d, hR, e1, fun v H1 s1 i1 => q v σ H1 (hR.same s1) (Kp.of_same r σ s1) (Is.less (O := O0) hR i1 s1)⟩
theorem ds_retF (he : DF X e fl) : DS X (.Return (some e) pos) (sRetF fl) := by
  refine PS.conseq (ps_ret he) fun Dn σ H hq => ?_
  obtain ⟨O0, r, fl', hR, e, q⟩ := hq
  obtain ⟨l, e1, rfl⟩ := map_some e
  refine ⟨O0, r, l, hR, e1, fun p xs H1 s1 n1 e3 i1 => q p xs σ H1 (hR.same s1) (Kp.of_same r σ s1) (.inl n1) (fun z => hR.nofresh n1 (.inl z)) e3 ?_⟩
  have olp : OLst (fun b => Ow O0 r σ b ∨ b = p) H1 := fun b z => z.elim (fun z => (hR.same s1).ol b z) fun z => by subst z; exact ⟨.lst xs, e3, trivial⟩
  exact IsL.mono (Same.kp (Same.refl H1) _) olp (fun a z _ => z.imp .inl id) _ _ i1
theorem ds_retOwn (i : Nat) {x : Str} {pos' : Pos} (h : PE X (.Name x pos') (tVar i)) : DS X (.Return (some (.Name x pos')) pos) (sRetOwn i) := by
  refine PS.conseq (ps_ret h) fun Dn σ H hq => ?_
  obtain ⟨O0, r, fl', hR, e, q⟩ := hq
  unfold sRetOwn at e
  have ⟨l, e1, e2⟩ : ∃ l, r[i]? = some (.o l) ∧ fl' = .rf l r := by
    split at e
    · rename_i l h; cases e; exact ⟨l, h, rfl⟩
    · cases e
  subst e2
  obtain ⟨a, xs, q1, q2, q3⟩ := hR.own i l (by rw [e1]; rfl)
  refine ⟨.ref a, q1, q a xs σ H hR (Kp.refl H r σ) (.inr ⟨i, l, .inl e1, q1⟩) (hR.loc i l a (.inl e1) q1) q2 ?_⟩
  exact IsL.mono (Same.kp (Same.refl H) _) hR.ol (fun b z _ => z.elim .inl fun z => by subst z; exact .inr ⟨i, l, by rw [e1]; rfl, q1⟩) _ _ q3
theorem ds_if {c : Expr} {sa sb : List Stmt} {tc : MB} (hc : DT X c tc) (ha : DSs X sa g) (hb : DSs X sb h) : DS X (.If c sa sb pos) (sIf tc g h) := by
  refine PS.conseq (ps_if hc ha hb) fun Dn σ H hq => ?_
  obtain ⟨O0, r, fl', hR, e, q⟩ := hq
  obtain ⟨k, e1, e2⟩ := bind_some e
  refine ⟨O0, r, k, hR, e1, fun H1 s1 => ?_⟩
  have R1 := hR.same s1
  have q1 := PostS.before R1 (Kp.of_same r σ s1) q
  cases k with
  | true => rw [if_pos rfl] at e2; exact iteT ⟨O0, r, fl', R1, e2, q1⟩
  | false => rw [if_neg Bool.false_ne_true] at e2; exact iteF ⟨O0, r, fl', R1, e2, q1⟩
theorem ds_x {fx : En → Option (D × En)} (he : DX X e fx) (hs : swapsWith e none pos.line X.env = pure false := by rfl) : DS X (.Expr e pos) (sX fx) := by
  refine PS.conseq (ps_expr he hs) fun Dn σ H hq => ?_
  obtain ⟨O0, r, fl', hR, e, q⟩ := hq
  obtain ⟨⟨d, r'⟩, e1, rfl⟩ := map_some e
  exact ⟨O0, r, d, r', hR, e1, fun v H1 R1 k1 i1 => q σ H1 R1 k1⟩
theorem ds_setX (i : Nat) {x : Str} {pos' : Pos} {fx : En → Option (D × En)} (he : DX X e fx) (hN : X.N.Nodup) (hi : X.N[i]? = some x := by rfl) (hx : Loc X.env.scope x := by first | exact Or.inl rfl | exact Or.inr rfl) (hs : swapsWith e (some (.Name x pos')) pos.line X.env = pure false := by rfl) (hf : X.fn x = true ∨ X.env.scope.names.lookup x = some .local := by first | exact .inl rfl | exact .inr rfl) :
    DS X (.Assign [.Name x pos'] e pos) (sSetX i fx) := by
  refine PS.conseq (ps_set hN hi hx he hs hf) fun Dn σ H hq => ?_
  obtain ⟨O0, r, fl, hR, e, q⟩ := hq
  obtain ⟨⟨d, r1⟩, e1, e2⟩ := bind_some e
  obtain ⟨r', e3, rfl⟩ := map_some e2
  obtain ⟨hl, np, rfl⟩ := setV_some e3
  refine ⟨O0, r, d, r1, hR, e1, fun v H1 R1 k1 i1 => ?_⟩
  obtain ⟨R2, k2⟩ := R1.setv hl np i1
  exact q _ H1 R2 (k1.trans k2)
theorem ds_while (n : Nat) {c : Expr} {body : List Stmt} {tc : MB} (hp : PassesOwn (model X.prog X.w) X.A X.env X.xe) (hc : DT X c tc) (hb : DSs X body g) : DS X (.While c body [] pos) (sWhile n tc g) := by
  refine PS.conseq (ps_while hp hc hb) fun Dn σ H hq => ?_
  obtain ⟨O0, r, fl, hR, e, q⟩ := hq
  refine ⟨fun m σ1 H1 => ∃ r1, R X.K O0 H1 r1 σ1 ∧ Kp H r σ H1 r1 σ1 ∧ sWhile m tc g r1 = some fl, ⟨n, r, hR, Kp.refl H r σ, e⟩, ?_⟩
  rintro m σ1 H1 ⟨r1, R1, k1, e1⟩
  cases m with
  | zero => cases e1
  | succ m =>
    obtain ⟨b, e2, e3⟩ := bind_some e1
    refine ⟨O0, r1, b, R1, e2, fun H2 s2 => ?_⟩
    have R2 := R1.same s2
    have k2 := k1.trans (Kp.of_same r1 σ1 s2)
    cases b with
    | false =>
      rw [if_neg Bool.false_ne_true] at e3
      cases e3
      exact iteF (q σ1 H2 R2 k2)
    | true =>
      rw [if_pos rfl] at e3
      obtain ⟨f1, e4, e5⟩ := bind_some e3
      refine iteT ⟨fun σ3 H3 => ∃ r3, R X.K O0 H3 r3 σ3 ∧ Kp H r σ H3 r3 σ3 ∧ sWhile m tc g r3 = some fl, fun σ3 H3 z => ⟨m, Nat.lt_succ_self m, z⟩, O0, r1, f1, R2, e4, ?_⟩
      cases f1 with
      | nx r3 => exact fun σ3 H3 R3 k3 => ⟨r3, R3, k2.trans k3, e5⟩
      | ct r3 => exact fun σ3 H3 R3 k3 => ⟨r3, R3, k2.trans k3, e5⟩
      | bk r3 => cases e5; exact fun σ3 H3 R3 k3 => q σ3 H3 R3 (k2.trans k3)
      | rt d r3 => cases e5; exact PostS.before R2 k2 q
      | rf l r3 => cases e5; exact PostS.before R2 k2 q
      | rg ks l r3 => cases e5; exact PostS.before R2 k2 q
end
noncomputable def lG (K : Fg) (bd : D → En → Option En) : TG := fun v σ H Q => ∃ O0 r d r', R K O0 H r σ ∧ Is K (Ow O0 r σ) H d v ∧ bd d r = some r' ∧ ∀ σ', R K O0 H r' σ' → Kp H r σ H r' σ' → Q σ' H
noncomputable def DG (X : Cx) (tg : Expr) (bd : D → En → Option En) : Prop := PG X tg (lG X.K bd)
noncomputable def Ylds (K : Fg) (O M : Addr → Prop) (H0 : Hp) (J : It) (l : List D) : Prop := ∀ (i : Nat) (H : Hp) (O' : Addr → Prop), Keep M H0 H → (∀ a, O' a → H0 a ≠ none → O a) →
  (i < l.length → J.go i H ∧ ∀ x H', J.yld i H x H' → Same H H' ∧ ∀ d, l[i]? = some d → Is K O' H' d x) ∧ (i = l.length → J.stop i H)
noncomputable def lI (K : Fg) (it : ML) : TI := fun σ H Rr => ∃ O0 r l, R K O0 H r σ ∧ it r = some l ∧ ∀ J H', Same H H' → Ylds K (Ow O0 r σ) (MutAt r σ) H' J l → Rr J H'
noncomputable def DI (X : Cx) (tg iter : Expr) (it : ML) : Prop := PI X tg iter (lI X.K it)
theorem PG.conseq {X : Cx} {e : Expr} {t t' : TG} (h : PG X e t) (i : ∀ v σ H Q, t' v σ H Q → t v σ H Q) : PG X e t' := fun pins s σ H v u Q I r q => h pins s σ H v u Q I r (i v σ H Q q)
theorem PI.conseq {X : Cx} {tg e : Expr} {t t' : TI} (h : PI X tg e t) (i : ∀ σ H Q, t' σ H Q → t σ H Q) : PI X tg e t' := fun pins s σ H Q I q => h pins s σ H Q I (i σ H Q q)
theorem drop_cons {α : Type} {l : List α} {i : Nat} {d : α} (h : l[i]? = some d) : l.drop i = d :: l.drop (i + 1) := by
  obtain ⟨lt, eq⟩ := List.getElem?_eq_some_iff.mp h
  rw [← eq, List.drop_eq_getElem_cons lt]
section
variable {X : Cx} {pos : Pos} {tg iter : Expr} {bd : D → En → Option En} {it : ML} {g : MS} {body : List Stmt}
theorem ds_for (hp : PassesOwn (model X.prog X.w) X.A X.env X.xe) (hc : X.calm = true) (hi : DI X tg iter it) (hg : DG X tg bd) (hb : DSs X body g) (hs : ∀ x, foldedSetIterable iter X.env x = pure x := by intro _; rfl) :
    DS X (.For tg iter body [] pos) (sFor bd it g) := by
  refine PS.conseq (ps_for hp hc hi hg hb hs) fun Dn σ H hq => ?_
  obtain ⟨O0, r, fl, hR, e, q⟩ := hq
  obtain ⟨l, e1, e2⟩ := bind_some e
  refine ⟨O0, r, l, hR, e1, fun J H0 s0 yl => ?_⟩
  have R0 := hR.same s0
  refine ⟨fun i m σ1 H1 => m = l.length - i ∧ i ≤ l.length ∧ ∃ r1, R X.K O0 H1 r1 σ1 ∧ Kp H0 r σ H1 r1 σ1 ∧ forL bd g (l.drop i) r1 = some fl, ⟨l.length, by simp, Nat.zero_le _, r, R0, Kp.refl H0 r σ, by simpa using e2⟩, ?_⟩
  rintro i m σ1 H1 ⟨rfl, hil, r1, R1, k1, e3⟩
  have k0 := (Kp.of_same r σ s0).trans k1
  obtain ⟨y1, y2⟩ := yl i H1 (Ow O0 r1 σ1) k1.keep fun a z n => z.elim .inl fun z => (k1.new a z).elim .inr fun z => absurd z n
  by_cases hlt : i < l.length
  · obtain ⟨go, yd⟩ := y1 hlt
    have hd : l[i]? = some l[i] := by simp [hlt]
    rw [drop_cons hd] at e3
    obtain ⟨r2, e4, e5⟩ := bind_some e3
    obtain ⟨f1, e6, e7⟩ := bind_some e5
    refine .inr ⟨go, fun σ3 H3 => ∃ r3, R X.K O0 H3 r3 σ3 ∧ Kp H0 r σ H3 r3 σ3 ∧ forL bd g (l.drop (i + 1)) r3 = some fl, fun σ3 H3 z => ⟨l.length - (i + 1), by omega, rfl, hlt, z⟩, fun x H2 yx => ?_⟩
    obtain ⟨s2, ix⟩ := yd x H2 yx
    have R2 := R1.same s2
    refine ⟨O0, r1, l[i], r2, R2, ix _ hd, e4, fun σ2 R2' k2 => ⟨O0, r2, f1, R2', e6, ?_⟩⟩
    have k3 := (k1.trans (Kp.of_same r1 σ1 s2)).trans k2
    have k4 := (k0.trans (Kp.of_same r1 σ1 s2)).trans k2
    cases f1 with
    | nx r3 => exact fun σ3 H3 R3 kk => ⟨r3, R3, k3.trans kk, e7⟩
    | ct r3 => exact fun σ3 H3 R3 kk => ⟨r3, R3, k3.trans kk, e7⟩
    | bk r3 => cases e7; exact fun σ3 H3 R3 kk => q σ3 H3 R3 (k4.trans kk)
    | rt d r3 => cases e7; exact PostS.before R2' k4 q
    | rf l' r3 => cases e7; exact PostS.before R2' k4 q
    | rg ks l' r3 => cases e7; exact PostS.before R2' k4 q
  · have hl : l.drop i = [] := List.drop_eq_nil_of_le (by omega)
    rw [hl] at e3
    cases e3
    exact .inl ⟨y2 (by omega), q σ1 H1 R1 k0⟩
theorem dg_name (i : Nat) {x : Str} (hN : X.N.Nodup) (hi : X.N[i]? = some x := by rfl) (hx : Loc X.env.scope x := by first | exact Or.inl rfl | exact Or.inr rfl) (hf : X.fn x = true ∨ X.env.scope.names.lookup x = some .local := by first | exact .inl rfl | exact .inr rfl) : DG X (.Name x pos) (setV i) := by
  refine PG.conseq (pg_name hN hi hx hf) fun v σ H Q h => ?_
  obtain ⟨O0, r, d, r', hR, iv, e, q⟩ := h
  obtain ⟨hl, np, rfl⟩ := setV_some e
  obtain ⟨R1, k1⟩ := hR.setv hl np iv
  exact q _ R1 k1
noncomputable def bdNil : List D → En → Option En := fun l r => if l.isEmpty then some r else none
noncomputable def bdCons (b : D → En → Option En) (bs : List D → En → Option En) : List D → En → Option En := fun l r => match l with
  | [] => none
  | d :: t => (b d r).bind fun r1 => bs t r1
noncomputable def lGs (K : Fg) (bs : List D → En → Option En) : TGs := fun vs σ H Q => ∃ O0 r l r', R K O0 H r σ ∧ IsL K (Ow O0 r σ) H l vs ∧ bs l r = some r' ∧ ∀ σ', R K O0 H r' σ' → Kp H r σ H r' σ' → Q σ' H
noncomputable def DGs (X : Cx) (ts : List Expr) (bs : List D → En → Option En) : Prop := PGs X ts (lGs X.K bs)
theorem PGs.conseq {e : List Expr} {t t' : TGs} (h : PGs X e t) (i : ∀ v σ H Q, t' v σ H Q → t v σ H Q) : PGs X e t' := fun pins s σ H v u Q I r q => h pins s σ H v u Q I r (i v σ H Q q)
theorem dgs_nil : DGs X [] bdNil := by
  refine PGs.conseq pgs_nil fun vs σ H Q h => ?_
  obtain ⟨O0, r, l, r', hR, il, e, q⟩ := h
  unfold bdNil at e
  cases l with
  | nil =>
    unfold IsL at il
    cases e
    exact ⟨il, q σ hR (Kp.refl H r σ)⟩
  | cons d l => cases e
theorem dgs_cons {e : Expr} {es : List Expr} {bs : List D → En → Option En} (h1 : DG X e bd) (h2 : DGs X es bs) (hs : (assignEach (e :: es) X.env).map (·.2) = assign e X.env :: (assignEach es X.env).map (·.2) := by rfl) : DGs X (e :: es) (bdCons bd bs) := by
  refine PGs.conseq (pgs_cons h1 h2 hs) fun vs σ H Q h => ?_
  obtain ⟨O0, r, l, r', hR, il, e, q⟩ := h
  cases l with
  | nil => cases e
  | cons d t =>
    unfold IsL at il
    obtain ⟨v, us, rfl, i1, i2⟩ := il
    obtain ⟨r1, e1, e2⟩ := bind_some e
    refine ⟨v, us, rfl, O0, r, d, r1, hR, i1, e1, fun σ1 R1 k1 => ⟨O0, r1, t, r', R1, ?_, e2, fun σ2 R2 k2 => q σ2 R2 (k1.trans k2)⟩⟩
    exact IsL.mono (Same.kp (Same.refl H) _) hR.ol (fun a z n => z.elim .inl fun z => (k1.new a z).elim .inr fun z => absurd z n) _ _ i2
end
inductive Rs where
  | v (d : D) | f (l : List D) | g (ks : List Key) (l : List D)
noncomputable abbrev MF := List Sl → Option (Rs × List Sl)
structure PostF (K : Fg) (O0 : Addr → Prop) (H : Hp) (as : List Sl) (vs : List V) (H' : Hp) (as' : List Sl) : Prop where
  keep : Keep (MutAt as (vs.map some)) H H'
  live : ∀ b, H' b = none → H b = none
  lst : ∀ b o, H b = some o → Mb o → ∃ o', H' b = some o' ∧ Mb o'
  par : ∀ (i : Nat) (l : List D), as[i]? = some (.p l) → ∃ l' a xs, as'[i]? = some (.p l') ∧ vs[i]? = some (.ref a) ∧ H' a = some (.lst xs) ∧ IsL K O0 H' l' xs
noncomputable def RsP (K : Fg) (O0 : Addr → Prop) (H : Hp) (as : List Sl) (vs : List V) (as' : List Sl) (Q : VK) : Rs → Prop
  | .v d => ∀ v H', PostF K O0 H as vs H' as' → Is K O0 H' d v → Q v H'
  | .f l => ∀ a xs H', PostF K O0 H as vs H' as' → H a = none → H' a = some (.lst xs) → IsL K (fun b => O0 b ∨ b = a) H' l xs → Q (.ref a) H'
  | .g ks l => ∀ a kvs H', PostF K O0 H as vs H' as' → H a = none → H' a = some (.dK kvs) → kvs.map (·.1) = ks → IsL K (fun b => O0 b ∨ b = a) H' l (kvs.map (·.2)) → Q (.ref a) H'
noncomputable def spD (K : Fg) (n : Nat) (m : MF) : Sp := fun vs H Q _ => ∃ O0 as rs as', as.length = n ∧ R K O0 H as (vs.map some) ∧ (∀ (i : Nat) (l : List D), as[i]? ≠ some (.o l) ∧ as[i]? ≠ some (.z l) ∧ ∀ ks, as[i]? ≠ some (.d ks l)) ∧ m as = some (rs, as') ∧ RsP K O0 H as vs as' Q rs
noncomputable def mkF (n N : Nat) (g : MS) : MF := fun as => (g (as ++ List.replicate (N - n) .un)).bind fun fl => match fl with
  | .rt d r' => some (.v d, r'.take n)
  | .rf l r' => some (.f l, r'.take n)
  | .rg ks l r' => some (.g ks l, r'.take n)
  | .nx r' => some (.v .non, r'.take n)
  | _ => none
section
variable {P : Program} {w : World} {K : Fg} {mg : Str → Option Value} {base : Heap}
theorem own_start {q : Sl → Option (List D)} (hq : q .un = none) {as : List Sl} {vs : List V} {k n : Nat} {a : Addr} (hl : as.length = vs.length) : AtS q (as ++ List.replicate k .un) (vs.map some ++ List.replicate n none) a ↔ AtS q as (vs.map some) a := by
  constructor
  · rintro ⟨i, l, e, q'⟩
    by_cases hi : i < as.length
    · rw [List.getElem?_append_left hi] at e
      rw [List.getElem?_append_left (by simp; omega)] at q'
      exact ⟨i, l, e, q'⟩
    · rw [List.getElem?_append_right (by omega), List.getElem?_replicate] at e
      split at e
      · have e' : q .un = some l := e
        rw [hq] at e'; cases e'
      · cases e
  · rintro ⟨i, l, e, q'⟩
    have hi : i < as.length := by
      cases e1 : as[i]? with
      | none => rw [e1] at e; cases e
      | some x => exact (List.getElem?_eq_some_iff.mp e1).1
    exact ⟨i, l, by rw [List.getElem?_append_left hi]; exact e, by rw [List.getElem?_append_left (by simp; omega)]; exact q'⟩
theorem R.start {O0 : Addr → Prop} {H : Hp} {as : List Sl} {vs : List V} {k : Nat} (h : R K O0 H as (vs.map some)) : R K O0 H (as ++ List.replicate k .un) (vs.map some ++ List.replicate k none) := by
  have hl : as.length = vs.length := by simpa using h.len
  have own : ∀ a, Ow O0 (as ++ List.replicate k .un) (vs.map some ++ List.replicate k none) a → H a ≠ none → Ow O0 as (vs.map some) a := fun a z _ => z.imp id (own_start rfl hl).mp
  have pre : ∀ (i : Nat) (x : Sl), (as ++ List.replicate k .un)[i]? = some x → x ≠ .un → as[i]? = some x ∧ (vs.map some ++ List.replicate k none)[i]? = (vs.map some)[i]? := fun i x e n => by
    by_cases hi : i < as.length
    · rw [List.getElem?_append_left hi] at e
      exact ⟨e, List.getElem?_append_left (by simp; omega)⟩
    · rw [List.getElem?_append_right (by omega), List.getElem?_replicate] at e
      split at e
      · cases e; exact absurd rfl n
      · cases e
  have preO : ∀ {q : Sl → Option (List D)} (hq : q .un = none) (i : Nat) (l : List D), ((as ++ List.replicate k .un)[i]?).bind q = some l → (as[i]?).bind q = some l ∧ (vs.map some ++ List.replicate k none)[i]? = (vs.map some)[i]? := fun {q} hq i l e => by
    cases e1 : (as ++ List.replicate k .un)[i]? with
    | none => rw [e1] at e; cases e
    | some x =>
      obtain ⟨q1, q2⟩ := pre i x e1 (by rintro rfl; rw [e1] at e; have e' : q .un = some l := e; rw [hq] at e'; cases e')
      rw [e1] at e
      exact ⟨by rw [q1]; exact e, q2⟩
  refine ⟨by simp [hl], fun i d e => ?_, fun i l e => ?_, fun i j a l m e1 e2 q1 q2 => ?_, h.o0, fun i l a e q => ?_, fun i l a e q => ?_, fun i ks l e => ?_⟩
  · obtain ⟨q1, q2⟩ := pre i _ e (by intro z; cases z)
    obtain ⟨v, e3, q3⟩ := h.val i d q1
    exact ⟨v, q2.trans e3, Is.mono (Same.kp (Same.refl H) _) h.ol own _ _ q3⟩
  · obtain ⟨q1, q2⟩ := preO (q := Sl.ls) rfl i l e
    obtain ⟨a, xs, e3, e4, q3⟩ := h.own i l q1
    exact ⟨a, xs, q2.trans e3, e4, IsL.mono (Same.kp (Same.refl H) _) h.ol own _ _ q3⟩
  · obtain ⟨p1, p2⟩ := preO (q := Sl.own) rfl i l e1
    obtain ⟨p3, p4⟩ := preO (q := Sl.own) rfl j m e2
    exact h.apart i j a l m p1 p3 (p2 ▸ q1) (p4 ▸ q2)
  · rcases e with e | e | ⟨ks, e⟩
    · obtain ⟨p1, p2⟩ := pre i _ e (by intro z; cases z)
      exact h.loc i l a (.inl p1) (p2 ▸ q)
    · obtain ⟨p1, p2⟩ := pre i _ e (by intro z; cases z)
      exact h.loc i l a (.inr (.inl p1)) (p2 ▸ q)
    · obtain ⟨p1, p2⟩ := pre i _ e (by intro z; cases z)
      exact h.loc i l a (.inr (.inr ⟨ks, p1⟩)) (p2 ▸ q)
  · obtain ⟨p1, p2⟩ := pre i _ e (by intro z; cases z)
    exact h.par i l a p1 (p2 ▸ q)
  · obtain ⟨p1, p2⟩ := pre i _ e (by intro z; cases z)
    obtain ⟨a, kvs, e3, e4, e5, q3⟩ := h.dct i ks l p1
    exact ⟨a, kvs, p2.trans e3, e4, e5, IsL.mono (Same.kp (Same.refl H) _) h.ol own _ _ q3⟩
theorem fn_dC {x qual : Str} {st : Stmt} {f : Addr} {fd : FuncData} {N ps : List Str} {k : Nat} {g : MS} (F : Fun K x qual st f fd) (S : FnScope N ps (defScope st)) (n : Nat) (nN : Nat) (hn : ps.length = n := by rfl) (hN : N.length = nN := by rfl)
    (hb : ∀ (cdv : Value), fd.code = cdv → ∀ (A : Around) (outer : List Env) (s : Shared) (H : Hp) (E : XK), Room k (A.deeper (envOfC qual (defScope st) s.heap.objs.size f cdv)) →
      DSs (cxOf CX0 P w K mg base N qual (defScope st) f cdv A outer s H E).nox (defBody st) g) : FnOk P w K mg base CX0 (k + 1) f fd ps (spD K n (mkF n nN g)) := by
  subst hn hN
  obtain ⟨oc, od, kV, doc, pm, an, cdv, ct, osl, rfl, lk, hcd⟩ := F.ex
  refine fn_of lk hcd S (fun vs H Q E h => ?_) (fun A outer s H vs Q E hr h => ?_)
  · obtain ⟨O0, as, rs, as', hl, hR, _⟩ := h
    have := hR.len
    simp at this; omega
  · obtain ⟨O0, as, rs, as', hl, hR, no, e, q⟩ := h
    have hlv : as.length = vs.length := by simpa using hR.len
    refine ⟨_, PSs.nox (hb cdv rfl A outer s H E hr), ?_⟩
    obtain ⟨fl, e1, e2⟩ := bind_some e
    have hst : L2.start N vs = vs.map some ++ List.replicate (N.length - ps.length) none := by unfold L2.start; rw [← hlv, hl]
    rw [hst]
    have R0 := R.start (k := N.length - ps.length) hR
    have fin : ∀ (σ' : St) (H' : Hp) (r' : En), R K O0 H' r' σ' → Kp H (as ++ List.replicate (N.length - ps.length) .un) (vs.map some ++ List.replicate (N.length - ps.length) none) H' r' σ' → PostF K O0 H as vs H' (r'.take ps.length) := fun σ' H' r' R' k' => by
      refine ⟨fun b o eb nb => k'.keep b o eb fun z => nb ((own_start rfl hlv).mp z), k'.live, k'.lst, fun i l ei => ?_⟩
      have hi : i < as.length := (List.getElem?_eq_some_iff.mp ei).1
      obtain ⟨⟨l', e3⟩, e4⟩ := k'.par i l (by rw [List.getElem?_append_left hi]; exact ei)
      rw [List.getElem?_append_left (by simp; omega)] at e4
      obtain ⟨a, xs, e5, e6, e7⟩ := R'.own i l' (by rw [e3]; rfl)
      rw [e4] at e5
      have ev : vs[i]? = some (.ref a) := by
        rw [List.getElem?_map] at e5
        cases e8 : vs[i]? with
        | none => rw [e8] at e5; cases e5
        | some y => rw [e8] at e5; cases e5; rfl
      exact ⟨l', a, xs, by rw [List.getElem?_take_of_lt (by omega)]; exact e3, ev, e6, IsL.mono (Same.kp (Same.refl H') _) R'.ol (fun _ z _ => .inl z) _ _ e7⟩
    refine ⟨O0, _, fl, R0, e1, ?_⟩
    cases fl with
    | nx r' => cases e2; exact fun σ' H' R' k' => q .non H' (fin σ' H' r' R' k') (by rw [Is.non_iff])
    | bk r' => cases e2
    | ct r' => cases e2
    | rt d r' => cases e2; exact fun v σ' H' R' k' i' => q v H' (fin σ' H' r' R' k') i'
    | rf l r' =>
      cases e2
      refine fun a xs σ' H' R' k' fr no0 ea il => q a xs H' (fin σ' H' r' R' k') ?_ ea il
      rcases fr with z | ⟨i, m, ei, _⟩
      · exact z
      · exfalso
        by_cases hi : i < as.length
        · rw [List.getElem?_append_left hi] at ei
          rcases ei with ei | ⟨ks, ei⟩
          · exact (no i m).1 ei
          · exact (no i m).2.2 ks ei
        · rw [List.getElem?_append_right (by omega), List.getElem?_replicate] at ei
          rcases ei with ei | ⟨ks, ei⟩ <;> split at ei <;> cases ei
    | rg ks l r' =>
      cases e2
      refine fun a kvs σ' H' R' k' fr no0 ea ek il => q a kvs H' (fin σ' H' r' R' k') ?_ ea ek il
      rcases fr with z | ⟨i, m, ei, _⟩
      · exact z
      · exfalso
        by_cases hi : i < as.length
        · rw [List.getElem?_append_left hi] at ei
          rcases ei with ei | ⟨ks', ei⟩
          · exact (no i m).1 ei
          · exact (no i m).2.2 ks' ei
        · rw [List.getElem?_append_right (by omega), List.getElem?_replicate] at ei
          rcases ei with ei | ⟨ks', ei⟩ <;> split at ei <;> cases ei
theorem fn_d {x qual : Str} {st : Stmt} {f : Addr} {fd : FuncData} {N ps : List Str} {k : Nat} {g : MS} (F : Fun K x qual st f fd) (S : FnScope N ps (defScope st)) (n : Nat) (nN : Nat) (hn : ps.length = n := by rfl) (hN : N.length = nN := by rfl)
    (hb : ∀ (cdv : Value) (A : Around) (outer : List Env) (s : Shared) (H : Hp) (E : XK), Room k (A.deeper (envOfC qual (defScope st) s.heap.objs.size f cdv)) →
      DSs (cxOf CX0 P w K mg base N qual (defScope st) f cdv A outer s H E).nox (defBody st) g) : FnOk P w K mg base CX0 (k + 1) f fd ps (spD K n (mkF n nN g)) := fn_dC F S n nN hn hN fun cdv _ => hb cdv
end
noncomputable def rsD : Rs → D
  | .v d => d
  | .f l => .lst l
  | .g ks l => .dct ks l
noncomputable def mCall (n : Nat) (m : MF) (fs : ML) : ME := fun r => (fs r).bind fun ds => if ds.length = n then (m (ds.map .v)).map fun p => rsD p.1 else none
noncomputable def mCallF (n : Nat) (m : MF) (fs : ML) : ML := fun r => (fs r).bind fun ds => if ds.length = n then (m (ds.map .v)).bind fun p => match p.1 with
  | .f l => some l
  | _ => none
  else none
section
variable {K : Fg}
theorem R.args {O : Addr → Prop} {H : Hp} {ds : List D} {vs : List V} (ol : OLst O H) (h : IsL K O H ds vs) : R K O H (ds.map .v) (vs.map some) := by
  have no : ∀ (i : Nat) (l : List D), ((ds.map Sl.v)[i]?).bind Sl.own ≠ some l := fun i l e => by
    rw [List.getElem?_map] at e
    cases e1 : ds[i]? with
    | none => rw [e1] at e; cases e
    | some x => rw [e1] at e; cases e
  refine ⟨by simp [h.length], fun i d e => ?_, fun i l e => absurd (ls_own' e) (no i l), fun i j a l m e1 => absurd e1 (no i l), ol, fun i l a e => absurd (show ((ds.map Sl.v)[i]?).bind Sl.own = some l by rcases e with e | e | ⟨_, e⟩ <;> rw [e] <;> rfl) (no i l), fun i l a e => absurd (show ((ds.map Sl.v)[i]?).bind Sl.own = some l by rw [e]; rfl) (no i l), fun i ks l e => absurd (show ((ds.map Sl.v)[i]?).bind Sl.own = some l by rw [e]; rfl) (no i l)⟩
  rw [List.getElem?_map] at e
  cases e1 : ds[i]? with
  | none => rw [e1] at e; cases e
  | some x =>
    rw [e1] at e; cases e
    obtain ⟨v, e2, q⟩ := h.get e1
    exact ⟨v, by rw [List.getElem?_map, e2]; rfl, Is.mono (Same.kp (Same.refl H) _) ol (fun a z _ => z.elim id fun ⟨j, l, ej, _⟩ => absurd ej (no j l)) _ _ q⟩
theorem own_none {ds : List D} {σ : St} {a : Addr} : ¬ MutAt (ds.map .v) σ a := fun ⟨i, l, e, _⟩ => by
  rw [List.getElem?_map] at e
  cases e1 : ds[i]? with
  | none => rw [e1] at e; cases e
  | some x => rw [e1] at e; cases e
theorem PostF.same {O0 : Addr → Prop} {H H' : Hp} {ds : List D} {vs : List V} {as' : List Sl} (h : PostF K O0 H (ds.map .v) vs H' as') : Same H H' := fun b o e => h.keep b o e own_none
end
section
variable {X : Cx} {k n : Nat} {f : Addr} {fd : FuncData} {ps : List Str} {m : MF} {x : Str} {p pos : Pos} {e : Expr} {es : List Expr} {fs : ML}
theorem sp_pure {O0 : Addr → Prop} {r : En} {σ : St} {H H1 : Hp} {ds : List D} {vs : List V} {rs : Rs} {as' : List Sl} {Q : VK} {E : XK} (hR : R X.K O0 H r σ) (s1 : Same H H1) (il : IsL X.K (Ow O0 r σ) H1 ds vs) (hl : ds.length = n) (em : m (ds.map .v) = some (rs, as'))
    (q : RsP X.K (Ow O0 r σ) H1 (ds.map .v) vs as' Q rs) : spD X.K n m (vs ++ []) H1 Q E := by
  rw [List.append_nil]
  refine ⟨Ow O0 r σ, ds.map .v, rs, as', by simpa using hl, R.args (hR.same s1).ol il, fun i l => ?_, em, q⟩
  rw [List.getElem?_map]
  cases e1 : ds[i]? with
  | none => exact ⟨(fun z => by cases z), (fun z => by cases z), (fun _ z => by cases z)⟩
  | some y => exact ⟨(fun z => by cases z), (fun z => by cases z), (fun _ z => by cases z)⟩
theorem de_call (F : FnOk X.prog X.w X.K X.mg X.base CX0 k f fd ps (spD X.K n m)) (hr : Room k X.A) (hg : Gl X x) (hm : X.mg x = some (.ref f)) (hk : PySem.W.keepIn X.K (.ref f) = true) (hb : Binds X.K fd ps []) (ha : DA X (e :: es) fs)
    (hdb : (x == ("__debug__" : Str)) = false := by decide) (he : starEach (e :: es) X.env = (false, eval e X.env) :: starEach es X.env := by rfl) (hpl : (backTo pos (starEach es X.env)).any (·.1) = false := by rfl) :
    DE X (.Call (.Name x p) (e :: es) [] pos) (mCall n m fs) := by
  refine PE.conseq (pe_call (E := fun _ _ _ => False) (dvs := []) F hr hg hm hk hb .nil pass0 ha hdb he hpl) fun σ H Q h => ?_
  obtain ⟨O0, r, d, hR, e, q⟩ := h
  obtain ⟨ds, e1, e2⟩ := bind_some e
  split at e2
  · rename_i hl
    obtain ⟨⟨rs, as'⟩, e3, rfl⟩ := map_some e2
    refine ⟨O0, r, ds, hR, e1, fun vs H1 s1 il => sp_pure hR s1 il hl e3 ?_⟩
    cases rs with
    | v d => exact fun v H2 pf iv => q v H2 (s1.trans pf.same) iv
    | f l =>
      refine fun a xs H2 pf na ea il2 => q _ H2 (s1.trans pf.same) ?_
      have R1 := hR.same s1
      have olp : OLst (fun b => Ow O0 r σ b ∨ b = a) H2 := fun b z => z.elim (fun z => (R1.same pf.same).ol b z) fun z => by subst z; exact ⟨.lst xs, ea, trivial⟩
      show Is X.K (Ow O0 r σ) H2 (.lst l) (.ref a)
      rw [Is.lst_iff]
      exact ⟨a, xs, rfl, .inl ⟨R1.nofresh na, .inl ea⟩, IsL.mono (Same.kp (Same.refl H2) _) olp (fun _ z _ => .inl z) _ _ il2⟩
    | g ks l =>
      refine fun a kvs H2 pf na ea ek il2 => q _ H2 (s1.trans pf.same) ?_
      have olp : OLst (fun b => Ow O0 r σ b ∨ b = a) H2 := fun b z => z.elim (fun z => ((hR.same s1).same pf.same).ol b z) fun z => by subst z; exact ⟨.dK kvs, ea, trivial⟩
      show Is X.K (Ow O0 r σ) H2 (.dct ks l) (.ref a)
      rw [Is.dct_iff]
      exact ⟨a, kvs, rfl, (hR.same s1).nofresh na, .inl ea, ek, IsL.mono (Same.kp (Same.refl H2) _) olp (fun _ z _ => .inl z) _ _ il2⟩
  · cases e2
theorem df_call (F : FnOk X.prog X.w X.K X.mg X.base CX0 k f fd ps (spD X.K n m)) (hr : Room k X.A) (hg : Gl X x) (hm : X.mg x = some (.ref f)) (hk : PySem.W.keepIn X.K (.ref f) = true) (hb : Binds X.K fd ps []) (ha : DA X (e :: es) fs)
    (hdb : (x == ("__debug__" : Str)) = false := by decide) (he : starEach (e :: es) X.env = (false, eval e X.env) :: starEach es X.env := by rfl) (hpl : (backTo pos (starEach es X.env)).any (·.1) = false := by rfl) :
    DF X (.Call (.Name x p) (e :: es) [] pos) (mCallF n m fs) := by
  refine PE.conseq (pe_call (E := fun _ _ _ => False) (dvs := []) F hr hg hm hk hb .nil pass0 ha hdb he hpl) fun σ H Q h => ?_
  obtain ⟨O0, r, l, hR, e, q⟩ := h
  obtain ⟨ds, e1, e2⟩ := bind_some e
  split at e2
  · rename_i hl
    obtain ⟨⟨rs, as'⟩, e3, e4⟩ := bind_some e2
    refine ⟨O0, r, ds, hR, e1, fun vs H1 s1 il => sp_pure hR s1 il hl e3 ?_⟩
    cases rs with
    | v d => cases e4
    | f l' => cases e4; exact fun a xs H2 pf na ea il2 => q a xs H2 (s1.trans pf.same) (s1.free na) ea il2
    | g ks l' => cases e4
  · cases e2
end
section
variable {X : Cx} {tg l : Expr} {f : ME} {p pos : Pos}
noncomputable def itemsD : D → Option (List D)
  | .lst l => some l
  | .tup l => some l
  | _ => none
noncomputable def mIt (f : ME) : ML := fun r => (f r).bind itemsD
theorem get_of_lt {l : List D} {i : Nat} (h : i < l.length) : ∃ d, l[i]? = some d := ⟨l[i], by simp [h]⟩
theorem yl_list {K : Fg} {O M : Addr → Prop} (mo : ∀ a, M a → O a) {H : Hp} {a : Addr} {xs : List V} {ds : List D} (ol : OLst O H) (rd : ∀ H1, Keep M H H1 → SqL K H1 a xs) (il : IsL K O H ds xs): Ylds K O M H (Itl K a) ds := by
  intro i H1 O' kp oo
  have kp' : Keep O H H1 := fun b o e n => kp b o e fun z => n (mo b z)
  have rd1 : SqL K H1 a xs := rd H1 kp
  refine ⟨fun hi => ⟨?_, fun x H' y => ?_⟩, fun hi => ⟨xs, rd1, by rw [← il.length]; exact Nat.le_of_eq hi.symm⟩⟩
  · obtain ⟨d, e⟩ := get_of_lt hi
    obtain ⟨v, e1, _⟩ := il.get e
    exact ⟨xs, v, rd1, e1⟩
  · obtain ⟨rfl, y⟩ := y
    refine ⟨Same.refl _, fun d e => ?_⟩
    obtain ⟨v, e1, q⟩ := il.get e
    have := y xs rd1
    rw [e1] at this; cases this
    exact Is.mono kp' ol oo _ _ q
theorem yl_tup {K : Fg} {O M : Addr → Prop} (mo : ∀ a, M a → O a) {H : Hp} {a : Addr} {xs : List V} {ds : List D} (ol : OLst O H) (rd : SqT K H a xs) (il : IsL K O H ds xs) : Ylds K O M H (Itt K a) ds := by
  intro i H1 O' kp oo
  have kp' : Keep O H H1 := fun b o e n => kp b o e fun z => n (mo b z)
  have rd1 : SqT K H1 a xs := SqT.keep kp' ol rd
  refine ⟨fun hi => ⟨?_, fun x H' y => ?_⟩, fun hi => ⟨xs, rd1, by rw [← il.length]; exact Nat.le_of_eq hi.symm⟩⟩
  · obtain ⟨d, e⟩ := get_of_lt hi
    obtain ⟨v, e1, _⟩ := il.get e
    exact ⟨xs, v, rd1, e1⟩
  · obtain ⟨rfl, y⟩ := y
    refine ⟨Same.refl _, fun d e => ?_⟩
    obtain ⟨v, e1, q⟩ := il.get e
    have := y xs rd1
    rw [e1] at this; cases this
    exact Is.mono kp' ol oo _ _ q
theorem pi_seq {tl : TE} (hl : PE X l tl) : PI X tg l (fun σ H Rr => tl σ H fun x H1 => ∃ a, x = .ref a ∧ (((∃ xs, SqL X.K H1 a xs) ∧ Rr (Itl X.K a) H1) ∨ ((∃ xs, SqT X.K H1 a xs) ∧ Rr (Itt X.K a) H1))) := by
  intro pins s σ H R I h
  refine thn (hl pins s σ H _ I h) fun v s1 ⟨x, H1, I1, r1, q1⟩ => ?_
  obtain ⟨a, e, q⟩ := q1
  subst e
  cases r1
  rcases q with ⟨⟨xs, hq⟩, q⟩ | ⟨⟨xs, hq⟩, q⟩
  · obtain ⟨its, rv, p, hz⟩ := I1.list hq
    refine wpAny_pyIter_list p.isList ?_
    refine ⟨s1.heap.objs.size, [s1.heap.objs.size], _, _, H1, rfl, I1.kept (t' := s1.toks) fun b o e => Heap.get?_push_of_some _ e, turn_list a _, ⟨_, Heap.get?_push_size _ rfl, rfl, rfl⟩, fun b hb => ?_, q⟩
    have e : b = s1.heap.objs.size := by simpa using hb
    subst e
    exact I1.fpOk (Nat.le_refl _) (I1.hok.fresh (Nat.le_refl _))
  · obtain ⟨its, rv, p, hz⟩ := I1.tuple hq
    refine wpAny_pyIter_tuple (show s1.heap.IsTuple a its.toArray from p) ?_
    refine ⟨s1.heap.objs.size, [s1.heap.objs.size], _, _, H1, rfl, I1.kept (t' := s1.toks) fun b o e => Heap.get?_push_of_some _ e, turn_tuple a _, ⟨_, Heap.get?_push_size _ rfl, rfl, rfl⟩, fun b hb => ?_, q⟩
    have e : b = s1.heap.objs.size := by simpa using hb
    subst e
    exact I1.fpOk (Nat.le_refl _) (I1.hok.fresh (Nat.le_refl _))
theorem di_seq (hl : DE X l f) : DI X tg l (mIt f) := by
  refine PI.conseq (pi_seq hl) fun σ H Rr h => ?_
  obtain ⟨O0, r, ds, hR, e, q⟩ := h
  obtain ⟨d, e1, e2⟩ := bind_some e
  refine ⟨O0, r, d, hR, e1, fun v H1 s1 i1 => ?_⟩
  have ol := (hR.same s1).ol
  cases d with
  | lst l' =>
    cases e2
    rw [Is.lst_iff] at i1
    obtain ⟨a, xs, rfl, rd, il⟩ := i1
    exact ⟨a, rfl, .inl ⟨⟨xs, rd.sq⟩, q _ H1 s1 (yl_list (fun a z => .inr z.own) ol (fun H2 k2 => rd.imp (fun z => Rd.keep k2 (fun y => z.1 (.inr y.own)) z.2) id) il)⟩⟩
  | tup l' =>
    cases e2
    rw [Is.tup_iff] at i1
    obtain ⟨a, xs, rfl, rd, il⟩ := i1
    exact ⟨a, rfl, .inr ⟨⟨xs, rd⟩, q _ H1 s1 (yl_tup (fun a z => .inr z.own) ol rd il)⟩⟩
  | _ => cases e2
noncomputable def rngD (lo : Int) (n : Nat) : List D := (List.range n).map fun i => .int (lo + (i : Nat))
theorem yl_rng {K : Fg} {O M : Addr → Prop} {H : Hp} (lo : Int) (n : Nat) : Ylds K O M H (Itr lo n) (rngD lo n) := by
  intro i H1 O' kp oo
  have hl : (rngD lo n).length = n := by simp [rngD]
  refine ⟨fun hi => ⟨by rw [hl] at hi; exact hi, fun x H' y => ?_⟩, fun hi => by rw [hl] at hi; exact Nat.le_of_eq hi.symm⟩
  obtain ⟨rfl, rfl⟩ := y
  refine ⟨Same.refl _, fun d e => ?_⟩
  rw [hl] at hi
  unfold rngD at e
  rw [List.getElem?_map, List.getElem?_range hi] at e
  cases e
  rw [Is.int_iff]
noncomputable def intD : D → Option Int
  | .int i => some i
  | _ => none
noncomputable def mRng1 (f : ME) : ML := fun r => (f r).bind fun d => (intD d).bind fun j => if -(2 ^ 62) ≤ j ∧ j < 2 ^ 62 then some (rngD 0 j.toNat) else none
theorem intD_some {d : D} {i : Int} (e : intD d = some i) : d = .int i := by
  cases d <;> first | cases e; rfl | cases e
theorem di_rng1 (hg : Gl X "range") (hm : X.mg "range" = none) (ha : DE X l f) (hs : starEach [l] X.env = [(false, eval l X.env)] := by rfl) : DI X tg (.Call (.Name "range" p) [l] [] pos) (mRng1 f) := by
  refine PI.conseq (pi_range1 hg hm (pa_cons ha pa_nil hs) hs) fun σ H Rr h => ?_
  obtain ⟨O0, r, ds, hR, e, q⟩ := h
  obtain ⟨d, e1, e2⟩ := bind_some e
  obtain ⟨j, e3, e4⟩ := bind_some e2
  cases intD_some e3
  split at e4
  · rename_i hj
    cases e4
    refine ⟨O0, r, _, hR, e1, fun v H1 s1 i1 => ?_⟩
    rw [Is.int_iff] at i1
    exact ⟨j, by rw [i1], hj.1, hj.2, q _ H1 s1 (yl_rng 0 _)⟩
  · cases e4
end
noncomputable def clOf (env : Env) : List (Str × NameKind) → List (Str × Addr) → List (Str × Addr)
  | [], acc => acc
  | (n, k) :: r, acc => if k = .free then clOf env r ((n, (env.cells.lookup n).getD 0) :: acc) else clOf env r acc
theorem closure_eq {env : Env} : ∀ (names : List (Str × NameKind)) (acc : List (Str × Addr)), (∀ y ∈ names, y.2 = .free → ∃ c, env.cells.lookup y.1 = some c) →
    (forIn names acc (fun (x : Str × NameKind) (cs : List (Str × Addr)) => match x with
      | (name, kind) => if (kind == NameKind.free) = true then do let a ← cellOf env name; pure (ForInStep.yield ((name, a) :: cs)) else pure (ForInStep.yield cs)) : Sem (List (Str × Addr))) = pure (clOf env names acc)
  | [], acc, _ => rfl
  | (n, k) :: r, acc, h => by
    rw [List.forIn_cons]
    by_cases hk : k = .free
    · obtain ⟨c, hc⟩ := h (n, k) List.mem_cons_self hk
      have ih := closure_eq r ((n, c) :: acc) fun y hy => h y (List.mem_cons_of_mem _ hy)
      subst hk
      show ((do let a ← cellOf env n; pure (ForInStep.yield ((n, a) :: acc))) >>= _ : Sem _) = _
      unfold cellOf
      rw [hc]
      unfold clOf
      rw [if_pos rfl, hc]
      exact ih
    · have hb : (k == NameKind.free) = false := by simpa using hk
      have ih := closure_eq r acc fun y hy => h y (List.mem_cons_of_mem _ hy)
      unfold clOf
      rw [if_neg hk]
      simp only [hb]
      exact ih
theorem closureFor_eq {scope : Scope} {env : Env} (h : ∀ y ∈ scope.names, y.2 = .free → ∃ c, env.cells.lookup y.1 = some c) : closureFor scope env = pure (clOf env scope.names []) := by
  unfold closureFor
  have := closure_eq (env := env) scope.names [] h
  first
    | exact this
    | (simp only [bind_pure]; exact this)
    | (rw [← this]; rfl)
theorem clOf_sub {env : Env} {x : Str} {c : Addr} : ∀ (names : List (Str × NameKind)) (acc : List (Str × Addr)), (∀ y ∈ names, y.2 = .free → ∃ c, env.cells.lookup y.1 = some c) → (∀ c, acc.lookup x = some c → env.cells.lookup x = some c) →
    (clOf env names acc).lookup x = some c → env.cells.lookup x = some c
  | [], acc, _, ha, e => ha c e
  | (n, k) :: r, acc, h, ha, e => by
    unfold clOf at e
    split at e
    · rename_i hk
      refine clOf_sub r _ (fun y hy => h y (List.mem_cons_of_mem _ hy)) (fun c' e' => ?_) e
      rw [List.lookup_cons] at e'
      split at e'
      · rename_i hx
        have hx' : x = n := by simpa using hx
        subst hx'
        obtain ⟨c2, q⟩ := h (x, k) List.mem_cons_self hk
        rw [q] at e' ⊢
        simpa using e'
      · exact ha c' e'
    · exact clOf_sub r _ (fun y hy => h y (List.mem_cons_of_mem _ hy)) ha e
theorem clOf_acc {env : Env} {x : Str} : ∀ (names : List (Str × NameKind)) (acc : List (Str × Addr)), (∃ c, acc.lookup x = some c) → ∃ c, (clOf env names acc).lookup x = some c
  | [], acc, h => h
  | (n, k) :: r, acc, h => by
    unfold clOf
    split
    · refine clOf_acc r _ ?_
      rw [List.lookup_cons]
      split
      · exact ⟨_, rfl⟩
      · exact h
    · exact clOf_acc r _ h
theorem clOf_has {env : Env} {x : Str} : ∀ (names : List (Str × NameKind)) (acc : List (Str × Addr)), (x, NameKind.free) ∈ names → ∃ c, (clOf env names acc).lookup x = some c
  | [], _, h => nomatch h
  | (n, k) :: r, acc, h => by
    unfold clOf
    rcases List.mem_cons.mp h with z | z
    · cases z
      rw [if_pos rfl]
      refine clOf_acc r _ ?_
      rw [List.lookup_cons]
      simp
    · split
      · exact clOf_has r _ z
      · exact clOf_has r _ z
theorem relabel_inv {env : Env} : ∀ {names : List (Str × NameKind)} {x : Str} {k : NameKind}, (names.map fun (n, k) => if (k == NameKind.free && env.scope.kind == .function && env.kindOf n == some .cell) then (n, NameKind.cell) else (n, k)).lookup x = some k →
    ∃ k', names.lookup x = some k' ∧ (k = k' ∨ (k' = .free ∧ k = .cell))
  | [], _, _, h => by simp at h
  | (n, k0) :: r, x, k, h => by
    have h' : List.lookup x ((if (k0 == NameKind.free && env.scope.kind == .function && env.kindOf n == some .cell) = true then (n, NameKind.cell) else (n, k0)) :: (r.map fun (n, k) => if (k == NameKind.free && env.scope.kind == .function && env.kindOf n == some .cell) then (n, NameKind.cell) else (n, k))) = some k := h
    rw [List.lookup_cons]
    by_cases hc : (k0 == NameKind.free && env.scope.kind == .function && env.kindOf n == some .cell) = true
    · rw [if_pos hc, List.lookup_cons] at h'
      split at h'
      · rename_i hx
        cases h'
        refine ⟨k0, rfl, .inr ⟨?_, rfl⟩⟩
        simp only [Bool.and_eq_true, beq_iff_eq] at hc
        exact hc.1.1
      · rename_i hx
        exact relabel_inv h'
    · rw [if_neg hc, List.lookup_cons] at h'
      split at h'
      · rename_i hx
        cases h'
        exact ⟨k0, rfl, .inl rfl⟩
      · rename_i hx
        exact relabel_inv h'
theorem relabel_free {env : Env} : ∀ {names : List (Str × NameKind)} {x : Str}, names.lookup x = some .free →
    let l := (names.map fun (n, k) => if (k == NameKind.free && env.scope.kind == .function && env.kindOf n == some .cell) then (n, NameKind.cell) else (n, k)); l.lookup x = some .cell ∨ l.lookup x = some .free
  | [], _, h => by simp at h
  | (n, k0) :: r, x, h => by
    show List.lookup x ((if (k0 == NameKind.free && env.scope.kind == .function && env.kindOf n == some .cell) = true then (n, NameKind.cell) else (n, k0)) :: _) = _ ∨ List.lookup x ((if (k0 == NameKind.free && env.scope.kind == .function && env.kindOf n == some .cell) = true then (n, NameKind.cell) else (n, k0)) :: _) = _
    rw [List.lookup_cons] at h
    cases hx : x == n with
    | true =>
      rw [hx] at h
      cases h
      split
      · left; rw [List.lookup_cons, hx]
      · right; rw [List.lookup_cons, hx]
    | false =>
      rw [hx] at h
      have ih := relabel_free (env := env) h
      split
      · rw [List.lookup_cons, hx]; exact ih
      · rw [List.lookup_cons, hx]; exact ih
noncomputable def cxC (X : Cx) (N' : List Str) (scope : Scope) (C : Addr) (fp : List Addr) (s : Shared) (H : Hp) : Cx where
  prog := X.prog
  w := X.w
  K := X.K
  mg := X.mg
  base := X.base
  A := X.A
  N := N'
  s₀ := s
  H₀ := H
  env := compEnvC scope (clOf X.env scope.names []) C X.env
  outer := X.stack
  stack := X.stack
  ex := fp
  fn := fun _ => false
  calm := X.calm
  pn := []
  xe := fun _ _ => False
structure CmpOk (X : Cx) (N' : List Str) (cap : List Nat) (scope : Scope) : Prop where
  kind : scope.kind = .function
  nc : ∀ y ∈ scope.names, y.2 ≠ .cell
  nm : ∀ y ∈ scope.names, y.2 = .local → scope.names.lookup y.1 = some .local
  fr : ∀ y ∈ scope.names, y.2 = .free → X.env.kindOf y.1 = some .cell ∨ X.env.kindOf y.1 = some .free
  capt : ∀ (i j : Nat), cap[i]? = some j → ∃ x, N'[i]? = some x ∧ X.N[j]? = some x ∧ scope.names.lookup x = some .free
  len : cap.length ≤ N'.length
noncomputable def sigC (cap : List Nat) (n : Nat) (σ : St) : St := (cap.map fun j => (σ[j]?).getD none) ++ List.replicate (n - cap.length) none
section
variable {X : Cx} {pins : List (Addr × Obj)} {σ : St} {H : Hp} {s : Shared} {N' : List Str} {cap : List Nat} {scope : Scope} {fp : List Addr}
theorem CmpOk.hasc (o : CmpOk X N' cap scope) (ok : X.Ok) : ∀ y ∈ scope.names, y.2 = .free → ∃ c, X.env.cells.lookup y.1 = some c := fun y hy e => ok.has y.1 (o.fr y hy e)
theorem CmpOk.sub (o : CmpOk X N' cap scope) (ok : X.Ok) {x : Str} {c : Addr} (e : (clOf X.env scope.names []).lookup x = some c) : X.env.cells.lookup x = some c := clOf_sub scope.names [] (o.hasc ok) (fun _ z => by simp at z) e
theorem inv_comp (o : CmpOk X N' cap scope) (I : Inv X pins σ H s) (hfp : ∀ b ∈ fp, FpOk X pins H b) (hlt : ∀ b ∈ fp, b < s.heap.objs.size) {h' : Heap} {t' : Nat} (ns : h'.Ns s.heap.objs.size (fun _ => none)) (kp : ∀ b u, s.heap.get? b = some u → h'.get? b = some u) :
    Inv (cxC X N' scope s.heap.objs.size fp s H) [] (sigC cap N'.length σ) H { s with heap := h', toks := t' } := by
  have hf : H s.heap.objs.size = none := I.hok.fresh (Nat.le_refl _)
  have nofp : ∀ b ∈ fp, b ∉ frs X.stack := fun b hb z => by
    obtain ⟨f0, f1, f2, f3, f4, f5⟩ := hfp b hb
    rcases List.mem_cons.mp (I.stkSub b z) with q | q
    · exact f1 q
    · exact f2 q
  have ok' : (cxC X N' scope s.heap.objs.size fp s H).Ok := by
    refine ⟨I.ok.mod, o.kind, I.ok.glob, I.ok.blt, Nat.le_refl _, fun x y c e1 e2 => I.ok.inj x y c (o.sub I.ok e1) (o.sub I.ok e2), fun x hx => ?_, fun x c z => (by cases z), I.ok.hd, I.ok.frames, .inl rfl, fun b hb => ⟨Nat.ne_of_lt (hlt b hb), fun x c e => (hfp b hb).2.2.2.2.1 x c (o.sub I.ok e)⟩,
      fun b ob e => I.bs b ob e, Nat.le_trans I.ok.bsz I.sz, fun b ob e hb => ?_, nofp, I.stack, ⟨I.stkFree, I.tabIn⟩⟩
    · have key : scope.names.lookup x = some .free := by
        rcases hx with hx | hx
        · obtain ⟨k', e1, e2⟩ := relabel_inv (env := X.env) (names := scope.names) (x := x) (k := .cell) hx
          rcases e2 with e2 | e2
          · subst e2; exact absurd rfl (o.nc _ (PySem.mem_of_lookup e1))
          · rw [e2.1] at e1; exact e1
        · obtain ⟨k', e1, e2⟩ := relabel_inv (env := X.env) (names := scope.names) (x := x) (k := .free) hx
          rcases e2 with e2 | e2
          · subst e2; exact e1
          · exact absurd e2.2 (by decide)
      exact clOf_has scope.names [] (PySem.mem_of_lookup key)
    · rcases (hfp b hb).2.2.2.1 with z | z
      · exact I.ok.noex b ob e z
      · exact absurd (Nat.lt_of_lt_of_le (Nat.lt_of_lt_of_le (Heap.lt_size e) I.ok.bsz) z) (Nat.lt_irrefl _)
  refine ⟨ok', rfl, I.bare, Un.kept kp, ⟨fun _ => none, ns, fun i x v hN hs hv => ?_⟩, fun x c e => ?_, hf, fun x c e => I.freeC x c (o.sub I.ok e), fun p hp => ?_, I.hok.kept kp, ?_⟩
  · have hN : N'[i]? = some x := hN
    by_cases hi : i < cap.length
    · unfold sigC at hs
      rw [List.getElem?_append_left (by simpa using hi), List.getElem?_map] at hs
      obtain ⟨j, hj⟩ : ∃ j, cap[i]? = some j := ⟨cap[i], by simp [hi]⟩
      rw [hj] at hs
      have hs' : σ[j]? = some (some v) := by
        have hs'' : (σ[j]?).getD none = some v := Option.some.inj hs
        cases e : σ[j]? with
        | none => rw [e] at hs''; cases hs''
        | some y => rw [e] at hs''; have : y = some v := hs''; rw [this]
      obtain ⟨x', e1, e2, e3⟩ := o.capt i j hj
      rw [hN] at e1; cases e1
      have hk := o.fr (x, .free) (PySem.mem_of_lookup e3) rfl
      obtain ⟨m, hn, hl⟩ := I.loc
      have hvis : Vis X.env.scope x := hk.elim (fun z => .inr (.inl z)) fun z => .inr (.inr z)
      obtain ⟨u, r, lk⟩ := hl j x v e2 hs' hvis
      refine ⟨u, r, .inr ⟨relabel_free (env := X.env) e3, ?_⟩⟩
      rcases lk with ⟨z, _⟩ | ⟨_, c, hc, hcell⟩
      · have z' : X.env.kindOf x = some .local := z
        rw [z'] at hk
        rcases hk with hk | hk <;> cases hk
      · obtain ⟨c', hc'⟩ := clOf_has (env := X.env) scope.names [] (PySem.mem_of_lookup e3)
        have hcc := o.sub I.ok hc'
        rw [hc] at hcc; cases hcc
        obtain ⟨ob, q1, q2⟩ := hcell
        exact ⟨c, hc', ob, kp _ _ q1, q2⟩
    · unfold sigC at hs
      rw [List.getElem?_append_right (by simpa using Nat.le_of_not_lt hi), List.getElem?_replicate] at hs
      split at hs <;> cases hs
  · obtain ⟨v, ob, q1, q2⟩ := I.cell x c (o.sub I.ok e)
    exact ⟨v, ob, kp _ _ q1, q2⟩
  · exact absurd (show p ∈ ([] : List (Addr × Obj)) from hp) (by simp)
  · unfold sigC
    show _ = N'.length
    rw [List.length_append, List.length_map, List.length_replicate]
    have := o.len
    omega
theorem inv_comp_end {H2 : Hp} {σ2 : St} {s2 : Shared} {h' : Heap} (I : Inv X pins σ H s) (hfp : ∀ b ∈ fp, FpOk X pins H b) (J : Inv (cxC X N' scope s.heap.objs.size fp s H) [] σ2 H2 s2) (sb : Heap.SameBut s.heap.objs.size s2.heap h') : Inv X pins σ H2 { s2 with heap := h' } := by
  have hb : Un (frs X.stack) fp H H2 s.heap s2.heap := J.base
  have ne : ∀ b o, s.heap.get? b = some o → b ≠ s.heap.objs.size := fun b o e => Nat.ne_of_lt (Heap.lt_size e)
  have fr : H2 s.heap.objs.size = none := J.free
  refine I.call' (s' := { s2 with heap := h' }) (ch := fp) J.os ?_ ?_ J.bare fun b hb => ⟨(hfp b hb).2.2.2.1, (hfp b hb).2.1, (hfp b hb).2.2.2.2.1, (hfp b hb).2.2.2.2.2⟩
  · refine ⟨fun b o e n h1 h2 => ?_, fun b o e n h1 h2 => ?_, fun b o e n h2 => hb.free b o e n h2, fun b o e h2 => ?_, hb.tups, hb.frzs, hb.tbls⟩
    · exact sb.extBut b o (ne b o e) (hb.keep b o e n h1 h2)
    · obtain ⟨sl, q⟩ := hb.slot b o e n h1 h2
      exact ⟨sl, sb.extBut b _ (ne b o e) q⟩
    · obtain ⟨o', q⟩ := hb.there b o e h2
      exact ⟨o', sb.extBut b _ (ne b o e) q⟩
  · intro b u e
    have nb : ∀ c w, H2 c = some w → c ≠ s.heap.objs.size := fun c w q z => by rw [z, fr] at q; cases q
    refine (J.hok b u e).stay (fun c v hc q => sb.extBut c v ?_ q) (fun _ q => q) (fun _ _ q => q) fun _ _ _ q => q
    rcases hc with z | z
    · rw [z]; exact nb b u e
    · exact nb c _ z
noncomputable def tComp1 (tc : Option TT) (te : TE) (K1 : V → Hp → Prop) (K0 : Hp → Prop) : St → Hp → Prop := fun σ H => match tc with
  | none => te σ H K1
  | some c => c σ H fun b H1 => if b = true then te σ H1 K1 else K0 H1
noncomputable def tComp (cap : List Nat) (n : Nat) (wi : TI) (g : TG) (tc : Option TT) (te : TE) : TE := fun σ H Q => wi σ H fun J H1 => ∀ p, H1 p = none → ∃ W : Nat → Nat → List V → St → Hp → Prop, (∃ m, W 0 m [] (sigC cap n σ) (upd H1 p (.lst []))) ∧ ∀ i m ys σ2 H2, W i m ys σ2 H2 → H2 p = some (.lst ys) ∧ ys.length < sizeLine ∧
  ((J.stop i H2 ∧ Q (.ref p) H2) ∨ (J.go i H2 ∧ ∀ x H3, J.yld i H2 x H3 → g x σ2 H3 fun σ4 H4 => tComp1 tc te (fun y H5 => H5 p = some (.lst ys) ∧ ∃ m', m' < m ∧ W (i + 1) m' (ys ++ [y]) σ4 (upd H5 p (.lst (ys ++ [y])))) (fun H5 => ∃ m', m' < m ∧ W (i + 1) m' ys σ4 H5) σ4 H4))
theorem compLoop_go {prog : Program} {w : World} {A : Around} {Z : Result → Shared → Prop} {t0 : Shared} {elt tgt src : Expr} {tests : List Expr} {scope : Scope} {pos : Pos} {it out : Value} {env : Env} (W : Nat → Shared → Prop)
    (each : ∀ k t, W k t → wpAny (model prog w) A (pyNext it) (fun got t1 => match got with
      | none => Z (.ok .next) t1
      | some y => wpAny (model prog w) A (letOwnedTupleGo tgt it y) (fun _ t2 => wpAny (model prog w) A (assign tgt env y) (fun _ t3 =>
          wpAny (model prog w) A (forIn tests true fun c b => if b = true then do let ok ← isTrue c env (eval c env); pure (ForInStep.yield ok) else pure (ForInStep.yield b)) (fun good t4 =>
            if good = true then wpAny (model prog w) A (eval elt env) (fun x t5 =>
              wpAny (model prog w) A (call (.builtin "list.append") [out, x]) (fun _ t6 => ∃ j, j < k ∧ W j t6) (fun _ _ => False) t5) (fun _ _ => False) t4
            else ∃ j, j < k ∧ W j t4) (fun _ _ => False) t3) (fun _ _ => False) t2) (fun _ _ => False) t1) (fun _ _ => False) t)
    (k : Nat) (h0 : W k t0) : codeAny (model prog w) A (.compLoop (.ListComp elt [⟨tgt, src, tests, 0⟩] scope pos) 0 it out env) Z t0 := by
  refine codeAny_loop rfl W (fun k t hW => ?_) k h0
  show wpAny _ A ((compTurn (.ListComp elt [⟨tgt, src, tests, 0⟩] scope pos) 0 it out env).onRaise (fun x => do noteFrame x env; theTreesLotGoes x)) _ _ t
  refine wpAny_noted ?_
  rw [compTurn_list]
  refine wpAny_bind (wpAny_standAt (wpAny_bind (wpAny_mono (each k t hW) (fun got t1 g1 => ?_) fun _ _ no => no.elim)))
  cases got with
  | none => exact wpAny_pure g1
  | some y =>
    refine wpAny_bind (wpAny_mono g1 (fun _ t2 g2 => wpAny_bind (wpAny_mono g2 (fun _ t3 g3 => wpAny_bind (wpAny_mono g3 (fun good t4 g4 => ?_) fun _ _ no => no.elim)) fun _ _ no => no.elim)) fun _ _ no => no.elim)
    cases good with
    | false => exact wpAny_pure ⟨rfl, g4⟩
    | true =>
      exact wpAny_bind (wpAny_bind (wpAny_mono g4 (fun x t5 g5 => wpAny_bind (wpAny_mono g5 (fun _ t6 g6 => wpAny_pure (wpAny_pure ⟨rfl, g6⟩)) fun _ _ no => no.elim)) fun _ _ no => no.elim))
theorem comp_core {elt tg iter : Expr} {ifs : List Expr} {pos : Pos} {g : TG} {tc : Option TT} {te : TE} {J : It} {it : Addr} {tn : Nat → Heap → Prop} {Q : VK} {RR : Value → Addr → Result → Shared → Prop} (hc : X.calm = true) (o : CmpOk X N' cap scope)
    (hg : ∀ C fp s H, PG (cxC X N' scope C fp s H) tg g) (ht : match (generalizing := false) tc with | none => ifs = [] | some c => ∃ e, ifs = [e] ∧ ∀ C fp s H, PT (cxC X N' scope C fp s H) e c) (he : ∀ C fp s H, PE (cxC X N' scope C fp s H) elt te)
    (I : Inv X pins σ H s) (T : Turn X.prog X.w X.K tg J fp it tn) (st : tn 0 s.heap) (hfp : ∀ b ∈ fp, FpOk X pins H b)
    (hw : ∀ p, H p = none → ∃ W : Nat → Nat → List V → St → Hp → Prop, (∃ m, W 0 m [] (sigC cap N'.length σ) (upd H p (.lst []))) ∧ ∀ i m ys σ2 H2, W i m ys σ2 H2 → H2 p = some (.lst ys) ∧ ys.length < sizeLine ∧
      ((J.stop i H2 ∧ Q (.ref p) H2) ∨ (J.go i H2 ∧ ∀ x H3, J.yld i H2 x H3 → g x σ2 H3 fun σ4 H4 => tComp1 tc te (fun y H5 => H5 p = some (.lst ys) ∧ ∃ m', m' < m ∧ W (i + 1) m' (ys ++ [y]) σ4 (upd H5 p (.lst (ys ++ [y])))) (fun H5 => ∃ m', m' < m ∧ W (i + 1) m' ys σ4 H5) σ4 H4)))
    (hRR : ∀ (p : Addr) (s3 s' : Shared) (H3 H2 : Hp) (σ2 : St), Inv X pins σ H3 s3 → (∀ b ∈ fp, FpOk X pins H3 b) → Inv (cxC X N' scope s3.heap.objs.size fp s3 H3) [] σ2 H2 s' → Q (.ref p) H2 → RR (.ref p) s3.heap.objs.size (.ok .next) s') :
    wpAny (model X.prog X.w) X.A (newList []) (fun acc s₃ => wpAny (model X.prog X.w) X.A (newFunctionEnv scope X.env.globals (clOf X.env scope.names []) [] X.env.qual none .none (some X.env)) (fun cenv s₄ =>
      codeAny (model X.prog X.w) X.A (.compStart (.ListComp elt [⟨tg, iter, ifs, 0⟩] scope pos) 0 (.ref it) acc { cenv with scope := relabel scope X.env }) (RR acc cenv.locals) s₄) X.xe s₃) X.xe s := by
  refine wpAny_newObj_type ?_
  obtain ⟨W, ⟨m0, w0⟩, turn⟩ := hw s.heap.objs.size (I.hok.fresh (Nat.le_refl _))
  have nfp : ∀ b ∈ fp, b < s.heap.objs.size := fun b hb => by
    obtain ⟨ob, e, _⟩ := T.obj 0 _ st b hb
    exact Heap.lt_size e
  have I3 := I.lnew (its := []) (ys := []) (t' := s.toks) .nil (Nat.zero_le _)
  generalize hs3 : ({ s with heap := s.heap.push { cls := .type "list", data := .seq ([] : List Value).toArray }, toks := s.toks } : Shared) = s3 at I3
  have hs3' : ({ s with heap := s.heap.push { cls := .type "list", dict := none, data := .seq ([] : List Value).toArray } } : Shared) = s3 := hs3
  have hf3 : ∀ b ∈ fp, FpOk X pins (upd H s.heap.objs.size (.lst [])) b := fun b hb => ⟨by rw [upd_ne (Nat.ne_of_lt (nfp b hb))]; exact (hfp b hb).1, (hfp b hb).2⟩
  have st3 : tn 0 s3.heap := T.keep 0 _ _ st fun b _ ob e => by rw [← hs3]; exact Heap.get?_push_of_some _ e
  have nfp3 : ∀ b ∈ fp, b < s3.heap.objs.size := fun b hb => by
    obtain ⟨ob, e, _⟩ := T.obj 0 _ st3 b hb
    exact Heap.lt_size e
  refine wpAny_newFunctionEnv o.nc (by intro y hy; simp at hy) (fun h₁ hns₁ hsb₁ => ?_) o.kind
  have old : ∀ b ob, s3.heap.get? b = some ob → h₁.get? b = some ob := fun b ob e => hsb₁.extBut b ob (Nat.ne_of_lt (Heap.lt_size e)) (Heap.get?_push_of_some _ e)
  have I4 := inv_comp (t' := s3.toks + ([] : List (Str × Value)).length) o I3 hf3 nfp3 (by simpa using hns₁) old
  have st4 : tn 0 h₁ := T.keep 0 _ _ st3 fun b _ ob e => old b ob e
  have fpC : ∀ H', (∀ b ∈ fp, H' b = none) → ∀ b ∈ fp, FpOk (cxC X N' scope s3.heap.objs.size fp s3 (upd H s.heap.objs.size (.lst []))) [] H' b := fun H' hn b hb => by
    refine ⟨hn b hb, Nat.ne_of_lt (nfp3 b hb), I4.ok.exfs b hb, .inl hb, (I4.ok.exf b hb).2, fun p hp => absurd (show p ∈ ([] : List (Addr × Obj)) from hp) (by simp)⟩
  have loop : codeAny (model X.prog X.w) X.A (.compLoop (.ListComp elt [⟨tg, iter, ifs, 0⟩] scope pos) 0 (.ref it) (.ref s.heap.objs.size) (compEnvC scope (clOf X.env scope.names []) s3.heap.objs.size X.env)) (RR (.ref s.heap.objs.size) s3.heap.objs.size) { s3 with heap := h₁, toks := s3.toks + ([] : List (Str × Value)).length } := by
    refine compLoop_go (fun n s' => ∃ i ys σ' H', Inv (cxC X N' scope s3.heap.objs.size fp s3 (upd H s.heap.objs.size (.lst []))) [] σ' H' s' ∧ tn i s'.heap ∧ (∀ b ∈ fp, H' b = none) ∧ W i n ys σ' H') ?_ m0 ⟨0, [], _, _, I4, st4, fun b hb => (hf3 b hb).1, w0⟩
    rintro n s5 ⟨i, ys, σ5, H5, I5, st5, fr5, w5⟩
    obtain ⟨hp5, hz5, br⟩ := turn i n ys σ5 H5 w5
    rcases br with ⟨stop, q⟩ | ⟨go, step⟩
    · refine thn (T.done (cxC X N' scope s3.heap.objs.size fp s3 (upd H s.heap.objs.size (.lst []))) rfl rfl rfl hc i [] s5 _ H5 (fun _ _ => False) I5 (fpC H5 fr5) st5 stop) fun r s6 ⟨hr, I6⟩ => ?_
      subst hr
      exact hRR _ s3 s6 _ H5 _ I3 hf3 I6 q
    · refine thn (T.item (cxC X N' scope s3.heap.objs.size fp s3 (upd H s.heap.objs.size (.lst []))) rfl rfl rfl hc i [] s5 _ H5 (fun _ _ => False) I5 (fpC H5 fr5) st5 go) fun r s6 ⟨u, hr, h6⟩ => ?_
      subst hr
      refine thn h6 fun _ s7 ⟨x, H7, I7, r7, y7, st7, fr7⟩ => ?_
      have I7' := I7.pinned (fpC H7 fr7) (T.obj _ _ st7)
      refine thn (hg _ _ _ _ _ s7 _ H7 x u _ I7' r7 (step x H7 y7)) fun _ s8 ⟨σ8, H8, I8, q8⟩ => ?_
      have again : ∀ {H9 : Hp} {σ9 : St} {s9 : Shared} {ys' : List V}, Inv (cxC X N' scope s3.heap.objs.size fp s3 (upd H s.heap.objs.size (.lst []))) ([] ++ pinsAt fp s7.heap) σ9 H9 s9 → (∃ m', m' < n ∧ W (i + 1) m' ys' σ9 H9) →
          ∃ m, m < n ∧ ∃ i ys σ' H', Inv (cxC X N' scope s3.heap.objs.size fp s3 (upd H s.heap.objs.size (.lst []))) [] σ' H' s9 ∧ tn i s9.heap ∧ (∀ b ∈ fp, H' b = none) ∧ W i m ys σ' H' := fun {H9 σ9 s9 ys'} I9 z => by
        obtain ⟨m', hm, w9⟩ := z
        refine ⟨m', hm, i + 1, ys', σ9, H9, I9.unpinned, T.keep _ _ _ st7 fun b hb ob e => (I9.pin (b, ob) (List.mem_append_right _ (List.mem_append_right _ (mem_pinsAt hb e)))).1, fun b hb => ?_, w9⟩
        obtain ⟨ob, e, d⟩ := T.obj _ _ st7 b hb
        exact (I9.pin (b, ob) (List.mem_append_right _ (List.mem_append_right _ (mem_pinsAt hb e)))).2.1
      have app : ∀ {s9 : Shared} {H9 : Hp} {y : V} {u9 : Value}, Inv (cxC X N' scope s3.heap.objs.size fp s3 (upd H s.heap.objs.size (.lst []))) ([] ++ pinsAt fp s7.heap) σ8 H9 s9 → RelV y u9 → (H9 s.heap.objs.size = some (.lst ys) ∧ ∃ m', m' < n ∧ W (i + 1) m' (ys ++ [y]) σ8 (upd H9 s.heap.objs.size (.lst (ys ++ [y])))) →
          wpAny (model X.prog X.w) X.A (call (.builtin "list.append") [.ref s.heap.objs.size, u9]) (fun _ s₅ => ∃ m, m < n ∧ ∃ i ys σ' H', Inv (cxC X N' scope s3.heap.objs.size fp s3 (upd H s.heap.objs.size (.lst []))) [] σ' H' s₅ ∧ tn i s₅.heap ∧ (∀ b ∈ fp, H' b = none) ∧ W i m ys σ' H') (fun _ _ => False) s9 := fun {s9 H9 y u9} I9 r9 z9 => by
        refine thn (mt_append (X := cxC X N' scope s3.heap.objs.size fp s3 (upd H s.heap.objs.size (.lst []))) _ s9 σ8 H9 (.ref s.heap.objs.size) [y] (.ref s.heap.objs.size) [u9] (fun _ H' => ∃ m', m' < n ∧ W (i + 1) m' (ys ++ [y]) σ8 H') I9 rfl (.cons r9 .nil) ⟨_, ys, y, rfl, rfl, z9.1, hz5, z9.2⟩) fun _ s10 ⟨_, H10, I10, _, z10⟩ => ?_
        exact again I10 z10
      cases tc with
      | none =>
        have hi : ifs = [] := ht
        subst hi
        refine wpAny_tests_nil ?_
        rw [if_pos rfl]
        exact thn (he _ _ _ _ _ s8 σ8 H8 _ I8 q8) fun u9 s9 ⟨y, H9, I9, r9, z9⟩ => app I9 r9 z9
      | some c =>
        obtain ⟨e, he1, hce⟩ := ht
        subst he1
        refine wpAny_tests_one (thn (hce _ _ _ _ _ s8 σ8 H8 _ I8 q8) fun b s9 ⟨H9, I9, q9⟩ => ?_)
        cases b with
        | false =>
          rw [if_neg Bool.false_ne_true] at q9 ⊢
          exact again I9 q9
        | true =>
          rw [if_pos rfl] at q9 ⊢
          exact thn (he _ _ _ _ _ s9 σ8 H9 _ I9 q9) fun u10 s10 ⟨y, H10, I10, r10, z10⟩ => app I10 r10 z10
  exact codeAny_compStart_list loop (T.self X.A 0 _ _ _ st4 loop)
end
section
variable {X : Cx} {N' : List Str} {cap : List Nat} {scope : Scope} {elt tg iter : Expr} {ifs : List Expr} {pos : Pos} {wi : TI} {g : TG} {tc : Option TT} {te : TE}
theorem pe_lcomp (hc : X.calm = true) (o : CmpOk X N' cap scope) (hi : PI X tg iter wi)
    (hg : ∀ C fp s H, PG (cxC X N' scope C fp s H) tg g) (ht : match (generalizing := false) tc with | none => ifs = [] | some c => ∃ e, ifs = [e] ∧ ∀ C fp s H, PT (cxC X N' scope C fp s H) e c) (he : ∀ C fp s H, PE (cxC X N' scope C fp s H) elt te)
    (hs : ∀ x, foldedSetIterable iter X.env x = pure x := by intro _; rfl) : PE X (.ListComp elt [⟨tg, iter, ifs, 0⟩] scope pos) (tComp cap N'.length wi g tc te) := by
  intro pins s σ H Q I h
  rw [eval_ListComp]
  refine wpAny_comprehension_free (use := none) rfl hs (closureFor_eq (o.hasc I.ok)) o.kind o.nm (thn (hi pins s σ H _ I h) fun xv s1 h1 => thn h1 fun itv s2 h2 => ?_)
  obtain ⟨it, fp, tn, J, H2, rfl, I2, T, st2, f2, hw⟩ := h2
  refine comp_core (Q := Q) hc o hg ht he I2 T st2 f2 hw ?_
  intro p s3 s' H3 H4 σ4 I3 f3 J4 q
  obtain ⟨m, hn, _⟩ := J4.loc
  exact ⟨m, hn, fun h' sb => ⟨.ref p, H4, inv_comp_end I3 f3 J4 sb, rfl, q⟩⟩
end
noncomputable def addD : D → D → Option D
  | .int i, .int j => some (.int (i + j))
  | .str s, .str t => if s.length + t.length ≤ sizeLine then some (.str (s ++ t)) else none
  | .lst l, .lst m => if l.length + m.length ≤ sizeLine then some (.lst (l ++ m)) else none
  | .tup l, .tup m => if l.length + m.length ≤ sizeLine ∧ l.isEmpty = false ∧ m.isEmpty = false then some (.tup (l ++ m)) else none
  | _, _ => none
noncomputable def subD : D → D → Option D
  | .int i, .int j => some (.int (i - j))
  | _, _ => none
noncomputable def mulD : D → D → Option D
  | .int i, .int j => if (-(2 ^ 64) < i ∧ i < 2 ^ 64) ∨ (-(2 ^ 64) < j ∧ j < 2 ^ 64) then some (.int (i * j)) else none
  | _, _ => none
noncomputable def fdivD : D → D → Option D
  | .int i, .int j => if 0 < j ∧ j < 1073741824 then some (.int (i / j)) else none
  | _, _ => none
noncomputable def modD : D → D → Option D
  | .int i, .int j => if 0 < j then some (.int (i % j)) else none
  | _, _ => none
noncomputable def powD : D → D → Option D
  | .int i, .int j => if 0 ≤ j ∧ j ≤ 1000000 ∧ i.natAbs < 2 ^ 64 then some (.int (i ^ j.toNat)) else none
  | _, _ => none
noncomputable def gtD : D → D → Option D
  | .int i, .int j => some (.bl (decide (j < i)))
  | _, _ => none
noncomputable def eqS : D → D → Option Bool
  | .int i, .int j => some (decide (i = j))
  | .str s, .str t => some (decide (s = t))
  | .bl a, .bl b => some (decide (a = b))
  | .non, .non => some true
  | .non, .int _ => some false
  | .int _, .non => some false
  | .non, .str _ => some false
  | .str _, .non => some false
  | .int _, .str _ => some false
  | .str _, .int _ => some false
  | _, _ => none
noncomputable def eqD (x y : D) : Option D := (eqS x y).map .bl
noncomputable def notND (x y : D) : Option D := match y with
  | .non => match x with
    | .non => some (.bl false)
    | _ => some (.bl true)
  | _ => none
section
variable {X : Cx}
noncomputable def rCatR (K : Fg) : R2 := fun x y H Q => ∃ l b xs zs, x = .ref l ∧ y = .ref b ∧ SqL K H l xs ∧ SqL K H b zs ∧ xs.length + zs.length ≤ sizeLine ∧ ∀ p, H p = none → Q (.ref p) (upd H p (.lst (xs ++ zs)))
theorem op_catR : OpR X (binaryOp .Add) (rCatR X.K) := by
  intro pins s σ H x y v u Q I rx ry h
  obtain ⟨l, b, xs, zs, rfl, rfl, hH, hB, hz, q⟩ := h
  cases rx
  cases ry
  obtain ⟨its, r, ⟨⟨cls, dd, data, sl⟩, n, e, hc, hd0, hd⟩, z⟩ := I.list hH
  obtain ⟨its2, r2, ⟨⟨cls2, dd2, data2, sl2⟩, n2, e2, hc2, hd02, hd2⟩, z2⟩ := I.list hB
  have hl := r.length
  have hl2 := r2.length
  cases (show cls = _ from hc); cases (show dd = _ from hd0); cases (show data = _ from hd)
  cases (show cls2 = _ from hc2); cases (show dd2 = _ from hd02); cases (show data2 = _ from hd2)
  refine concat_meets ⟨_, e, rfl⟩ ⟨_, e2, rfl⟩ noFill_list_add seq_list_add PySem.F.slot_list_add PySem.F.entry_list_add (PySem.F.args_list_add_2 _ _) (list_addW l b its.toArray its2.toArray n n2 none none sl sl2 (by rw [List.size_toArray, List.size_toArray]; omega)) ⟨e, e2, ?_⟩
  have ea : its.toArray ++ its2.toArray = (its ++ its2).toArray := by simp
  rw [ea]
  exact ⟨.ref _, _, I.lnew (t' := s.toks) (r.append r2) (by rw [List.length_append]; omega), rfl, q _ I.fresh⟩
noncomputable def rPlus (K : Fg) : R2 := fun x y H Q => rI0 (fun i j => .int (i + j)) x y H Q ∨ (∃ i j, x = .str i ∧ y = .str j ∧ i.length + j.length ≤ sizeLine ∧ Q (.str (i ++ j)) H) ∨ rCatR K x y H Q ∨ rCatT K x y H Q
theorem op_plus : OpR X (binaryOp .Add) (rPlus X.K) := op_add.or (op_add_str.or (op_catR.or op_catT))
theorem str_app (s t : List Nat) : ((⟨s.toArray⟩ : Str) ++ (⟨t.toArray⟩ : Str)) = (⟨(s ++ t).toArray⟩ : Str) := by
  show (⟨s.toArray ++ t.toArray⟩ : Str) = _
  simp
theorem str_len (s : List Nat) : (⟨s.toArray⟩ : Str).length = s.length := by simp [Str.length]
theorem od_plus {K : Fg} : OpD K (rPlus K) addD := by
  intro O H dx dy d vx vy Q ol ix iy e q
  cases dx <;> cases dy <;> first | (simp only [addD, reduceCtorEq] at e; done) | skip
  · simp only [addD, Option.some.injEq] at e
    subst e
    rw [Is.int_iff] at ix iy
    exact .inl ⟨_, _, ix, iy, q _ H (Same.refl H) (by rw [Is.int_iff])⟩
  · rename_i s t
    simp only [addD] at e
    split at e
    · rename_i hl
      cases e
      rw [Is.str_iff] at ix iy
      refine .inr (.inl ⟨_, _, ix, iy, by rw [str_len, str_len]; exact hl, q _ H (Same.refl H) ?_⟩)
      rw [Is.str_iff, str_app]
    · cases e
  · rename_i l m
    simp only [addD] at e
    split at e
    · rename_i hl
      cases e
      rw [Is.tup_iff] at ix iy
      obtain ⟨a, xs, rfl, hs, il⟩ := ix
      obtain ⟨b, ys, rfl, hs2, il2⟩ := iy
      have e1 := il.length
      have e2 := il2.length
      refine .inr (.inr (.inr ⟨a, b, xs, ys, rfl, rfl, hs, hs2, ?_, by omega, fun z => ?_, fun _ p hp => q _ _ (same_upd hp) ?_⟩))
      · rintro rfl
        have : l = [] := by simpa using e1
        subst this
        simp at hl
      · subst z
        have : m = [] := by simpa using e2
        subst this
        simp at hl
      · rw [Is.tup_iff]
        exact ⟨p, _, rfl, SqT.of upd_same, (il.append il2).same (same_upd hp) ol⟩
    · cases e
  · rename_i l m
    simp only [addD] at e
    split at e
    · rename_i hl
      cases e
      rw [Is.lst_iff] at ix iy
      obtain ⟨a, xs, rfl, hs, il⟩ := ix
      obtain ⟨b, ys, rfl, hs2, il2⟩ := iy
      have e1 := il.length
      have e2 := il2.length
      refine .inr (.inr (.inl ⟨a, b, xs, ys, rfl, rfl, hs.sq, hs2.sq, by omega, fun p hp => q _ _ (same_upd hp) ?_⟩))
      rw [Is.lst_iff]
      refine ⟨p, _, rfl, .inl ⟨fun z => ?_, .inl upd_same⟩, (il.append il2).same (same_upd hp) ol⟩
      obtain ⟨zs, ez, _⟩ := ol p z
      rw [hp] at ez; cases ez
    · cases e
theorem od_I {K : Fg} {C : Int → Int → Prop} {g : Int → Int → V} {m : D → D → Option D} (h : ∀ dx dy d, m dx dy = some d → ∃ i j, dx = .int i ∧ dy = .int j ∧ C i j ∧ ∀ O H, Is K O H d (g i j)) : OpD K (rI C g) m := by
  intro O H dx dy d vx vy Q ol ix iy e q
  obtain ⟨i, j, rfl, rfl, hc, hd⟩ := h dx dy d e
  rw [Is.int_iff] at ix iy
  exact ⟨i, j, ix, iy, hc, q _ H (Same.refl H) (hd O H)⟩
theorem od_I0 {K : Fg} {g : Int → Int → V} {m : D → D → Option D} (h : ∀ dx dy d, m dx dy = some d → ∃ i j, dx = .int i ∧ dy = .int j ∧ ∀ O H, Is K O H d (g i j)) : OpD K (rI0 g) m := by
  intro O H dx dy d vx vy Q ol ix iy e q
  obtain ⟨i, j, rfl, rfl, hd⟩ := h dx dy d e
  rw [Is.int_iff] at ix iy
  exact ⟨i, j, ix, iy, q _ H (Same.refl H) (hd O H)⟩
theorem od_sub {K : Fg} : OpD K (rI0 fun i j => .int (i - j)) subD := od_I0 fun dx dy d e => by
  cases dx <;> cases dy <;> first | (simp only [subD, reduceCtorEq] at e; done) | skip
  simp only [subD, Option.some.injEq] at e
  subst e
  exact ⟨_, _, rfl, rfl, fun O H => by rw [Is.int_iff]⟩
theorem od_mul {K : Fg} : OpD K (rI CMul fun i j => .int (i * j)) mulD := od_I fun dx dy d e => by
  cases dx <;> cases dy <;> first | (simp only [mulD, reduceCtorEq] at e; done) | skip
  simp only [mulD] at e
  split at e
  · rename_i hc; cases e; exact ⟨_, _, rfl, rfl, hc, fun O H => by rw [Is.int_iff]⟩
  · cases e
theorem od_fdiv {K : Fg} : OpD K (rI CDiv fun i j => .int (i / j)) fdivD := od_I fun dx dy d e => by
  cases dx <;> cases dy <;> first | (simp only [fdivD, reduceCtorEq] at e; done) | skip
  simp only [fdivD] at e
  split at e
  · rename_i hc; cases e; exact ⟨_, _, rfl, rfl, hc, fun O H => by rw [Is.int_iff]⟩
  · cases e
theorem od_mod {K : Fg} : OpD K (rI (fun _ j => 0 < j) fun i j => .int (i % j)) modD := od_I fun dx dy d e => by
  cases dx <;> cases dy <;> first | (simp only [modD, reduceCtorEq] at e; done) | skip
  simp only [modD] at e
  split at e
  · rename_i hc; cases e; exact ⟨_, _, rfl, rfl, hc, fun O H => by rw [Is.int_iff]⟩
  · cases e
theorem od_pow {K : Fg} : OpD K (rI CPow fun i j => .int (i ^ j.toNat)) powD := od_I fun dx dy d e => by
  cases dx <;> cases dy <;> first | (simp only [powD, reduceCtorEq] at e; done) | skip
  simp only [powD] at e
  split at e
  · rename_i hc; cases e; exact ⟨_, _, rfl, rfl, hc, fun O H => by rw [Is.int_iff]⟩
  · cases e
theorem od_gt {K : Fg} : OpD K (rI0 fun i j => .bl (decide (j < i))) gtD := od_I0 fun dx dy d e => by
  cases dx <;> cases dy <;> first | (simp only [gtD, reduceCtorEq] at e; done) | skip
  simp only [gtD, Option.some.injEq] at e
  subst e
  exact ⟨_, _, rfl, rfl, fun O H => by rw [Is.bl_iff]⟩
theorem eqS_ok {K : Fg} {O : Addr → Prop} {H : Hp} {dx dy : D} {vx vy : V} {b : Bool} (ix : Is K O H dx vx) (iy : Is K O H dy vy) (e : eqS dx dy = some b) : scal vx vy = true ∧ decide (vx = vy) = b := by
  cases dx <;> cases dy <;> first | (simp only [eqS, reduceCtorEq] at e; done) | skip
  all_goals simp only [eqS, Option.some.injEq] at e
  all_goals subst e
  all_goals first | rw [Is.int_iff] at ix | rw [Is.str_iff] at ix | rw [Is.bl_iff] at ix | rw [Is.non_iff] at ix
  all_goals first | rw [Is.int_iff] at iy | rw [Is.str_iff] at iy | rw [Is.bl_iff] at iy | rw [Is.non_iff] at iy
  all_goals subst ix iy
  all_goals refine ⟨rfl, ?_⟩
  all_goals simp
theorem od_eq {K : Fg} : OpD K rEq eqD := by
  intro O H dx dy d vx vy Q ol ix iy e q
  obtain ⟨b, e1, rfl⟩ := map_some e
  obtain ⟨h1, h2⟩ := eqS_ok ix iy e1
  exact ⟨h1, q _ H (Same.refl H) (by rw [Is.bl_iff, h2])⟩
theorem Is.non_only {K : Fg} {O : Addr → Prop} {H : Hp} {d : D} {v : V} (h : Is K O H d v) : decide (v = .non) = (match d with | .non => true | _ => false) := by
  cases d with
  | dct ks l => rw [Is.dct_iff] at h; obtain ⟨a, kvs, rfl, _⟩ := h; rfl
  | non => rw [Is.non_iff] at h; subst h; rfl
  | bl b => rw [Is.bl_iff] at h; subst h; rfl
  | int i => rw [Is.int_iff] at h; subst h; rfl
  | str s => rw [Is.str_iff] at h; subst h; rfl
  | ty n => rw [Is.ty_iff] at h; subst h; rfl
  | ref a => rw [Is.ref_iff] at h; subst h; rfl
  | tup l => rw [Is.tup_iff] at h; obtain ⟨a, xs, rfl, _⟩ := h; rfl
  | lst l => rw [Is.lst_iff] at h; obtain ⟨a, xs, rfl, _⟩ := h; rfl
theorem od_notN {K : Fg} : OpD K (fun x y H Q => y = .non ∧ Q (.bl (!decide (x = .non))) H) notND := by
  intro O H dx dy d vx vy Q ol ix iy e q
  unfold notND at e
  cases dy <;> first | (cases e; done) | skip
  rw [Is.non_iff] at iy
  refine ⟨iy, q _ H (Same.refl H) ?_⟩
  have h := ix.non_only
  cases dx <;> cases e <;> rw [Is.bl_iff, h] <;> rfl
noncomputable def flatD : D → Bool
  | .int _ => true
  | .str _ => true
  | _ => false
noncomputable def eqF : D → D → Bool
  | .int i, .int j => decide (i = j)
  | .str s, .str t => decide (s = t)
  | _, _ => false
noncomputable def inD (neg : Bool) (x y : D) : Option D := match y with
  | .lst l => if flatD x = true ∧ l.all flatD = true then some (.bl (if neg then !(l.any fun z => eqF z x) else l.any fun z => eqF z x)) else none
  | .tup l => if flatD x = true ∧ l.all flatD = true then some (.bl (if neg then !(l.any fun z => eqF z x) else l.any fun z => eqF z x)) else none
  | _ => none
theorem flat_ok {K : Fg} {O : Addr → Prop} {H : Hp} {d : D} {v : V} (h : Is K O H d v) (f : flatD d = true) : flatV v = true := by
  cases d <;> first | (cases f; done) | skip
  · rw [Is.int_iff] at h; subst h; rfl
  · rw [Is.str_iff] at h; subst h; rfl
theorem eqF_ok {K : Fg} {O : Addr → Prop} {H : Hp} {d e : D} {v u : V} (h : Is K O H d v) (f : flatD d = true) (h' : Is K O H e u) (f' : flatD e = true) : eqV v u = eqF d e := by
  cases d <;> first | (cases f; done) | skip
  all_goals cases e <;> first | (cases f'; done) | skip
  all_goals first | rw [Is.int_iff] at h | rw [Is.str_iff] at h
  all_goals first | rw [Is.int_iff] at h' | rw [Is.str_iff] at h'
  all_goals subst h h'
  · simp [eqV, eqF]
    rw [Bool.beq_eq_decide_eq]
  · rfl
  · rfl
  · rename_i s t
    simp only [eqV, eqF]
    by_cases z : s = t
    · subst z; simp
    · rw [decide_eq_false z, beq_eq_false_iff_ne]
      intro z'
      have : s.toArray = t.toArray := by injection z'
      exact z (by simpa using this)
theorem in_ok {K : Fg} {O : Addr → Prop} {H : Hp} {d : D} {v : V} (h : Is K O H d v) (f : flatD d = true) : ∀ {l : List D} {xs : List V}, IsL K O H l xs → l.all flatD = true → xs.all flatV = true ∧ inV v xs = l.any fun z => eqF z d
  | [], xs, il, _ => by unfold IsL at il; subst il; exact ⟨rfl, rfl⟩
  | e :: l, xs, il, fa => by
    unfold IsL at il
    obtain ⟨u, r, rfl, i1, i2⟩ := il
    rw [List.all_cons, Bool.and_eq_true] at fa
    obtain ⟨q1, q2⟩ := in_ok h f i2 fa.2
    refine ⟨by rw [List.all_cons, flat_ok i1 fa.1, q1]; rfl, ?_⟩
    unfold inV at q2 ⊢
    rw [List.any_cons, List.any_cons, q2, eqF_ok i1 fa.1 h f]
theorem od_in {K : Fg} (neg : Bool) : OpD K (rIn K neg) (inD neg) := by
  intro O H dx dy d vx vy Q ol ix iy e q
  unfold inD at e
  cases dy <;> first | (cases e; done) | skip
  · rename_i l
    simp only at e
    split at e
    · rename_i hl
      cases e
      rw [Is.tup_iff] at iy
      obtain ⟨a, xs, rfl, hs, il⟩ := iy
      obtain ⟨q1, q2⟩ := in_ok ix hl.1 il hl.2
      exact ⟨a, xs, rfl, .inr hs, flat_ok ix hl.1, q1, q _ H (Same.refl H) (by rw [Is.bl_iff, q2])⟩
    · cases e
  · rename_i l
    simp only at e
    split at e
    · rename_i hl
      cases e
      rw [Is.lst_iff] at iy
      obtain ⟨a, xs, rfl, hs, il⟩ := iy
      obtain ⟨q1, q2⟩ := in_ok ix hl.1 il hl.2
      exact ⟨a, xs, rfl, .inl hs.sq, flat_ok ix hl.1, q1, q _ H (Same.refl H) (by rw [Is.bl_iff, q2])⟩
    · cases e
end
noncomputable def ixD : D → D → Option D
  | .lst l, .int i => atI l i
  | .tup l, .int i => atI l i
  | .str s, .int i => if s.length ≤ sizeLine then (atI s i).map fun c => .str [c] else none
  | _, _ => none
theorem atI_len {α β : Type} {l : List α} {m : List β} {i : Int} {x : α} (hl : l.length = m.length) (e : atI l i = some x) : ∃ j : Nat, l[j]? = some x ∧ ∀ y, m[j]? = some y → atI m i = some y := by
  unfold atI at e ⊢
  obtain ⟨j, e1, e2⟩ := bind_some e
  exact ⟨j, e2, fun y ey => by rw [← hl, e1]; exact ey⟩
noncomputable def mLenB (fl : ML) : ME := fun r => (fl r).map fun l => .int l.length
section
variable {X : Cx} {pos : Pos} {a b : Expr} {f g : ME}
theorem od_ix {K : Fg} : OpD K (rIx K) ixD := by
  intro O H dx dy d vx vy Q ol ix iy e q
  cases dx <;> cases dy <;> first | (simp only [ixD, reduceCtorEq] at e; done) | skip
  · rename_i s i
    simp only [ixD] at e
    split at e
    · rename_i hl
      obtain ⟨c, e1, rfl⟩ := map_some e
      rw [Is.str_iff] at ix
      rw [Is.int_iff] at iy
      exact .inr (.inr ⟨_, i, c, ix, iy, by rw [str_len]; exact hl, by simpa using e1, q _ H (Same.refl H) (by rw [Is.str_iff])⟩)
    · cases e
  · rename_i l i
    simp only [ixD] at e
    rw [Is.tup_iff] at ix
    rw [Is.int_iff] at iy
    obtain ⟨p, xs, rfl, hs, il⟩ := ix
    obtain ⟨j, e1, e2⟩ := atI_len il.length e
    obtain ⟨v, e3, iv⟩ := il.get e1
    exact .inr (.inl ⟨p, xs, i, v, rfl, iy, hs, e2 v e3, q _ H (Same.refl H) iv⟩)
  · rename_i l i
    simp only [ixD] at e
    rw [Is.lst_iff] at ix
    rw [Is.int_iff] at iy
    obtain ⟨p, xs, rfl, hs, il⟩ := ix
    obtain ⟨j, e1, e2⟩ := atI_len il.length e
    obtain ⟨v, e3, iv⟩ := il.get e1
    exact .inl ⟨p, xs, i, v, rfl, iy, hs.sq, e2 v e3, q _ H (Same.refl H) iv⟩
theorem de_ix (ha : DE X a f) (hb : DE X b g) (hs : PlainIx b := by intro _ _; rfl) : DE X (.Subscript a b pos) (mBin ixD f g) :=
  PE.conseq (pe_ix ix_seq ha hb hs) fun σ H Q h => two (ta := lE X.K f) (tb := lE X.K g) od_ix h
noncomputable def lenD : D → Option D
  | .lst l => some (.int l.length)
  | .tup l => some (.int l.length)
  | .str s => if s.length ≤ sizeLine then some (.int s.length) else none
  | _ => none
theorem call_lenA : CallR X (.builtin "len") (fun xs H Q => (∃ p ys, xs = [.ref p] ∧ (SqL X.K H p ys ∨ SqT X.K H p ys) ∧ Q (.int ys.length) H) ∨ (∃ z, xs = [.str z] ∧ z.length ≤ sizeLine ∧ Q (.int z.length) H)) := call_len_seq.or call_len_str
theorem lenD_ok {K : Fg} {O : Addr → Prop} {H : Hp} {x d : D} {v : V} {Q : VK} (i1 : Is K O H x v) (e : lenD x = some d) (q : ∀ v, Is K O H d v → Q v H) :
    (∃ p ys, [v] = [.ref p] ∧ (SqL K H p ys ∨ SqT K H p ys) ∧ Q (.int ys.length) H) ∨ (∃ z, [v] = [.str z] ∧ z.length ≤ sizeLine ∧ Q (.int z.length) H) := by
  cases x <;> first | (simp only [lenD, reduceCtorEq] at e; done) | skip
  · simp only [lenD] at e
    split at e
    · rename_i hl
      cases e
      rw [Is.str_iff] at i1
      subst i1
      exact .inr ⟨_, rfl, by rw [str_len]; exact hl, q _ (by rw [Is.int_iff, str_len])⟩
    · cases e
  · simp only [lenD, Option.some.injEq] at e
    subst e
    rw [Is.tup_iff] at i1
    obtain ⟨p, ys, rfl, hs, il⟩ := i1
    exact .inl ⟨p, ys, rfl, .inr hs, q _ (by rw [Is.int_iff, il.length])⟩
  · simp only [lenD, Option.some.injEq] at e
    subst e
    rw [Is.lst_iff] at i1
    obtain ⟨p, ys, rfl, hs, il⟩ := i1
    exact .inl ⟨p, ys, rfl, .inl hs.sq, q _ (by rw [Is.int_iff, il.length])⟩
theorem de_len {p' : Pos} (hg : Gl X "len") (hm : X.mg "len" = none) (ha : DE X a f) (hs : starEach [a] X.env = (false, eval a X.env) :: starEach [] X.env := by rfl) : DE X (.Call (.Name "len" p') [a] [] pos) (mUn lenD f) := by
  refine PE.conseq (pe_callB call_lenA hg hm PySem.boot_len (pa_cons ha pa_nil hs) (he := hs)) fun σ H Q h => ?_
  obtain ⟨O0, r, d, hR, e, q⟩ := h
  obtain ⟨x, e1, e2⟩ := bind_some e
  exact ⟨O0, r, x, hR, e1, fun v H1 s1 i1 => lenD_ok i1 e2 fun v' iv => q v' H1 s1 iv⟩
theorem de_lenB {p' : Pos} {fl : ML} (hg : Gl X "len") (hm : X.mg "len" = none) (ha : DB X a fl) (hs : starEach [a] X.env = (false, eval a X.env) :: starEach [] X.env := by rfl) : DE X (.Call (.Name "len" p') [a] [] pos) (mLenB fl) := by
  refine PE.conseq (pe_callB call_lenA hg hm PySem.boot_len (pa_cons ha pa_nil hs) (he := hs)) fun σ H Q h => ?_
  obtain ⟨O0, r, d, hR, e, q⟩ := h
  obtain ⟨l, e1, rfl⟩ := map_some e
  exact ⟨O0, r, l, hR, e1, fun p xs H1 s1 rd il => .inl ⟨p, xs, rfl, .inl rd, q _ H1 s1 (by rw [Is.int_iff, il.length])⟩⟩
noncomputable def tyN : D → Option String
  | .non => some "NoneType"
  | .bl _ => some "bool"
  | .int _ => some "int"
  | .str _ => some "str"
  | .tup _ => some "tuple"
  | .lst _ => some "list"
  | _ => none
noncomputable def subN : List (String × String × Bool) := [("bool", "int", true), ("NoneType", "int", false), ("NoneType", "str", false), ("NoneType", "bool", false), ("NoneType", "tuple", false), ("NoneType", "list", false),
  ("bool", "str", false), ("bool", "tuple", false), ("bool", "list", false), ("int", "bool", false), ("int", "str", false), ("int", "tuple", false), ("int", "list", false),
  ("str", "int", false), ("str", "bool", false), ("str", "tuple", false), ("str", "list", false), ("tuple", "int", false), ("tuple", "bool", false), ("tuple", "str", false), ("tuple", "list", false),
  ("list", "int", false), ("list", "bool", false), ("list", "str", false), ("list", "tuple", false)]
noncomputable def instN (t T : String) : Option Bool := if t = T then some true else (subN.find? fun x => x.1 == t && x.2.1 == T).map (·.2.2)
noncomputable def instD (T : String) (d : D) : Option D := (tyN d).bind fun t => (instN t T).map .bl
theorem kit_ok (K : Fg) {t T : String} {b : Bool} (e : instN t T = some b) : PySem.W.kitOne K (.type t) (.type T) = some b := by
  unfold instN at e
  split at e
  · rename_i h; subst h; cases e; unfold PySem.W.kitOne; rw [if_pos (by simp)]
  · obtain ⟨⟨x, y, c⟩, e1, e2⟩ := map_some e
    have hm := List.mem_of_find?_eq_some e1
    have hp := List.find?_some e1
    simp only [Bool.and_eq_true, beq_iff_eq] at hp
    obtain ⟨rfl, rfl⟩ := hp
    subst e2
    unfold subN at hm
    simp only [List.mem_cons, List.not_mem_nil, or_false, Prod.mk.injEq] at hm
    rcases hm with ⟨rfl, rfl, rfl⟩ | ⟨rfl, rfl, rfl⟩ | ⟨rfl, rfl, rfl⟩ | ⟨rfl, rfl, rfl⟩ | ⟨rfl, rfl, rfl⟩ | ⟨rfl, rfl, rfl⟩ | ⟨rfl, rfl, rfl⟩ | ⟨rfl, rfl, rfl⟩ | ⟨rfl, rfl, rfl⟩ | ⟨rfl, rfl, rfl⟩ | ⟨rfl, rfl, rfl⟩ | ⟨rfl, rfl, rfl⟩ | ⟨rfl, rfl, rfl⟩ | ⟨rfl, rfl, rfl⟩ | ⟨rfl, rfl, rfl⟩ | ⟨rfl, rfl, rfl⟩ | ⟨rfl, rfl, rfl⟩ | ⟨rfl, rfl, rfl⟩ | ⟨rfl, rfl, rfl⟩ | ⟨rfl, rfl, rfl⟩ | ⟨rfl, rfl, rfl⟩ | ⟨rfl, rfl, rfl⟩ | ⟨rfl, rfl, rfl⟩ | ⟨rfl, rfl, rfl⟩ | ⟨rfl, rfl, rfl⟩ <;> kernel_rfl
noncomputable def TyA (K : Fg) (H : Hp) (x : V) (t : String) : Prop := match x with
  | .non => t = "NoneType"
  | .bl _ => t = "bool"
  | .int _ => t = "int"
  | .str _ => t = "str"
  | .ref a => (t = "list" ∧ ∃ xs, SqL K H a xs) ∨ (t = "tuple" ∧ ∃ xs, SqT K H a xs)
  | _ => False
theorem call_isinst : CallR X (.builtin "isinstance") (fun xs H Q => ∃ x t T b, xs = [x, .ty T] ∧ TyA X.K H x t ∧ instN t T = some b ∧ Q (.bl b) H) := by
  intro pins s σ H xs us Q I r h
  obtain ⟨x, t, T, b, rfl, ht, e, q⟩ := h
  obtain ⟨u, v, rfl, r1, r2⟩ := Vals.two r
  cases (show v = Value.type T from r2)
  have e' := kit_ok X.K e
  have fin : ∀ tk, EP X pins σ Q (.bool b) { s with toks := tk } := fun tk => ⟨.bl b, H, I.tok tk, rfl, q⟩
  cases x with
  | non => cases (show t = _ from ht); exact isinst_ok I r1 (.non) e' fin
  | bl y => cases (show t = _ from ht); exact isinst_ok I r1 (.bl y) e' fin
  | int i => cases (show t = _ from ht); exact isinst_ok I r1 (.int i) e' fin
  | str y => cases (show t = _ from ht); exact isinst_ok I r1 (.str y) e' fin
  | ref a =>
    cases (show u = Value.ref a from r1)
    rcases (show (t = "list" ∧ ∃ xs, SqL X.K H a xs) ∨ (t = "tuple" ∧ ∃ xs, SqT X.K H a xs) from ht) with ⟨rfl, xs, hs⟩ | ⟨rfl, xs, hs⟩
    · obtain ⟨its, _, ⟨o, n, h1, h2, _⟩, _⟩ := I.list hs
      exact PySem.W.kia_one PySem.W.kitx_list I.kIn ⟨o, h1, h2⟩ e' (fun z => nomatch z) fin
    · obtain ⟨its, _, ⟨o, h1, h2, _⟩, _⟩ := I.tuple hs
      exact PySem.W.kia_one PySem.W.kitx_tuple I.kIn ⟨o, h1, h2⟩ e' (fun z => nomatch z) fin
  | _ => exact False.elim ht
theorem tyA_ok {K : Fg} {O : Addr → Prop} {H : Hp} {d : D} {v : V} {t : String} (h : Is K O H d v) (e : tyN d = some t) : TyA K H v t := by
  cases d <;> first | (simp only [tyN, reduceCtorEq] at e; done) | skip
  all_goals simp only [tyN, Option.some.injEq] at e
  all_goals subst e
  · rw [Is.non_iff] at h; subst h; rfl
  · rw [Is.bl_iff] at h; subst h; rfl
  · rw [Is.int_iff] at h; subst h; rfl
  · rw [Is.str_iff] at h; subst h; rfl
  · rw [Is.tup_iff] at h; obtain ⟨a, xs, rfl, hs, _⟩ := h; exact .inr ⟨rfl, xs, hs⟩
  · rw [Is.lst_iff] at h; obtain ⟨a, xs, rfl, hs, _⟩ := h; exact .inl ⟨rfl, xs, hs.sq⟩
theorem de_isinst {p' pt : Pos} {x : Str} {T : String} (hg : Gl X "isinstance") (hm : X.mg "isinstance" = none) (ha : DE X a f) (hT : PE X (.Name x pt) (tC (.ty T))) (hs : starEach [a, .Name x pt] X.env = (false, eval a X.env) :: starEach [.Name x pt] X.env := by rfl) (hs2 : starEach [.Name x pt] X.env = (false, eval (.Name x pt) X.env) :: starEach [] X.env := by rfl) : DE X (.Call (.Name "isinstance" p') [a, .Name x pt] [] pos) (mUn (instD T) f) := by
  refine PE.conseq (pe_callB call_isinst hg hm PyProof.Rows.boot_isinstance (pa_cons ha (pa_cons hT pa_nil hs2) hs) (he := hs)) fun σ H Q h => ?_
  obtain ⟨O0, r, d, hR, e, q⟩ := h
  obtain ⟨x, e1, e2⟩ := bind_some e
  obtain ⟨t, e3, e4⟩ := bind_some e2
  obtain ⟨b, e5, rfl⟩ := map_some e4
  exact ⟨O0, r, x, hR, e1, fun v H1 s1 i1 => ⟨v, t, T, b, rfl, tyA_ok i1 e3, e5, q _ H1 s1 (by rw [Is.bl_iff])⟩⟩
end
noncomputable def mtOf (r : En) (i : Nat) : Option (List D) := (r[i]?).bind Sl.ml
noncomputable def putO (i : Nat) (l : List D) (r : En) : Option En := match r[i]? with
  | some (.o _) => some (r.set i (.o l))
  | some (.p _) => some (r.set i (.p l))
  | _ => none
section
variable {K : Fg} {O0 : Addr → Prop} {H H' : Hp} {r : En} {σ : St} {i : Nat} {a : Addr} {l l' : List D}
theorem putO_some {r' : En} (e : putO i l' r = some r') : ∃ x y, r[i]? = some x ∧ r' = r.set i y ∧ y.own = some l' ∧ y.mt = some l' ∧ (∃ l, x.mt = some l) ∧ (∀ m, y = .p m ↔ m = l' ∧ ∃ n, x = .p n) ∧ (∀ m, y = .o m ↔ m = l' ∧ ∃ n, x = .o n) ∧ (∀ m, y ≠ .z m) ∧ y.ls = some l' ∧ ∀ ks m, y ≠ .d ks m := by
  unfold putO at e
  cases e1 : r[i]? with
  | none => rw [e1] at e; cases e
  | some x =>
    rw [e1] at e
    cases x with
    | o n => cases e; exact ⟨.o n, .o l', rfl, rfl, rfl, rfl, ⟨n, rfl⟩, fun m => ⟨(fun z => by cases z), (fun ⟨_, _, z⟩ => by cases z)⟩, fun m => ⟨(fun z => by cases z; exact ⟨rfl, n, rfl⟩), (fun ⟨z, _⟩ => by subst z; rfl)⟩, (fun m z => by cases z), rfl, (fun ks m z => by cases z)⟩
    | p n => cases e; exact ⟨.p n, .p l', rfl, rfl, rfl, rfl, ⟨n, rfl⟩, fun m => ⟨(fun z => by cases z; exact ⟨rfl, n, rfl⟩), (fun ⟨z, _⟩ => by subst z; rfl)⟩, fun m => ⟨(fun z => by cases z), (fun ⟨_, _, z⟩ => by cases z)⟩, (fun m z => by cases z), rfl, (fun ks m z => by cases z)⟩
    | _ => cases e
theorem R.put {r' : En} {xs' : List V} (h : R K O0 H r σ) (e : putO i l' r = some r') (ha : σ[i]? = some (some (.ref a))) (kp : ∀ b o, b ≠ a → H b = some o → H' b = some o) (lv : ∀ b, b ≠ a → H' b = none → H b = none) (e' : H' a = some (.lst xs')) (il : IsL K (Ow O0 r σ) H' l' xs') :
    R K O0 H' r' σ ∧ Kp H r σ H' r' σ := by
  obtain ⟨x, y, ex, rfl, yo, ym, ⟨l0, xm⟩, yp, yoo, yz, yl, yd⟩ := putO_some e
  have hi : i < r.length := (List.getElem?_eq_some_iff.mp ex).1
  have own_i : OwnAt r σ a := ⟨i, l0, by rw [ex]; exact mt_own xm, ha⟩
  have mut_i : MutAt r σ a := ⟨i, l0, by rw [ex]; exact xm, ha⟩
  have atO : ∀ b, OwnAt (r.set i y) σ b → OwnAt r σ b := fun b ⟨j, m, e1, q1⟩ => by
    by_cases hj : i = j
    · subst hj; rw [ha] at q1; cases q1; exact own_i
    · rw [get_set_ne hj] at e1; exact ⟨j, m, e1, q1⟩
  have atM : ∀ b, MutAt (r.set i y) σ b → MutAt r σ b := fun b ⟨j, m, e1, q1⟩ => by
    by_cases hj : i = j
    · subst hj; rw [ha] at q1; cases q1; exact mut_i
    · rw [get_set_ne hj] at e1; exact ⟨j, m, e1, q1⟩
  have sub : ∀ b, Ow O0 (r.set i y) σ b → H b ≠ none → Ow O0 r σ b := fun b z _ => z.imp id (atO b)
  have sub' : ∀ b, Ow O0 (r.set i y) σ b → H' b ≠ none → Ow O0 r σ b := fun b z _ => z.imp id (atO b)
  have keep : Keep (Ow O0 r σ) H H' := fun b o e1 n => kp b o (fun z => n (by subst z; exact .inr own_i)) e1
  have lst : ∀ b o, H b = some o → Mb o → ∃ o', H' b = some o' ∧ Mb o' := fun b o e1 mb => by
    by_cases hb : b = a
    · subst hb; exact ⟨.lst xs', e', trivial⟩
    · exact ⟨o, kp b _ hb e1, mb⟩
  have ol' : OLst (Ow O0 r σ) H' := fun b z => by obtain ⟨o, q, mb⟩ := h.ol b z; exact lst b o q mb
  refine ⟨⟨by simp [h.len], fun j d e1 => ?_, fun j m e1 => ?_, fun j k b m n e1 e2 q1 q2 => ?_, fun b z => ?_, fun j m b e1 q1 => ?_, fun j m b e1 q1 => ?_, fun j ks m e1 => ?_⟩, ⟨fun b o e1 n => kp b o (fun z => n (by subst z; exact mut_i)) e1, fun b e1 => ?_, lst, fun b z => .inl (atO b z), fun b z => .inl (atM b z), fun j m e1 => ?_, fun j m e1 => ?_⟩⟩
  · have hj : i ≠ j := fun z => by subst z; rw [get_set_eq hi] at e1; cases e1; cases yo
    rw [get_set_ne hj] at e1
    obtain ⟨v, q1, q2⟩ := h.val j d e1
    exact ⟨v, q1, Is.mono keep h.ol sub _ _ q2⟩
  · by_cases hj : i = j
    · subst hj
      rw [get_set_eq hi] at e1
      have : l' = m := by have e1' : y.ls = some m := e1; rw [yl] at e1'; exact Option.some.inj e1'
      subst this
      exact ⟨a, xs', ha, e', IsL.mono (Same.kp (Same.refl H') _) ol' sub' _ _ il⟩
    · rw [get_set_ne hj] at e1
      obtain ⟨b, ys, q1, q2, q3⟩ := h.own j m e1
      have hb : b ≠ a := fun z => by
        subst z
        exact hj (h.apart i j b l0 m (by rw [ex]; exact mt_own xm) (ls_own' e1) ha q1)
      exact ⟨b, ys, q1, kp b _ hb q2, IsL.mono keep h.ol sub _ _ q3⟩
  · have get : ∀ (j : Nat) (m : List D), ((r.set i y)[j]?).bind Sl.own = some m → ∃ m', (r[j]?).bind Sl.own = some m' := fun j m e1 => by
      by_cases hj : i = j
      · subst hj; exact ⟨l0, by rw [ex]; exact mt_own xm⟩
      · rw [get_set_ne hj] at e1; exact ⟨m, e1⟩
    obtain ⟨m', z1⟩ := get j m e1
    obtain ⟨n', z2⟩ := get k n e2
    exact h.apart j k b m' n' z1 z2 q1 q2
  · obtain ⟨o, q, mb⟩ := h.o0 b z; exact lst b o q mb
  · by_cases hj : i = j
    · subst hj
      rw [get_set_eq hi] at e1
      rcases e1 with e1 | e1 | ⟨ks, e1⟩
      · obtain ⟨_, n, z⟩ := (yoo m).mp (Option.some.inj e1)
        exact h.loc i n b (.inl (by rw [ex, z])) q1
      · exact absurd (Option.some.inj e1) (yz m)
      · exact absurd (Option.some.inj e1) (yd ks m)
    · rw [get_set_ne hj] at e1
      exact h.loc j m b e1 q1
  · by_cases hj : i = j
    · subst hj
      rw [get_set_eq hi] at e1
      obtain ⟨_, n, z⟩ := (yp m).mp (Option.some.inj e1)
      exact h.par i n b (by rw [ex, z]) q1
    · rw [get_set_ne hj] at e1
      exact h.par j m b e1 q1
  · have hj : i ≠ j := fun z => by subst z; rw [get_set_eq hi] at e1; exact yd ks m (Option.some.inj e1)
    rw [get_set_ne hj] at e1
    obtain ⟨b, kvs, q1, q2, q4, q3⟩ := h.dct j ks m e1
    have hb : b ≠ a := fun z => by
      subst z
      exact hj (h.apart i j b l0 m (by rw [ex]; exact mt_own xm) (by rw [e1]; rfl) ha q1)
    exact ⟨b, kvs, q1, kp b _ hb q2, q4, IsL.mono keep h.ol sub _ _ q3⟩
  · by_cases hb : b = a
    · subst hb; rw [e'] at e1; cases e1
    · exact lv b hb e1
  · by_cases hj : i = j
    · subst hj
      rw [ex] at e1
      exact ⟨⟨l', by rw [get_set_eq hi, (yp l').mpr ⟨rfl, m, Option.some.inj e1⟩]⟩, rfl⟩
    · exact ⟨⟨m, by rw [get_set_ne hj]; exact e1⟩, rfl⟩
  · have hj : i ≠ j := fun z => by subst z; rw [ex] at e1; cases e1; cases xm
    exact ⟨by rw [get_set_ne hj]; exact e1, rfl⟩
theorem R.upd {r' : En} {xs xs' : List V} (h : R K O0 H r σ) (e : putO i l' r = some r') (ha : σ[i]? = some (some (.ref a))) (hx : H a = some (.lst xs)) (il : IsL K (Ow O0 r σ) H l' xs') : R K O0 (upd H a (.lst xs')) r' σ ∧ Kp H r σ (upd H a (.lst xs')) r' σ := by
  have own_a : Ow O0 r σ a := by
    obtain ⟨x, y, ex, _, _, _, ⟨l0, xm⟩, _⟩ := putO_some e
    exact .inr ⟨i, l0, by rw [ex]; exact mt_own xm, ha⟩
  refine h.put e ha (fun b o hb e1 => by rw [upd_ne hb]; exact e1) (fun b hb e1 => by rw [upd_ne hb] at e1; exact e1) upd_same ?_
  exact IsL.mono (fun b o e1 n => by rw [upd_ne (fun z => n (by subst z; exact own_a))]; exact e1) h.ol (fun _ z _ => z) _ _ il
end
noncomputable def mApp (i : Nat) (f : ME) : En → Option (D × En) := fun r => (f r).bind fun d => (mtOf r i).bind fun l => if l.length < sizeLine then (putO i (l ++ [d]) r).map fun r' => (.non, r') else none
noncomputable def mAppX (i : Nat) (f : En → Option (D × En)) : En → Option (D × En) := fun r0 => (f r0).bind fun p => (mtOf r0 i).bind fun _ => (mtOf p.2 i).bind fun l => if l.length < sizeLine then (putO i (l ++ [p.1]) p.2).map fun r' => (.non, r') else none
noncomputable def mPop (i : Nat) : En → Option (D × En) := fun r => (mtOf r i).bind fun l => (l[l.length - 1]?).bind fun d => (putO i l.dropLast r).map fun r' => (d, r')
noncomputable def mExt (i : Nat) (f : ME) : En → Option (D × En) := fun r => (f r).bind fun d => (itemsD d).bind fun m => (mtOf r i).bind fun l => if l.length + m.length ≤ sizeLine then (putO i (l ++ m) r).map fun r' => (.non, r') else none
theorem IsL.dropLast {K : Fg} {O : Addr → Prop} {H : Hp} {l : List D} {vs : List V} (h : IsL K O H l vs) : IsL K O H l.dropLast vs.dropLast := by
  rw [List.dropLast_eq_take, List.dropLast_eq_take, h.length]
  exact h.take _
section
variable {X : Cx} {apos cpos pn : Pos} {e : Expr} {f : ME} {x : Str} {i : Nat}
theorem mt_at {K : Fg} {O0 : Addr → Prop} {H : Hp} {r : En} {σ : St} {l : List D} (h : R K O0 H r σ) (e : mtOf r i = some l) : ∃ a xs, σ[i]? = some (some (.ref a)) ∧ H a = some (.lst xs) ∧ IsL K (Ow O0 r σ) H l xs := by
  obtain ⟨y, e1, e2⟩ := bind_some e
  exact h.own i l (by rw [e1]; exact (ml_mt e2).2)
theorem dx_append (i : Nat) {x : Str} (h : PE X (.Name x pn) (tVar i)) (he : DE X e f)
    (hline : (apos.endLine == cpos.line) = true := by rfl) (hbase : attributeBase (.Name x pn) "append" X.env (eval (.Name x pn) X.env) = eval (.Name x pn) X.env := by rfl)
    (hfew : ((backTo cpos (starEach [e] X.env)).all (fun x => !x.1) && (backToKw cpos (keywordEach [] X.env)).all (fun x => x.1.isSome) && decide ([e].length + ([] : List Keyword).length + (if ([] : List Keyword).isEmpty then 0 else 1) < 30)) = true := by rfl)
    (hs : starEach [e] X.env = (false, eval e X.env) :: starEach [] X.env := by rfl) :
    DX X (.Call (.Attribute (.Name x pn) "append" apos) [e] [] cpos) (mApp i f) := by
  refine PE.conseq (pe_bm PySem.F.plainAttrs_list PySem.F.slot_list_append PySem.F.type_list_append mt_append h (pa_cons he pa_nil hs) hbase hfew hline hs) fun σ H Q hq => ?_
  obtain ⟨O0, r, d', r', hR, e, q⟩ := hq
  obtain ⟨d, e1, e⟩ := bind_some e
  obtain ⟨l, e2, e⟩ := bind_some e
  split at e
  · rename_i hl
    obtain ⟨r2, e3, e4⟩ := map_some e
    cases e4
    obtain ⟨a, xs, q1, q2, q3⟩ := mt_at hR e2
    refine ⟨.ref a, q1, .inl ⟨rfl, xs, SqL.of q2⟩, O0, r, d, hR, e1, fun v H1 s1 i1 => ?_⟩
    have R1 := hR.same s1
    obtain ⟨R2, k2⟩ := R1.upd (xs' := xs ++ [v]) e3 q1 (s1 _ _ q2) ((q3.same s1 hR.ol).append (.cons i1 .nil))
    exact ⟨a, xs, v, rfl, rfl, s1 _ _ q2, by rw [← q3.length]; exact hl, q _ _ R2 ((Kp.of_same r σ s1).trans k2) (by rw [Is.non_iff])⟩
  · cases e
theorem dx_appendX (i : Nat) {x : Str} {fx : En → Option (D × En)} (h : PE X (.Name x pn) (tVar i)) (he : DX X e fx)
    (hline : (apos.endLine == cpos.line) = true := by rfl) (hbase : attributeBase (.Name x pn) "append" X.env (eval (.Name x pn) X.env) = eval (.Name x pn) X.env := by rfl)
    (hfew : ((backTo cpos (starEach [e] X.env)).all (fun x => !x.1) && (backToKw cpos (keywordEach [] X.env)).all (fun x => x.1.isSome) && decide ([e].length + ([] : List Keyword).length + (if ([] : List Keyword).isEmpty then 0 else 1) < 30)) = true := by rfl)
    (hs : starEach [e] X.env = (false, eval e X.env) :: starEach [] X.env := by rfl) :
    DX X (.Call (.Attribute (.Name x pn) "append" apos) [e] [] cpos) (mAppX i fx) := by
  refine PE.conseq (pe_bm PySem.F.plainAttrs_list PySem.F.slot_list_append PySem.F.type_list_append mt_append h (pa_cons he pa_nil hs) hbase hfew hline hs) fun σ H Q hq => ?_
  obtain ⟨O0, r, d', r', hR, e, q⟩ := hq
  obtain ⟨⟨d, r1⟩, e1, e⟩ := bind_some e
  obtain ⟨l0, e0, e⟩ := bind_some e
  obtain ⟨l, e2, e⟩ := bind_some e
  split at e
  · rename_i hl
    obtain ⟨r2, e3, e4⟩ := map_some e
    cases e4
    obtain ⟨a0, xs0, p1, p2, p3⟩ := mt_at hR e0
    refine ⟨.ref a0, p1, .inl ⟨rfl, xs0, SqL.of p2⟩, O0, r, d, r1, hR, e1, fun v H1 R1 k1 i1 => ?_⟩
    obtain ⟨a, xs, q1, q2, q3⟩ := mt_at R1 e2
    rw [p1] at q1; cases q1
    obtain ⟨R2, k2⟩ := R1.upd (xs' := xs ++ [v]) e3 p1 q2 (q3.append (.cons i1 .nil))
    exact ⟨_, xs, v, rfl, rfl, q2, by rw [← q3.length]; exact hl, q _ _ R2 (k1.trans k2) (by rw [Is.non_iff])⟩
  · cases e
theorem dx_pop (i : Nat) {x : Str} (h : PE X (.Name x pn) (tVar i)) (hbase : attributeBase (.Name x pn) "pop" X.env (eval (.Name x pn) X.env) = eval (.Name x pn) X.env := by rfl) (hline : (apos.endLine == cpos.line) = true := by rfl) :
    DX X (.Call (.Attribute (.Name x pn) "pop" apos) [] [] cpos) (mPop i) := by
  refine PE.conseq (pe_bm0 PySem.F.plainAttrs_list PySem.F.slot_list_pop PySem.F.type_list_pop mt_pop h hbase hline) fun σ H Q hq => ?_
  obtain ⟨O0, r, d', r', hR, e, q⟩ := hq
  obtain ⟨l, e2, e⟩ := bind_some e
  obtain ⟨d, e1, e⟩ := bind_some e
  obtain ⟨r2, e3, e4⟩ := map_some e
  have e5 : d = d' := congrArg Prod.fst e4
  have e6 : r2 = r' := congrArg Prod.snd e4
  subst e5 e6
  obtain ⟨a, xs, q1, q2, q3⟩ := mt_at hR e2
  obtain ⟨v, ev, iv⟩ := q3.get e1
  obtain ⟨R2, k2⟩ := hR.upd (xs' := xs.dropLast) e3 q1 q2 q3.dropLast
  refine ⟨.ref a, q1, .inl ⟨rfl, xs, SqL.of q2⟩, a, xs, v, rfl, rfl, q2, by rw [← q3.length]; exact ev, q _ _ R2 k2 ?_⟩
  have own_a : Ow O0 r σ a := by
    obtain ⟨y, z1, z2⟩ := bind_some e2
    exact .inr ⟨i, l, by rw [z1]; exact mt_own (ml_mt z2).1, q1⟩
  have ow2 : ∀ b, Ow O0 r2 σ b → H b ≠ none → Ow O0 r σ b := fun b z n => z.imp id fun z => (k2.new b z).elim id fun z => absurd z n
  exact Is.mono (fun b o e1 n => by rw [upd_ne (fun z => n (by subst z; exact own_a))]; exact e1) hR.ol ow2 _ _ iv
end
noncomputable def capS : Option Sl → Sl
  | some (.v d) => .v d
  | _ => .un
noncomputable def capR (cap : List Nat) (n : Nat) (r : En) : En := (cap.map fun j => capS r[j]?) ++ List.replicate (n - cap.length) .un
noncomputable def compL (bd : D → En → Option En) (c : MB) (x : ME) : List D → En → Option (List D)
  | [], _ => some []
  | d :: t, r => (bd d r).bind fun r1 => (c r1).bind fun b => if b = true then (x r1).bind fun y => (compL bd c x t r1).map (y :: ·) else compL bd c x t r1
noncomputable def mTrue : MB := fun _ => some true
noncomputable def mCompIf (cap : List Nat) (n : Nat) (it : ML) (bd : D → En → Option En) (c : MB) (x : ME) : ML := fun r => (it r).bind fun l => if l.length < sizeLine then compL bd c x l (capR cap n r) else none
noncomputable def mComp (cap : List Nat) (n : Nat) (it : ML) (bd : D → En → Option En) (x : ME) : ML := mCompIf cap n it bd mTrue x
theorem R.cap {K : Fg} {O0 : Addr → Prop} {H H2 : Hp} {r : En} {σ : St} {cap : List Nat} {n : Nat} {p : Addr} {ys : List V} (h : R K O0 H r σ) (s : Same H H2) (hp : H p = none) (ep : H2 p = some (.lst ys)) :
    R K (fun b => Ow O0 r σ b ∨ b = p) H2 (capR cap n r) (sigC cap n σ) := by
  have noO : ∀ (i : Nat) (l : List D), ((capR cap n r)[i]?).bind Sl.own ≠ some l := fun i l e => by
    unfold capR at e
    by_cases hi : i < cap.length
    · rw [List.getElem?_append_left (by simpa using hi), List.getElem?_map] at e
      obtain ⟨j, hj⟩ : ∃ j, cap[i]? = some j := ⟨cap[i], by simp [hi]⟩
      rw [hj] at e
      have e' : (capS r[j]?).own = some l := e
      cases ej : r[j]? with
      | none => rw [ej] at e'; cases e'
      | some y => rw [ej] at e'; cases y <;> cases e'
    · rw [List.getElem?_append_right (by simpa using Nat.le_of_not_lt hi), List.getElem?_replicate] at e
      split at e <;> cases e
  have ol : OLst (fun b => Ow O0 r σ b ∨ b = p) H2 := fun b z => z.elim (fun z => (h.same s).ol b z) fun z => by subst z; exact ⟨.lst ys, ep, trivial⟩
  refine ⟨by simp [capR, sigC], fun i d e => ?_, fun i l e => absurd (ls_own' e) (noO i l), fun i j a l m e1 => absurd e1 (noO i l), ol, fun i l a e => absurd (show ((capR cap n r)[i]?).bind Sl.own = some l by rcases e with e | e | ⟨_, e⟩ <;> rw [e] <;> rfl) (noO i l), fun i l a e => absurd (show ((capR cap n r)[i]?).bind Sl.own = some l by rw [e]; rfl) (noO i l), fun i ks l e => absurd (show ((capR cap n r)[i]?).bind Sl.own = some l by rw [e]; rfl) (noO i l)⟩
  unfold capR at e
  by_cases hi : i < cap.length
  · rw [List.getElem?_append_left (by simpa using hi), List.getElem?_map] at e
    obtain ⟨j, hj⟩ : ∃ j, cap[i]? = some j := ⟨cap[i], by simp [hi]⟩
    rw [hj] at e
    have e' : capS r[j]? = .v d := Option.some.inj e
    have ej : r[j]? = some (.v d) := by
      cases ej : r[j]? with
      | none => rw [ej] at e'; cases e'
      | some y => rw [ej] at e'; cases y <;> cases e'; rfl
    obtain ⟨v, e1, q⟩ := h.val j d ej
    refine ⟨v, ?_, ?_⟩
    · unfold sigC
      rw [List.getElem?_append_left (by simpa using hi), List.getElem?_map, hj]
      show some ((σ[j]?).getD none) = _
      rw [e1]; rfl
    · refine Is.mono (Same.kp s _) h.ol (fun a z nn => ?_) _ _ q
      rcases z with (z | z) | ⟨k, l, ek, _⟩
      · exact z
      · subst z; exact absurd hp nn
      · exact absurd ek (noO k l)
  · rw [List.getElem?_append_right (by simpa using Nat.le_of_not_lt hi), List.getElem?_replicate] at e
    split at e <;> cases e
section
variable {X : Cx} {N' : List Str} {cap : List Nat} {scope : Scope} {elt tg iter : Expr} {ifs : List Expr} {pos : Pos} {it : ML} {bd : D → En → Option En} {c : MB} {x : ME}
theorem comp_read {tc : Option TT} (htc : ∀ {σ : St} {H : Hp} {K1 : V → Hp → Prop} {K0 : Hp → Prop} {te : TE}, (lT X.K c σ H fun b H1 => if b = true then te σ H1 K1 else K0 H1) → tComp1 tc te K1 K0 σ H)
    (n : Nat) {σ : St} {H : Hp} {Q : VK} (h : lF X.K (mCompIf cap n it bd c x) σ H Q) : tComp cap n (lI X.K it) (lG X.K bd) tc (lE X.K x) σ H Q := by
  obtain ⟨O0, r, out, hR, e, q⟩ := h
  obtain ⟨l, e1, e2⟩ := bind_some e
  split at e2
  · rename_i hlen
    refine ⟨O0, r, l, hR, e1, fun J H1 s1 yl p hp => ?_⟩
    have hpH : H p = none := s1.free hp
    refine ⟨fun i m ys σ2 H2 => m = l.length - i ∧ i ≤ l.length ∧ ys.length ≤ i ∧ H2 p = some (.lst ys) ∧ Same H1 H2 ∧ ∃ r2 dn rest, R X.K (fun b => Ow O0 r σ b ∨ b = p) H2 r2 σ2 ∧ (∀ a, ¬ OwnAt r2 σ2 a) ∧ IsL X.K (fun b => Ow O0 r σ b ∨ b = p) H2 dn ys ∧ compL bd c x (l.drop i) r2 = some rest ∧ dn ++ rest = out,
      ⟨l.length, by simp, Nat.zero_le _, Nat.le_refl _, upd_same, same_upd hp, capR cap n r, [], out, ?_, ?_, .nil, by simpa using e2, rfl⟩, ?_⟩
    · exact R.cap hR (s1.trans (same_upd hp)) hpH upd_same
    · rintro a ⟨i, l', e', _⟩
      unfold capR at e'
      by_cases hi : i < cap.length
      · rw [List.getElem?_append_left (by simpa using hi), List.getElem?_map] at e'
        obtain ⟨j, hj⟩ : ∃ j, cap[i]? = some j := ⟨cap[i], by simp [hi]⟩
        rw [hj] at e'
        have e'' : (capS r[j]?).own = some l' := e'
        cases ej : r[j]? with
        | none => rw [ej] at e''; cases e''
        | some y => rw [ej] at e''; cases y <;> cases e''
      · rw [List.getElem?_append_right (by simpa using Nat.le_of_not_lt hi), List.getElem?_replicate] at e'
        split at e' <;> cases e'
    · rintro i m ys σ2 H2 ⟨rfl, hil, hyl, hp2, s2, r2, dn, rest, R2, no2, il2, e3, eo⟩
      refine ⟨hp2, by omega, ?_⟩
      obtain ⟨y1, y2⟩ := yl i H2 (fun b => Ow O0 r σ b ∨ b = p) (Same.kp s2 _) fun a z nn => z.elim id fun z => by subst z; exact absurd hp nn
      by_cases hlt : i < l.length
      · obtain ⟨go, yd⟩ := y1 hlt
        have hd : l[i]? = some l[i] := by simp [hlt]
        rw [drop_cons hd] at e3
        obtain ⟨r3, e4, e5⟩ := bind_some e3
        obtain ⟨b, e6, e7⟩ := bind_some e5
        refine .inr ⟨go, fun v H3 yv => ?_⟩
        obtain ⟨s3, iv⟩ := yd v H3 yv
        have R3 := R2.same s3
        have ow2 : ∀ a, Ow (fun b => Ow O0 r σ b ∨ b = p) r2 σ2 a → Ow O0 r σ a ∨ a = p := fun a z => z.elim id fun z => absurd z (no2 a)
        refine ⟨_, r2, l[i], r3, R3, ?_, e4, fun σ4 R4 k4 => ?_⟩
        · exact Is.mono (Same.kp (Same.refl H3) _) R3.o0 (fun a z _ => ow2 a z) _ _ (iv _ hd)
        have no4 : ∀ a, ¬ OwnAt r3 σ4 a := fun a z => by
          rcases k4.new a z with z' | z'
          · exact no2 a z'
          · obtain ⟨xs, ex, _⟩ := R4.ol a (.inr z)
            rw [z'] at ex; cases ex
        have ow4 : ∀ a, Ow (fun b => Ow O0 r σ b ∨ b = p) r3 σ4 a → Ow O0 r σ a ∨ a = p := fun a z => z.elim id fun z => absurd z (no4 a)
        refine htc ⟨_, r3, b, R4, e6, fun H5 s5 => ?_⟩
        have R5 := R4.same s5
        cases b with
        | false =>
          rw [if_neg Bool.false_ne_true] at e7
          refine iteF ⟨l.length - (i + 1), by omega, rfl, hlt, by omega, (s3.trans s5) _ _ hp2, s2.trans (s3.trans s5), r3, dn, rest, R5, no4, ?_, e7, eo⟩
          exact il2.same (s3.trans s5) R2.o0
        | true =>
          rw [if_pos rfl] at e7
          obtain ⟨y, e8, e9⟩ := bind_some e7
          obtain ⟨rest', e10, e11⟩ := map_some e9
          refine iteT ⟨_, r3, y, R5, e8, fun u H6 s6 iu => ?_⟩
          have s26 := s3.trans (s5.trans s6)
          have hp6 := s26 _ _ hp2
          have R6 := R5.same s6
          have kk : Keep (fun b => Ow O0 r σ b ∨ b = p) H6 (upd H6 p (.lst (ys ++ [u]))) := fun b' o e' nn => by rw [upd_ne (fun z => nn (.inr z))]; exact e'
          refine ⟨hp6, l.length - (i + 1), by omega, rfl, hlt, by simp; omega, upd_same, ?_, r3, dn ++ [y], rest', ?_, no4, ?_, e10, ?_⟩
          · intro b' o e'
            have hb : b' ≠ p := fun z => by subst z; rw [hp] at e'; cases e'
            rw [upd_ne hb]
            exact s26 _ _ (s2 _ _ e')
          · refine ⟨R6.len, fun j d ej => ?_, fun j m ej => ?_, R6.apart, fun b' z => ?_, R6.loc, R6.par, fun j ks m ej => ?_⟩
            · obtain ⟨w, q1, q2⟩ := R6.val j d ej
              exact ⟨w, q1, Is.mono (fun b' o e' nn => kk b' o e' fun z => nn (.inl z)) R6.ol (fun _ z _ => z) _ _ q2⟩
            · obtain ⟨a', xs', q1, q2, _⟩ := R6.own j m ej
              exact absurd ⟨j, m, ls_own' ej, q1⟩ (no4 a')
            · rcases z with z | z
              · by_cases hb : b' = p
                · subst hb; exact ⟨_, upd_same, trivial⟩
                · rw [upd_ne hb]; exact R6.o0 b' (.inl z)
              · subst z; exact ⟨_, upd_same, trivial⟩
            · obtain ⟨a', kvs, q1, q2, _⟩ := R6.dct j ks m ej
              exact absurd ⟨j, m, by rw [ej]; rfl, q1⟩ (no4 a')
          · have i1 := il2.same s26 R2.o0
            have i2 : Is X.K (fun b => Ow O0 r σ b ∨ b = p) H6 y u := Is.mono (Same.kp (Same.refl H6) _) R6.ol (fun a z _ => .inl z) _ _ iu
            exact IsL.mono kk R6.o0 (fun _ z _ => z) _ _ (i1.append (.cons i2 .nil))
          · rw [← eo, ← e11]; simp
      · have hl : l.drop i = [] := List.drop_eq_nil_of_le (by omega)
        rw [hl] at e3
        have e3' : some [] = some rest := e3
        cases e3'
        rw [List.append_nil] at eo
        subst eo
        exact .inl ⟨y2 (by omega), q p ys H2 (s1.trans s2) hpH hp2 il2⟩
  · cases e2
theorem df_comp (hc : X.calm = true) (o : CmpOk X N' cap scope) (hi : DI X tg iter it) (hg : ∀ C fp s H, DG (cxC X N' scope C fp s H) tg bd) (he : ∀ C fp s H, DE (cxC X N' scope C fp s H) elt x)
    (n : Nat) (hn : N'.length = n := by rfl) (hs : ∀ x, foldedSetIterable iter X.env x = pure x := by intro _; rfl) : DF X (.ListComp elt [⟨tg, iter, [], 0⟩] scope pos) (mComp cap n it bd x) := by
  subst hn
  exact PE.conseq (pe_lcomp (g := lG X.K bd) (te := lE X.K x) (tc := none) hc o hi hg rfl he hs) fun σ H Q h => comp_read (tc := none) (fun {σ H K1 K0 te} z => by
    obtain ⟨O0, r, b, hR, e, q⟩ := z
    unfold mTrue at e; cases e
    have z1 : (if true = true then te σ H K1 else K0 H) := q H (Same.refl H)
    rw [if_pos rfl] at z1
    exact z1) N'.length h
end
noncomputable def CapOk (X : Cx) (scope : Scope) : List Nat → List Str → Prop
  | [], _ => True
  | j :: t, x :: r => X.N[j]? = some x ∧ scope.names.lookup x = some .free ∧ CapOk X scope t r
  | _ :: _, [] => False
theorem CapOk.get {X : Cx} {scope : Scope} : ∀ {cap : List Nat} {N' : List Str}, CapOk X scope cap N' → ∀ (i j : Nat), cap[i]? = some j → ∃ x, N'[i]? = some x ∧ X.N[j]? = some x ∧ scope.names.lookup x = some .free
  | [], _, _, i, j, e => by simp at e
  | k :: t, [], h, _, _, _ => False.elim h
  | k :: t, x :: r, h, 0, j, e => by
    have e' : k = j := by simpa using e
    subst e'
    exact ⟨x, rfl, h.1, h.2.1⟩
  | k :: t, x :: r, h, i + 1, j, e => by
    obtain ⟨y, q1, q2⟩ := CapOk.get h.2.2 i j (by simpa using e)
    exact ⟨y, by simpa using q1, q2⟩
theorem CapOk.len {X : Cx} {scope : Scope} : ∀ {cap : List Nat} {N' : List Str}, CapOk X scope cap N' → cap.length ≤ N'.length
  | [], _, _ => Nat.zero_le _
  | k :: t, [], h => False.elim h
  | k :: t, x :: r, h => Nat.succ_le_succ (CapOk.len h.2.2)
theorem cmp_mk {X : Cx} {N' : List Str} {cap : List Nat} {scope : Scope} (kind : scope.kind = .function := by rfl) (nc : ∀ y ∈ scope.names, y.2 ≠ .cell := by decide +kernel) (nm : ∀ y ∈ scope.names, y.2 = .local → scope.names.lookup y.1 = some .local := by decide +kernel)
    (fr : ∀ y ∈ scope.names, y.2 = .free → X.env.kindOf y.1 = some .cell ∨ X.env.kindOf y.1 = some .free := by repeat (first | exact List.forall_mem_nil _ | refine List.forall_mem_cons.mpr ⟨fun e => (by first | exact absurd e (by decide) | exact .inl rfl | exact .inr rfl), ?_⟩))
    (capt : CapOk X scope cap N' := by repeat (first | exact trivial | refine ⟨rfl, rfl, ?_⟩)) : CmpOk X N' cap scope := ⟨kind, nc, nm, fr, capt.get, capt.len⟩
end DD
namespace ZZ
open PySem
open PySem
end ZZ
namespace DD
open PySem PySem.Spec PyProof.Rows L2
section
variable {X : Cx} {pins : List (Addr × Obj)} {σ : St} {H : Hp} {s : Shared} {h' : Heap}
theorem inv_drew {t' : Nat} {ch : List Addr} {T : Addr} {vs : List V} {its : List Value} (I : Inv X pins σ H s) (hch : ∀ b ∈ ch, FpOk X pins H b) (hT : s.heap.objs.size ≤ T) (kp : ∀ b o, b ∉ ch → s.heap.get? b = some o → h'.get? b = some o)
    (hz : vs.length ≤ sizeLine) (hv : Vals vs its) (ht : IsTup h' T its.toArray) : Inv X pins σ (upd H T (.tup vs)) { s with heap := h', toks := t' } := by
  have hn : H T = none := I.hok.fresh hT
  have old : ∀ {b : Addr} {o : Obj}, s.heap.get? b = some o → b ≠ T := fun e => Nat.ne_of_lt (Nat.lt_of_lt_of_le (Heap.lt_size e) hT)
  have tr : ∀ {b : Addr} {u : HO}, H b = some u → b ≠ T := fun e => ne_of_none e hn
  have trc : ∀ {b : Addr} {u : HO}, H b = some u → b ∉ ch := fun {b u} e z => by rw [(hch b z).1] at e; cases e
  refine I.step (g' := s.gens) (d' := s.drawn) (ch := ch) (fun b hb => ⟨(hch b hb).2.2.2.1, (hch b hb).2.1, (hch b hb).2.2.2.2.1, (hch b hb).2.2.2.2.2⟩) (fun b o _ _ hc e _ => kp b o hc e) (fun b o _ _ hc e _ => ⟨o.slots, kp b o hc e⟩)
    (fun b o _ e n => by rw [upd_ne (old e)]; exact n) (fun b o hc e => ⟨o, kp b o hc e⟩) (fun b xs e => by rw [upd_ne (tr e)]; exact e) (fun b o u e => by rw [upd_ne (tr e)]; exact e) (fun b ps e => ⟨#[], by rw [upd_ne (tr e), e]; simp⟩) (fun m hm => ?_) (fun b u e => ?_) I.bare
  · obtain ⟨o, es, ep, ho, r⟩ := hm
    exact ⟨o, es, ep, kp _ o (fun z => (hch _ z).2.1 rfl) ho, r⟩
  · by_cases hb : b = T
    · subst hb
      rw [upd_same] at e; cases e
      exact ⟨hz, its, hv, ht⟩
    · rw [upd_ne hb] at e
      refine (I.hok b u e).stay (fun c v hc q => kp c v ?_ q) (fun c q => by rw [upd_ne (tr q)]; exact q) (fun c xs q => by rw [upd_ne (tr q)]; exact q) fun c o u q => by rw [upd_ne (tr q)]; exact q
      rcases hc with z | z
      · rw [z]; exact trc e
      · exact trc z
theorem inv_turnL {t' : Nat} {ch : List Addr} (I : Inv X pins σ H s) (hch : ∀ b ∈ ch, FpOk X pins H b) (kp : ∀ b o, b ∉ ch → s.heap.get? b = some o → h'.get? b = some o) : Inv X pins σ H { s with heap := h', toks := t' } := by
  have trc : ∀ {b : Addr} {u : HO}, H b = some u → b ∉ ch := fun {b u} e z => by rw [(hch b z).1] at e; cases e
  refine I.step (g' := s.gens) (d' := s.drawn) (ch := ch) (fun b hb => ⟨(hch b hb).2.2.2.1, (hch b hb).2.1, (hch b hb).2.2.2.2.1, (hch b hb).2.2.2.2.2⟩) (fun b o _ _ hc e _ => kp b o hc e) (fun b o _ _ hc e _ => ⟨o.slots, kp b o hc e⟩)
    (fun b o _ e n => n) (fun b o hc e => ⟨o, kp b o hc e⟩) (fun b xs e => e) (fun b o u e => e) (fun b ps e => ⟨#[], by rw [e]; simp⟩) (fun m hm => ?_) (fun b u e => ?_) I.bare
  · obtain ⟨o, es, ep, ho, r⟩ := hm
    exact ⟨o, es, ep, kp _ o (fun z => (hch _ z).2.1 rfl) ho, r⟩
  · refine (I.hok b u e).stay (fun c v hc q => kp c v ?_ q) (fun _ q => q) (fun _ _ q => q) fun _ _ _ q => q
    rcases hc with z | z
    · rw [z]; exact trc e
    · exact trc z
end
theorem cls_ne {h : Heap} {a b : Addr} {o o' : Obj} {n m : String} (e : h.get? a = some o) (c : o.cls = .type n) (e' : h.get? b = some o') (c' : o'.cls = .type m) (d : n ≠ m) : a ≠ b := by
  rintro rfl
  rw [e] at e'; cases e'
  rw [c] at c'; injection c' with q; exact d q
noncomputable def ItE (K : Fg) (a : Addr) : It :=
  ⟨fun i H => ∃ xs x, SqL K H a xs ∧ xs[i]? = some x, fun i H x H' => ∃ T y, x = .ref T ∧ H T = none ∧ H' = upd H T (.tup [.int i, y]) ∧ ∀ xs, SqL K H a xs → xs[i]? = some y, fun i H => ∃ xs, SqL K H a xs ∧ xs.length = i⟩
theorem turn_enum {P : Program} {w : World} {K : Fg} {elts : List Expr} {k : Nat} {tp : Pos} (a e it : Addr) (hei : e ≠ it) : Turn P w K (.Tuple elts k tp) (ItE K a) [e, it] e (fun i h => (∃ old, IsEnum h e it i old) ∧ h.IsListIter it a i) where
  mem := by simp
  obj := fun i h st b hb => by
    obtain ⟨⟨old, h1⟩, o, h2, h3, h4⟩ := st
    have hb' : b = e ∨ b = it := by simpa using hb
    rcases hb' with rfl | rfl
    · exact ⟨_, h1, fun v z => by cases z⟩
    · exact ⟨o, h2, fun v z => by rw [h4] at z; cases z⟩
  keep := fun i h g st kp => ⟨let ⟨old, h1⟩ := st.1; ⟨old, kp e (by simp) _ h1⟩, st.2.at fun o q => kp it (by simp) o q⟩
  item := by
    intro X hP hw hK hc i pins s σ H E I hf st hg
    subst hP hw hK
    obtain ⟨xs, x, hq, hx⟩ := hg
    obtain ⟨its, rv, p, hz⟩ := I.list hq
    obtain ⟨u, hu, ru⟩ := rv.get hx
    obtain ⟨oa, na, ea, ca, _⟩ := id p
    obtain ⟨⟨old, h1⟩, oi, h2, h3, h4⟩ := id st
    have hae : a ≠ e := cls_ne ea ca h1 rfl (by decide)
    have hai : a ≠ it := cls_ne ea ca h2 h3 (by decide)
    have W := WalksT.enumerate (prog := X.prog) (w := X.w) (A := X.A) (I.ok.hd hc) e it a hei hae hai its.toArray
    have hi : i < its.toArray.size := by
      obtain ⟨q, _⟩ := List.getElem?_eq_some_iff.mp hu
      simpa using q
    refine W.item i s _ _ hi ⟨st.1, st.2, p.isList⟩ fun T vals g tk pt hT isT mid kp => ⟨_, rfl, W.go elts k tp i T _ _ _ mid fun g2 st2 kp2 => ?_⟩
    obtain ⟨t, y, hy, rfl⟩ := pt
    have hy' : y = u := by
      have : its[i]? = some y := by simpa using hy
      rw [hu] at this; exact (Option.some.inj this).symm
    subst hy'
    have isT2 : IsTup g2 T #[.int i t, y] := by
      obtain ⟨o, q1, q2⟩ := isT
      exact ⟨o, kp2 T o (W.apart i T _ mid) q1, q2⟩
    refine ⟨.ref T, upd H T (.tup [.int i, x]), inv_drew (s := s) (t' := tk) I (its := [.int i t, y]) (ch := [e, it]) hf hT (fun b o hb q => kp2 b o hb (kp b o hb q)) (by show 2 ≤ sizeLine; decide) (.cons ⟨t, rfl⟩ (.cons ru .nil)) isT2, rfl, ⟨T, x, rfl, I.hok.fresh hT, rfl, fun ys hys => by rw [I.list_inj hys hq]; exact hx⟩, ⟨st2.1, st2.2.1⟩, fun b hb => ?_⟩
    have hbT : b ≠ T := by
      have hb' : b = e ∨ b = it := by simpa using hb
      rcases hb' with rfl | rfl
      · exact Nat.ne_of_lt (Nat.lt_of_lt_of_le (Heap.lt_size h1) hT)
      · exact Nat.ne_of_lt (Nat.lt_of_lt_of_le (Heap.lt_size h2) hT)
    rw [upd_ne hbT]
    exact (hf b hb).1
  done := by
    intro X hP hw hK hc i pins s σ H E I hf st hg
    subst hP hw hK
    obtain ⟨xs, hq, hx⟩ := hg
    obtain ⟨its, rv, p, hz⟩ := I.list hq
    obtain ⟨oa, na, ea, ca, _⟩ := id p
    obtain ⟨⟨old, h1⟩, oi, h2, h3, h4⟩ := id st
    have hae : a ≠ e := cls_ne ea ca h1 rfl (by decide)
    have hai : a ≠ it := cls_ne ea ca h2 h3 (by decide)
    have W := WalksT.enumerate (prog := X.prog) (w := X.w) (A := X.A) (I.ok.hd hc) e it a hei hae hai its.toArray
    have hl : its.toArray.size = i := by rw [List.size_toArray, ← rv.length]; exact hx
    exact W.done s _ _ (by rw [hl]; exact ⟨st.1, st.2, p.isList⟩) fun g tk kp => ⟨rfl, inv_turnL I hf kp⟩
  self := fun _ _ _ _ _ st h => let ⟨⟨_, h1⟩, _⟩ := st; wpAny_pyIter_enum h1 h
section
variable {X : Cx} {pos : Pos} {a b c : Expr} {f g h : ME}
noncomputable def intsD : List D → Option (List Int)
  | [] => some []
  | .int i :: r => (intsD r).map (i :: ·)
  | _ => none
theorem intsD_ok {K : Fg} {O : Addr → Prop} {H : Hp} : ∀ {l : List D} {ns : List Int} {vs : List V}, intsD l = some ns → IsL K O H l vs → vs = ns.map V.int
  | [], ns, vs, e, il => by cases e; unfold IsL at il; subst il; rfl
  | d :: l, ns, vs, e, il => by
    unfold IsL at il
    obtain ⟨v, r, rfl, i1, i2⟩ := il
    cases d <;> first | (simp only [intsD, reduceCtorEq] at e; done) | skip
    simp only [intsD] at e
    obtain ⟨ms, e1, rfl⟩ := map_some e
    rw [Is.int_iff] at i1
    rw [i1, intsD_ok e1 i2]; rfl
noncomputable def mTupOf (fl : ML) : ME := fun r => (fl r).map .tup
theorem de_tupleOf {p' : Pos} {fl : ML} (hg : Gl X "tuple") (hm : X.mg "tuple" = none) (ha : DB X a fl) (hs : starEach [a] X.env = (false, eval a X.env) :: starEach [] X.env := by rfl) : DE X (.Call (.Name "tuple" p') [a] [] pos) (mTupOf fl) := by
  refine PE.conseq (pe_callTy call_tuple_of hg hm PyProof.Rows.boot_tuple (pa_cons ha pa_nil hs) (he := hs)) fun σ H Q hq => ?_
  obtain ⟨O0, r, d, hR, e, q⟩ := hq
  obtain ⟨l, e1, rfl⟩ := map_some e
  refine ⟨O0, r, l, hR, e1, fun p xs H1 s1 sq il => ⟨p, xs, rfl, .inl ⟨sq, fun t ht => q _ _ (s1.trans (same_upd ht)) ?_⟩⟩⟩
  rw [Is.tup_iff]
  exact ⟨t, xs, rfl, SqT.of upd_same, il.same (same_upd ht) (hR.same s1).ol⟩
theorem db_f {fl : ML} (h : DF X a fl) : DB X a fl := by
  refine PE.conseq h fun σ H Q hq => ?_
  obtain ⟨O0, r, l, hR, e, q⟩ := hq
  refine ⟨O0, r, l, hR, e, fun p xs H1 s1 n1 e1 il => q p xs H1 s1 (SqL.of e1) ?_⟩
  have ol : OLst (fun b => Ow O0 r σ b ∨ b = p) H1 := fun b z => z.elim (fun z => (hR.same s1).ol b z) fun z => by subst z; exact ⟨.lst xs, e1, trivial⟩
  exact IsL.mono (Same.kp (Same.refl H1) _) ol (fun a z _ => .inl z) l xs il
end
open PySem PySem.Spec PyProof.Rows L2 PySem.StrLaws
noncomputable def cutL {α : Type} (xs : List α) (lo hi : Option Int) : List α := (xs.drop (HT.sIx xs.length 0 lo)).take (HT.sIx xs.length xs.length hi - HT.sIx xs.length 0 lo)
theorem sIx_le' (n d : Nat) (hd : d ≤ n) (o : Option Int) : HT.sIx n d o ≤ n := HT.sIx_le n d hd o
theorem sliceIdx_eq (lo hi : Option Int) (n : Nat) : Builtin.Str.strSliceIndices lo hi 1 n = Builtin.Str.strSliceIndices (some ((HT.sIx n 0 lo : Nat) : Int)) (some ((HT.sIx n n hi : Nat) : Int)) 1 n := by
  have key : ∀ (v : Option Int) (d : Nat), d ≤ n → (match v with | none => (d : Int) | some i => max 0 (min (if i < 0 then i + (n : Int) else i) (n : Int))) = max 0 (min (if ((HT.sIx n d v : Nat) : Int) < 0 then ((HT.sIx n d v : Nat) : Int) + (n : Int) else ((HT.sIx n d v : Nat) : Int)) (n : Int)) := by
    intro v d hd
    have hle := sIx_le' n d hd v
    have h0 : ¬ (((HT.sIx n d v : Nat) : Int) < 0) := by omega
    rw [if_neg h0]
    cases v with
    | none =>
      have e : HT.sIx n d none = d := rfl
      rw [e]; show (d : Int) = _; omega
    | some i =>
      have e : HT.sIx n d (some i) = if i < 0 then (i + (n : Int)).toNat else min i.toNat n := rfl
      show max 0 (min (if i < 0 then i + (n : Int) else i) (n : Int)) = _
      rw [e] at hle ⊢
      split <;> split at hle <;> omega
  have e1 : (1 : Int) > 0 := by omega
  unfold PySem.Builtin.Str.strSliceIndices
  simp only [e1, if_true]
  have k1 := key lo 0 (Nat.zero_le _)
  have k2 := key hi n (Nat.le_refl _)
  cases lo <;> cases hi <;> simp only at k1 k2 ⊢ <;> rw [← k1, ← k2] <;> rfl
theorem sliceText_eq (x : Str) (lo hi : Option Int) : sliceText x lo hi = ⟨(cutL x.cps.toList lo hi).toArray⟩ := by
  have hl : x.cps.toList.length = x.length := by simp [Str.length]
  unfold cutL
  rw [hl]
  have ha := sIx_le' x.length 0 (Nat.zero_le _) lo
  have hb := sIx_le' x.length x.length (Nat.le_refl _) hi
  have e : sliceText x lo hi = sliceText x (some ((HT.sIx x.length 0 lo : Nat) : Int)) (some ((HT.sIx x.length x.length hi : Nat) : Int)) := by
    unfold sliceText
    rw [sliceIdx_eq lo hi x.length]
  rw [e]
  by_cases hab : HT.sIx x.length 0 lo ≤ HT.sIx x.length x.length hi
  · exact sliceText_nat x hab hb
  · have z : HT.sIx x.length x.length hi - HT.sIx x.length 0 lo = 0 := by omega
    rw [z, List.take_zero]
    have em : Builtin.Str.strSliceIndices (some ((HT.sIx x.length 0 lo : Nat) : Int)) (some ((HT.sIx x.length x.length hi : Nat) : Int)) 1 x.length = [] := by
      have e1 : (1 : Int) > 0 := by omega
      unfold PySem.Builtin.Str.strSliceIndices
      simp only [e1, if_true]
      have h0 : ¬ (((HT.sIx x.length 0 lo : Nat) : Int) < 0) := by omega
      have h1 : ¬ (((HT.sIx x.length x.length hi : Nat) : Int) < 0) := by omega
      rw [if_neg h0, if_neg h1]
      unfold PySem.sliceRange
      simp only [e1, if_true]
      split
      · omega
      · rfl
    unfold sliceText
    rw [em]
    split
    · rename_i q
      have q' : x.length = 0 := by have : 0 = x.length := by simpa using q
                                   exact this.symm
      apply Str.ext'
      have : x.cps.size = 0 := q'
      exact Array.eq_empty_of_size_eq_zero this
    · rfl
section
variable {X : Cx} {pos p2 : Pos} {a b : Expr} {f g : ME}
noncomputable def rSlS : V → Option Int → Option Int → Hp → VK → Prop := fun x lo hi H Q => ∃ z, x = .str z ∧ z.length ≤ sizeLine ∧ Q (.str ⟨(cutL z.cps.toList lo hi).toArray⟩) H
theorem cutL_len {α : Type} (xs : List α) (lo hi : Option Int) : (cutL xs lo hi).length ≤ xs.length := by
  unfold cutL
  rw [List.length_take, List.length_drop]
  omega
theorem sl_str : SlR X rSlS := by
  intro pins s σ H x v vl vu lo hi sl Q I rx hs pl pu hq
  obtain ⟨z, rfl, hz, q⟩ := hq
  obtain ⟨t, rfl⟩ := rx
  refine ⟨"str", _, PySem.F.slot_str_getitem.lookup, typeIs_str _ _ _, ?_⟩
  have main : ∀ (l u : Option (Int × Tok)), l.map (·.1) = lo → u.map (·.1) = hi → s.heap.IsSlice sl l u none → wpAny (model X.prog X.w) X.A (getItem (.str z t) (.ref sl)) (EP X pins σ Q) X.xe s := by
    intro l u hl hu hsl
    refine wpAny_getItem_str_slice hsl rfl ?_
    have e : ∀ t' k, EP X pins σ Q (.str (sliceText z lo hi) t') { s with toks := k } := fun t' k => ⟨.str _, H, I.tok k, ⟨t', rfl⟩, by rw [sliceText_eq]; exact q⟩
    have hle : (sliceText z lo hi).length ≤ sizeLine := by
      rw [sliceText_eq, str_len]
      have := cutL_len z.cps.toList lo hi
      have h2 : z.cps.toList.length = z.length := by simp [Str.length]
      omega
    unfold sliceMade slicePicked
    rw [hl, hu]
    exact post_val_or_str ⟨hle, e⟩
  obtain ⟨o, h1, h2, h3⟩ := hs
  cases pl with
  | none => cases pu with
    | none => exact main none none rfl rfl ⟨o, h1, h2, h3⟩
    | int j tj => exact main none (some (j, tj)) rfl rfl ⟨o, h1, h2, h3⟩
  | int i ti => cases pu with
    | none => exact main (some (i, ti)) none rfl rfl ⟨o, h1, h2, h3⟩
    | int j tj => exact main (some (i, ti)) (some (j, tj)) rfl rfl ⟨o, h1, h2, h3⟩
noncomputable abbrev MO := En → Option (Option Int)
noncomputable def oNone : MO := fun _ => some none
noncomputable def oSome (f : ME) : MO := fun r => (f r).bind fun d => (intD d).map some
noncomputable def lO (K : Fg) (f : MO) : TO := fun σ H Q => ∃ O0 r o, R K O0 H r σ ∧ f r = some o ∧ ∀ H', Same H H' → Q o H'
noncomputable def DO (X : Cx) (e : Option Expr) (f : MO) : Prop := PO X e (lO X.K f)
theorem PO.conseq {e : Option Expr} {t t' : TO} (h : PO X e t) (i : ∀ σ H Q, t' σ H Q → t σ H Q) : PO X e t' := fun pins s σ H Q I q => h pins s σ H Q I (i σ H Q q)
theorem do_none : DO X none oNone := PO.conseq po_none fun σ H Q ⟨O0, r, o, hR, e, q⟩ => by
  unfold oNone at e; cases e
  exact q H (Same.refl H)
theorem do_some (ha : DE X a f) : DO X (some a) (oSome f) := PO.conseq (po_some ha) fun σ H Q ⟨O0, r, o, hR, e, q⟩ => by
  obtain ⟨d, e1, e2⟩ := bind_some e
  obtain ⟨i, e3, rfl⟩ := map_some e2
  cases intD_some e3
  exact ⟨O0, r, _, hR, e1, fun v H1 s1 i1 => ⟨i, by rw [Is.int_iff] at i1; exact i1, q H1 s1⟩⟩
noncomputable def slD (d : D) (lo hi : Option Int) : Option D := match d with
  | .lst l => some (.lst (cutL l lo hi))
  | .tup l => if HT.sIx l.length 0 lo = 0 ∧ HT.sIx l.length l.length hi = l.length then none else some (.tup (cutL l lo hi))
  | .str s => if s.length ≤ sizeLine then some (.str (cutL s lo hi)) else none
  | _ => none
noncomputable def mSl (f : ME) (lo hi : MO) : ME := fun r => (f r).bind fun d => (lo r).bind fun i => (hi r).bind fun j => slD d i j
noncomputable def rSlA (K : Fg) : V → Option Int → Option Int → Hp → VK → Prop := fun x lo hi H Q => rSlL K x lo hi H Q ∨ rSlT K x lo hi H Q ∨ rSlS x lo hi H Q
theorem IsL.cut {K : Fg} {O : Addr → Prop} {H : Hp} {l : List D} {xs : List V} (h : IsL K O H l xs) (lo hi : Option Int) : IsL K O H (cutL l lo hi) (cutV xs lo hi) := by
  unfold cutL cutV
  rw [h.length]
  exact (h.drop _).take _
theorem de_sl {lo hi : Option Expr} {fl fh : MO} (ha : DE X a f) (hl : DO X lo fl) (hh : DO X hi fh) : DE X (.Subscript a (.Slice lo hi none p2) pos) (mSl f fl fh) := by
  refine PE.conseq (pe_slice (r := rSlA X.K) (sl_list.or (sl_tup.or sl_str)) ha hl hh) fun σ H Q hq => ?_
  obtain ⟨O0, r, d, hR, e, q⟩ := hq
  obtain ⟨x, e1, e⟩ := bind_some e
  obtain ⟨i, e2, e⟩ := bind_some e
  obtain ⟨j, e3, e⟩ := bind_some e
  refine ⟨O0, r, x, hR, e1, fun v H1 s1 i1 => ⟨O0, r, i, hR.same s1, e2, fun H2 s2 => ⟨O0, r, j, hR.same (s1.trans s2), e3, fun H3 s3 => ?_⟩⟩⟩
  have s13 := (s1.trans s2).trans s3
  have R3 := hR.same s13
  have i3 := i1.same (s2.trans s3) (hR.same s1).ol
  cases x <;> first | (simp only [slD, reduceCtorEq] at e; done) | skip
  · simp only [slD] at e
    split at e
    · rename_i hl'
      cases e
      rw [Is.str_iff] at i3
      refine .inr (.inr ⟨_, i3, by rw [str_len]; exact hl', q _ H3 s13 (by rw [Is.str_iff])⟩)
    · cases e
  · simp only [slD] at e
    split at e
    · cases e
    · rename_i hw
      cases e
      rw [Is.tup_iff] at i3
      obtain ⟨p, xs, rfl, hs, il⟩ := i3
      refine .inr (.inl ⟨p, xs, rfl, hs, by rw [← il.length]; exact hw, fun t ht => q _ _ (s13.trans (same_upd ht)) ?_⟩)
      rw [Is.tup_iff]
      exact ⟨t, _, rfl, SqT.of upd_same, (il.cut i j).same (same_upd ht) R3.ol⟩
  · simp only [slD, Option.some.injEq] at e
    subst e
    rw [Is.lst_iff] at i3
    obtain ⟨p, xs, rfl, hs, il⟩ := i3
    refine .inl ⟨p, xs, rfl, hs.sq, fun t ht => q _ _ (s13.trans (same_upd ht)) ?_⟩
    rw [Is.lst_iff]
    exact ⟨t, _, rfl, .inl ⟨R3.nofresh ht, .inl upd_same⟩, (il.cut i j).same (same_upd ht) R3.ol⟩
end
open PySem PySem.Spec PyProof.Rows L2 PySem.StrLaws
section
variable {prog : Program} {w : World} {A : Around} {E : Value → Shared → Prop} {s : Shared}
theorem rev_ad (n : Nat) : Builtin.Slice.sliceAdjust none none (-1) (n : Int) = ((n : Int) - 1, -1) := by
  unfold Builtin.Slice.sliceAdjust
  simp
theorem rev_pl (n : Nat) : Builtin.Slice.slicePlaces ((n : Int) - 1) (-1) (-1) = n := by
  unfold Builtin.Slice.slicePlaces
  have h1 : ¬ ((-1 : Int) > 0) := by omega
  simp only [h1, if_false]
  split
  · have : -(-1 : Int) = 1 := by omega
    rw [this, Int.ediv_one]; omega
  · omega
theorem rev_ap {sl : Addr} {t : Tok} {n : Nat} {Q : Int × Int × Nat → Shared → Prop} (hs : s.heap.IsSliceOf sl .none .none (.int (-1) t)) (h : Q ((n : Int) - 1, -1, n) s) : wpAny (model prog w) A (Builtin.Slice.sliceApplied (.ref sl) (pure (n : Int))) Q E s := by
  obtain ⟨os, ho, hc, hd⟩ := id hs
  unfold Builtin.Slice.sliceApplied Builtin.Slice.sliceFields
  refine wpAny_bind (wpAny_bind (wpAny_field ho hd (x := .none) rfl (wpAny_bind (wpAny_field ho hd (x := .none) rfl (wpAny_bind (wpAny_field ho hd (x := .int (-1) t) rfl (wpAny_pure (?_))))))))
  refine wpAny_bind (slicePart_int (?_)); show wpAny _ _ (if ((-1 : Int) == 0) = true then _ else _) _ _ s; rw [if_neg (by decide)]
  refine wpAny_bind (slicePart_none (wpAny_bind (slicePart_none (wpAny_bind (wpAny_pure (?_))))))
  show wpAny _ _ (match Builtin.Slice.sliceAdjust none none (-1) (n : Int) with | (lo, hi) => pure (lo, (-1 : Int), Builtin.Slice.slicePlaces lo hi (-1))) _ _ s
  rw [rev_ad n]; show wpAny _ _ (pure ((n : Int) - 1, (-1 : Int), Builtin.Slice.slicePlaces ((n : Int) - 1) (-1) (-1))) _ _ s; rw [rev_pl]
  exact wpAny_pure h
theorem fm_map {α β : Type} {F : α → Option β} {G : α → β} : ∀ (l : List α), (∀ m ∈ l, F m = some (G m)) → l.filterMap F = l.map G
  | [], _ => rfl
  | a :: l, h => by
    rw [List.filterMap_cons, h a List.mem_cons_self, List.map_cons, fm_map l fun m hm => h m (List.mem_cons_of_mem _ hm)]
theorem rev_pick (xs : Array Value) : ((List.range xs.size).filterMap fun (m : Nat) => xs[((xs.size : Int) - 1 + (m : Int) * (-1)).toNat]?).toArray = xs.toList.reverse.toArray := by
  congr 1
  apply List.ext_getElem?
  intro k
  have e : ∀ m, m < xs.size → xs[((xs.size : Int) - 1 + (m : Int) * (-1)).toNat]? = some (xs.toList.reverse.getD m .none) := by
    intro m hm
    have h1 : ((xs.size : Int) - 1 + (m : Int) * (-1)).toNat = xs.size - 1 - m := by omega
    rw [h1, List.getD_eq_getElem?_getD, List.getElem?_reverse (by simpa using hm)]
    have h2 : xs.size - 1 - m < xs.size := by omega
    simp [h2]
  have e2 : (List.range xs.size).filterMap (fun (m : Nat) => xs[((xs.size : Int) - 1 + (m : Int) * (-1)).toNat]?) = (List.range xs.size).map fun m => xs.toList.reverse.getD m .none := by
    exact fm_map _ fun m hm => e m (List.mem_range.mp hm)
  rw [e2, List.getElem?_map]
  by_cases hk : k < xs.size
  · rw [List.getElem?_range hk, List.getElem?_eq_getElem (by simpa using hk)]
    simp [List.getD_eq_getElem?_getD, hk]
  · rw [List.getElem?_eq_none (by simpa using hk), List.getElem?_eq_none (by simpa using hk)]; rfl
theorem rev_tup {t sl : Addr} {its : Array Value} {tk : Tok} {Q : Value → Shared → Prop} (ht : IsTup s.heap t its) (hs : s.heap.IsSliceOf sl .none .none (.int (-1) tk)) (hsz : its.size ≤ sizeLine)
    (h : Q (.ref s.heap.objs.size) { s with heap := s.heap.push { cls := .type "tuple", data := .seq its.toList.reverse.toArray } }) : wpAny (model prog w) A (getItem (.ref t) (.ref sl)) Q E s := by
  have hz : sizeOk (.seq its.toList.reverse.toArray) := by show its.toList.reverse.toArray.size ≤ sizeLine; simpa using hsz
  obtain ⟨os, ho, hc, hd⟩ := id hs
  have hT : s.TypeIs (.ref sl) "slice" := ⟨os, ho, hc⟩
  unfold getItem
  try with_reducible refine wpAny_holding ?_
  first | refine wpAny_bind (wpAny_pure ?_) | skip
  refine wpAny_bind (wpAny_sequenceKey ht.typeIs (by decide) ?_)
  refine wpAny_bind (wpAny_callSpecial?_slot (name := Str.ofString "__getitem__") ht.typeIs PyProof.Rows.slot_tuple_getitem (wpAny_call_entry PyProof.Rows.slot_tuple_getitem ht.typeIs entry_tuple_getitem (?_) (args_tuple_getitem _ _)))
  show wpAny _ _ (Builtin.Tuple.tupleItemsOf (.ref t) >>= _) _ _ s; refine wpAny_bind (tupleItemsOf_ ht (wpAny_bind (wpAny_typeOf hT (?_)))); rw [if_pos (by decide)]; refine wpAny_bind (rev_ap hs (?_))
  show wpAny _ _ (if (((its.size : Int) - 1) == 0 && (-1 : Int) == 1 && its.size == its.size) = true then _ else _) _ _ s
  rw [if_neg (by simp), rev_pick]
  first
    | exact wpAny_bind (m := Builtin.Tuple.tupleExact _) (wpAny_newObj_type (wpAny_pure ⟨_, rfl, wpAny_pure h⟩) hz)
    | exact wpAny_bind (m := Builtin.Tuple.tupleExact _) (wpAny_newObj_type (wpAny_bind (wpAny_pure (wpAny_pure ⟨_, rfl, wpAny_pure h⟩))) hz)
    | exact wpAny_bind (wpAny_bind (m := Builtin.Tuple.tupleExact _) (wpAny_newObj_type (wpAny_pure (wpAny_pure ⟨_, rfl, wpAny_pure h⟩)) hz))
    | exact wpAny_bind (wpAny_bind (m := Builtin.Tuple.tupleExact _) (wpAny_newObj_type (wpAny_pure ⟨_, rfl, wpAny_pure h⟩) hz))
end
section
variable {X : Cx} {pos p2 p3 : Pos} {a b : Expr} {f g : ME} {j : Nat}
noncomputable def tRev (K : Fg) (ta : TE) : TE := fun σ H Q => ta σ H fun x H1 => (∃ p xs, x = .ref p ∧ SqL K H1 p xs ∧ ∀ q, H1 q = none → Q (.ref q) (upd H1 q (.lst xs.reverse))) ∨ (∃ p xs, x = .ref p ∧ SqT K H1 p xs ∧ ∀ q, H1 q = none → Q (.ref q) (upd H1 q (.tup xs.reverse)))
theorem pe_rev {ta : TE} (he : PE X a ta) : PE X (.Subscript a (.Slice none none (some (.UnaryOp .USub (.Constant (.int 1) j p3) pos)) p2) pn) (tRev X.K ta) := by
  intro pins s σ H Q I h
  refine Subscript_ (thn (he pins s σ H _ I h) fun v s1 ⟨x, H1, I1, r1, q1⟩ => ?_)
  refine wpAny_Slice ?_
  rw [evalPart_none]
  refine wpAny_pure (wpAny_pure ?_); rw [evalPart_some]
  have hst : PE X (.UnaryOp .USub (.Constant (.int 1) j p3) pos) (tUn (rU fun i => .int (-i)) (tC (.int 1))) := pe_un un_neg pe_int
  refine thn (hst pins s1 σ H1 (fun w H' => w = .int (-1) ∧ H' = H1) I1 ⟨1, rfl, rfl, rfl⟩) fun u s2 ⟨y, H2, I2, r2, q2, eH⟩ => ?_
  subst eH q2
  obtain ⟨t, rfl⟩ := r2
  have I4 : Inv X pins σ H2 { s2 with heap := s2.heap.push { cls := .type "slice", data := .fields #[.none, .none, .int (-1) t] } } := I2.kept (t' := s2.toks) fun b ob q => Heap.get?_push_of_some _ q
  have hsl : ({ s2 with heap := s2.heap.push { cls := .type "slice", data := .fields #[.none, .none, .int (-1) t] } } : Shared).heap.IsSliceOf s2.heap.objs.size .none .none (.int (-1) t) := Heap.IsSliceOf.new ..
  rcases q1 with ⟨p, xs, rfl, hx, q⟩ | ⟨p, xs, rfl, hx, q⟩
  · cases r1
    obtain ⟨its, r, pl, hz⟩ := I4.list hx
    have hlen := r.length
    refine tail_any (ops := [.ref p, .ref s2.heap.objs.size]) pl.isList.typeIs slot_list_getitem.lookup (wpAny_getItem_list_slice pl.isList hsl .none .none (.int (-1) t) (by simp) ?_ (by simp only [List.size_toArray]; omega)) (by with_unfolding_all rfl)
    rw [PySem.W.krv_pick]
    exact ⟨.ref _, _, I4.lnew (t' := s2.toks) r.reverse (by rw [List.length_reverse]; exact hz), rfl, q _ I4.fresh⟩
  · cases r1
    obtain ⟨its, r, pl, hz⟩ := I4.tuple hx
    have hlen := r.length
    refine tail_any (ops := [.ref p, .ref s2.heap.objs.size]) pl.typeIs PyProof.Rows.slot_tuple_getitem.lookup (rev_tup pl hsl (by simp only [List.size_toArray]; omega) ?_) (by with_unfolding_all rfl)
    refine ⟨.ref _, _, I4.laid (t' := s2.toks) (o := .tup xs.reverse) (fun b ob q => Heap.get?_push_of_some _ q) (Nat.le_refl _) ?_, rfl, q _ (I4.hok.fresh (Nat.le_refl _))⟩
    exact ⟨by rw [List.length_reverse]; exact hz, _, r.reverse, IsTup.new _ _⟩
noncomputable def revD : D → Option D
  | .lst l => some (.lst l.reverse)
  | .tup l => some (.tup l.reverse)
  | _ => none
theorem de_rev (ha : DE X a f) : DE X (.Subscript a (.Slice none none (some (.UnaryOp .USub (.Constant (.int 1) j p3) pos)) p2) pn) (mUn revD f) := by
  refine PE.conseq (pe_rev ha) fun σ H Q hq => ?_
  obtain ⟨O0, r, d, hR, e, q⟩ := hq
  obtain ⟨x, e1, e2⟩ := bind_some e
  refine ⟨O0, r, x, hR, e1, fun v H1 s1 i1 => ?_⟩
  have R1 := hR.same s1
  cases x <;> first | (simp only [revD, reduceCtorEq] at e2; done) | skip
  · simp only [revD, Option.some.injEq] at e2
    subst e2
    rw [Is.tup_iff] at i1
    obtain ⟨p, xs, rfl, hs, il⟩ := i1
    refine .inr ⟨p, xs, rfl, hs, fun t ht => q _ _ (s1.trans (same_upd ht)) ?_⟩
    rw [Is.tup_iff]
    exact ⟨t, _, rfl, SqT.of upd_same, il.reverse.same (same_upd ht) R1.ol⟩
  · simp only [revD, Option.some.injEq] at e2
    subst e2
    rw [Is.lst_iff] at i1
    obtain ⟨p, xs, rfl, hs, il⟩ := i1
    refine .inl ⟨p, xs, rfl, hs.sq, fun t ht => q _ _ (s1.trans (same_upd ht)) ?_⟩
    rw [Is.lst_iff]
    exact ⟨t, _, rfl, .inl ⟨R1.nofresh ht, .inl upd_same⟩, il.reverse.same (same_upd ht) R1.ol⟩
end
open PySem PySem.Spec PyProof.Rows L2 PySem.StrLaws PySem.Builtin.Str
section
variable {X : Cx} {a b : Expr} {f g : ME} {p pos : Pos} {elts : List Expr} {k : Nat} {tp : Pos}
noncomputable def z1 (F : V → Hp → Prop) : List V → Hp → Prop
  | [x], H => F x H
  | _, _ => False
theorem z1_inv {F : V → Hp → Prop} : ∀ {vs : List V} {H : Hp}, z1 F vs H → ∃ x, vs = [x] ∧ F x H
  | [x], _, h => ⟨x, rfl, h⟩
  | [], _, h => h.elim
  | _ :: _ :: _, _, h => h.elim
theorem adn0 (n : Nat) {j : Nat} (h : 0 ≠ j) : @Ne Addr (n : Nat) (n + j : Nat) := fun e => h (Nat.add_left_cancel (show n + 0 = n + j from e))
theorem keepL {K : Fg} {O M : Addr → Prop} (mo : ∀ a, M a → O a) {H : Hp} {a : Addr} {xs : List V} (h : LsAt K O H a xs) : ∀ H1, Keep M H H1 → SqL K H1 a xs := fun H1 k => h.imp (fun z => Rd.keep k (fun y => z.1 (mo _ y)) z.2) id
theorem pi_enum {ta : TE} (hg : Gl X "enumerate") (hm : X.mg "enumerate" = none) (ha : PE X a ta) (hs : starEach [a] X.env = [(false, eval a X.env)] := by rfl) :
    PI X (.Tuple elts k tp) (.Call (.Name "enumerate" p) [a] [] pos) (fun σ H R => ta σ H fun x H1 => ∃ u, x = .ref u ∧ (∃ xs, SqL X.K H1 u xs) ∧ R (ItE X.K u) H1) := by
  intro pins s σ H R I h
  have hA : PA X [a] (tCons ta tNil) := pa_cons ha pa_nil (by rw [hs]; rfl)
  refine Call_ (ld_blt I hg hm PyProof.Rows.boot_enumerate (PyProof.Rows.callWith_type1 (thn (hA pos pins s σ H (z1 fun x H1 => ∃ u, x = .ref u ∧ (∃ xs, SqL X.K H1 u xs) ∧ R (ItE X.K u) H1) I h) fun us s1 ⟨vs, H1, I1, r1, q1⟩ => ?_) hs rfl))
  obtain ⟨_, rfl, u, rfl, ⟨xs, hx⟩, q⟩ := z1_inv q1
  obtain ⟨uu, rfl, ru⟩ := Vals.one r1
  cases ru
  obtain ⟨its, _, pl, _⟩ := I1.list hx
  refine call_enumerate_list pl.isList fun h' z1 z2 _ kp => wpAny_pyIter_enum z1 ?_
  refine ⟨_, [s1.heap.objs.size + 1, s1.heap.objs.size], _, _, H1, rfl, I1.kept (t' := s1.toks) kp, turn_enum u _ _ (adn0 _ (by decide)).symm, ⟨⟨_, z1⟩, z2⟩, fun b hb => ?_, q⟩
  have hle : s1.heap.objs.size ≤ b := by
    simp only [List.not_mem_nil, List.mem_cons, or_false] at hb
    rcases hb with h | h
    · rw [h]; exact Nat.le_add_right _ _
    · rw [h]; exact Nat.le_refl _
  exact I1.fpOk hle (I1.hok.fresh hle)
noncomputable def enumD (l : List D) : List D := l.zipIdx.map fun p => .tup [.int (p.2 : Nat), p.1]
noncomputable def mEnum (f : ME) : ML := fun r => (f r).bind fun d => match d with
  | .lst l => some (enumD l)
  | _ => none
theorem enum_get {l : List D} {i : Nat} {d : D} (h : (enumD l)[i]? = some d) : ∃ x, l[i]? = some x ∧ d = .tup [.int i, x] := by
  unfold enumD at h
  rw [List.getElem?_map, List.getElem?_zipIdx] at h
  cases e1 : l[i]? with
  | none => rw [e1] at h; cases h
  | some x => rw [e1] at h; simp at h; exact ⟨x, rfl, h.symm⟩
theorem di_enum (hg : Gl X "enumerate") (hm : X.mg "enumerate" = none) (ha : DE X a f) (hs : starEach [a] X.env = [(false, eval a X.env)] := by rfl) : DI X (.Tuple elts k tp) (.Call (.Name "enumerate" p) [a] [] pos) (mEnum f) := by
  refine PI.conseq (pi_enum hg hm ha hs) fun σ H Rr hq => ?_
  obtain ⟨O0, r, ds, hR, e, q⟩ := hq
  obtain ⟨x, e1, e⟩ := bind_some e
  refine ⟨O0, r, x, hR, e1, fun v1 H1 s1 i1 => ?_⟩
  have R1 := hR.same s1
  cases x <;> first | (simp only [reduceCtorEq] at e; done) | skip
  rename_i l
  simp only [Option.some.injEq] at e
  subst e
  rw [Is.lst_iff] at i1
  obtain ⟨u, xs, rfl, hx, il⟩ := i1
  refine ⟨u, rfl, ⟨xs, hx.sq⟩, q _ H1 s1 ?_⟩
  intro i H2 O' kp oo
  have kp' : Keep (Ow O0 r σ) H1 H2 := fun b o e n => kp b o e fun z => n (.inr z.own)
  have sq2 := keepL (M := MutAt r σ) (fun a z => .inr z.own) hx H2 kp
  have hlen : (enumD l).length = l.length := by simp [enumD]
  refine ⟨fun hi => ⟨?_, fun y H' yy => ?_⟩, fun hi => ⟨xs, sq2, by rw [← il.length, ← hlen]; exact hi.symm⟩⟩
  · obtain ⟨d, ed⟩ := get_of_lt hi
    obtain ⟨dx, ex, _⟩ := enum_get ed
    obtain ⟨vx, q1, _⟩ := il.get ex
    exact ⟨xs, vx, sq2, q1⟩
  · obtain ⟨T, w, rfl, nT, rfl, h1⟩ := yy
    refine ⟨same_upd nT, fun d ed => ?_⟩
    obtain ⟨dx, ex, rfl⟩ := enum_get ed
    obtain ⟨vx, q1, i1⟩ := il.get ex
    have p1 := h1 xs sq2
    rw [q1] at p1
    cases p1
    have kk : Keep (Ow O0 r σ) H1 (upd H2 T (.tup [.int i, w])) := fun b o e' n => by
      have := kp' b o e' n
      rw [upd_ne (ne_of_none this nT)]; exact this
    rw [Is.tup_iff]
    exact ⟨T, _, rfl, SqT.of upd_same, .cons (by rw [Is.int_iff]) (.cons (Is.mono kk R1.ol oo _ _ i1) .nil)⟩
end
noncomputable def sRel (i : Nat) (g : MS) : MS := fun r => match r[i]? with
  | some (.o l) => g (r.set i (.v (.lst l)))
  | _ => none
theorem R.rel {K : Fg} {O0 : Addr → Prop} {H : Hp} {r : En} {σ : St} {i : Nat} {l : List D} (h : R K O0 H r σ) (e : r[i]? = some (.o l)) : R K O0 H (r.set i (.v (.lst l))) σ ∧ Kp H r σ H (r.set i (.v (.lst l))) σ := by
  have hi : i < r.length := (List.getElem?_eq_some_iff.mp e).1
  obtain ⟨a, xs, e1, e2, e3⟩ := h.own i l (by rw [e]; rfl)
  have sub : ∀ {q : Sl → Option (List D)} (_ : ∀ d, q (.v d) = none) b, AtS q (r.set i (.v (.lst l))) σ b → AtS q r σ b := fun {q} hq b ⟨j, m, ej, qj⟩ => by
    by_cases hj : i = j
    · subst hj
      rw [get_set_eq hi] at ej
      have ej' : q (.v (.lst l)) = some m := ej
      rw [hq] at ej'; cases ej'
    · rw [get_set_ne hj] at ej; exact ⟨j, m, ej, qj⟩
  have subO : ∀ b, Ow O0 (r.set i (.v (.lst l))) σ b → H b ≠ none → Ow O0 r σ b := fun b z _ => z.imp id (sub (fun _ => rfl) b)
  have na : ¬ Ow O0 (r.set i (.v (.lst l))) σ a := fun z => by
    rcases z with z | ⟨j, m, ej, qj⟩
    · exact h.loc i l a (.inl e) e1 z
    · have hj : i ≠ j := fun z => by subst z; rw [get_set_eq hi] at ej; cases ej
      rw [get_set_ne hj] at ej
      exact hj (h.apart i j a l m (by rw [e]; rfl) ej e1 qj)
  have ne : ∀ (j : Nat) (m : List D), ((r.set i (.v (.lst l)))[j]?).bind Sl.own = some m → i ≠ j := fun j m ej z => by subst z; rw [get_set_eq hi] at ej; cases ej
  refine ⟨⟨by simp [h.len], fun j d ej => ?_, fun j m ej => ?_, fun j k b m n e4 e5 q1 q2 => ?_, h.o0, fun j m b ej q => ?_, fun j m b ej q => ?_, fun j ks m ej => ?_⟩, ⟨fun b o eb _ => eb, fun b eb => eb, fun b o eb mb => ⟨o, eb, mb⟩, fun b z => .inl (sub (fun _ => rfl) b z), fun b z => .inl (sub (fun _ => rfl) b z), fun j m ej => ?_, fun j m ej => ?_⟩⟩
  · by_cases hj : i = j
    · subst hj
      rw [get_set_eq hi] at ej; cases ej
      refine ⟨.ref a, e1, ?_⟩
      rw [Is.lst_iff]
      exact ⟨a, xs, rfl, .inl ⟨na, .inl e2⟩, IsL.mono (Same.kp (Same.refl H) _) h.ol subO _ _ e3⟩
    · rw [get_set_ne hj] at ej
      obtain ⟨v, q1, q2⟩ := h.val j d ej
      exact ⟨v, q1, Is.mono (Same.kp (Same.refl H) _) h.ol subO _ _ q2⟩
  · have hj := ne j m (ls_own' ej)
    rw [get_set_ne hj] at ej
    obtain ⟨b, ys, q1, q2, q3⟩ := h.own j m ej
    exact ⟨b, ys, q1, q2, IsL.mono (Same.kp (Same.refl H) _) h.ol subO _ _ q3⟩
  · have hj := ne j m e4
    have hk := ne k n e5
    rw [get_set_ne hj] at e4
    rw [get_set_ne hk] at e5
    exact h.apart j k b m n e4 e5 q1 q2
  · have hj : i ≠ j := ne j m (by rcases ej with ej | ej | ⟨_, ej⟩ <;> rw [ej] <;> rfl)
    rw [get_set_ne hj] at ej
    exact h.loc j m b ej q
  · have hj : i ≠ j := ne j m (by rw [ej]; rfl)
    rw [get_set_ne hj] at ej
    exact h.par j m b ej q
  · have hj := ne j m (by rw [ej]; rfl)
    rw [get_set_ne hj] at ej
    obtain ⟨b, kvs, q1, q2, q4, q3⟩ := h.dct j ks m ej
    exact ⟨b, kvs, q1, q2, q4, IsL.mono (Same.kp (Same.refl H) _) h.ol subO _ _ q3⟩
  · have hj : i ≠ j := fun z => by subst z; rw [e] at ej; cases ej
    exact ⟨⟨m, by rw [get_set_ne hj]; exact ej⟩, rfl⟩
  · have hj : i ≠ j := fun z => by subst z; rw [e] at ej; cases ej
    exact ⟨by rw [get_set_ne hj]; exact ej, rfl⟩
theorem ds_rel (i : Nat) {X : Cx} {sts : List Stmt} {g : MS} (h : DSs X sts g) : DSs X sts (sRel i g) := by
  refine PSs.conseq h fun Dn σ H hq => ?_
  obtain ⟨O0, r, fl, hR, e, q⟩ := hq
  unfold sRel at e
  have ⟨l, e1, e2⟩ : ∃ l, r[i]? = some (.o l) ∧ g (r.set i (.v (.lst l))) = some fl := by
    split at e
    · rename_i l h; exact ⟨l, h, e⟩
    · cases e
  obtain ⟨R1, k1⟩ := hR.rel e1
  exact ⟨O0, _, fl, R1, e2, PostS.before R1 k1 q⟩
noncomputable def frZ (i : Nat) (r : En) : Option En := match r[i]? with
  | some (.o l) => some (r.set i (.z l))
  | _ => none
noncomputable def unZ (i : Nat) (r : En) : Option En := match r[i]? with
  | some (.z l) => some (r.set i (.o l))
  | _ => none
noncomputable def unF (i : Nat) : Fl → Option Fl
  | .nx r => (unZ i r).map .nx
  | .bk r => (unZ i r).map .bk
  | .ct r => (unZ i r).map .ct
  | .rt d r => (unZ i r).map (.rt d)
  | .rf _ _ => none
  | .rg _ _ _ => none
noncomputable def sZ (i : Nat) (g : MS) : MS := fun r => (frZ i r).bind fun r1 => (g r1).bind (unF i)
theorem R.swap {K : Fg} {O0 : Addr → Prop} {H : Hp} {r : En} {σ : St} {i : Nat} {l : List D} {y : Sl} (h : R K O0 H r σ) (hy : (r[i]? = some (.o l) ∧ y = .z l) ∨ (r[i]? = some (.z l) ∧ y = .o l)) : R K O0 H (r.set i y) σ ∧ ∀ b, OwnAt (r.set i y) σ b ↔ OwnAt r σ b := by
  have eo : (r[i]?).bind Sl.own = some l := by rcases hy with ⟨e, _⟩ | ⟨e, _⟩ <;> rw [e] <;> rfl
  have yo : y.own = some l := by rcases hy with ⟨_, e⟩ | ⟨_, e⟩ <;> rw [e] <;> rfl
  have hi : i < r.length := by
    rcases hy with ⟨e, _⟩ | ⟨e, _⟩ <;> exact (List.getElem?_eq_some_iff.mp e).1
  have own : ∀ j, ((r.set i y)[j]?).bind Sl.own = (r[j]?).bind Sl.own := fun j => by
    by_cases hj : i = j
    · subst hj; rw [get_set_eq hi, eo]; exact yo
    · rw [get_set_ne hj]
  have lss : ∀ j, ((r.set i y)[j]?).bind Sl.ls = (r[j]?).bind Sl.ls := fun j => by
    by_cases hj : i = j
    · subst hj; rw [get_set_eq hi]; rcases hy with ⟨e, e2⟩ | ⟨e, e2⟩ <;> rw [e, e2] <;> rfl
    · rw [get_set_ne hj]
  have at_ : ∀ b, OwnAt (r.set i y) σ b ↔ OwnAt r σ b := fun b => ⟨fun ⟨j, m, e, q⟩ => ⟨j, m, by rw [← own j]; exact e, q⟩, fun ⟨j, m, e, q⟩ => ⟨j, m, by rw [own j]; exact e, q⟩⟩
  have ow : ∀ b, Ow O0 (r.set i y) σ b → H b ≠ none → Ow O0 r σ b := fun b z _ => z.imp id (at_ b).mp
  refine ⟨⟨by simp [h.len], fun j d ej => ?_, fun j m ej => ?_, fun j k b m n e4 e5 => ?_, h.o0, fun j m b ej q => ?_, fun j m b ej q => ?_, fun j ks m ej => ?_⟩, at_⟩
  · have hj : i ≠ j := fun z => by subst z; rw [get_set_eq hi] at ej; cases ej; cases yo
    rw [get_set_ne hj] at ej
    obtain ⟨v, q1, q2⟩ := h.val j d ej
    exact ⟨v, q1, Is.mono (Same.kp (Same.refl H) _) h.ol ow _ _ q2⟩
  · rw [lss j] at ej
    obtain ⟨b, ys, q1, q2, q3⟩ := h.own j m ej
    exact ⟨b, ys, q1, q2, IsL.mono (Same.kp (Same.refl H) _) h.ol ow _ _ q3⟩
  · rw [own j] at e4
    rw [own k] at e5
    exact h.apart j k b m n e4 e5
  · by_cases hj : i = j
    · subst hj
      rcases hy with ⟨e, _⟩ | ⟨e, _⟩
      · exact h.loc i l b (.inl e) q
      · exact h.loc i l b (.inr (.inl e)) q
    · rw [get_set_ne hj] at ej
      exact h.loc j m b ej q
  · by_cases hj : i = j
    · subst hj
      rw [get_set_eq hi] at ej
      rcases hy with ⟨_, e⟩ | ⟨_, e⟩ <;> rw [e] at ej <;> cases ej
    · rw [get_set_ne hj] at ej
      exact h.par j m b ej q
  · have hj : i ≠ j := fun z => by
      subst z
      rw [get_set_eq hi] at ej
      rcases hy with ⟨_, e⟩ | ⟨_, e⟩ <;> rw [e] at ej <;> cases ej
    rw [get_set_ne hj] at ej
    obtain ⟨b, kvs, q1, q2, q4, q3⟩ := h.dct j ks m ej
    exact ⟨b, kvs, q1, q2, q4, IsL.mono (Same.kp (Same.refl H) _) h.ol ow _ _ q3⟩
theorem frZ_some {i : Nat} {r r1 : En} (e : frZ i r = some r1) : ∃ l, r[i]? = some (.o l) ∧ r1 = r.set i (.z l) := by
  unfold frZ at e
  split at e
  · rename_i l h; cases e; exact ⟨l, h, rfl⟩
  · cases e
theorem unZ_some {i : Nat} {r r1 : En} (e : unZ i r = some r1) : ∃ l, r[i]? = some (.z l) ∧ r1 = r.set i (.o l) := by
  unfold unZ at e
  split at e
  · rename_i l h; cases e; exact ⟨l, h, rfl⟩
  · cases e
theorem Kp.froze {K : Fg} {O0 : Addr → Prop} {H H' : Hp} {r r1 r2 r3 : En} {σ σ2 : St} {i : Nat} (hR : R K O0 H r σ) (e : frZ i r = some r1) (k : Kp H r1 σ H' r2 σ2) (R2 : R K O0 H' r2 σ2) (e' : unZ i r2 = some r3) : R K O0 H' r3 σ2 ∧ Kp H r σ H' r3 σ2 := by
  obtain ⟨l, el, rfl⟩ := frZ_some e
  obtain ⟨l2, el2, rfl⟩ := unZ_some e'
  have hi : i < r.length := (List.getElem?_eq_some_iff.mp el).1
  have hi2 : i < r2.length := (List.getElem?_eq_some_iff.mp el2).1
  obtain ⟨R1, at1⟩ := hR.swap (y := .z l) (.inl ⟨el, rfl⟩)
  obtain ⟨R3, at3⟩ := R2.swap (y := .o l2) (.inr ⟨el2, rfl⟩)
  obtain ⟨q1, q2⟩ := k.fz i l (get_set_eq hi)
  have m1 : ∀ b, MutAt (r.set i (.z l)) σ b → MutAt r σ b := fun b ⟨j, m, ej, qj⟩ => by
    have hj : i ≠ j := fun z => by subst z; rw [get_set_eq hi] at ej; cases ej
    rw [get_set_ne hj] at ej; exact ⟨j, m, ej, qj⟩
  refine ⟨R3, ⟨fun b o eb n => k.keep b o eb fun z => n (m1 b z), k.live, k.lst, fun b z => (k.new b ((at3 b).mp z)).imp (at1 b).mp id, fun b z => ?_, fun j m ej => ?_, fun j m ej => ?_⟩⟩
  · obtain ⟨j, m, ej, qj⟩ := z
    by_cases hj : i = j
    · subst hj
      exact .inl ⟨i, l, by rw [el]; rfl, by rw [← q2]; exact qj⟩
    · rw [get_set_ne hj] at ej
      exact (k.mnew b ⟨j, m, ej, qj⟩).imp (m1 b) id
  · have hj : i ≠ j := fun z => by subst z; rw [el] at ej; cases ej
    obtain ⟨⟨m', e1⟩, e2⟩ := k.par j m (by rw [get_set_ne hj]; exact ej)
    exact ⟨⟨m', by rw [get_set_ne hj]; exact e1⟩, e2⟩
  · have hj : i ≠ j := fun z => by subst z; rw [el] at ej; cases ej
    obtain ⟨e1, e2⟩ := k.fz j m (by rw [get_set_ne hj]; exact ej)
    exact ⟨by rw [get_set_ne hj]; exact e1, e2⟩
theorem ds_z (i : Nat) {X : Cx} {st : Stmt} {g : MS} (h : DS X st g) : DS X st (sZ i g) := by
  refine PS.conseq h fun Dn σ H hq => ?_
  obtain ⟨O0, r, fl, hR, e, q⟩ := hq
  obtain ⟨r1, e1, e2⟩ := bind_some e
  obtain ⟨f1, e3, e4⟩ := bind_some e2
  have R1 : R X.K O0 H r1 σ := by
    obtain ⟨l, el, rfl⟩ := frZ_some e1
    exact (hR.swap (y := .z l) (.inl ⟨el, rfl⟩)).1
  refine ⟨O0, r1, f1, R1, e3, ?_⟩
  cases f1 with
  | nx r2 =>
    obtain ⟨r3, e5, rfl⟩ := map_some e4
    exact fun σ' H' R' k' => let ⟨R3, k3⟩ := Kp.froze hR e1 k' R' e5; q σ' H' R3 k3
  | bk r2 =>
    obtain ⟨r3, e5, rfl⟩ := map_some e4
    exact fun σ' H' R' k' => let ⟨R3, k3⟩ := Kp.froze hR e1 k' R' e5; q σ' H' R3 k3
  | ct r2 =>
    obtain ⟨r3, e5, rfl⟩ := map_some e4
    exact fun σ' H' R' k' => let ⟨R3, k3⟩ := Kp.froze hR e1 k' R' e5; q σ' H' R3 k3
  | rt d r2 =>
    obtain ⟨r3, e5, rfl⟩ := map_some e4
    exact fun v σ' H' R' k' iv => let ⟨R3, k3⟩ := Kp.froze hR e1 k' R' e5; q v σ' H' R3 k3 iv
  | rf l r2 => cases e4
  | rg ks l r2 => cases e4
section
variable {X : Cx} {a b : Expr} {f g : ME} {p pos : Pos} {elts : List Expr} {k : Nat} {tp : Pos}
noncomputable def lK (K : Fg) (f : ML) : TE := fun σ H Q => ∃ O0 r l, R K O0 H r σ ∧ f r = some l ∧ ∀ u xs H', Same H H' → (∀ H1, Keep (MutAt r σ) H' H1 → SqL K H1 u xs) → IsL K (Ow O0 r σ) H' l xs → Q (.ref u) H'
noncomputable def DK (X : Cx) (e : Expr) (f : ML) : Prop := PE X e (lK X.K f)
noncomputable def mZs (i : Nat) : ML := fun r => match r[i]? with
  | some (.z l) => some l
  | _ => none
theorem dk_z (i : Nat) {x : Str} (h : PE X (.Name x pos) (tVar i)) : DK X (.Name x pos) (mZs i) := by
  refine PE.conseq h fun σ H Q hq => ?_
  obtain ⟨O0, r, l, hR, e, q⟩ := hq
  have e' : r[i]? = some (.z l) := by
    unfold mZs at e
    split at e
    · rename_i l' h; cases e; exact h
    · cases e
  obtain ⟨u, xs, e1, e2, e3⟩ := hR.own i l (by rw [e']; rfl)
  refine ⟨.ref u, e1, q u xs H (Same.refl H) (fun H1 k1 => SqL.of (k1 _ _ e2 fun ⟨j, m, ej, qj⟩ => ?_)) e3⟩
  obtain ⟨y, ey, ym⟩ := bind_some ej
  have := hR.apart i j u l m (by rw [e']; rfl) (by rw [ey]; exact mt_own ym) e1 qj
  subst this
  rw [e'] at ey; cases ey; cases ym
theorem noF {H : Hp} : OLst (fun _ => False) H := fun _ z => z.elim
end
section
variable {w : World} {prog : Program} {E : Value → Shared → Prop} {A : Around}
theorem drawL {it l : Addr} {ys : Array Value} (hne : l ≠ it) : ∀ (n i : Nat) (s : Shared) (Q : List Value → Shared → Prop), s.heap.IsListIter it l i → s.heap.IsList l ys → i + n ≤ ys.size →
    (∀ g, g.IsListIter it l (i + n) → Heap.SameBut it s.heap g → Q ((ys.toList.drop i).take n) { s with heap := g }) → wpAny (model prog w) A (draw (.ref it) n) Q E s
  | 0, i, s, Q, h1, _, _, h => by
    show wpAny _ _ (pure []) Q E s; exact wpAny_pure (by simpa using h s.heap h1 (Heap.SameBut.refl ..))
  | n + 1, i, s, Q, h1, h2, h3, h => by
    have hl : i < ys.size := by omega
    show wpAny _ _ (pyNext (.ref it) >>= _) Q E s; refine wpAny_bind (wpAny_pyNext_list_item h1 h2 (x := ys[i]) (by simp [hl]) fun g1 k1 t1 => ?_)
    refine wpAny_bind (wpAny_holding (drawL hne n (i + 1) _ _ k1 (h2.extBut t1.extBut hne) (by omega) fun g2 k2 t2 => wpAny_pure (?_)))
    have hd : ys.toList.drop i = ys[i] :: ys.toList.drop (i + 1) := by simp [List.drop_eq_getElem_cons, hl]
    have := h g2 (by rw [show i + (n + 1) = i + 1 + n by omega]; exact k2) (t1.trans t2)
    rw [hd, List.take_succ_cons] at this; exact this
theorem unpackL {l : Addr} {ys : Array Value} {s : Shared} {Q : List Value → Shared → Prop} (hh : A.handled = none) (h2 : s.heap.IsList l ys) (h : ∀ g, Heap.ExtBut s.heap.objs.size s.heap g → Q ys.toList { s with heap := g }) : wpAny (model prog w) A (unpackItems (.ref l) ys.size none) Q E s := by
  have hlt : l ≠ s.heap.objs.size := by obtain ⟨o, e, _⟩ := h2; exact Nat.ne_of_lt (Heap.lt_size e)
  unfold unpackItems; refine wpAny_bind (?_); unfold notIterableAtAll
  refine wpAny_bind (wpAny_specialOf h2.typeIs F.slot_list_iter.lookup (wpAny_pure (?_))); simp only [Bool.false_eq_true, if_false]; refine wpAny_bind (wpAny_holding (wpAny_pyIter_list h2 (?_)))
  refine wpAny_bind (wpAny_holding (drawL hlt ys.size 0 _ _ ⟨_, Heap.get?_push_size _ rfl, rfl, rfl⟩ (h2.push _) (by omega) fun g1 k1 t1 => ?_))
  have ha : List.take ys.size (List.drop 0 ys.toList) = ys.toList := by rw [List.drop_zero]; exact List.take_of_length_le (by simp)
  rw [ha, if_neg (by simp)]
  refine wpAny_bind (wpAny_holding (wpAny_pyNext_list_end hh k1 ((h2.push _).extBut t1.extBut hlt) (by simp) fun g2 t2 => ?_)); simp only [Option.isSome_none, Bool.false_eq_true, if_false]
  exact wpAny_pure (h g2 fun b o hb e => t2 b o hb (t1.extBut b o hb (Heap.get?_push_of_some _ e)))
end
section
variable {X : Cx} {pos : Pos} {es : List Expr} {k n : Nat}
theorem pg_seq {t : TGs} (hc : X.calm = true) (h : PGs X es t) (hn : (assignEach es X.env).length = n := by rfl) (hst : (assignEach es X.env).findIdx? (·.1) = none := by rfl) :
    PG X (.Tuple es k pos) (fun v σ H Q => ∃ a xs, v = .ref a ∧ (SqT X.K H a xs ∨ SqL X.K H a xs) ∧ xs.length = n ∧ t xs σ H Q) := by
  intro pins s σ H v u Q I r hw
  obtain ⟨a, xs, e1, hq, hl, hw⟩ := hw
  subst e1
  cases r
  rcases hq with hq | hq
  · exact pg_tup hc h hn hst pins s σ H (.ref a) (.ref a) Q I rfl ⟨a, xs, rfl, hq, hl, hw⟩
  · obtain ⟨its, rv, pl, hz⟩ := I.list hq
    rw [assign_Tuple]
    refine wpAny_bind (wpAny_standAt ?_)
    unfold unpack
    rw [hst]
    have hsz : (assignEach es X.env).length = its.toArray.size := by rw [hn, List.size_toArray, ← rv.length]; exact hl.symm
    rw [hsz]
    refine wpAny_bind (wpAny_holding (unpackL (I.ok.hd hc) pl.isList fun g hx => ?_))
    have I1 : Inv X pins σ H { s with heap := g } := I.kept (t' := s.toks) fun b o e => hx b o (Nat.ne_of_lt (Heap.lt_size e)) e
    exact h pins _ σ H xs _ Q I1 (by simpa using rv) hw
noncomputable def bdSeq (n : Nat) (bs : List D → En → Option En) : D → En → Option En := fun d r => match d with
  | .tup l => if l.length = n then bs l r else none
  | .lst l => if l.length = n then bs l r else none
  | _ => none
theorem dg_seq {bs : List D → En → Option En} (hc : X.calm = true) (h : DGs X es bs) (hn : (assignEach es X.env).length = n := by rfl) (hst : (assignEach es X.env).findIdx? (·.1) = none := by rfl) : DG X (.Tuple es k pos) (bdSeq n bs) := by
  refine PG.conseq (pg_seq hc h hn hst) fun v σ H Q h => ?_
  obtain ⟨O0, r, d, r', hR, iv, e, q⟩ := h
  cases d <;> first | (simp only [bdSeq, reduceCtorEq] at e; done) | skip
  · rename_i l
    rw [Is.tup_iff] at iv
    obtain ⟨a, xs, rfl, hs, il⟩ := iv
    simp only [bdSeq] at e
    split at e
    · rename_i hl
      exact ⟨a, xs, rfl, .inl hs, by rw [← il.length]; exact hl, O0, r, l, r', hR, il, e, q⟩
    · cases e
  · rename_i l
    rw [Is.lst_iff] at iv
    obtain ⟨a, xs, rfl, hs, il⟩ := iv
    simp only [bdSeq] at e
    split at e
    · rename_i hl
      exact ⟨a, xs, rfl, .inr hs.sq, by rw [← il.length]; exact hl, O0, r, l, r', hR, il, e, q⟩
    · cases e
end
set_option maxRecDepth 9000 in
theorem extT (l : Addr) (xs : Array Value) (n : Nat) (b : Addr) (cl : Value) (dd : Option Addr) (ys : Array Value) (n2 : Nat) (sl : Array (Option Value)) (hcl : cl = .type "tuple") (h0 : ¬(!xs.isEmpty && Builtin.List.listTooLong (xs.size + ys.size)) = true) (h1 : xs.size ≤ sizeLine) (h2 : xs.size + ys.size ≤ sizeLine + 1) :
    Meets (Builtin.«list.extend» ⟨[.ref l, .ref b], []⟩) (fun _ R s => s.heap.get? l = some { cls := .type "list", dict := none, data := .seq xs n, slots := #[] } ∧ s.heap.get? b = some { cls := cl, dict := dd, data := .seq ys n2, slots := sl } ∧ R (.ok (.ret Value.none)) { s with heap := s.heap.update l (Obj.mapSeq fun x => x ++ ys), toks := s.toks }) :=
  .of_wp fun prog w A R s h => by
    subst hcl
    obtain ⟨hp, g, d, tk, os⟩ := s; obtain ⟨hl, hb, h⟩ := h; have f1 := AutoSeq1.idx_int; have f2 := AutoSeq1.sub_tuple_tuple; have f3 := AutoSeq1.sub_list_list; have f4 := AutoSeq1.sub_tuple_list; have f5 := AutoSeq1.sub_list_tuple
    have hz : (xs ++ ys).size ≤ sizeLine + 1 := by rw [Array.size_append]; exact h2
    wp_walk using (wpAny_updateSeq hl rfl (hz := h1) (_hz' := hz)), wpAny_loadPart' hl, wpAny_loadPart' hb; exact ⟨_, rfl, h⟩
set_option maxRecDepth 9000 in
theorem extL (l : Addr) (xs : Array Value) (n : Nat) (b : Addr) (cl : Value) (dd : Option Addr) (ys : Array Value) (n2 : Nat) (sl : Array (Option Value)) (hcl : cl = .type "list") (h0 : ¬(!xs.isEmpty && Builtin.List.listTooLong (xs.size + ys.size)) = true) (h1 : xs.size ≤ sizeLine) (h2 : xs.size + ys.size ≤ sizeLine + 1) :
    Meets (Builtin.«list.extend» ⟨[.ref l, .ref b], []⟩) (fun _ R s => s.heap.get? l = some { cls := .type "list", dict := none, data := .seq xs n, slots := #[] } ∧ s.heap.get? b = some { cls := cl, dict := dd, data := .seq ys n2, slots := sl } ∧ R (.ok (.ret Value.none)) { s with heap := s.heap.update l (Obj.mapSeq fun x => x ++ ys), toks := s.toks }) :=
  .of_wp fun prog w A R s h => by
    subst hcl
    obtain ⟨hp, g, d, tk, os⟩ := s; obtain ⟨hl, hb, h⟩ := h; have f1 := AutoSeq1.idx_int; have f2 := AutoSeq1.sub_tuple_tuple; have f3 := AutoSeq1.sub_list_list; have f4 := AutoSeq1.sub_tuple_list; have f5 := AutoSeq1.sub_list_tuple
    have hz : (xs ++ ys).size ≤ sizeLine + 1 := by rw [Array.size_append]; exact h2
    wp_walk using (wpAny_updateSeq hl rfl (hz := h1) (_hz' := hz)), wpAny_loadPart' hl, wpAny_loadPart' hb; exact ⟨_, rfl, h⟩
section
variable {X : Cx}
noncomputable def rExtA (K : Fg) : V → List V → Hp → VK → Prop := fun x vs H Q => ∃ l b xs zs, x = .ref l ∧ vs = [.ref b] ∧ H l = some (.lst xs) ∧ (SqL K H b zs ∨ SqT K H b zs) ∧ xs.length + zs.length ≤ sizeLine ∧ Q .non (upd H l (.lst (xs ++ zs)))
theorem mt_extA : MtR X "list.extend" (rExtA X.K) := by
  intro pins s σ H x vs v us Q I rx rv h
  obtain ⟨l, b, xs, zs, rfl, rfl, hH, hB, hz, q⟩ := h
  cases rx
  obtain ⟨u, rfl, ru⟩ := rv.one
  cases ru
  obtain ⟨z, its, n, r, hl, e⟩ := I.lstM hH
  have fin : ∀ (its2 : List Value), Vals zs its2 → ¬ (!its.toArray.isEmpty && Builtin.List.listTooLong (its.toArray.size + its2.toArray.size)) = true ∧ its.toArray.size ≤ sizeLine ∧ its.toArray.size + its2.toArray.size ≤ sizeLine + 1 ∧
      EP X pins σ Q Value.none { s with heap := s.heap.update l (Obj.mapSeq fun x => x ++ its2.toArray), toks := s.toks } := fun its2 r2 => by
    have hl2 := r2.length
    have hsz : its.toArray.size + its2.toArray.size ≤ sizeLine := by rw [List.size_toArray, List.size_toArray]; omega
    refine ⟨by rw [notLongL hsz, Bool.and_false]; exact Bool.false_ne_true, by rw [List.size_toArray]; omega, by omega, .non, _, I.lset (its' := its ++ its2) hH e (by simp) (r.append r2) ?_, rfl, q⟩
    rw [List.length_append]; omega
  rcases hB with hB | hB
  · obtain ⟨its2, r2, ⟨⟨c2, d2, dt2, sl2⟩, n2, g2, hc, hd, hs⟩, z2⟩ := I.list hB
    simp only at hc hd hs
    subst hs
    obtain ⟨f1, f2, f3, f4⟩ := fin its2 r2
    exact call_meets F.slot_list_extend ⟨_, e, rfl⟩ F.entry_list_extend (F.args_list_extend_2 _ _) (extL l its.toArray n b _ _ its2.toArray n2 _ hc f1 f2 f3) ⟨e, g2, f4⟩
  · obtain ⟨its2, r2, ⟨⟨c2, d2, dt2, sl2⟩, g2, hc, n2, hs⟩, z2⟩ := I.tuple hB
    simp only at hc hs
    subst hs
    obtain ⟨f1, f2, f3, f4⟩ := fin its2 r2
    exact call_meets F.slot_list_extend ⟨_, e, rfl⟩ F.entry_list_extend (F.args_list_extend_2 _ _) (extT l its.toArray n b _ _ its2.toArray n2 _ hc f1 f2 f3) ⟨e, g2, f4⟩
variable {apos cpos pn : Pos} {e : Expr} {f : ME}
theorem dx_extend (i : Nat) {x : Str} (h : PE X (.Name x pn) (tVar i)) (he : DE X e f)
    (hline : (apos.endLine == cpos.line) = true := by rfl) (hbase : attributeBase (.Name x pn) "extend" X.env (eval (.Name x pn) X.env) = eval (.Name x pn) X.env := by rfl)
    (hfew : ((backTo cpos (starEach [e] X.env)).all (fun x => !x.1) && (backToKw cpos (keywordEach [] X.env)).all (fun x => x.1.isSome) && decide ([e].length + ([] : List Keyword).length + (if ([] : List Keyword).isEmpty then 0 else 1) < 30)) = true := by rfl)
    (hs : starEach [e] X.env = (false, eval e X.env) :: starEach [] X.env := by rfl) :
    DX X (.Call (.Attribute (.Name x pn) "extend" apos) [e] [] cpos) (mExt i f) := by
  refine PE.conseq (pe_bm PySem.F.plainAttrs_list PySem.F.slot_list_extend PySem.F.type_list_extend mt_extA h (pa_cons he pa_nil hs) hbase hfew hline hs) fun σ H Q hq => ?_
  obtain ⟨O0, r, d', r', hR, e, q⟩ := hq
  obtain ⟨d, e1, e⟩ := bind_some e
  obtain ⟨m, em, e⟩ := bind_some e
  obtain ⟨l, e2, e⟩ := bind_some e
  split at e
  · rename_i hl
    obtain ⟨r2, e3, e4⟩ := map_some e
    cases e4
    obtain ⟨a, xs, q1, q2, q3⟩ := mt_at hR e2
    refine ⟨.ref a, q1, .inl ⟨rfl, xs, SqL.of q2⟩, O0, r, d, hR, e1, fun v H1 s1 i1 => ?_⟩
    have R1 := hR.same s1
    have key : ∃ b zs, v = .ref b ∧ (SqL X.K H1 b zs ∨ SqT X.K H1 b zs) ∧ IsL X.K (Ow O0 r σ) H1 m zs := by
      cases d <;> first | (cases em; done) | skip
      · cases em; rw [Is.tup_iff] at i1; obtain ⟨b, zs, rfl, h1, h2⟩ := i1; exact ⟨b, zs, rfl, .inr h1, h2⟩
      · cases em; rw [Is.lst_iff] at i1; obtain ⟨b, zs, rfl, h1, h2⟩ := i1; exact ⟨b, zs, rfl, .inl h1.sq, h2⟩
    obtain ⟨b, zs, rfl, hb, il⟩ := key
    obtain ⟨R2, k2⟩ := R1.upd (xs' := xs ++ zs) e3 q1 (s1 _ _ q2) ((q3.same s1 hR.ol).append il)
    exact ⟨a, b, xs, zs, rfl, rfl, s1 _ _ q2, hb, by rw [← q3.length, ← il.length]; exact hl, q _ _ R2 ((Kp.of_same r σ s1).trans k2) (by rw [Is.non_iff])⟩
  · cases e
end
noncomputable def eqLV : List V → List V → Bool
  | [], [] => true
  | x :: xs, y :: ys => eqV x y && eqLV xs ys
  | _, _ => false
noncomputable def eqLF : List D → List D → Bool
  | [], [] => true
  | x :: xs, y :: ys => eqF x y && eqLF xs ys
  | _, _ => false
noncomputable def eqAtJ (xs ys : List V) (j : Nat) : Bool := match xs[j]?, ys[j]? with
  | some x, some y => eqV x y
  | _, _ => false
theorem range_eqJ : ∀ (xs ys : List V), xs.length = ys.length → (List.range xs.length).all (eqAtJ xs ys) = eqLV xs ys
  | [], [], _ => rfl
  | x :: xs, y :: ys, h => by
    rw [List.length_cons, List.range_succ_eq_map, List.all_cons, List.all_map, eqLV, ← range_eqJ xs ys (by simpa using h)]
    rfl
  | [], y :: ys, h => by simp at h
  | x :: xs, [], h => by simp at h
theorem eqLV_len : ∀ (xs ys : List V), xs.length ≠ ys.length → eqLV xs ys = false
  | [], [], h => by simp at h
  | x :: xs, y :: ys, h => by rw [eqLV, eqLV_len xs ys (by simpa using h), Bool.and_false]
  | [], y :: ys, h => rfl
  | x :: xs, [], h => rfl
theorem eqLF_ok {K : Fg} {O : Addr → Prop} {H : Hp} : ∀ {l m : List D} {xs ys : List V}, IsL K O H l xs → IsL K O H m ys → l.all flatD = true → m.all flatD = true → xs.all flatV = true ∧ ys.all flatV = true ∧ eqLV xs ys = eqLF l m
  | [], [], xs, ys, h, h', _, _ => by unfold IsL at h h'; subst h h'; exact ⟨rfl, rfl, rfl⟩
  | [], e :: m, xs, ys, h, h', _, f' => by
    unfold IsL at h; subst h
    rw [List.all_cons, Bool.and_eq_true] at f'
    unfold IsL at h'; obtain ⟨v, r, rfl, h1, h2⟩ := h'
    exact ⟨rfl, by rw [List.all_cons, flat_ok h1 f'.1, (eqLF_ok (l := []) IsL.nil h2 rfl f'.2).2.1]; rfl, rfl⟩
  | d :: l, [], xs, ys, h, h', f, _ => by
    unfold IsL at h'; subst h'
    rw [List.all_cons, Bool.and_eq_true] at f
    unfold IsL at h; obtain ⟨v, r, rfl, h1, h2⟩ := h
    exact ⟨by rw [List.all_cons, flat_ok h1 f.1, (eqLF_ok (m := []) h2 IsL.nil f.2 rfl).1]; rfl, rfl, rfl⟩
  | d :: l, e :: m, xs, ys, h, h', f, f' => by
    rw [List.all_cons, Bool.and_eq_true] at f f'
    unfold IsL at h; obtain ⟨v, r, rfl, h1, h2⟩ := h
    unfold IsL at h'; obtain ⟨v', r', rfl, h1', h2'⟩ := h'
    obtain ⟨a, b, c⟩ := eqLF_ok h2 h2' f.2 f'.2
    exact ⟨by rw [List.all_cons, flat_ok h1 f.1, a]; rfl, by rw [List.all_cons, flat_ok h1' f'.1, b]; rfl, by rw [eqLV, eqLF, c, eqF_ok h1 f.1 h1' f'.1]⟩
section
variable {X : Cx}
noncomputable def rEqL (K : Fg) (neg : Bool) : R2 := fun x y H Q => ∃ p q xs ys, x = .ref p ∧ y = .ref q ∧ SqL K H p xs ∧ SqL K H q ys ∧ xs.all flatV = true ∧ ys.all flatV = true ∧ Q (.bl (if neg then !eqLV xs ys else eqLV xs ys)) H
theorem all_get {xs : List V} {j : Nat} {x : V} (h : xs.all flatV = true) (e : xs[j]? = some x) : flatV x = true := List.all_eq_true.mp h x (List.mem_of_getElem? e)
theorem vals_at {xs : List V} {its : List Value} (r : Vals xs its) {j : Nat} (h : j < its.toArray.size) : ∃ x, xs[j]? = some x ∧ RelV x its.toArray[j] := by
  have hj : j < xs.length := by rw [r.length]; simpa using h
  obtain ⟨u, e, q⟩ := r.get (i := j) (x := xs[j]) (by simp [hj])
  refine ⟨xs[j], by simp [hj], ?_⟩
  have : its.toArray[j] = u := by
    have h' : j < its.length := by simpa using h
    simp only [List.getElem_toArray]
    rw [List.getElem?_eq_getElem h'] at e
    exact Option.some.inj e
  rw [this]; exact q
theorem items_eq {A : Around} {s : Shared} {xs ys : List V} {its its2 : List Value} (r : Vals xs its) (r2 : Vals ys its2) (fx : xs.all flatV = true) (fy : ys.all flatV = true) : ∀ j (h1 : j < its.toArray.size) (h2 : j < its2.toArray.size), SeqAt.EqAt A s its.toArray[j] its2.toArray[j] (eqAtJ xs ys j) := by
  intro j h1 h2
  obtain ⟨x, e1, q1⟩ := vals_at r h1
  obtain ⟨y, e2, q2⟩ := vals_at r2 h2
  have : eqAtJ xs ys j = eqV x y := by unfold eqAtJ; rw [e1, e2]
  rw [this]
  exact eqAt_V q1 q2 (all_get fx e1) (all_get fy e2)
theorem op_eqL (hu : X.A.units < cLine) : OpR X (compareOp .Eq) (rEqL X.K false) := by
  intro pins s σ H x y v u Q I rx ry h
  obtain ⟨p, q', xs, ys, rfl, rfl, h1, h2, fx, fy, q⟩ := h
  cases rx; cases ry
  obtain ⟨its, r, pl, hz⟩ := I.list h1
  obtain ⟨its2, r2, pl2, hz2⟩ := I.list h2
  have n1 := r.length
  have n2 := r2.length
  by_cases hl : xs.length = ys.length
  · refine SeqAt.eq_listAt pl.isList pl2.isList (by simp only [List.size_toArray]; omega) hu (items_eq r r2 fx fy) (fin_bl I q ?_)
    rw [List.size_toArray, ← n1, range_eqJ xs ys hl]; rfl
  · refine SeqAt.eq_list_lengthsAt pl.isList pl2.isList (by simp only [List.size_toArray, bne_iff_ne]; omega) hu (fin_bl I q ?_)
    rw [eqLV_len xs ys hl]; rfl
noncomputable def eqA (x y : D) : Option D := match x, y with
  | .lst l, .lst m => if l.all flatD = true ∧ m.all flatD = true then some (.bl (eqLF l m)) else none
  | x, y => eqD x y
noncomputable def rEqA (K : Fg) : R2 := fun x y H Q => rEqL K false x y H Q ∨ rEq x y H Q
theorem op_eqA (hu : X.A.units < cLine) : OpR X (compareOp .Eq) (rEqA X.K) := (op_eqL hu).or op_eq
theorem od_eqA {K : Fg} : OpD K (rEqA K) eqA := by
  intro O H dx dy d vx vy Q ol ix iy e q
  unfold eqA at e
  split at e
  · rename_i l m
    split at e
    · rename_i hf
      cases e
      rw [Is.lst_iff] at ix iy
      obtain ⟨a, xs, rfl, hs, il⟩ := ix
      obtain ⟨b, ys, rfl, hs', il'⟩ := iy
      obtain ⟨f1, f2, f3⟩ := eqLF_ok il il' hf.1 hf.2
      exact .inl ⟨a, b, xs, ys, rfl, rfl, hs.sq, hs'.sq, f1, f2, q _ H (Same.refl H) (by rw [Is.bl_iff, f3]; rfl)⟩
    · cases e
  · exact .inr (od_eq O H dx dy d vx vy Q ol ix iy e q)
end
section
variable {X : Cx} {a b l tg : Expr} {f : ME} {pos p : Pos}
theorem di_k {fl : ML} (hl : DK X l fl) : DI X tg l fl := by
  refine PI.conseq (pi_seq hl) fun σ H Rr h => ?_
  obtain ⟨O0, r, ds, hR, e, q⟩ := h
  refine ⟨O0, r, ds, hR, e, fun u xs H1 s1 kp il => ?_⟩
  exact ⟨u, rfl, .inl ⟨⟨xs, kp H1 fun b o e _ => e⟩, q _ H1 s1 (yl_list (fun a z => .inr z.own) (hR.same s1).ol kp il)⟩⟩
end
section
variable {X : Cx} {a : Expr} {es : List Expr} {f : ME} {fs : ML} {i : Nat} {pos p pn : Pos}
noncomputable abbrev MZ := En → Option (List D × List D)
noncomputable def zP (fs : ML) : MZ := fun r => (fs r).map fun es => ([], es)
noncomputable def lZ (K : Fg) (i : Nat) (f : MZ) : TA := fun σ H Q => ∃ O0 r l ds es, R K O0 H r σ ∧ mtOf r i = some l ∧ f r = some (ds, es) ∧ ∀ vs a us H', Same H H' → σ[i]? = some (some (.ref a)) → IsL K (Ow O0 r σ) H' ds vs → IsL K (Ow O0 r σ) H' es us → Q (vs ++ .ref a :: us) H'
noncomputable def DZ (X : Cx) (i : Nat) (es : List Expr) (f : MZ) : Prop := PA X es (lZ X.K i f)
theorem dz_p {x : Str} (h : PE X (.Name x pn) (tVar i)) (hr : DA X es fs) (hs : starEach (.Name x pn :: es) X.env = (false, eval (.Name x pn) X.env) :: starEach es X.env := by rfl) : DZ X i (.Name x pn :: es) (zP fs) := by
  refine PA.conseq (pa_cons h hr hs) fun σ H Q hq => ?_
  obtain ⟨O0, r, l, ds, us, hR, em, e, q⟩ := hq
  obtain ⟨us', e1, e2⟩ := map_some e
  cases e2
  obtain ⟨c, xs, q1, q2, q3⟩ := mt_at hR em
  exact ⟨.ref c, q1, O0, r, _, hR, e1, fun vs H1 s1 i1 => q [] c vs H1 s1 q1 .nil i1⟩
noncomputable def zArgs (ds : List D) (l : List D) (es : List D) : List Sl := ds.map .v ++ .p l :: es.map .v
theorem zArgs_get {ds l es : List D} {j : Nat} {x : Sl} (e : (zArgs ds l es)[j]? = some x) : (∃ d, x = .v d ∧ (ds ++ .non :: es)[j]? = some d ∧ j ≠ ds.length) ∨ (x = .p l ∧ j = ds.length) := by
  unfold zArgs at e
  by_cases h : j < ds.length
  · rw [List.getElem?_append_left (by simpa using h), List.getElem?_map] at e
    rw [List.getElem?_append_left h]
    cases e1 : ds[j]? with
    | none => rw [e1] at e; cases e
    | some d => rw [e1] at e; cases e; exact .inl ⟨d, rfl, rfl, by omega⟩
  · rw [List.getElem?_append_right (by simpa using h)] at e
    rw [List.getElem?_append_right (by omega)]
    simp only [List.length_map] at e
    cases e2 : j - ds.length with
    | zero => rw [e2] at e; cases e; exact .inr ⟨rfl, by omega⟩
    | succ k =>
      rw [e2, List.getElem?_cons_succ, List.getElem?_map] at e
      rw [List.getElem?_cons_succ]
      cases e1 : es[k]? with
      | none => rw [e1] at e; cases e
      | some d => rw [e1] at e; cases e; exact .inl ⟨d, rfl, rfl, by omega⟩
theorem zArgs_own {ds l es m : List D} {j : Nat} {q : Sl → Option (List D)} (hq : ∀ d, q (.v d) = none) (e : ((zArgs ds l es)[j]?).bind q = some m) : j = ds.length ∧ q (.p l) = some m := by
  obtain ⟨x, e1, e2⟩ := bind_some e
  rcases zArgs_get e1 with ⟨d, rfl, _⟩ | ⟨rfl, h⟩
  · rw [hq] at e2; cases e2
  · exact ⟨h, e2⟩
theorem zVs_get {vs us : List V} {c : Addr} : (vs ++ V.ref c :: us)[vs.length]? = some (.ref c) := by rw [List.getElem?_append_right (Nat.le_refl _), Nat.sub_self]; rfl
theorem zIs_get {K : Fg} {O : Addr → Prop} {H : Hp} {ds es : List D} {vs us : List V} {c : Addr} {j : Nat} {d : D} (h1 : IsL K O H ds vs) (h2 : IsL K O H es us) (e : (ds ++ .non :: es)[j]? = some d) (hj : j ≠ ds.length) : ∃ v, (vs ++ V.ref c :: us)[j]? = some v ∧ Is K O H d v := by
  have hl := h1.length
  by_cases h : j < ds.length
  · rw [List.getElem?_append_left h] at e
    obtain ⟨v, e1, i1⟩ := h1.get e
    exact ⟨v, by rw [List.getElem?_append_left (by omega)]; exact e1, i1⟩
  · rw [List.getElem?_append_right (by omega)] at e
    rw [List.getElem?_append_right (by omega)]
    obtain ⟨k, hk⟩ : ∃ k, j - ds.length = k + 1 := ⟨j - ds.length - 1, by omega⟩
    rw [hk, List.getElem?_cons_succ] at e
    rw [← hl, hk, List.getElem?_cons_succ]
    exact h2.get e
theorem R.zargs {K : Fg} {O : Addr → Prop} {H : Hp} {ds l es : List D} {vs us xs : List V} {c : Addr} (ol : OLst O H) (hc : O c) (ec : H c = some (.lst xs)) (il : IsL K O H l xs) (h1 : IsL K O H ds vs) (h2 : IsL K O H es us) : R K O H (zArgs ds l es) ((vs ++ V.ref c :: us).map some) := by
  have hl := h1.length
  have hl2 := h2.length
  have ow : ∀ b, Ow O (zArgs ds l es) ((vs ++ V.ref c :: us).map some) b → H b ≠ none → O b := fun b z _ => z.elim id fun ⟨j, m, ej, qj⟩ => by
    obtain ⟨rfl, _⟩ := zArgs_own (fun _ => rfl) ej
    rw [List.getElem?_map, hl, zVs_get] at qj
    cases qj; exact hc
  refine ⟨by simp [zArgs, hl, hl2], fun j d e => ?_, fun j m e => ?_, fun j k b m m' e1 e2 q1 q2 => ?_, ol, fun j m b e q => ?_, fun j m b e q => ?_, fun j ks m e => ?_⟩
  · rcases zArgs_get e with ⟨d', e', e2, e3⟩ | ⟨e', _⟩
    · cases e'
      obtain ⟨v, e4, i4⟩ := zIs_get (c := c) h1 h2 e2 e3
      exact ⟨v, by rw [List.getElem?_map, e4]; rfl, Is.mono (Same.kp (Same.refl H) _) ol ow _ _ i4⟩
    · cases e'
  · obtain ⟨rfl, e2⟩ := zArgs_own (fun _ => rfl) e
    cases e2
    exact ⟨c, xs, by rw [List.getElem?_map, hl, zVs_get]; rfl, ec, IsL.mono (Same.kp (Same.refl H) _) ol ow _ _ il⟩
  · rw [(zArgs_own (fun _ => rfl) e1).1, (zArgs_own (fun _ => rfl) e2).1]
  · exfalso
    rcases e with e | e | ⟨_, e⟩ <;> rcases zArgs_get e with ⟨d', e', _⟩ | ⟨e', _⟩ <;> cases e'
  · obtain ⟨rfl, _⟩ := zArgs_own (q := Sl.own) (fun _ => rfl) (m := m) (by rw [e]; rfl)
    rw [List.getElem?_map, hl, zVs_get] at q
    cases q; exact hc
  · rcases zArgs_get e with ⟨d', e', _⟩ | ⟨e', _⟩ <;> cases e'
noncomputable def mCallX (n : Nat) (m : MF) (i : Nat) (z : MZ) : En → Option (D × En) := fun r => (mtOf r i).bind fun l => (z r).bind fun q => if q.1.length + 1 + q.2.length = n then (m (zArgs q.1 l q.2)).bind fun p => match p.1 with
  | .v d => match p.2[q.1.length]? with
    | some (.p l') => (putO i l' r).map fun r' => (d, r')
    | _ => none
  | _ => none
  else none
theorem own_put {r r' : En} {σ : St} {l' : List D} {b : Addr} (e : putO i l' r = some r') (h : OwnAt r' σ b) : OwnAt r σ b := by
  obtain ⟨x, y, ex, rfl, yo, ym, ⟨l0, xm⟩, _⟩ := putO_some e
  obtain ⟨j, m, ej, qj⟩ := h
  by_cases hj : j = i
  · subst hj; exact ⟨j, l0, by rw [ex]; exact mt_own xm, qj⟩
  · rw [get_set_ne (fun z => hj z.symm)] at ej; exact ⟨j, m, ej, qj⟩
theorem dx_call {k n : Nat} {fa : Addr} {fd : FuncData} {ps : List Str} {m : MF} {x : Str} {z : MZ} (F : FnOk X.prog X.w X.K X.mg X.base CX0 k fa fd ps (spD X.K n m)) (hr : Room k X.A) (hg : Gl X x) (hm : X.mg x = some (.ref fa)) (hk : PySem.W.keepIn X.K (.ref fa) = true) (hb : Binds X.K fd ps []) (ha : DZ X i (a :: es) z)
    (hdb : (x == ("__debug__" : Str)) = false := by decide) (he : starEach (a :: es) X.env = (false, eval a X.env) :: starEach es X.env := by rfl) (hpl : (backTo pos (starEach es X.env)).any (·.1) = false := by rfl) :
    DX X (.Call (.Name x p) (a :: es) [] pos) (mCallX n m i z) := by
  refine PE.conseq (pe_call (E := fun _ _ _ => False) (dvs := []) F hr hg hm hk hb .nil pass0 ha hdb he hpl) fun σ H Q hq => ?_
  obtain ⟨O0, r, d, r', hR, e, q⟩ := hq
  obtain ⟨l, e1, e⟩ := bind_some e
  obtain ⟨⟨ds, us⟩, e2, e⟩ := bind_some e
  split at e
  · rename_i hn
    obtain ⟨⟨rs, as'⟩, e3, e⟩ := bind_some e
    refine ⟨O0, r, l, ds, us, hR, e1, e2, fun vs c ws H1 s1 hc i1 i2 => ?_⟩
    show spD X.K n m ((vs ++ .ref c :: ws) ++ []) H1 Q _
    rw [List.append_nil]
    have R1 := hR.same s1
    obtain ⟨c', xs, p1, p2, p3⟩ := mt_at R1 e1
    rw [hc] at p1; cases p1
    have hoc : Ow O0 r σ c := by
      obtain ⟨y, z1, z2⟩ := bind_some e1
      exact .inr ⟨i, l, by rw [z1]; exact mt_own (ml_mt z2).1, hc⟩
    refine ⟨Ow O0 r σ, zArgs ds l us, rs, as', by simp [zArgs]; simp only at hn; omega, R.zargs R1.ol hoc p2 p3 i1 i2, fun j m' => ⟨fun e => ?_, fun e => ?_, fun _ e => ?_⟩, e3, ?_⟩
    · rcases zArgs_get e with ⟨d', e', _⟩ | ⟨e', _⟩ <;> cases e'
    · rcases zArgs_get e with ⟨d', e', _⟩ | ⟨e', _⟩ <;> cases e'
    · rcases zArgs_get e with ⟨d', e', _⟩ | ⟨e', _⟩ <;> cases e'
    · cases rs with
      | f l => cases e
      | g ks l => cases e
      | v d' =>
        simp only at e
        split at e
        · rename_i l' ek
          obtain ⟨r2, e5, e6⟩ := map_some e
          have hd1 : d' = d := congrArg Prod.fst e6
          have hr1 : r2 = r' := congrArg Prod.snd e6
          subst hd1 hr1
          refine fun v H2 pf iv => ?_
          have hkk : (zArgs ds l us)[ds.length]? = some (.p l) := by unfold zArgs; rw [List.getElem?_append_right (by simp)]; simp
          obtain ⟨l2, c2, xs2, f1, f2, f3, f4⟩ := pf.par ds.length l hkk
          rw [ek] at f1; cases f1
          rw [i1.length, zVs_get] at f2; cases f2
          have mutc : ∀ b, MutAt (zArgs ds l us) ((vs ++ V.ref c :: ws).map some) b → b = c := fun b ⟨j, m', ej, qj⟩ => by
            obtain ⟨rfl, _⟩ := zArgs_own (fun _ => rfl) ej
            rw [List.getElem?_map, i1.length, zVs_get] at qj
            cases qj; rfl
          obtain ⟨R2, k2⟩ := R1.put e5 hc (fun b o hb eb => pf.keep b o eb fun z => hb (mutc b z)) (fun b hb eb => pf.live b eb) f3 f4
          exact q v H2 R2 ((Kp.of_same r σ s1).trans k2) (Is.mono (Same.kp (Same.refl H2) _) (fun b zb => zb.elim (R2.o0 b) fun zb => by
            obtain ⟨ys, ey, mb⟩ := R1.ol b (.inr zb); exact pf.lst b ys ey mb) (fun b zb _ => zb.imp id (own_put e5)) _ _ iv)
        · cases e
  · cases e
end
section
variable {es : List Expr} {env : Env} {p : Pos}
theorem stConst {c k} : starEach (.Constant c k p :: es) env = (false, eval (.Constant c k p) env) :: starEach es env := rfl
theorem stName {x} : starEach (.Name x p :: es) env = (false, eval (.Name x p) env) :: starEach es env := rfl
theorem stTuple {l k} : starEach (.Tuple l k p :: es) env = (false, eval (.Tuple l k p) env) :: starEach es env := rfl
theorem stCall {f l k} : starEach (.Call f l k p :: es) env = (false, eval (.Call f l k p) env) :: starEach es env := rfl
theorem stList {l} : starEach (.List l p :: es) env = (false, eval (.List l p) env) :: starEach es env := rfl
theorem stSub {a b} : starEach (.Subscript a b p :: es) env = (false, eval (.Subscript a b p) env) :: starEach es env := rfl
theorem stBin {a o b} : starEach (.BinOp a o b p :: es) env = (false, eval (.BinOp a o b p) env) :: starEach es env := rfl
end
noncomputable def litS : List Expr → Option (List (List Nat))
  | [] => some []
  | .Constant (.str x) _ _ :: es => (litS es).map (x.cps.toList :: ·)
  | _ => none
noncomputable def mLit (ss : List (List Nat)) : ML := fun _ => some (ss.map D.str)
theorem da_strs {X : Cx} : ∀ {es : List Expr} {ss : List (List Nat)}, litS es = some ss → DA X es (mLit ss)
  | [], ss, h => by
    cases h; exact da_nil
  | e :: es, ss, h => by
    cases e <;> first | (simp only [litS, reduceCtorEq] at h; done) | skip
    rename_i c j p
    cases c <;> first | (simp only [litS, reduceCtorEq] at h; done) | skip
    rename_i x
    simp only [litS] at h
    obtain ⟨ss', e1, rfl⟩ := map_some h
    exact da_cons (f := mC (.str x.cps.toList)) (fs := mLit ss') (de_str rfl) (da_strs e1) (hs := stConst)
section
variable {X : Cx} {pos : Pos} {a b tg : Expr} {f g : ME}
noncomputable def blsD : List D → Option (List Bool)
  | [] => some []
  | .bl i :: r => (blsD r).map (i :: ·)
  | _ => none
noncomputable def mAll (fl : ML) : ME := fun r => (fl r).bind fun l => (blsD l).map fun bs => .bl (bs.all id)
theorem blsD_ok {K : Fg} {O : Addr → Prop} {H : Hp} : ∀ {l : List D} {ns : List Bool} {vs : List V}, blsD l = some ns → IsL K O H l vs → vs = ns.map V.bl
  | [], ns, vs, e, il => by cases e; unfold IsL at il; subst il; rfl
  | d :: l, ns, vs, e, il => by
    unfold IsL at il
    obtain ⟨v, r, rfl, i1, i2⟩ := il
    cases d <;> first | (simp only [blsD, reduceCtorEq] at e; done) | skip
    simp only [blsD] at e
    obtain ⟨ms, e1, rfl⟩ := map_some e
    rw [Is.bl_iff] at i1
    rw [i1, blsD_ok e1 i2]; rfl
theorem call_allB (hc : X.calm = true) : CallR X (.builtin "all") (fun xs H Q => ∃ (p : Addr) (bs : List Bool), xs = [.ref p] ∧ SqL X.K H p (bs.map V.bl) ∧ Q (.bl (bs.all id)) H) := by
  intro pins s σ H xs us Q I r hq
  obtain ⟨p, bs, rfl, hS, q⟩ := hq
  obtain ⟨u, rfl, ru⟩ := Vals.one r
  cases ru
  obtain ⟨its, rv, pl, hz⟩ := I.list hS
  have hl := pl.isList
  have hlt : p < s.heap.objs.size := by obtain ⟨_, e, _⟩ := hl; exact Heap.lt_size e
  have ln : its.length = bs.length := by have := rv.length; rw [List.length_map] at this; exact this.symm
  refine call_all_walk (wpAny_pyIter_list hl ?_); refine ⟨s.heap.objs.size, [s.heap.objs.size, p], [s.heap.objs.size], its.toArray.size, _, _, fun i => (bs[i]?).getD true, rfl, Walks.list (A := X.A.in1) (I.ok.hd hc) _ p (Nat.ne_of_lt hlt) its.toArray, ⟨⟨_, Heap.get?_push_size _ rfl, rfl, rfl⟩, hl.push _⟩, fun i v s' Q' E' hP hQ => ?_, fun h' tk hk => ?_⟩
  · have hv : its[i]? = some v := by simpa using hP
    have hi : i < bs.length := by have := (List.getElem?_eq_some_iff.mp hv).1; omega
    have e : bs[i]? = some (bs[i]'hi) := List.getElem?_eq_getElem hi
    obtain ⟨w', e1, e2⟩ := rv.get (i := i) (x := .bl (bs[i]'hi)) (by rw [List.getElem?_map, e]; rfl)
    rw [hv] at e1
    cases e1
    obtain rfl : v = .bool (bs[i]'hi) := e2
    simp only [Option.getD_some, e] at hQ
    exact wpAny_truthy_bool hQ
  · have e : ((List.range its.toArray.size).all fun i => (bs[i]?).getD true) = bs.all id := by
      rw [List.size_toArray, ln]; exact LSm.range_all bs
    rw [e]
    exact ⟨.bl _, H, I.kept (LSm.kept_iter hk), rfl, q⟩
theorem de_all {p' : Pos} {fl : ML} (hg : Gl X "all") (hm : X.mg "all" = none) (ha : DB X a fl) (hc : X.calm = true := by rfl)
    (hs : starEach [a] X.env = (false, eval a X.env) :: starEach [] X.env := by rfl) : DE X (.Call (.Name "all" p') [a] [] pos) (mAll fl) := by
  refine PE.conseq (pe_callB (call_allB hc) hg hm PyProof.Rows.boot_all (pa_cons ha pa_nil hs) (he := hs)) fun σ H Q hq => ?_
  obtain ⟨O0, r, d, hR, e, q⟩ := hq
  obtain ⟨l, e1, e2⟩ := bind_some e
  obtain ⟨bs, e3, rfl⟩ := map_some e2
  refine ⟨O0, r, l, hR, e1, fun p xs H1 s1 sq il => ?_⟩
  have ex := blsD_ok e3 il
  subst ex
  exact ⟨p, bs, rfl, sq, q _ H1 s1 (by rw [Is.bl_iff])⟩
end
open Builtin.Str
end DD
namespace TS
open PySem PyProof.Rows
open PySem PyProof.Rows
open PySem PyProof.Rows
open PySem PyProof.Rows
open PySem PyProof.Rows
open PySem PyProof.Rows
open PySem PyProof.Rows
open PySem PyProof.Rows
open PySem PyProof.Rows
open PySem PyProof.Rows PySem.W
end TS
namespace DD
open PySem PySem.Spec PyProof.Rows L2
noncomputable def ltA : D → D → Option D
  | .int i, .int j => some (.bl (decide (i < j)))
  | .str s, .str t => some (.bl (decide (s < t)))
  | _, _ => none
section
variable {X : Cx}
theorem op_ltS : OpR X (compareOp .Lt) (fun x y H Q => ∃ i j, x = .str i ∧ y = .str j ∧ Q (.bl (decide (i.cps.toList < j.cps.toList))) H) := by
  intro pins s σ H x y v u Q I rx ry hq
  obtain ⟨i, j, rfl, rfl, q⟩ := hq
  obtain ⟨t, rfl⟩ := rx
  obtain ⟨t', rfl⟩ := ry
  exact PySem.P.lt_str ⟨.bl _, H, I, rfl, q⟩
noncomputable def rLtA : R2 := fun x y H Q => rI0 (fun i j => .bl (decide (i < j))) x y H Q ∨ ∃ i j, x = .str i ∧ y = .str j ∧ Q (.bl (decide (i.cps.toList < j.cps.toList))) H
theorem op_ltA : OpR X (compareOp .Lt) rLtA := op_lt.or op_ltS
theorem od_ltA {K : Fg} : OpD K rLtA ltA := by
  intro O H dx dy d vx vy Q ol ix iy e q
  cases dx <;> cases dy <;> first | (simp only [ltA, reduceCtorEq] at e; done) | skip
  · simp only [ltA, Option.some.injEq] at e
    subst e
    rw [Is.int_iff] at ix iy
    exact .inl ⟨_, _, ix, iy, q _ H (Same.refl H) (by rw [Is.bl_iff])⟩
  · simp only [ltA, Option.some.injEq] at e
    subst e
    rw [Is.str_iff] at ix iy
    exact .inr ⟨_, _, ix, iy, q _ H (Same.refl H) (by rw [Is.bl_iff])⟩
end
section
variable {X : Cx} {pos : Pos} {a b : Expr}
noncomputable def mInB (neg : Bool) (f : ME) (fl : ML) : MB := fun r => (f r).bind fun x => (fl r).bind fun l => (inD neg x (.lst l)).bind blD
theorem dt_notInB {f : ME} {fl : ML} (ha : DE X a f) (hb : DB X b fl) (hm : behindInMarks .NotIn b = false := by rfl) : DT X (.Compare a [.NotIn] [b] pos) (mInB true f fl) := by
  refine PT.conseq (pt_cmpR op_notIn_seq ha hb hm) fun σ H Q h => ?_
  obtain ⟨O0, r, k, hR, e, q⟩ := h
  obtain ⟨x, e1, e⟩ := bind_some e
  obtain ⟨l, e2, e⟩ := bind_some e
  obtain ⟨d, e3, e4⟩ := bind_some e
  refine ⟨O0, r, x, hR, e1, fun v1 H1 s1 i1 => ⟨O0, r, l, hR.same s1, e2, fun p xs H2 s2 sq il => ?_⟩⟩
  have i1' := i1.same s2 (hR.same s1).ol
  simp only [inD] at e3
  split at e3
  · rename_i hl
    cases e3
    obtain ⟨q1, q2⟩ := in_ok i1' hl.1 il hl.2
    cases e4
    exact ⟨p, xs, rfl, .inl sq, flat_ok i1' hl.1, q1, _, by rw [q2]; rfl, q H2 (s1.trans s2)⟩
  · cases e3
end
mutual
noncomputable def toP : D → PyData
  | .non => .none
  | .bl b => .bool b
  | .int i => .int i
  | .str s => .str ⟨s.toArray⟩
  | .tup l => .tuple (toPs l)
  | .lst l => .list (toPs l)
  | .ty _ => .none
  | .ref _ => .none
  | .dct _ _ => .none
noncomputable def toPs : List D → List PyData
  | [] => []
  | d :: l => toP d :: toPs l
end
mutual
noncomputable def okD : D → Bool
  | .tup l => okDs l
  | .lst l => okDs l
  | .ty _ => false
  | .ref _ => false
  | .dct _ _ => false
  | _ => true
noncomputable def okDs : List D → Bool
  | [] => true
  | d :: l => okD d && okDs l
end
section
variable {X : Cx} {pins : List (Addr × Obj)} {σ : St} {H : Hp} {s : Shared} {O : Addr → Prop}
mutual
theorem reads_of (I : Inv X pins σ H s) : ∀ (d : D) (v : V) (u : Value), okD d = true → Is X.K O H d v → RelV v u → ∃ as, Reads s.heap u (toP d) as
  | .non, v, u, _, h, r => by rw [Is.non_iff] at h; subst h; cases r; exact ⟨_, .none⟩
  | .bl b, v, u, _, h, r => by rw [Is.bl_iff] at h; subst h; cases r; exact ⟨_, .bool b⟩
  | .int i, v, u, _, h, r => by rw [Is.int_iff] at h; subst h; obtain ⟨t, rfl⟩ := r; exact ⟨_, .int i t⟩
  | .str x, v, u, _, h, r => by rw [Is.str_iff] at h; subst h; obtain ⟨t, rfl⟩ := r; exact ⟨_, .str _ t⟩
  | .ty n, v, u, o, _, _ => by simp [okD] at o
  | .ref a, v, u, o, _, _ => by simp [okD] at o
  | .dct ks l, v, u, o, _, _ => by simp [okD] at o
  | .tup l, v, u, o, h, r => by
    rw [Is.tup_iff] at h
    obtain ⟨a, xs, rfl, sq, il⟩ := h
    cases r
    obtain ⟨its, rv, ⟨ob, e, c, n, dt⟩, _⟩ := I.tuple sq
    obtain ⟨as, q⟩ := readsL_of I l xs its (by simpa [okD] using o) il rv
    exact ⟨_, .tuple e c dt (by simpa using q)⟩
  | .lst l, v, u, o, h, r => by
    rw [Is.lst_iff] at h
    obtain ⟨a, xs, rfl, sq, il⟩ := h
    cases r
    obtain ⟨its, rv, ⟨ob, n, e, c, _, dt⟩, _⟩ := I.list sq.sq
    obtain ⟨as, q⟩ := readsL_of I l xs its (by simpa [okD] using o) il rv
    exact ⟨_, .list e c dt (by simpa using q)⟩
theorem readsL_of (I : Inv X pins σ H s) : ∀ (l : List D) (vs : List V) (us : List Value), okDs l = true → IsL X.K O H l vs → Vals vs us → ∃ as, ReadsAll s.heap us (toPs l) as
  | [], vs, us, _, h, r => by unfold IsL at h; subst h; cases r; exact ⟨_, .nil⟩
  | d :: l, vs, us, o, h, r => by
    unfold IsL at h
    obtain ⟨v, vr, rfl, h1, h2⟩ := h
    simp only [okDs, Bool.and_eq_true] at o
    cases r with
    | cons r1 r2 =>
      obtain ⟨as, q1⟩ := reads_of I d v _ o.1 h1 r1
      obtain ⟨bs, q2⟩ := readsL_of I l vr _ o.2 h2 r2
      exact ⟨_, .cons q1 q2⟩
end
end
section
variable {X : Cx}
theorem un2 {k : Nat} {A : Around} (r : Room k A) : A.units + 200 < cLine := by have := r.un; omega
end
noncomputable def fre : Sl → Prop
  | .un => True
  | .v _ => True
  | _ => False
theorem setV_fre {i : Nat} {d : D} {r : En} {x : Sl} (e : r[i]? = some x) (h : fre x) : setV i d r = some (r.set i (.v d)) := by
  unfold setV
  rw [e]
  cases x <;> first | rfl | cases h
theorem pop_of {i : Nat} {r : En} {S : List D} {d : D} (e : r[i]? = some (.o (S ++ [d]))) : mPop i r = some (d, r.set i (.o S)) := by
  simp [mPop, mtOf, e, Sl.ml, putO]
theorem app_of {i : Nat} {f : ME} {r : En} {S : List D} {d : D} (e : r[i]? = some (.o S)) (e2 : f r = some d) (h : S.length < sizeLine) : mApp i f r = some (.non, r.set i (.o (S ++ [d]))) := by
  simp [mApp, mtOf, e, Sl.ml, putO, e2, h]
theorem seq_of {g h : MS} {r r' : En} (e : g r = some (.nx r')) : sSeq g h r = h r' := by
  unfold sSeq; rw [e]; rfl
theorem seq_rt {g h : MS} {r r' : En} {d : D} (e : g r = some (.rt d r')) : sSeq g h r = some (.rt d r') := by
  unfold sSeq; rw [e]; rfl
theorem sX_of {f : En → Option (D × En)} {r r' : En} {d : D} (e : f r = some (d, r')) : sX f r = some (.nx r') := by
  unfold sX; rw [e]; rfl
theorem sSet_of {i : Nat} {f : ME} {r r2 : En} {d : D} (e : f r = some d) (e2 : setV i d r = some r2) : sSet i f r = some (.nx r2) := by
  unfold sSet; rw [e]; show (setV i d r).map Fl.nx = _; rw [e2]; rfl
theorem sIf_t {c : MB} {g h : MS} {r : En} (e : c r = some true) : sIf c g h r = g r := by
  unfold sIf; rw [e]; rfl
theorem sIf_f {c : MB} {g h : MS} {r : En} (e : c r = some false) : sIf c g h r = h r := by
  unfold sIf; rw [e]; rfl
theorem while_go {n : Nat} {c : MB} {g : MS} {r r' : En} (h : c r = some true) (e : g r = some (.nx r')) : sWhile (n + 1) c g r = sWhile n c g r' := by
  show (c r).bind _ = _
  rw [h, Option.bind_some, if_pos rfl, e, Option.bind_some]
theorem while_end {n : Nat} {c : MB} {g : MS} {r : En} (h : c r = some false) : sWhile (n + 1) c g r = some (.nx r) := by
  show (c r).bind _ = _
  rw [h, Option.bind_some, if_neg (by simp)]
theorem at_zero {α : Type} (x : α) (l : List α) : atI (x :: l) 0 = some x := atI_nat (j := 0) rfl
theorem for_go {bd : D → En → Option En} {g : MS} {d : D} {l : List D} {r r1 r' : En} (h : bd d r = some r1) (e : g r1 = some (.nx r')) : forL bd g (d :: l) r = forL bd g l r' := by
  show (bd d r).bind _ = _
  rw [h, Option.bind_some, e, Option.bind_some]
section
variable {f g : ME} {fl gl : ML} {r : En} {x y d : D} {i j : Int}
theorem bin_of {m : D → D → Option D} (e1 : f r = some x) (e2 : g r = some y) (e : m x y = some d) : mBin m f g r = some d := by
  unfold mBin; rw [e1, Option.bind_some, e2]; exact e
theorem un_of {m : D → Option D} (e1 : f r = some x) (e : m x = some d) : mUn m f r = some d := by
  unfold mUn; rw [e1]; exact e
theorem add_of (e1 : f r = some (.int i)) (e2 : g r = some (.int j)) : mBin addD f g r = some (.int (i + j)) := bin_of e1 e2 rfl
theorem mod_of (e1 : f r = some (.int i)) (e2 : g r = some (.int j)) (h : 0 < j) : mBin modD f g r = some (.int (i % j)) := bin_of e1 e2 (if_pos h)
theorem mul_of (e1 : f r = some (.int i)) (e2 : g r = some (.int j)) (h : -(2 ^ 64) < i ∧ i < 2 ^ 64) : mBin mulD f g r = some (.int (i * j)) := bin_of e1 e2 (if_pos (.inl h))
theorem fdiv_of (e1 : f r = some (.int i)) (e2 : g r = some (.int j)) (h : 0 < j ∧ j < 1073741824) : mBin fdivD f g r = some (.int (i / j)) := bin_of e1 e2 (if_pos h)
theorem con_of : mC d r = some d := rfl
theorem cons_of {l : List D} (e1 : f r = some x) (e2 : fl r = some l) : mCons f fl r = some (x :: l) := by
  unfold mCons; rw [e1, Option.bind_some, e2]; rfl
theorem nil_of : mNil r = some [] := rfl
theorem lstF_of {l : List D} (e : fl r = some l) (h : l.length ≤ 100) : mOfF (mLstF fl) r = some (.lst l) := by
  unfold mOfF mLstF; rw [e, Option.bind_some, if_pos (Nat.le_trans h (by decide))]; rfl
theorem tup_of {l : List D} (e : fl r = some l) (h : l.length ≤ 100) : mTup fl r = some (.tup l) := by
  unfold mTup; rw [e, Option.bind_some, if_pos (Nat.le_trans h (by decide))]
theorem call_of {n : Nat} {m : MF} {l : List D} {p : Rs} (e : fl r = some l) (hl : l.length = n) (h : ∃ as, m (l.map .v) = some (p, as)) : mCall n m fl r = some (rsD p) := by
  obtain ⟨as, h⟩ := h
  unfold mCall; rw [e, Option.bind_some, if_pos hl, h]; rfl
theorem bl_of {b : Bool} (e : f r = some (.bl b)) : mBl f r = some b := by
  unfold mBl; rw [e]; rfl
theorem ret_of (e : f r = some d) : sRet f r = some (.rt d r) := by
  unfold sRet; rw [e]; rfl
theorem seq_set {k : Nat} {h : MS} {r2 : En} {z : Option Fl} (d : D) (e : f r = some d) (e2 : setV k d r = some r2) (q : h r2 = z) : sSeq (sSet k f) h r = z := by
  rw [seq_of (sSet_of e e2)]; exact q
theorem seq_ff {c : MB} {a h : MS} {z : Option Fl} (e : c r = some false) (q : h r = z) : sSeq (sIf c a sSkip) h r = z := by
  rw [seq_of (r' := r) (by rw [sIf_f e]; rfl)]; exact q
theorem seq_tt {c : MB} {a h : MS} {r' : En} (e : c r = some true) (q : a r = some (.rt d r')) : sSeq (sIf c a sSkip) h r = some (.rt d r') := seq_rt (by rw [sIf_t e]; exact q)
theorem mk_rt {n N : Nat} {s : MS} {as : List Sl} {r' : En} (e : s (as ++ List.replicate (N - n) .un) = some (.rt d r')) : ∃ bs, mkF n N s as = some (.v d, bs) := by
  unfold mkF; rw [e]; exact ⟨_, rfl⟩
end
theorem str_add {s t : List Nat} (h : s.length + t.length ≤ 100) : addD (.str s) (.str t) = some (.str (s ++ t)) := if_pos (Nat.le_trans h (by decide))
theorem sl_of {f : ME} {lo hi : MO} {r : En} {x d : D} {a b : Option Int} (e1 : f r = some x) (e2 : lo r = some a) (e3 : hi r = some b) (e : slD x a b = some d) : mSl f lo hi r = some d := by
  unfold mSl; rw [e1, Option.bind_some, e2, Option.bind_some, e3]; exact e
theorem osome_of {g : ME} {r : En} {i : Int} (e : g r = some (.int i)) : oSome g r = some (some i) := by
  unfold oSome; rw [e]; rfl
theorem gt_of {f g : ME} {r : En} {i j : Int} (e1 : f r = some (.int i)) (e2 : g r = some (.int j)) : mBl (mBin gtD f g) r = some (decide (j < i)) := bl_of (bin_of e1 e2 rfl)
theorem lst_add {l m : List D} (h : l.length + m.length ≤ 100000) : addD (.lst l) (.lst m) = some (.lst (l ++ m)) := if_pos (Nat.le_trans h (by decide))
theorem cut_to {α : Type} (s : List α) (k : Nat) : cutL s none (some (k : Int)) = s.take k := by
  unfold cutL
  rw [HT.sIx_nat, HT.sIx_none, List.drop_zero, Nat.sub_zero, List.take_eq_take_iff]
  omega
theorem cut_mid {α : Type} (s : List α) (i k : Nat) : cutL s (some (i : Int)) (some (k : Int)) = (s.take k).drop i := by
  unfold cutL
  rw [HT.sIx_nat, HT.sIx_nat, List.drop_take]
  by_cases h : i ≤ s.length
  · rw [Nat.min_eq_left h, List.take_eq_take_iff, List.length_drop]
    rw [Nat.sub_min_sub_right, Nat.sub_min_sub_right, Nat.min_assoc, Nat.min_self]
  · have e1 : s.drop (min i s.length) = [] := List.drop_of_length_le (by omega)
    have e2 : s.drop i = [] := List.drop_of_length_le (by omega)
    rw [e1, e2]; simp
theorem rng_of {f : ME} {r : En} {n : Nat} (e : f r = some (.int (n : Int))) (h : n < 1000) : mRng1 f r = some ((List.range n).map fun k => .int ((0 : Int) + (k : Nat))) := by
  have h1 : -(2 ^ 62 : Int) ≤ (n : Int) ∧ (n : Int) < 2 ^ 62 := by constructor <;> omega
  have h2 : DD.intD (.int (n : Int)) = some (n : Int) := by unfold DD.intD; rfl
  unfold mRng1
  rw [e, Option.bind_some, h2, Option.bind_some, if_pos h1, Int.toNat_natCast]
  unfold rngD; rfl
theorem ladd {f g : ME} {r : En} {l m : List D} (e1 : f r = some (.lst l)) (e2 : g r = some (.lst m)) (h : l.length + m.length ≤ 100000) : mBin addD f g r = some (.lst (l ++ m)) := bin_of e1 e2 (lst_add h)
theorem bdP {i j : Nat} {a b : D} {r r1 r2 : En} (h1 : setV i a r = some r1) (h2 : setV j b r1 = some r2) : bdSeq 2 (bdCons (setV i) (bdCons (setV j) bdNil)) (.tup [a, b]) r = some r2 := by
  show ((setV i a r).bind fun z => (setV j b z).bind fun y => some y) = _
  rw [h1, Option.bind_some, h2]; rfl
section
variable {X : Cx} {a b : Expr} {pos : Pos}
noncomputable def mMin (fs : ML) : ME := fun r => (fs r).bind fun l => match l with
  | [.int i, .int j] => some (.int (if j < i then j else i))
  | _ => none
theorem de_min {p' : Pos} {es : List Expr} {fs : ML} (hc : X.calm = true) (hg : Gl X "min") (hm : X.mg "min" = none) (ha : DA X (a :: es) fs)
    (hs : starEach (a :: es) X.env = (false, eval a X.env) :: starEach es X.env := by rfl) (hpl : (backTo pos (starEach es X.env)).any (·.1) = false := by rfl) : DE X (.Call (.Name "min" p') (a :: es) [] pos) (mMin fs) := by
  refine PE.conseq (pe_callB (call_min2 hc) hg hm PyProof.Rows.boot_min ha (he := hs) (hpl := hpl)) fun σ H Q hq => ?_
  obtain ⟨O0, r, d, hR, e, q⟩ := hq
  obtain ⟨l, e1, e2⟩ := bind_some e
  refine ⟨O0, r, l, hR, e1, fun vs H1 s1 il => ?_⟩
  split at e2
  · cases e2
    obtain ⟨v, u, rfl, i1, i2⟩ := il.inv2
    rw [Is.int_iff] at i1 i2
    exact ⟨_, _, by rw [i1, i2], q _ H1 s1 (by rw [Is.int_iff])⟩
  · cases e2
noncomputable def mSumL (fl : ML) : ME := fun r => (fl r).bind fun l => (intsD l).map fun ns => .int ns.sum
theorem call_sumL (hc : X.calm = true) : CallR X (.builtin "sum") (fun xs H Q => ∃ (p : Addr) (ns : List Int), xs = [.ref p] ∧ SqL X.K H p (ns.map V.int) ∧ Q (.int ns.sum) H) := by
  intro pins s σ H xs us Q I r hq
  obtain ⟨p, ns, rfl, hS, q⟩ := hq
  obtain ⟨u, rfl, ru⟩ := Vals.one r
  cases ru
  obtain ⟨its, rv, pl, hz⟩ := I.list hS
  have hi : IntsAre its ns := intsAre_of rv
  (obtain ⟨xs, e⟩ := hi.allInts.items)
  have hns : ns = xs.toList.map (·.1) := by rw [← hi.numsOf, ← nums_intItems, ← e]
  have pl' := pl.isList
  rw [e] at pl'
  refine sum_intListG (I.ok.hd hc) pl' fun h' tk t' hk => ⟨.int ns.sum, H, I.kept hk, ⟨t', ?_⟩, q⟩
  rw [preSum_eq, hns, List.take_of_length_le (by rw [List.length_map, Array.length_toList]; exact Nat.le_refl _)]
theorem de_sumL {p' : Pos} {fl : ML} (hc : X.calm = true) (hg : Gl X "sum") (hm : X.mg "sum" = none) (ha : DB X a fl)
    (hs : starEach [a] X.env = (false, eval a X.env) :: starEach [] X.env := by rfl) : DE X (.Call (.Name "sum" p') [a] [] pos) (mSumL fl) := by
  refine PE.conseq (pe_callB (call_sumL hc) hg hm PyProof.Rows.boot_sum (pa_cons ha pa_nil hs) (he := hs)) fun σ H Q hq => ?_
  obtain ⟨O0, r, d, hR, e, q⟩ := hq
  obtain ⟨l, e1, e2⟩ := bind_some e
  obtain ⟨ns, e3, rfl⟩ := map_some e2
  refine ⟨O0, r, l, hR, e1, fun p xs H1 s1 sq il => ?_⟩
  have ex := intsD_ok e3 il
  subst ex
  exact ⟨p, ns, rfl, sq, q _ H1 s1 (by rw [Is.int_iff])⟩
end
section
variable {X : Cx} {pos p2 : Pos} {a b : Expr} {f g : ME}
theorem fresh_is {K : Fg} {O : Addr → Prop} {H : Hp} {l : List D} {xs ys : List V} {p : Addr} (ol : OLst O H) (hp : H p = none) (h : IsL K O H l xs) : IsL K (fun b => O b ∨ b = p) (upd H p (.lst ys)) l xs :=
  IsL.mono (Same.kp (same_upd hp) _) ol (fun a z n => z.elim id fun z => by subst z; exact absurd hp n) _ _ h
noncomputable def mCat (f g : ML) : ML := fun r => (f r).bind fun l => (g r).bind fun m => if l.length + m.length ≤ sizeLine then some (l ++ m) else none
theorem df_cat {fl gl : ML} (ha : DB X a fl) (hb : DB X b gl) : DF X (.BinOp a .Add b pos) (mCat fl gl) := by
  refine PE.conseq (pe_op op_catR ha hb) fun σ H Q h => ?_
  obtain ⟨O0, r, d, hR, e, q⟩ := h
  obtain ⟨l, e1, e⟩ := bind_some e
  obtain ⟨m, e2, e⟩ := bind_some e
  split at e
  · rename_i hz
    cases e
    refine ⟨O0, r, l, hR, e1, fun p xs H1 s1 sq il => ⟨O0, r, m, hR.same s1, e2, fun p' ys H2 s2 sq' il' => ?_⟩⟩
    refine ⟨p, p', xs, ys, rfl, rfl, s2.seq sq, sq', by rw [← il.length, ← il'.length]; exact hz, fun t ht => q t _ _ ((s1.trans s2).trans (same_upd ht)) ((s1.trans s2).free ht) upd_same ?_⟩
    exact fresh_is (hR.same (s1.trans s2)).ol ht ((il.same s2 (hR.same s1).ol).append il')
  · cases e
end
section
variable {X : Cx} {a : Expr} {es : List Expr} {f : ME} {pos p : Pos}
noncomputable abbrev MXA := En → Option (List D × En)
noncomputable def lXA (K : Fg) (f : MXA) : TA := fun σ H Q => ∃ O0 r l r', R K O0 H r σ ∧ f r = some (l, r') ∧ ∀ vs H', R K O0 H' r' σ → Kp H r σ H' r' σ → IsL K (Ow O0 r' σ) H' l vs → Q vs H'
noncomputable def DXA (X : Cx) (es : List Expr) (f : MXA) : Prop := PA X es (lXA X.K f)
noncomputable def xaLast (fx : En → Option (D × En)) : MXA := fun r => (fx r).map fun p => ([p.1], p.2)
noncomputable def xaCons (f : ME) (z : MXA) : MXA := fun r => (f r).bind fun d => (z r).map fun q => (d :: q.1, q.2)
theorem dxa_last {fx : En → Option (D × En)} (ha : DX X a fx) (hs : starEach [a] X.env = (false, eval a X.env) :: starEach [] X.env := by rfl) : DXA X [a] (xaLast fx) := by
  refine PA.conseq (pa_cons ha pa_nil hs) fun σ H Q hq => ?_
  obtain ⟨O0, r, l, r', hR, e, q⟩ := hq
  obtain ⟨⟨d, r1⟩, e1, e2⟩ := map_some e
  cases e2
  exact ⟨O0, r, d, r1, hR, e1, fun v H1 R1 k1 i1 => q [v] H1 R1 k1 (.cons i1 .nil)⟩
theorem Is.kp {K : Fg} {O0 : Addr → Prop} {H H' : Hp} {r r' : En} {σ σ' : St} {d : D} {v : V} (hR : R K O0 H r σ) (k : Kp H r σ H' r' σ') (h : Is K (Ow O0 r σ) H d v) : Is K (Ow O0 r' σ') H' d v :=
  Is.mono (fun b o e nn => k.keep b o e fun z => nn (.inr z.own)) hR.ol (fun b z n => z.imp id fun z => (k.new b z).elim id fun z => absurd z n) _ _ h
theorem dxa_cons {z : MXA} (ha : DE X a f) (hr : DXA X es z) (hs : starEach (a :: es) X.env = (false, eval a X.env) :: starEach es X.env := by rfl) : DXA X (a :: es) (xaCons f z) := by
  refine PA.conseq (pa_cons ha hr hs) fun σ H Q hq => ?_
  obtain ⟨O0, r, l, r', hR, e, q⟩ := hq
  obtain ⟨d, e1, e⟩ := bind_some e
  obtain ⟨⟨l', r1⟩, e2, e3⟩ := map_some e
  cases e3
  refine ⟨O0, r, d, hR, e1, fun v H1 s1 i1 => ⟨O0, r, l', r1, hR.same s1, e2, fun vs H2 R2 k2 i2 => q (v :: vs) H2 R2 ((Kp.of_same r σ s1).trans k2) (.cons (Is.kp (hR.same s1) k2 i1) i2)⟩⟩
noncomputable def mCallXA (n : Nat) (m : MF) (z : MXA) : En → Option (D × En) := fun r => (z r).bind fun q => if q.1.length = n then (m (q.1.map .v)).map fun p => (rsD p.1, q.2) else none
theorem dx_callA {k n : Nat} {fa : Addr} {fd : FuncData} {ps : List Str} {m : MF} {x : Str} {z : MXA} (F : FnOk X.prog X.w X.K X.mg X.base CX0 k fa fd ps (spD X.K n m)) (hr : Room k X.A) (hg : Gl X x) (hm : X.mg x = some (.ref fa)) (hk : PySem.W.keepIn X.K (.ref fa) = true) (hb : Binds X.K fd ps []) (ha : DXA X (a :: es) z)
    (hdb : (x == ("__debug__" : Str)) = false := by decide) (he : starEach (a :: es) X.env = (false, eval a X.env) :: starEach es X.env := by rfl) (hpl : (backTo pos (starEach es X.env)).any (·.1) = false := by rfl) :
    DX X (.Call (.Name x p) (a :: es) [] pos) (mCallXA n m z) := by
  refine PE.conseq (pe_call (E := fun _ _ _ => False) (dvs := []) F hr hg hm hk hb .nil pass0 ha hdb he hpl) fun σ H Q h => ?_
  obtain ⟨O0, r, d, r', hR, e, q⟩ := h
  obtain ⟨⟨ds, r1⟩, e1, e2⟩ := bind_some e
  split at e2
  · rename_i hl
    obtain ⟨⟨rs, as'⟩, e3, e4⟩ := map_some e2
    have h1 : rsD rs = d := congrArg Prod.fst e4
    have h2 : r1 = r' := congrArg Prod.snd e4
    subst h1 h2
    refine ⟨O0, r, ds, r1, hR, e1, fun vs H1 R1 k1 il => sp_pure R1 (Same.refl H1) il hl e3 ?_⟩
    have go : ∀ {H2 : Hp}, Same H1 H2 → R X.K O0 H2 r1 σ ∧ Kp H r σ H2 r1 σ := fun s => ⟨R1.same s, k1.trans (Kp.of_same r1 σ s)⟩
    cases rs with
    | v d => exact fun v H2 pf iv => q v H2 (go pf.same).1 (go pf.same).2 iv
    | f l =>
      refine fun a xs H2 pf na ea il2 => q _ H2 (go pf.same).1 (go pf.same).2 ?_
      have olp : OLst (fun b => Ow O0 r1 σ b ∨ b = a) H2 := fun b z => z.elim (fun z => (R1.same pf.same).ol b z) fun z => by subst z; exact ⟨.lst xs, ea, trivial⟩
      show Is X.K (Ow O0 r1 σ) H2 (.lst l) (.ref a)
      rw [Is.lst_iff]
      exact ⟨a, xs, rfl, .inl ⟨R1.nofresh na, .inl ea⟩, IsL.mono (Same.kp (Same.refl H2) _) olp (fun _ z _ => .inl z) _ _ il2⟩
    | g ks l =>
      refine fun a kvs H2 pf na ea ek il2 => q _ H2 (go pf.same).1 (go pf.same).2 ?_
      have olp : OLst (fun b => Ow O0 r1 σ b ∨ b = a) H2 := fun b z => z.elim (fun z => (R1.same pf.same).ol b z) fun z => by subst z; exact ⟨.dK kvs, ea, trivial⟩
      show Is X.K (Ow O0 r1 σ) H2 (.dct ks l) (.ref a)
      rw [Is.dct_iff]
      exact ⟨a, kvs, rfl, R1.nofresh na, .inl ea, ek, IsL.mono (Same.kp (Same.refl H2) _) olp (fun _ z _ => .inl z) _ _ il2⟩
  · cases e2
end
end DD
namespace ZZ
open PySem
end ZZ
namespace DD
open PySem PySem.Spec PyProof.Rows L2
open PySem PySem.Spec PyProof.Rows L2 PySem.W
open PySem PySem.Spec PyProof.Rows L2 PySem.W
open PySem PySem.Spec PyProof.Rows L2 PySem.W
open PySem PySem.Spec PyProof.Rows L2 PySem.W
open PySem PySem.Spec PyProof.Rows L2 PySem.W
open PySem PySem.Spec PyProof.Rows L2 PySem.W PySem.Calls Builtin Builtin.ObjectAttr Builtin.Getset_descriptor
open PySem PySem.Spec PyProof.Rows L2 PySem.W
open PySem PySem.Spec PyProof.Rows L2 PySem.W
open PySem PySem.Spec PyProof.Rows L2 PySem.W
open PySem PySem.Spec PyProof.Rows L2 PySem.W
noncomputable def mulS : D → D → Option D
  | .str [c], .int n => if 0 ≤ n ∧ n ≤ 1000 then some (.str (List.replicate n.toNat c)) else none
  | _, _ => none
theorem mul_one (c : Nat) (n : Int) (h : 0 ≤ n) : Txt.mul ⟨#[c]⟩ n = ⟨(List.replicate n.toNat c).toArray⟩ := by
  obtain ⟨k, rfl⟩ := Int.eq_ofNat_of_zero_le h
  have fo : ∀ (k : Nat) (a : Array Nat), (List.replicate k #[c]).foldl (· ++ ·) a = a ++ (List.replicate k c).toArray := by
    intro k
    induction k with
    | zero => intro a; simp
    | succ k ih =>
      intro a
      rw [List.replicate_succ, List.foldl_cons, ih, List.replicate_succ]
      apply Array.toList_inj.mp
      simp
  unfold Txt.mul
  split
  · rename_i hk
    have : k = 0 := by omega
    subst this
    rfl
  · split
    · rename_i hk
      have : k = 1 := by
        have z : ((⟨#[c]⟩ : Str).length == 0) = false := rfl
        rw [z, Bool.or_false, beq_iff_eq] at hk
        omega
      subst this
      rfl
    · show (⟨(List.replicate (k : Int).toNat #[c]).foldl (· ++ ·) #[]⟩ : Str) = _
      rw [fo]
      simp
noncomputable def rMulS : R2 := fun x y H Q => ∃ (c : Nat) (n : Int), x = .str ⟨#[c]⟩ ∧ y = .int n ∧ 0 ≤ n ∧ n ≤ 1000 ∧ Q (.str ⟨(List.replicate n.toNat c).toArray⟩) H
theorem op_mulS {X : Cx} : OpR X (binaryOp .Mult) rMulS := by
  intro pins s σ H x y v u Q I rx ry hq
  obtain ⟨c, n, rfl, rfl, h0, h1, q⟩ := hq
  obtain ⟨k, rfl⟩ := rx
  obtain ⟨k', rfl⟩ := ry
  refine SB.mul ⟨?_, fun _ _ => ?_, fun _ _ => ?_⟩ fun t' k => ?_
  · simp only [Bool.or_eq_false_iff, decide_eq_false_iff_not]; omega
  · show ¬ ((1 : Nat) : Int) > _
    have : (1 : Int) ≤ (2 ^ 63 - 1) / n := by
      rename_i hn _
      exact (Int.le_ediv_iff_mul_le (by omega)).mpr (by omega)
    omega
  · show Builtin.Str.tooLong (1 * n.toNat) = false
    unfold Builtin.Str.tooLong
    have : n.toNat ≤ 1000 := by omega
    simp only [decide_eq_false_iff_not, Nat.one_mul]
    have : (1000 : Nat) ≤ sizeLine := by decide
    omega
  · rw [mul_one c n h0]
    exact ⟨.str _, H, I.tok _, ⟨_, rfl⟩, q⟩
theorem od_mulS {K : Fg} : OpD K rMulS mulS := by
  intro O H dx dy d vx vy Q ol ix iy e q
  unfold mulS at e
  split at e
  · rename_i c n
    split at e
    · rename_i hh
      cases e
      rw [Is.str_iff] at ix
      rw [Is.int_iff] at iy
      exact ⟨c, n, ix, iy, hh.1, hh.2, q _ H (Same.refl H) (by rw [Is.str_iff])⟩
    · cases e
  · cases e
open PySem PySem.Spec PyProof.Rows L2 PySem.W
open PySem PySem.Spec PyProof.Rows L2 PySem.W
section
variable {P : Program} {w : World} {K : Fg} {mg : Str → Option Value} {base : Heap} {N : List Str} {qual : Str} {scope : Scope} {f0 : Addr} {cd : Value} {A : Around} {outer : List Env} {s : Shared} {H : Hp} {E : XK}
variable {k n : Nat} {fa : Addr} {fd : FuncData} {ps : List Str} {m : List Sl → Option Str} {x : Str} {p pos : Pos} {a : Expr} {es : List Expr} {fs : ML}
end
open PySem PySem.Spec PyProof.Rows L2 PySem.W
open PySem PySem.Spec PyProof.Rows L2 PySem.W
open PySem PySem.Spec PyProof.Rows L2 PySem.W
open PySem PySem.Spec PyProof.Rows L2 PySem.W
open PySem PySem.Spec PyProof.Rows L2 PySem.W
open PySem PySem.Spec PyProof.Rows L2 PySem.W
section
variable {X : Cx} {es : List Expr} {pos : Pos}
noncomputable def mTupX (z : MXA) : En → Option (D × En) := fun r => (z r).bind fun q => if q.1.length ≤ sizeLine then some (.tup q.1, q.2) else none
theorem dx_tup {x1} {z : MXA} (h : DXA X es z) : DX X (.Tuple es x1 pos) (mTupX z) := by
  refine PE.conseq (pe_tup h) fun σ H Q h => ?_
  obtain ⟨O0, r, d, r', hR, e, q⟩ := h
  obtain ⟨⟨l, r1⟩, e1, e2⟩ := bind_some e
  split at e2
  · rename_i hl
    cases e2
    refine ⟨O0, r, l, r1, hR, e1, fun vs H1 R1 k1 i1 => ⟨by rw [← i1.length]; exact hl, fun p hp => ?_⟩⟩
    refine q _ _ (R1.same (same_upd hp)) (k1.trans (Kp.of_same r1 σ (same_upd hp))) ?_
    rw [Is.tup_iff]
    exact ⟨p, vs, rfl, SqT.of upd_same, i1.same (same_upd hp) R1.ol⟩
  · cases e2
end
open PySem PySem.Spec PyProof.Rows L2 PySem.W
structure KOut (ks : List Str) (vs : List Value) (out : List Value) : Prop where
  ex : ∃ ps : List (Str × Value), ps.Perm (ks.zip vs) ∧ out = ps.map (·.2) ∧ ps.Pairwise fun p q => ¬ q.1.cps.toList < p.1.cps.toList
theorem zip_keys {keys : List Value} {ks : List Str} (hS : StrsAre keys ks) (vs : List Value) : (keys.zip vs).map (fun p => (strOf p.1, p.2)) = ks.zip vs := by
  rw [← hS.strs, List.zip_map_left]; rfl
theorem ksort_out {keys : Array Value} {ks : List Str} {vs : List Value} (hS : StrsAre keys.toList ks) {xs : Array Keyed} (hp : xs.Perm (keys.zip vs.toArray)) (hs : SortedToK strKind xs xs.size) : KOut ks vs (xs.map (·.2)).toList := by
  have hl : xs.toList.Perm (keys.toList.zip vs) := by
    have := Array.perm_iff_toList_perm.mp hp
    rwa [ksk_zip] at this
  have hmem : ∀ p ∈ xs.toList, ∃ x t, p.1 = .str x t := fun p h => hS.all _ (List.of_mem_zip (hl.mem_iff.mp h)).1
  refine ⟨xs.toList.map (fun p => (strOf p.1, p.2)), ?_, ?_, ?_⟩
  · have := hl.map fun p : Keyed => (strOf p.1, p.2)
    rwa [zip_keys hS] at this
  · rw [Array.toList_map, List.map_map]; rfl
  · (rw [List.pairwise_iff_getElem])
    intro i j hi hj hij
    (have hi' : i < xs.size := by simpa using hi)
    (have hj' : j < xs.size := by simpa using hj)
    have h1 := hs i j (Nat.le_of_lt hij) hj'
    obtain ⟨x, t, ex⟩ := hmem xs[i] (by simp)
    obtain ⟨y, u, ey⟩ := hmem xs[j] (by simp)
    (rw [KK_str hi' (x := x) (t := t) (q := xs[i].2) (Prod.ext ex rfl), KK_str hj' (x := y) (t := u) (q := xs[j].2) (Prod.ext ey rfl)] at h1)
    have h2 : ¬ y.cps.toList < x.cps.toList := of_decide_eq_false h1
    (simp only [List.getElem_map, Array.getElem_toList])
    rw [show strOf xs[i].1 = x by rw [ex]; rfl, show strOf xs[j].1 = y by rw [ey]; rfl]
    exact h2
section
variable {prog : Program} {w : World} {A : Around} {E : Value → Shared → Prop} {s : Shared} {P : PySem.Fin → Shared → Prop}
theorem ksort_tail {st : SortSt} {a kS : Addr} {keys : Array Value} {ks : List Str} {vs : List Value} {e e1 : Nat} (na : s.heap.get? a = some (seqObj "list" #[] e1)) (nk : s.heap.get? kS = some (seqObj "list" keys e)) (hka : kS ≠ a)
    (hk : StrsAre keys.toList ks) (hlen : keys.size = vs.length) (h64 : vs.length < 64) (hp : (arrOf st).Perm (keys.zip vs.toArray)) (hs : SortedToK strKind (arrOf st) (arrOf st).size) (hfl : failedOf st = none)
    (h : ∀ out, KOut ks vs out.toList → out.size = vs.length → P (.done (.ret .none)) { s with heap := (s.heap.update kS (Obj.mapSeq fun _ => (#[] : Array Value))).update a (Obj.mapSeq fun _ => out) }) :
    wpAny (model prog w) A (ksk_tail a false e1 (.ref kS) st) P E s := by
  have hsz2 : (arrOf st).size = vs.length := by rw [hp.size_eq, Array.size_zip, hlen, List.size_toArray, Nat.min_self]
  have hout : ((arrOf st).map (·.2)).size = vs.length := by rw [Array.size_map]; exact hsz2
  (have s1 := Heap.SameBut.update s.heap kS (Obj.mapSeq fun _ => (#[] : Array Value)))
  have na1 : (s.heap.update kS (Obj.mapSeq fun _ => (#[] : Array Value))).get? a = some (seqObj "list" #[] e1) := (s1.2 a hka.symm).trans na
  unfold ksk_tail
  try dsimp only
  refine wpAny_bind (listUpdate_at nk rfl ?_ (by rw [hlen, sizeLine_eq]; omega) (Nat.zero_le _))
  refine wpAny_bind (wpAny_letGo ?_)
  (refine wpAny_bind (seqEpoch_at na1 rfl ?_))
  (refine wpAny_bind (listUpdate_at na1 rfl ?_ (Nat.zero_le _) (Nat.le_trans (Nat.le_of_eq hout) (by rw [sizeLine_eq]; omega))))
  rw [hfl]
  (simp only [bne_self_eq_false, Bool.false_eq_true, if_false])
  exact wpAny_pure (h _ (ksort_out hk hp hs) hout)
end
open PySem PySem.Spec PyProof.Rows L2 PySem.W
section
variable {prog : Program} {w : World} {A : Around} {E : Value → Shared → Prop} {s : Shared} {P : PySem.Fin → Shared → Prop} {a kS : Addr} {vs : List Value} {ks : List Str} {e1 : Nat}
theorem kstr_keys {keys : Array Value} {vs : List Value} {ks : List Str} (hS : StrsAre keys.toList ks) : KeysOf strKind (keys.zip vs.toArray) := by
  intro p hp
  rw [ksk_zip] at hp
  obtain ⟨x, t, e⟩ := hS.all _ (List.of_mem_zip (show (p.1, p.2) ∈ _ from hp)).1
  (exact ⟨x.cps.toList, by rw [e]⟩)
theorem kstr_kind {keys : Array Value} {ks : List Str} (hS : StrsAre keys.toList ks) (h2 : 2 ≤ keys.size) : keyKind' keys = pure oneType' := by
  obtain ⟨v1, v2, rest, e⟩ : ∃ v1 v2 rest, keys.toList = v1 :: v2 :: rest := by
    (have hl : 2 ≤ keys.toList.length := by rw [Array.length_toList]; exact h2)
    match q : keys.toList, hl with
    | v1 :: v2 :: rest, _ => exact ⟨v1, v2, rest, rfl⟩
  have ek : keys = (v1 :: v2 :: rest).toArray := by rw [← e, Array.toArray_toList]
  rw [e] at hS
  rw [ek]
  exact keyKind_strs hS
theorem ksort_end {keys : Array Value} {e : Nat} (na : s.heap.get? a = some (seqObj "list" #[] e1)) (nk : s.heap.get? kS = some (seqObj "list" keys e)) (hka : kS ≠ a)
    (hk : StrsAre keys.toList ks) (hlen : keys.size = vs.length) (h64 : vs.length < 64)
    (h : ∀ out, KOut ks vs out.toList → out.size = vs.length → P (.done (.ret .none)) { s with heap := (s.heap.update kS (Obj.mapSeq fun _ => (#[] : Array Value))).update a (Obj.mapSeq fun _ => out) }) :
    wpAny (model prog w) A (ksk_end a false vs.toArray e1 (.ref kS) keys) P E s := by
  have hzs : (keys.zip vs.toArray).size = vs.length := by rw [Array.size_zip, hlen, List.size_toArray, Nat.min_self]
  unfold ksk_end
  try dsimp only
  rw [if_neg (by decide)]
  (by_cases h2 : vs.toArray.size < 2)
  · rw [if_pos h2, if_pos h2]
    refine wpAny_bind (wpAny_pure ?_)
    rw [StateT.run_pure]
    refine wpAny_bind (wpAny_pure ?_)
    try dsimp only
    refine ksort_tail (st := SortSt.mk' general' (keys.zip vs.toArray) #[] 7 none) na nk hka hk hlen h64 (Array.Perm.refl _) ?_ rfl h
    intro i j hij hj
    have hj2 : j < (keys.zip vs.toArray).size := hj
    rw [hzs] at hj2
    rw [List.size_toArray] at h2
    obtain rfl : i = j := by omega
    show decide (_ < _) = false
    exact decide_eq_false (List.lt_irrefl _)
  · rw [if_neg h2, if_neg h2]
    rw [List.size_toArray] at h2
    rw [kstr_kind hk (by rw [hlen]; omega)]
    refine wpAny_bind (wpAny_pure ?_)
    refine wpAny_bind (wpAny_mono (wpS_sortRunsK (a₀ := keys.zip vs.toArray) (st := SortSt.mk' oneType' (keys.zip vs.toArray) #[] 7 none)
      (Q := fun _ st' => (arrOf st').Perm (keys.zip vs.toArray) ∧ failedOf st' = none ∧ SortedToK strKind (arrOf st') (keys.zip vs.toArray).size)
      strKind_oneLt (kstr_keys hk) ⟨Array.Perm.refl _, rfl, rfl, rfl⟩ (by rw [hzs]; omega) (by rw [hzs]; exact h64) fun st' a1 a2 a3 => ⟨a1, a2, a3⟩) ?_ fun _ _ e => e)
    (rintro ⟨⟨⟩, st'⟩ s' ⟨rfl, hp, hf, hs⟩)
    try dsimp only
    exact ksort_tail na nk hka hk hlen h64 hp (by rw [hp.size_eq]; exact hs) hf h
theorem strs_snoc {x : Str} {t : Tok} : ∀ {us : List Value} {ks : List Str}, StrsAre us ks → StrsAre (us ++ [.str x t]) (ks ++ [x])
  | _, _, .nil => .cons _ _ .nil
  | _, _, .cons y u h => .cons _ _ (strs_snoc h)
theorem strs_len : ∀ {us : List Value} {ks : List Str}, StrsAre us ks → us.length = ks.length
  | _, _, .nil => rfl
  | _, _, .cons y u h => congrArg (· + 1) (strs_len h)
theorem ksort_rest {f : Value} (J : Array Value → Nat → Shared → Prop) (hlen : ks.length = vs.length) (h64 : vs.length < 64)
    (jk : ∀ kA e s', J kA e s' → s'.heap.get? kS = some (seqObj "list" kA e))
    (push : ∀ kA e s' k, J kA e s' → kA.size < 64 → ∃ c, J (kA.push k) c { s' with heap := s'.heap.update kS (Obj.mapSeq (·.push k)) })
    (turn : ∀ (i : Nat) (v : Value) (k : Str), vs[i]? = some v → ks[i]? = some k → ∀ kA e s', J kA e s' → wpAny (model prog w) A (call f [v]) (fun u s'' => ∃ t, u = .str k t ∧ J kA e s'') (fun _ _ => False) s')
    (fin : ∀ kA e s', J kA e s' → StrsAre kA.toList ks → wpAny (model prog w) A (ksk_end a false vs.toArray e1 (.ref kS) kA) P E s')
    (h0 : J #[] 0 s) : wpAny (model prog w) A (ksk_rest a f false vs.toArray e1 (.ref kS)) P E s := by
  unfold ksk_rest
  refine wpAny_bind (wpAny_rule ?_)
  first
    | rw [List.forIn_toArray]
    | ((rw [← Array.forIn_toList]; simp only [List.toList_toArray]))
  refine wpAny_bind (ksk_fold (fun i s' => ∃ kA e, J kA e s' ∧ StrsAre kA.toList (ks.take i)) vs 0 s ⟨#[], 0, h0, by simpa using StrsAre.nil⟩ ?step ?done)
  case step =>
    rintro j x s' hx ⟨kA, e, hJ, hk⟩
    (simp only [Nat.zero_add] at hk ⊢)
    (have hj : j < vs.length := (List.getElem?_eq_some_iff.mp hx).1)
    obtain ⟨k, hkj⟩ : ∃ k, ks[j]? = some k := ⟨_, List.getElem?_eq_getElem (by omega)⟩
    have hz : kA.size ≤ j := by
      have h1 := strs_len hk
      (rw [Array.length_toList, List.length_take] at h1)
      omega
    refine wpAny_bind (wpAny_attempt (wpAny_mono (turn j x k hx hkj kA e s' hJ) (fun v s'' he => ?_) fun _ _ hF => hF.elim))
    obtain ⟨t, rfl, hJ2⟩ := he
    try dsimp only
    obtain ⟨c, hJ3⟩ := push kA e s'' (.str k t) hJ2 (by omega)
    have ek : ks.take (j + 1) = ks.take j ++ [k] := by rw [List.take_add_one, hkj]; rfl
    have ea : (kA.push (Value.str k t)).toList = kA.toList ++ [Value.str k t] := by simp
    refine wpAny_bind (listUpdate_at (jk _ _ _ hJ2) rfl ?_ (by rw [sizeLine_eq]; omega) (Nat.le_trans (Nat.le_of_eq (Array.size_push ..)) (by rw [sizeLine_eq]; omega)))
    exact wpAny_pure ⟨rfl, _, c, hJ3, by rw [ea, ek]; exact strs_snoc hk⟩
  case done =>
    rintro s' ⟨kA, e, hJ, hk⟩
    have e3 : ks.take (0 + vs.length) = ks := List.take_of_length_le (by omega)
    rw [e3] at hk
    try dsimp only
    refine wpAny_bind (listItems_at (jk _ _ _ hJ) rfl ?_)
    exact fin kA e s' hJ hk
end
open PySem PySem.Spec PyProof.Rows L2 PySem.W
theorem Inv.adopt {X : Cx} {pins : List (Addr × Obj)} {σ : L2.St} {H : Hp} {s : Shared} {h' : Heap} {a : Addr} {o : HO} {t' : Nat} (I : Inv X pins σ H s) (k : ∀ b u, b ≠ a → s.heap.get? b = some u → h'.get? b = some u) (f : FpOk X pins H a) (there : ∃ u, h'.get? a = some u) (new : ObjOk X.prog X.w (upd H a o) h' a o) : Inv X pins σ (upd H a o) { s with heap := h', toks := t' } := by
  obtain ⟨hn, hL, _, h1, h2, h3⟩ := f
  have ne : ∀ b u, H b = some u → b ≠ a := fun b u e z => by rw [z, hn] at e; cases e
  refine I.step (g' := s.gens) (d' := s.drawn) (ch := [a]) (fun b hb => ?_) (fun b u _ _ hc e _ => k b u (fun z => hc (by simp [z])) e) (fun b u _ _ hc e _ => ⟨u.slots, k b u (fun z => hc (by simp [z])) e⟩) (fun b u hc _ n => by rw [upd_ne (fun z => hc (by simp [z]))]; exact n)
    (fun b u hc e => ⟨u, k b u (fun z => hc (by simp [z])) e⟩) (fun b xs e => by rw [upd_ne (ne b _ e)]; exact e) (fun b u xs e => by rw [upd_ne (ne b _ e)]; exact e) (fun b ps e => ⟨#[], by rw [upd_ne (ne b _ e), e]; simp⟩) (fun m hm => ?_) (fun b u e => ?_) I.bare
  · obtain rfl : b = a := by simpa using hb
    exact ⟨h1, hL, h2, h3⟩
  · obtain ⟨ob, es, ep, ho, r⟩ := hm
    exact ⟨ob, es, ep, k _ ob (Ne.symm hL) ho, r⟩
  · by_cases hb : b = a
    · subst hb; rw [upd_same] at e; cases e; exact new
    · rw [upd_ne hb] at e
      refine (I.hok b u e).stay (fun c v hc q => k c v ?_ q) (fun c q => by rw [upd_ne (ne c _ q)]; exact q) (fun c xs q => by rw [upd_ne (ne c _ q)]; exact q) fun c o u q => by rw [upd_ne (ne c _ q)]; exact q
      rcases hc with z | z
      · rw [z]; exact hb
      · exact ne c _ z
theorem Inv.deep {X : Cx} {pins : List (Addr × Obj)} {σ : L2.St} {H : Hp} {s : Shared} {A' : Around} {xe' : Value → Shared → Prop} (I : Inv X pins σ H s) (h1 : X.calm = true → A'.handled = none) (h2 : A'.frames = X.A.frames) : Inv { X with A := A', xe := xe' } pins σ H s :=
  ⟨⟨I.ok.mod, I.ok.kind, I.ok.glob, I.ok.blt, I.ok.above, I.ok.inj, I.ok.has, I.ok.cab, h1, h2.trans I.ok.frames, I.ok.stk, I.ok.exf, I.ok.bs, I.ok.bsz, I.ok.noex, I.ok.exfs, I.ok.funs, I.ok.frf⟩, I.os, I.bare, I.base, I.loc, I.cell, I.free, I.freeC, I.pin, I.hok, I.len⟩
inductive KRel : List (Str × V) → List (Str × Value) → Prop
  | nil : KRel [] []
  | cons {k : Str} {x : V} {u : Value} {as : List (Str × V)} {rs : List (Str × Value)} : RelV x u → KRel as rs → KRel ((k, x) :: as) ((k, u) :: rs)
theorem KRel.zip : ∀ {ks : List Str} {xs : List V} {us : List Value}, Vals xs us → ks.length = xs.length → KRel (ks.zip xs) (ks.zip us)
  | [], _, _, _, _ => by simp; exact .nil
  | k :: ks, [], _, h, e => by simp at e
  | k :: ks, x :: xs, _, .cons r h, e => by
    rw [List.zip_cons_cons, List.zip_cons_cons]
    exact .cons r (KRel.zip h (by simpa using e))
theorem KRel.perm {ps rs : List (Str × Value)} (h : ps.Perm rs) : ∀ {as : List (Str × V)}, KRel as rs → ∃ bs, bs.Perm as ∧ KRel bs ps := by
  induction h with
  | nil => intro as h; exact ⟨as, .refl _, h⟩
  | cons x p ih =>
    intro as h
    cases h with
    | cons r h =>
      obtain ⟨bs, q, z⟩ := ih h
      exact ⟨_, q.cons _, .cons r z⟩
  | swap x y l =>
    intro as h
    cases h with
    | cons r h => cases h with
      | cons r' h => exact ⟨_, .swap .., .cons r' (.cons r h)⟩
  | trans p1 p2 ih1 ih2 =>
    intro as h
    obtain ⟨bs, q, z⟩ := ih2 h
    obtain ⟨cs, q', z'⟩ := ih1 z
    exact ⟨cs, q'.trans q, z'⟩
theorem KRel.vals : ∀ {as : List (Str × V)} {rs : List (Str × Value)}, KRel as rs → Vals (as.map (·.2)) (rs.map (·.2)) ∧ as.map (·.1) = rs.map (·.1)
  | _, _, .nil => ⟨.nil, rfl⟩
  | _, _, .cons r h => ⟨.cons r h.vals.1, by rw [List.map_cons, List.map_cons, h.vals.2]⟩
open PySem PySem.Spec PyProof.Rows L2 PySem.W
structure KOutV (ks : List Str) (xs ys : List V) : Prop where
  ex : ∃ qs : List (Str × V), qs.Perm (ks.zip xs) ∧ ys = qs.map (·.2) ∧ qs.Pairwise fun p q => ¬ q.1.cps.toList < p.1.cps.toList
theorem KOut.toV {ks : List Str} {xs : List V} {us out : List Value} (h : KOut ks us out) (hv : Vals xs us) (hl : ks.length = xs.length) : ∃ ys, KOutV ks xs ys ∧ Vals ys out := by
  obtain ⟨ps, hp, rfl, ho⟩ := h.ex
  obtain ⟨qs, hq, hr⟩ := KRel.perm hp (KRel.zip hv hl)
  obtain ⟨h1, h2⟩ := hr.vals
  refine ⟨qs.map (·.2), ⟨qs, hq, rfl, ?_⟩, h1⟩
  have e : (qs.map (·.1)).Pairwise fun p q : Str => ¬ q.cps.toList < p.cps.toList := by
    rw [h2]
    exact List.pairwise_map.mpr ho
  exact List.pairwise_map.mp e
section
variable {X : Cx} {pins : List (Addr × Obj)} {σ : L2.St} {H : Hp} {s : Shared} {f p : Addr} {xs : List V} {ks : List Str} {Q : VK}
noncomputable abbrev Cx.two (X : Cx) : Cx := { X with A := X.A.in1.in1, xe := fun _ _ => False }
theorem sortK (hc : X.calm = true) (I : Inv X pins σ H s) (hS : SqL X.K H p xs) (h64 : xs.length < 64) (hlen : ks.length = xs.length)
    (turn : ∀ (i : Nat) (x : V) (k : Str), xs[i]? = some x → ks[i]? = some k → ∀ (pins' : List (Addr × Obj)) (s' : Shared) (H' : Hp) (u : Value), Same H H' → Inv (Cx.two X) pins' σ H' s' → RelV x u →
      wpAny (model X.prog X.w) X.A.in1.in1 (call (.ref f) [u]) (fun v s2 => ∃ t H2, v = .str k t ∧ Same H' H2 ∧ Inv (Cx.two X) pins' σ H2 s2) (fun _ _ => False) s')
    (q : ∀ (D : Addr) (ys : List V) (H' : Hp), KOutV ks xs ys → Same H H' → H D = none → H' D = none → Q (.ref D) (upd H' D (.lst ys))) :
    wpAny (model X.prog X.w) X.A (call (.builtin "sorted") [.ref p] [(Str.ofString "key", .ref f)]) (EP X pins σ Q) X.xe s := by
  obtain ⟨its, rv, pl, hz⟩ := I.list hS
  have hl := rv.length
  have hl' : its.length < 64 := by omega
  refine call_function_entry_kw kind_sorted plain_sorted entry_sorted (ksk_s1 _ _) ?_
  unfold Builtin.«sorted»
  (refine wpAny_bind (m := checkCount "sorted" 1 1 _) (wpAny_pure ?_))
  refine wpAny_bind (collect_list pl.isList ?_ (by rw [sizeLine_eq]; omega))
  (refine wpAny_bind (wpAny_newList ?_ (by rw [sizeLine_eq]; omega)))
  have hsz : ((s.heap.push (seqObj "list" #[] 0)).update s.heap.objs.size (Obj.mapSeq (· ++ its.toArray))).objs.size = s.heap.objs.size + 1 := by
    (rw [Heap.size_update, size_push'])
  have hoL : (((s.heap.push (seqObj "list" #[] 0)).update s.heap.objs.size (Obj.mapSeq (· ++ its.toArray))).push (seqObj "list" its.toArray 0)).get? (s.heap.objs.size + 1) = some (seqObj "list" its.toArray 0) := by
    (rw [← hsz]; exact Heap.get?_push_size _ rfl)
  have keep : ∀ b o, s.heap.get? b = some o → (((s.heap.push (seqObj "list" #[] 0)).update s.heap.objs.size (Obj.mapSeq (· ++ its.toArray))).push (seqObj "list" its.toArray 0)).get? b = some o := fun b o q => by
    (have hlt : b < s.heap.objs.size := Heap.lt_size q)
    exact Heap.get?_push_of_some _ ((Heap.get?_update_ne _ _ _ _ (Nat.ne_of_lt hlt)).trans (Heap.get?_push_of_some _ q))
  have hsz2 : (((s.heap.push (seqObj "list" #[] 0)).update s.heap.objs.size (Obj.mapSeq (· ++ its.toArray))).push (seqObj "list" its.toArray 0)).objs.size = s.heap.objs.size + 2 := by rw [size_push', hsz]
  show wpAny _ _ _ _ _ { s with heap := ((s.heap.push (seqObj "list" #[] 0)).update s.heap.objs.size (Obj.mapSeq (· ++ its.toArray))).push (seqObj "list" its.toArray 0) }
  rw [hsz]
  generalize hh1 : ((s.heap.push (seqObj "list" #[] 0)).update s.heap.objs.size (Obj.mapSeq (· ++ its.toArray))).push (seqObj "list" its.toArray 0) = h1 at hoL keep hsz2 ⊢
  generalize hD : s.heap.objs.size + 1 = D at hoL ⊢
  refine wpAny_bind (wpAny_holding (wpAny_call_entry_kw slot_list_sort ⟨_, hoL, rfl⟩ entry_list_sort ?body (ksk_l1 _ _)))
  case body =>
    show wpAny (model X.prog X.w) X.A.in1.in1 (Builtin.«list.sort» ⟨[.ref D], [(Str.ofString "key", .ref f)]⟩) _ _ _
    rw [ksk_t1]
    have lD : s.heap.objs.size ≤ D := by omega
    have lk : s.heap.objs.size ≤ h1.objs.size + 1 := by omega
    have fD : FpOk X pins H D := I.fpOk lD (I.hok.fresh lD)
    have fk : FpOk X pins H (h1.objs.size + 1) := I.fpOk lk (I.hok.fresh lk)
    have hDk : D ≠ h1.objs.size + 1 := by omega
    obtain ⟨e1, ho1⟩ : ∃ e1, (h1.update D (Obj.mapSeq fun _ => (#[] : Array Value))).get? D = some (seqObj "list" #[] e1) := ⟨_, get?_update_seq hoL fun _ => #[]⟩
    have sb := Heap.SameBut.update h1 D (Obj.mapSeq fun _ => (#[] : Array Value))
    have hkS : ((h1.update D (Obj.mapSeq fun _ => (#[] : Array Value))).push (seqObj "tuple" its.toArray 0)).objs.size = h1.objs.size + 1 := by rw [size_push', Heap.size_update]
    have keep4 : ∀ b o, s.heap.get? b = some o → (((h1.update D (Obj.mapSeq fun _ => (#[] : Array Value))).push (seqObj "tuple" its.toArray 0)).push (seqObj "list" #[] 0)).get? b = some o := fun b o e => Heap.get?_push_of_some _ (Heap.get?_push_of_some _ ((sb.2 b (Nat.ne_of_lt (Nat.lt_of_lt_of_le (Heap.lt_size e) lD))).trans (keep b o e)))
    have kS0 : (((h1.update D (Obj.mapSeq fun _ => (#[] : Array Value))).push (seqObj "tuple" its.toArray 0)).push (seqObj "list" #[] 0)).get? (h1.objs.size + 1) = some (seqObj "list" #[] 0) := by rw [← hkS]; exact Heap.get?_push_size _ rfl
    have D0 : (((h1.update D (Obj.mapSeq fun _ => (#[] : Array Value))).push (seqObj "tuple" its.toArray 0)).push (seqObj "list" #[] 0)).get? D = some (seqObj "list" #[] e1) := Heap.get?_push_of_some _ (Heap.get?_push_of_some _ ho1)
    unfold ksk_tree
    refine wpAny_bind (listItems_at hoL rfl ?_)
    refine wpAny_bind (listUpdate_at hoL rfl ?_ (by rw [List.size_toArray, sizeLine_eq]; omega) (Nat.zero_le _))
    (refine wpAny_bind (seqEpoch_at ho1 rfl ?_))
    refine wpAny_bind (wpAny_newTuple ?_ (by show its.length ≤ _; rw [sizeLine_eq]; omega))
    (refine wpAny_bind (wpAny_newList ?_ (Nat.zero_le _)))
    refine wpAny_holding ?_
    rw [hkS]
    generalize h1.objs.size + 1 = kS at fk hDk kS0 ⊢
    generalize hh4 : ((h1.update D (Obj.mapSeq fun _ => (#[] : Array Value))).push (seqObj "tuple" its.toArray 0)).push (seqObj "list" #[] 0) = h4 at keep4 kS0 D0
    let pk : Array Value → Nat → List (Addr × Obj) := fun kA e => [(kS, seqObj "list" kA e), (D, seqObj "list" #[] e1)]
    let J : Array Value → Nat → Shared → Prop := fun kA e s' => ∃ H', Same H H' ∧ Inv (Cx.two X) (pins ++ pk kA e) σ H' s'
    have nocell : ∀ (o : Obj) (c : Array Value) (e : Nat), o = seqObj "list" c e → ∀ v, o.data ≠ .cell v := fun o c e z v y => by subst z; cases y
    have pin : ∀ {H' : Hp} {s' : Shared} {kA : Array Value} {e : Nat}, Inv (Cx.two X) pins σ H' s' → H' kS = none → H' D = none → s'.heap.get? kS = some (seqObj "list" kA e) → s'.heap.get? D = some (seqObj "list" #[] e1) → Inv (Cx.two X) (pins ++ pk kA e) σ H' s' := fun {H' s' kA e} I' n1 n2 g1 g2 => I'.pins_of fun p hp => by
      (rcases List.mem_append.mp hp with hp | hp)
      · exact I'.pin p (List.mem_append_right _ hp)
      · rcases List.mem_cons.mp hp with (rfl | hp)
        · exact ⟨g1, n1, fk.2.1, fk.2.2.1, nocell _ _ _ rfl⟩
        · (rw [List.mem_singleton.mp hp])
          exact ⟨g2, n2, fD.2.1, fD.2.2.1, nocell _ _ _ rfl⟩
    have at1 : ∀ {H' : Hp} {s' : Shared} {kA : Array Value} {e : Nat}, Inv (Cx.two X) (pins ++ pk kA e) σ H' s' → (s'.heap.get? kS = some (seqObj "list" kA e) ∧ H' kS = none) ∧ s'.heap.get? D = some (seqObj "list" #[] e1) ∧ H' D = none := fun {H' s' kA e} I' => by
      have a := I'.pin (kS, seqObj "list" kA e) (List.mem_append_right _ (List.mem_append_right _ (.head _)))
      have b := I'.pin (D, seqObj "list" #[] e1) (List.mem_append_right _ (List.mem_append_right _ (.tail _ (.head _))))
      exact ⟨⟨a.1, a.2.1⟩, b.1, b.2.1⟩
    refine ksort_rest (ks := ks) J (by omega) hl' (fun kA e s' hJ => ?jk) (fun kA e s' k hJ hz => ?push) (fun i v k h1 h2 kA e s' hJ => ?turn) (fun kA e s' hJ hk => ?fin) ?h0
    case h0 => exact ⟨H, Same.refl _, pin (Inv.deep (I.kept (t' := s.toks) keep4) (fun h => I.ok.hd h) rfl) (fk.1) (fD.1) kS0 D0⟩
    case jk => obtain ⟨H', sm, I'⟩ := hJ; exact (at1 I').1.1
    case push =>
      obtain ⟨H', sm, I'⟩ := hJ
      obtain ⟨⟨g1, n1⟩, g2, n2⟩ := at1 I'
      have sb := Heap.SameBut.update s'.heap kS (Obj.mapSeq (·.push k))
      have I2 : Inv (Cx.two X) pins σ H' { s' with heap := s'.heap.update kS (Obj.mapSeq (·.push k)) } := I'.unpinned.turned (t' := s'.toks) (fun b o hb e => (sb.2 b hb).trans e) n1 fk.2.1 fk.2.2.2.1 fk.2.2.2.2.1 fk.2.2.2.2.2
      exact ⟨_, H', sm, pin I2 n1 n2 (get?_update_seq g1 (·.push k)) ((sb.2 D hDk).trans g2)⟩
    case turn =>
      obtain ⟨H', sm, I'⟩ := hJ
      have hi : i < xs.length := by rw [hl]; exact (List.getElem?_eq_some_iff.mp h1).1
      obtain ⟨u, e, r⟩ := rv.get (List.getElem?_eq_getElem hi)
      rw [h1] at e
      cases e
      refine wpAny_mono (turn i xs[i] k (List.getElem?_eq_getElem hi) h2 _ s' H' v sm I' r) (fun u s2 z => ?_) fun _ _ z => z
      obtain ⟨t, H2, e, sm2, I2⟩ := z
      exact ⟨t, e, H2, sm.trans sm2, I2⟩
    case fin =>
      obtain ⟨H', sm, I'⟩ := hJ
      obtain ⟨⟨g1, n1⟩, g2, n2⟩ := at1 I'
      have hks := strs_len hk
      rw [Array.length_toList] at hks
      refine ksort_end g2 g1 hDk.symm hk (by omega) hl' fun out ko lo => ⟨_, rfl, wpAny_pure ⟨_, rfl, ?_⟩⟩
      obtain ⟨ys, kv, vy⟩ := ko.toV rv hlen
      have sb := Heap.SameBut.update s'.heap kS (Obj.mapSeq fun _ => (#[] : Array Value))
      have I2 : Inv (Cx.two X) pins σ H' { s' with heap := s'.heap.update kS (Obj.mapSeq fun _ => (#[] : Array Value)) } := I'.unpinned.turned (t' := s'.toks) (fun b o hb e => (sb.2 b hb).trans e) n1 fk.2.1 fk.2.2.2.1 fk.2.2.2.2.1 fk.2.2.2.2.2
      have g3 : (s'.heap.update kS (Obj.mapSeq fun _ => (#[] : Array Value))).get? D = some (seqObj "list" #[] e1) := (sb.2 D hDk).trans g2
      have sb2 := Heap.SameBut.update (s'.heap.update kS (Obj.mapSeq fun _ => (#[] : Array Value))) D (Obj.mapSeq fun _ => out)
      obtain ⟨c2, g4⟩ : ∃ c2, ((s'.heap.update kS (Obj.mapSeq fun _ => (#[] : Array Value))).update D (Obj.mapSeq fun _ => out)).get? D = some (seqObj "list" out c2) := ⟨_, get?_update_seq g3 fun _ => out⟩
      have ylen : ys.length = its.length := by rw [vy.length, Array.length_toList, lo]
      have new : ObjOk X.prog X.w (upd H' D (.lst ys)) ((s'.heap.update kS (Obj.mapSeq fun _ => (#[] : Array Value))).update D (Obj.mapSeq fun _ => out)) D (.lst ys) := ⟨by rw [ylen, sizeLine_eq]; omega, out.toList, c2, vy, by rw [Array.toArray_toList]; exact g4⟩
      have I3 : Inv (Cx.two X) pins σ (upd H' D (.lst ys)) { s' with heap := (s'.heap.update kS (Obj.mapSeq fun _ => (#[] : Array Value))).update D (Obj.mapSeq fun _ => out) } := Inv.adopt (s := { s' with heap := s'.heap.update kS (Obj.mapSeq fun _ => (#[] : Array Value)) }) (t' := s'.toks) I2 (fun b o hb e => (sb2.2 b hb).trans e) ⟨n2, fD.2⟩ ⟨_, g4⟩ new
      have I4 : Inv X pins σ (upd H' D (.lst ys)) { s' with heap := (s'.heap.update kS (Obj.mapSeq fun _ => (#[] : Array Value))).update D (Obj.mapSeq fun _ => out) } := Inv.deep (X := Cx.two X) (A' := X.A) (xe' := X.xe) I3 (fun h => I.ok.hd h) rfl
      exact ⟨.ref D, _, I4, rfl, q D ys H' kv sm fD.1 n2⟩
end
open PySem PySem.Spec PyProof.Rows L2 PySem.W
noncomputable abbrev KD := List Nat × D
noncomputable def upK (l : List KD) : Prop := l.Pairwise fun p q => ¬ q.1 < p.1
open Classical in
noncomputable def srtK (l : List KD) : List D := if h : ∃ m, m.Perm l ∧ upK m then h.choose.map (·.2) else l.map (·.2)
theorem srtK_eq {l m : List KD} (nd : (l.map (·.1)).Nodup) (p : m.Perm l) (h : upK m) : m.map (·.2) = srtK l := by
  have ex : ∃ m, m.Perm l ∧ upK m := ⟨m, p, h⟩
  unfold srtK
  rw [dif_pos ex]
  have nd1 : (m.map (·.1)).Nodup := (p.map _).nodup_iff.mpr nd
  have key : ∀ a ∈ m, ∀ b ∈ m, a.1 = b.1 → a = b := fun a ha b hb e => by
    obtain ⟨i, hi, rfl⟩ := List.getElem_of_mem ha
    (obtain ⟨j, hj, rfl⟩ := List.getElem_of_mem hb)
    rcases Nat.lt_trichotomy i j with z | z | z
    · exact absurd (by rw [List.getElem_map, List.getElem_map]; exact e) ((List.pairwise_iff_getElem.mp nd1) i j (by simpa using hi) (by simpa using hj) z)
    · subst z; rfl
    · exact absurd (by rw [List.getElem_map, List.getElem_map]; exact e.symm) ((List.pairwise_iff_getElem.mp nd1) j i (by simpa using hj) (by simpa using hi) z)
  have pm := p.trans ex.choose_spec.1.symm
  rw [List.Perm.eq_of_pairwise (le := fun p q : KD => ¬ q.1 < p.1) (fun a b ha hb x y => key a ha b (pm.mem_iff.mpr hb) (List.le_antisymm (as := a.1) (bs := b.1) x y)) h ex.choose_spec.2 pm]
inductive KIs (K : Fg) (O : Addr → Prop) (H : Hp) : List KD → List (Str × V) → Prop
  | nil : KIs K O H [] []
  | cons {k : List Nat} {d : D} {x : V} {as : List KD} {bs : List (Str × V)} : Is K O H d x → KIs K O H as bs → KIs K O H ((k, d) :: as) ((⟨k.toArray⟩, x) :: bs)
theorem KIs.perm {K : Fg} {O : Addr → Prop} {H : Hp} {ps rs : List (Str × V)} (h : ps.Perm rs) : ∀ {as : List KD}, KIs K O H as rs → ∃ bs, bs.Perm as ∧ KIs K O H bs ps := by
  induction h with
  | nil => intro as h; exact ⟨as, .refl _, h⟩
  | cons x p ih =>
    intro as h
    cases h with
    | cons r h =>
      obtain ⟨bs, q, z⟩ := ih h
      exact ⟨_, q.cons _, .cons r z⟩
  | swap x y l =>
    intro as h
    cases h with
    | cons r h => cases h with
      | cons r' h => exact ⟨_, .swap .., .cons r' (.cons r h)⟩
  | trans p1 p2 ih1 ih2 =>
    intro as h
    obtain ⟨bs, q, z⟩ := ih2 h
    obtain ⟨cs, q', z'⟩ := ih1 z
    exact ⟨cs, q'.trans q, z'⟩
theorem KIs.isl {K : Fg} {O : Addr → Prop} {H : Hp} : ∀ {as : List KD} {bs : List (Str × V)}, KIs K O H as bs → IsL K O H (as.map (·.2)) (bs.map (·.2)) ∧ bs.map (·.1) = as.map (fun p => (⟨p.1.toArray⟩ : Str))
  | _, _, .nil => ⟨.nil, rfl⟩
  | _, _, .cons r h => ⟨.cons r h.isl.1, by rw [List.map_cons, List.map_cons, h.isl.2]⟩
theorem KIs.of {K : Fg} {O : Addr → Prop} {H : Hp} : ∀ {as : List KD} {xs : List V}, IsL K O H (as.map (·.2)) xs → KIs K O H as ((as.map (fun p => (⟨p.1.toArray⟩ : Str))).zip xs)
  | [], xs, h => by unfold IsL at h; subst h; exact .nil
  | (k, d) :: as, xs, h => by
    unfold IsL at h
    obtain ⟨v, vs, rfl, h1, h2⟩ := h
    exact .cons h1 (KIs.of h2)
end DD
namespace L2
open PySem PySem.Spec PyProof.Rows
section
variable {κ : Type} [DecidableEq κ]
noncomputable def valV (kvs : List (κ × V)) (k : κ) : Option V := (kvs.find? fun kv => decide (kv.1 = k)).map (·.2)
noncomputable def putK (kvs : List (κ × V)) (k : κ) (v : V) : List (κ × V) :=
  if (kvs.any fun kv => decide (kv.1 = k)) = true then kvs.map (fun kv => if kv.1 = k then (kv.1, v) else kv) else kvs ++ [(k, v)]
theorem valV_pos {p : κ × V} {r : List (κ × V)} {k : κ} (e : p.1 = k) : valV (p :: r) k = some p.2 := by simp [valV, List.find?_cons, e]
theorem valV_neg {p : κ × V} {r : List (κ × V)} {k : κ} (e : ¬ p.1 = k) : valV (p :: r) k = valV r k := by simp [valV, List.find?_cons, e]
theorem valV_any (k : κ) : ∀ kvs : List (κ × V), (kvs.any fun kv => decide (kv.1 = k)) = (valV kvs k).isSome
  | [] => rfl
  | p :: r => by
    rw [List.any_cons]
    by_cases e : p.1 = k
    · simp only [valV_pos e, decide_eq_true e, Bool.true_or, Option.isSome_some]
    · rw [valV_neg e, decide_eq_false e, Bool.false_or]; exact valV_any k r
theorem length_putK (kvs : List (κ × V)) (k : κ) (v : V) : (putK kvs k v).length ≤ kvs.length + 1 := by
  unfold putK
  split
  · rw [List.length_map]; omega
  · rw [List.length_append, List.length_cons, List.length_nil]; omega
theorem RelO.isSome_eq {o : Option V} {u : Option Value} (r : RelO o u) : o.isSome = u.isSome := by
  cases o with
  | none => cases u with
    | none => rfl
    | some _ => exact (show False from r).elim
  | some _ => cases u with
    | none => exact (show False from r).elim
    | some _ => rfl
theorem KV.any {kvs : List (κ × V)} {vs : List (κ × Value)} (r : KV kvs vs) (k : κ) : (kvs.any fun kv => decide (kv.1 = k)) = vs.any fun kv => decide (kv.1 = k) := by
  unfold KV at r
  induction r with
  | nil => rfl
  | cons h t ih => rw [List.any_cons, List.any_cons, ih, h.1]
theorem KV.repl {kvs : List (κ × V)} {vs : List (κ × Value)} (r : KV kvs vs) (k : κ) {y : V} {u : Value} (ry : RelV y u) :
    KV (kvs.map fun kv => if kv.1 = k then (kv.1, y) else kv) (vs.map fun kv => if kv.1 = k then (kv.1, u) else kv) := by
  unfold KV at r ⊢
  induction r with
  | nil => exact .nil
  | @cons p q ps qs h t ih =>
    rw [List.map_cons, List.map_cons]
    refine .cons ?_ ih
    obtain ⟨h1, h2⟩ := h
    by_cases e : p.1 = k
    · rw [if_pos e, if_pos (h1.symm.trans e)]; exact ⟨h1, ry⟩
    · rw [if_neg e, if_neg (fun z => e (h1.trans z))]; exact ⟨h1, h2⟩
theorem KV.put {kvs : List (κ × V)} {vs : List (κ × Value)} (r : KV kvs vs) (k : κ) {y : V} {u : Value} (ry : RelV y u) : KV (putK kvs k y) (stored vs k u) := by
  unfold putK stored
  rw [r.any k]
  by_cases e : (vs.any fun kv => decide (kv.1 = k)) = true
  · rw [if_pos e, if_pos e]; exact r.repl k ry
  · rw [if_neg e, if_neg e]; exact Paired.snoc r ⟨rfl, ry⟩
theorem KV.keys {kvs : List (κ × V)} {vs : List (κ × Value)} (r : KV kvs vs) : kvs.map (·.1) = vs.map (·.1) := by
  unfold KV at r
  induction r with
  | nil => rfl
  | cons h t ih => rw [List.map_cons, List.map_cons, ih, h.1]
theorem KV.length {kvs : List (κ × V)} {vs : List (κ × Value)} (r : KV kvs vs) : kvs.length = vs.length := Paired.length r
end
theorem kV_is {P : Program} {w : World} {k : Key} {u : Value} (r : RelV (kV k) u) : (mixKind P w).is k u = true := by
  cases k with
  | inl i => obtain ⟨t, e⟩ := (show ∃ t, u = Value.int i t from r); subst e; exact mixKind_int P w i t
  | inr x => obtain ⟨t, e⟩ := (show ∃ t, u = Value.str x t from r); subst e; exact mixKind_str P w x t
theorem items_are {P : Program} {w : World} : ∀ {ks : List Key} {us : List Value}, Vals (ks.map kV) us → ItemsAre (mixKind P w) ks us
  | [], _, r => by rw [List.map_nil] at r; cases r; exact .nil
  | k :: ks, _, r => by
    rw [List.map_cons] at r
    cases r with
    | cons h t => exact .cons (kV_is h) (items_are t)
noncomputable abbrev KT (H : Hp) : List (List Key × V) → List (List Key × Addr × Value) → Prop := Paired fun p q => p.1 = q.1 ∧ H q.2.1 = some (.tup (p.1.map kV)) ∧ RelV p.2 q.2.2
theorem KT.val {H : Hp} {kvs : List (List Key × V)} {xs : List (List Key × Addr × Value)} (r : KT H kvs xs) (k : List Key) : RelO (valV kvs k) ((atKey xs k).map (·.2)) := by
  induction r with
  | nil => exact True.intro
  | @cons p q ps qs h t ih =>
    obtain ⟨h1, _, h2⟩ := h
    by_cases e : p.1 = k
    · have e' : q.1 = k := h1.symm.trans e
      have b : atKey (q :: qs) k = some q.2 := by simp [atKey, List.find?_cons, e']
      rw [valV_pos e, b]; exact h2
    · have e' : ¬ q.1 = k := fun z => e (h1.trans z)
      have b : atKey (q :: qs) k = atKey qs k := by simp [atKey, List.find?_cons, e']
      rw [valV_neg e, b]; exact ih
theorem KT.repl {H : Hp} {kvs : List (List Key × V)} {xs : List (List Key × Addr × Value)} (r : KT H kvs xs) (k : List Key) {y : V} {u : Value} (ry : RelV y u) :
    KT H (kvs.map fun kv => if kv.1 = k then (kv.1, y) else kv) (xs.map (putAt k u)) := by
  induction r with
  | nil => exact .nil
  | @cons p q ps qs h t ih =>
    rw [List.map_cons, List.map_cons]
    refine .cons ?_ ih
    obtain ⟨h1, h2, h3⟩ := h
    unfold putAt
    by_cases e : p.1 = k
    · rw [if_pos e, if_pos (h1.symm.trans e)]; exact ⟨h1, h2, ry⟩
    · rw [if_neg e, if_neg (fun z => e (h1.trans z))]; exact ⟨h1, h2, h3⟩
theorem KT.put {H : Hp} {kvs : List (List Key × V)} {xs : List (List Key × Addr × Value)} (r : KT H kvs xs) (k : List Key) {b : Addr} {y : V} {u : Value} (hb : H b = some (.tup (k.map kV))) (ry : RelV y u) :
    KT H (putK kvs k y) (storedH xs k b u) := by
  have e : (kvs.any fun kv => decide (kv.1 = k)) = (atKey xs k).isSome := by
    rw [valV_any, (r.val k).isSome_eq, Option.isSome_map]
  unfold putK storedH
  rw [e]
  by_cases q : (atKey xs k).isSome = true
  · rw [if_pos q, if_pos q]; exact r.repl k ry
  · rw [if_neg q, if_neg q]; exact Paired.snoc r ⟨rfl, hb, ry⟩
theorem KT.keeps {H H' : Hp} {kvs : List (List Key × V)} {xs : List (List Key × Addr × Value)} (r : KT H kvs xs) (ht : ∀ b ys, H b = some (.tup ys) → H' b = some (.tup ys)) : KT H' kvs xs :=
  Paired.mapP r fun _ _ z => ⟨z.1, ht _ _ z.2.1, z.2.2⟩
section
variable {P : Program} {w : World} {H : Hp} {h : Heap} {a : Addr}
theorem rd_of {u : HO} (ok : HOk P w H h) (e : Rd H a u) : ObjOk P w H h a u := e.ok ok
theorem dk_rd {kvs : List (Key × V)} (ok : HOk P w H h) (e : Rd H a (.dK kvs)) : kvs.length ≤ sizeLine ∧ (a == sysModules) = false ∧ ∃ vs, KV kvs vs ∧ h.DictOf (mixKind P w) a vs :=
  show ObjOk P w H h a (.dK kvs) from rd_of ok e
theorem dk_of {kvs : List (Key × V)} (ok : HOk P w H h) (e : H a = some (.dK kvs)) : kvs.length ≤ sizeLine ∧ (a == sysModules) = false ∧ ∃ vs, KV kvs vs ∧ h.DictOf (mixKind P w) a vs := dk_rd ok (.inl e)
theorem key_of {ks : List Key} (ok : HOk P w H h) (e : H a = some (.tup (ks.map kV))) : (tupleKind (mixKind P w)).is h ks a := by
  obtain ⟨_, its, r, o, h1, h2, n, h3⟩ := (show ObjOk P w H h a (.tup (ks.map kV)) from ok a _ e)
  exact ⟨o, its.toArray, n, h1, h2, h3, by simpa using items_are r⟩
theorem dt_rd {kvs : List (List Key × V)} (ok : HOk P w H h) (e : Rd H a (.dT kvs)) : kvs.length ≤ sizeLine ∧ (a == sysModules) = false ∧
    ∃ xs, KT H kvs xs ∧ h.DictOfH (tupleKind (mixKind P w)) a xs := by
  obtain ⟨z, y, xs, r, o, es, ep, h1, h2, h3, h4, h5⟩ := (show ObjOk P w H h a (.dT kvs) from rd_of ok e)
  refine ⟨z, y, xs, r, o, es, ep, h1, h2, h3, h4, fun x hx => ?_, h5⟩
  have all : ∀ {l : List (List Key × V)} {m : List (List Key × Addr × Value)}, KT H l m → ∀ x ∈ m, (tupleKind (mixKind P w)).is h x.1 x.2.1 := by
    intro l m q
    induction q with
    | nil => intro x hx; exact nomatch hx
    | @cons p q ps qs hq t ih =>
      intro x hx
      rcases List.mem_cons.mp hx with e | hx
      · subst e
        exact key_of ok (by rw [← hq.1]; exact hq.2.1)
      · exact ih x hx
  exact all r x hx
theorem dt_of {kvs : List (List Key × V)} (ok : HOk P w H h) (e : H a = some (.dT kvs)) : kvs.length ≤ sizeLine ∧ (a == sysModules) = false ∧
    ∃ xs, KT H kvs xs ∧ h.DictOfH (tupleKind (mixKind P w)) a xs := dt_rd ok (.inl e)
end
noncomputable def DPut (H : Hp) (a : Addr) (y v : V) (H' : Hp) : Prop :=
  (∃ kvs k, H a = some (.dK kvs) ∧ y = kV k ∧ kvs.length < sizeLine ∧ H' = upd H a (.dK (putK kvs k v))) ∨
  ∃ kvs k b, H a = some (.dT kvs) ∧ y = .ref b ∧ H b = some (.tup (k.map kV)) ∧ kvs.length < sizeLine ∧ H' = upd H a (.dT (putK kvs k v))
theorem DPut.k {H : Hp} {a : Addr} {kvs : List (Key × V)} {k : Key} {v : V} (e : H a = some (.dK kvs)) (hl : kvs.length < sizeLine) : DPut H a (kV k) v (upd H a (.dK (putK kvs k v))) := .inl ⟨kvs, k, e, rfl, hl, rfl⟩
section
variable {X : Cx} {pins : List (Addr × Obj)} {σ : St} {H : Hp} {s : Shared} {a : Addr} {y v : V} {u r : Value} {o : Option V} {A : Around} {E : Value → Shared → Prop}
theorem Inv.big (I : Inv X pins σ H s) : sysModules < s.heap.objs.size := by
  have h : mainGlobals < s.heap.objs.size := (I.mod.glob.keeps I.bk).lt
  exact Nat.lt_trans (by decide) h
theorem d_write {h' : Heap} {t' : Nat} {ob : HO} (I : Inv X pins σ H s) (mu : Mut (H a)) (hs : Heap.SameBut a s.heap h') (he : ∃ q, h'.get? a = some q) (new : ObjOk X.prog X.w (upd H a ob) h' a ob) :
    Inv X pins σ (upd H a ob) { s with heap := h', toks := t' } :=
  I.write (x := a) (e := a) mu (.inl rfl) (fun b q hb z => (hs.2 b hb).trans z) he new
theorem dk_new {P : Program} {w : World} {H' : Hp} {h' : Heap} {kvs : List (Key × V)} {vs : List (Key × Value)} (z : kvs.length ≤ sizeLine) (hd : (a == sysModules) = false) (rel : KV kvs vs) (dd : h'.DictOf (mixKind P w) a vs) :
    ObjOk P w H' h' a (.dK kvs) := ⟨z, hd, vs, rel, dd⟩
theorem d_setItem {H' : Hp} {Q : Unit → Shared → Prop} (hu : A.units + 1 < cLine) (I : Inv X pins σ H s) (g : DPut H a y v H') (ry : RelV y u) (rv : RelV v r) (h : ∀ s', Inv X pins σ H' s' → Q () s') :
    wpAny (model X.prog X.w) A (setItem (.ref a) u r) Q E s := by
  rcases g with ⟨kvs, k, e, ey, l, eH⟩ | ⟨kvs, k, b, e, ey, eb, l, eH⟩
  · subst ey eH
    obtain ⟨z, hd, vs, rel, dd⟩ := dk_of I.hok e
    have hz : vs.length ≤ sizeLine := by rw [← rel.length]; exact z
    have hl : (putK kvs k v).length ≤ sizeLine := by have := length_putK kvs k v; omega
    refine wpAny_setItem_pairs (hsz := hz) (kV_is ry) dd fun h' dd' hs => h _ ?_
    have he : ∃ q, h'.get? a = some q := let ⟨q, _, _, hq, _⟩ := dd'; ⟨q, hq⟩
    exact d_write I (by rw [e]; exact True.intro) hs he (dk_new hl hd (rel.put k rv) dd')
  · subst ey eH
    cases (show u = Value.ref b from ry)
    obtain ⟨z, hd, xs, rel, dd⟩ := dt_of I.hok e
    have hz : xs.length ≤ sizeLine := by rw [← Paired.length rel]; exact z
    have hl : (putK kvs k v).length ≤ sizeLine := by have := length_putK kvs k v; omega
    refine wpAny_setItem_heap (hsz := hz) (tupleKind_room_in1 hu) (key_of I.hok eb) dd fun h' dd' hs => h _ ?_
    obtain ⟨q, es, ep, hq, h2, h3, h4, _, h5⟩ := dd'
    refine d_write I (by rw [e]; exact True.intro) hs ⟨q, hq⟩ ⟨hl, hd, _, (rel.put k eb rv).keeps fun c ys ec => ?_, q, es, ep, hq, h2, h3, h4, h5⟩
    rw [upd_ne (ne_of ec e (fun z => nomatch z))]
    exact ec
end
noncomputable def sDPut (td ty tv : TE) : TS := fun D σ H => tv σ H fun v H1 => td σ H1 fun x H2 => ty σ H2 fun y H3 => ∃ a H4, x = .ref a ∧ DPut H3 a y v H4 ∧ D.nx σ H4
section
variable {X : Cx} {o i e value : Expr} {pos pos' tpos : Pos} {td ty tv : TE}
theorem ps_dput (hu : X.A.units + 1 < cLine) (ho : PE X o td) (hi : PE X i ty) (hv : PE X value tv) (hs : swapsWith value (some (.Subscript o i pos')) pos.line X.env = pure false) :
    PS X (.Assign [.Subscript o i pos'] value pos) (sDPut td ty tv) := by
  intro pins s σ H D I h
  refine wpAny_Assign_Subscript (thn (hv pins s σ H _ I h) fun r s1 ⟨v, H1, I1, rv, q1⟩ => thn (ho pins s1 σ H1 _ I1 q1) fun u s2 ⟨x, H2, I2, rx, q2⟩ => thn (hi pins s2 σ H2 _ I2 q2) fun iv s3 ⟨y, H3, I3, ry, a, H4, ex, g, q3⟩ => ?_) hs
  subst ex
  obtain rfl : u = Value.ref a := rx
  exact d_setItem hu I3 g ry rv fun s4 I4 => ⟨σ, H4, I4, q3⟩
end
theorem dk_empty {P : Program} {w : World} {H : Hp} (h : Heap) (hb : sysModules < h.objs.size) : ObjOk P w H (h.push { cls := .type "dict", data := .dict #[] }) h.objs.size (.dK []) :=
  ⟨Nat.zero_le _, beq_eq_false_iff_ne.mpr (Ne.symm (Nat.ne_of_lt hb)), [], .nil, Heap.DictOf.new h⟩
noncomputable def tDNewK : TE := fun _ H Q => ∀ p, H p = none → Q (.ref p) (upd H p (.dK []))
section
variable {X : Cx} {pos : Pos}
theorem pe_dnewK : PE X (.Dict [] [] pos) tDNewK := fun pins s σ H Q I h =>
  wpAny_Dict_empty ⟨.ref s.heap.objs.size, _, I.laid (a := s.heap.objs.size) (o := .dK []) (t' := s.toks) (fun _ _ q => Heap.get?_push_of_some _ q) (Nat.le_refl _) (dk_empty s.heap I.big), rfl, h _ (I.hok.fresh (Nat.le_refl _))⟩
end
end L2
namespace DD
open PySem PySem.Spec PyProof.Rows L2
noncomputable def keyD : D → Option Key
  | .int i => some (.inl i)
  | .str s => some (.inr ⟨s.toArray⟩)
  | _ => none
noncomputable def dKey : Key → D
  | .inl i => .int i
  | .inr s => .str s.cps.toList
theorem keyD_ok {K : Fg} {O : Addr → Prop} {H : Hp} {d : D} {v : V} {k : Key} (e : keyD d = some k) (h : Is K O H d v) : v = kV k := by
  cases d <;> first | (cases e; done) | skip
  · cases e; rw [Is.int_iff] at h; exact h
  · cases e; rw [Is.str_iff] at h; exact h
theorem dKey_ok {K : Fg} {O : Addr → Prop} {H : Hp} (k : Key) : Is K O H (dKey k) (kV k) := by
  cases k with
  | inl i => show Is K O H (.int i) (.int i); rw [Is.int_iff]
  | inr s => show Is K O H (.str s.cps.toList) (.str s); rw [Is.str_iff]
noncomputable def putD (ks : List Key) (l : List D) (k : Key) (d : D) : List Key × List D := if (ks.any fun j => decide (j = k)) = true then (ks, List.zipWith (fun j e => if j = k then d else e) ks l) else (ks ++ [k], l ++ [d])
section
variable {K : Fg} {O0 : Addr → Prop} {H H1 H' : Hp} {r : En} {σ : St} {i : Nat} {d : D} {v : V} {a : Addr}
theorem repl_isl {O : Addr → Prop} {k : Key} (hd : Is K O H d v) : ∀ {kvs : List (Key × V)} {l : List D}, IsL K O H l (kvs.map (·.2)) → IsL K O H (List.zipWith (fun j e => if j = k then d else e) (kvs.map (·.1)) l) ((kvs.map fun kv => if kv.1 = k then (kv.1, v) else kv).map (·.2))
  | [], [], _ => .nil
  | [], d' :: l, h => by unfold IsL at h; obtain ⟨_, _, e, _⟩ := h; cases e
  | p :: kvs, [], h => by unfold IsL at h; cases h
  | p :: kvs, d' :: l, h => by
    unfold IsL at h
    obtain ⟨x, y, e, h1, h2⟩ := h
    rw [List.map_cons] at e
    cases e
    rw [List.map_cons, List.map_cons, List.map_cons, List.zipWith_cons_cons]
    refine .cons ?_ (repl_isl hd h2)
    by_cases q : p.1 = k
    · rw [if_pos q, if_pos q]; exact hd
    · rw [if_neg q, if_neg q]; exact h1
theorem putK_ok {O : Addr → Prop} {k : Key} {kvs : List (Key × V)} {ks : List Key} {l : List D} (hk : kvs.map (·.1) = ks) (hl : IsL K O H l (kvs.map (·.2))) (hd : Is K O H d v) : (putK kvs k v).map (·.1) = (putD ks l k d).1 ∧ IsL K O H (putD ks l k d).2 ((putK kvs k v).map (·.2)) := by
  subst hk
  have ea : (kvs.any fun kv => decide (kv.1 = k)) = ((kvs.map (·.1)).any fun j => decide (j = k)) := by rw [List.any_map]; rfl
  unfold putK putD
  rw [ea]
  by_cases q : ((kvs.map (·.1)).any fun j => decide (j = k)) = true
  · rw [if_pos q, if_pos q]
    refine ⟨?_, repl_isl hd hl⟩
    rw [List.map_map]
    (refine List.map_congr_left fun x _ => ?_)
    show (if x.1 = k then (x.1, v) else x).1 = x.1
    split <;> rfl
  · rw [if_neg q, if_neg q, List.map_append, List.map_append]
    exact ⟨rfl, hl.append (.cons hd .nil)⟩
theorem R.setd {ks : List Key} {l : List D} {kvs : List (Key × V)} {p : Addr} (h : R K O0 H r σ) (s : Same H H1) (n : H p = none) (e : H1 p = some (.dK kvs)) (hk : kvs.map (·.1) = ks) (hl : IsL K (fun b => Ow O0 r σ b ∨ b = p) H1 l (kvs.map (·.2))) (hi : i < r.length) (np : ∀ l, r[i]? ≠ some (.p l) ∧ r[i]? ≠ some (.z l)) :
    R K O0 H1 (r.set i (.d ks l)) (σ.set i (some (.ref p))) ∧ Kp H r σ H1 (r.set i (.d ks l)) (σ.set i (some (.ref p))) := by
  have his : i < σ.length := by rw [← h.len]; exact hi
  have ow : ∀ {q : Sl → Option (List D)} a, AtS q (r.set i (.d ks l)) (σ.set i (some (.ref p))) a → AtS q r σ a ∨ a = p := fun {q} a z => by
    obtain ⟨j, m, e1, q1⟩ := z
    by_cases hj : i = j
    · subst hj
      rw [get_set_eq his] at q1; cases q1; exact .inr rfl
    · rw [get_set_ne hj] at e1 q1
      exact .inl ⟨j, m, e1, q1⟩
  have sub : ∀ a, Ow O0 (r.set i (.d ks l)) (σ.set i (some (.ref p))) a → H a ≠ none → Ow O0 r σ a := fun a z nn => z.elim .inl fun z => (ow a z).elim .inr fun z => by subst z; exact absurd n nn
  have olp : OLst (fun b => Ow O0 r σ b ∨ b = p) H1 := fun b z => z.elim (fun z => (h.same s).ol b z) fun z => by subst z; exact ⟨.dK kvs, e, trivial⟩
  refine ⟨⟨by simp [h.len], fun j d' e1 => ?_, fun j m e1 => ?_, fun j k a l1 m e1 e2 q1 q2 => ?_, (h.same s).o0, fun j m a e1 q => ?_, fun j m a e1 q => ?_, fun j ks' m e1 => ?_⟩, ⟨fun b o e1 _ => s b o e1, fun b e1 => s.free e1, fun b o e1 mb => ⟨o, s _ _ e1, mb⟩, fun b z => (ow b z).imp id fun z => by subst z; exact n, fun b z => (ow b z).imp id fun z => by subst z; exact n, fun j m e1 => ?_, fun j m e1 => ?_⟩⟩
  · have hj : i ≠ j := fun z => by subst z; rw [get_set_eq hi] at e1; cases e1
    rw [get_set_ne hj] at e1
    obtain ⟨u, e2, q⟩ := h.val j d' e1
    exact ⟨u, by rw [get_set_ne hj]; exact e2, Is.mono (Same.kp s _) h.ol sub _ _ q⟩
  · have hj : i ≠ j := fun z => by subst z; rw [get_set_eq hi] at e1; cases e1
    rw [get_set_ne hj] at e1
    obtain ⟨a, ys, e2, e3, q⟩ := h.own j m e1
    exact ⟨a, ys, by rw [get_set_ne hj]; exact e2, s _ _ e3, IsL.mono (Same.kp s _) h.ol sub _ _ q⟩
  · have out : ∀ (j : Nat) (m : List D) (a : Addr), i ≠ j → ((r.set i (.d ks l))[j]?).bind Sl.own = some m → (σ.set i (some (.ref p)))[j]? = some (some (.ref a)) → a ≠ p := fun j m a hj e1 q1 z => by
      rw [get_set_ne hj] at e1 q1
      obtain ⟨b, ys, e2, e3, _⟩ := h.obj e1
      rw [q1] at e2; cases e2
      subst z
      rw [n] at e3; cases e3
    by_cases hj : i = j
    · by_cases hk : i = k
      · exact hj.symm.trans hk
      · subst hj
        rw [get_set_eq his] at q1; cases q1
        exact absurd rfl (out k m p hk e2 q2)
    · by_cases hk : i = k
      · subst hk
        rw [get_set_eq his] at q2; cases q2
        exact absurd rfl (out j l1 p hj e1 q1)
      · rw [get_set_ne hj] at e1 q1
        rw [get_set_ne hk] at e2 q2
        exact h.apart j k a l1 m e1 e2 q1 q2
  · by_cases hj : i = j
    · subst hj
      rw [get_set_eq his] at q; cases q
      exact fun z => by obtain ⟨ys, e3, _⟩ := h.o0 p z; rw [n] at e3; cases e3
    · rw [get_set_ne hj] at e1 q
      exact h.loc j m a e1 q
  · have hj : i ≠ j := fun z => by subst z; rw [get_set_eq hi] at e1; cases e1
    rw [get_set_ne hj] at e1 q
    exact h.par j m a e1 q
  · by_cases hj : i = j
    · subst hj
      rw [get_set_eq hi] at e1; cases e1
      exact ⟨p, kvs, get_set_eq his, e, hk, IsL.mono (Same.kp (Same.refl H1) _) olp (fun a z _ => z.elim (fun z => .inl (.inl z)) fun z => (ow a z).imp .inr id) _ _ hl⟩
    · rw [get_set_ne hj] at e1
      obtain ⟨a, kv2, e2, e3, e4, q⟩ := h.dct j ks' m e1
      exact ⟨a, kv2, by rw [get_set_ne hj]; exact e2, s _ _ e3, e4, IsL.mono (Same.kp s _) h.ol sub _ _ q⟩
  · have hj : i ≠ j := fun z => by subst z; exact (np m).1 e1
    exact ⟨⟨m, by rw [get_set_ne hj]; exact e1⟩, get_set_ne hj⟩
  · have hj : i ≠ j := fun z => by subst z; exact (np m).2 e1
    exact ⟨by rw [get_set_ne hj]; exact e1, get_set_ne hj⟩
theorem R.updd {ks ks' : List Key} {l l' : List D} {kvs kvs' : List (Key × V)} (h : R K O0 H r σ) (ei : r[i]? = some (.d ks l)) (ha : σ[i]? = some (some (.ref a))) (hx : H a = some (.dK kvs)) (hk : kvs'.map (·.1) = ks') (il : IsL K (Ow O0 r σ) H l' (kvs'.map (·.2))) :
    R K O0 (L2.upd H a (.dK kvs')) (r.set i (.d ks' l')) σ ∧ Kp H r σ (L2.upd H a (.dK kvs')) (r.set i (.d ks' l')) σ := by
  have hi : i < r.length := (List.getElem?_eq_some_iff.mp ei).1
  have own_i : OwnAt r σ a := ⟨i, l, by rw [ei]; rfl, ha⟩
  have mut_i : MutAt r σ a := ⟨i, l, by rw [ei]; rfl, ha⟩
  have atO : ∀ b, OwnAt (r.set i (.d ks' l')) σ b → OwnAt r σ b := fun b ⟨j, m, e1, q1⟩ => by
    by_cases hj : i = j
    · subst hj; rw [ha] at q1; cases q1; exact own_i
    · rw [get_set_ne hj] at e1; exact ⟨j, m, e1, q1⟩
  have atM : ∀ b, MutAt (r.set i (.d ks' l')) σ b → MutAt r σ b := fun b ⟨j, m, e1, q1⟩ => by
    by_cases hj : i = j
    · subst hj; rw [ha] at q1; cases q1; exact mut_i
    · rw [get_set_ne hj] at e1; exact ⟨j, m, e1, q1⟩
  have sub : ∀ b, Ow O0 (r.set i (.d ks' l')) σ b → H b ≠ none → Ow O0 r σ b := fun b z _ => z.imp id (atO b)
  have keep : Keep (Ow O0 r σ) H (L2.upd H a (.dK kvs')) := fun b o e1 n => by rw [upd_ne (fun z => n (by subst z; exact .inr own_i))]; exact e1
  have lst : ∀ b o, H b = some o → Mb o → ∃ o', L2.upd H a (.dK kvs') b = some o' ∧ Mb o' := fun b o e1 mb => by
    by_cases hb : b = a
    · subst hb; exact ⟨_, upd_same, trivial⟩
    · exact ⟨o, by rw [upd_ne hb]; exact e1, mb⟩
  have other : ∀ (j : Nat) (m : List D) (b : Addr), i ≠ j → (r[j]?).bind Sl.own = some m → σ[j]? = some (some (.ref b)) → b ≠ a := fun j m b hj e1 q1 z => by
    subst z
    exact hj (h.apart i j b l m (by rw [ei]; rfl) e1 ha q1)
  refine ⟨⟨by simp [h.len], fun j d' e1 => ?_, fun j m e1 => ?_, fun j k b m n e1 e2 q1 q2 => ?_, fun b z => ?_, fun j m b e1 q1 => ?_, fun j m b e1 q1 => ?_, fun j ks2 m e1 => ?_⟩, ⟨fun b o e1 n => by rw [upd_ne (fun z => n (by subst z; exact mut_i))]; exact e1, fun b e1 => ?_, lst, fun b z => .inl (atO b z), fun b z => .inl (atM b z), fun j m e1 => ?_, fun j m e1 => ?_⟩⟩
  · have hj : i ≠ j := fun z => by subst z; rw [get_set_eq hi] at e1; cases e1
    rw [get_set_ne hj] at e1
    obtain ⟨v, q1, q2⟩ := h.val j d' e1
    exact ⟨v, q1, Is.mono keep h.ol sub _ _ q2⟩
  · have hj : i ≠ j := fun z => by subst z; rw [get_set_eq hi] at e1; cases e1
    rw [get_set_ne hj] at e1
    obtain ⟨b, ys, q1, q2, q3⟩ := h.own j m e1
    exact ⟨b, ys, q1, by rw [upd_ne (other j m b hj (ls_own' e1) q1)]; exact q2, IsL.mono keep h.ol sub _ _ q3⟩
  · have get : ∀ (j : Nat) (m : List D), ((r.set i (.d ks' l'))[j]?).bind Sl.own = some m → ∃ m', (r[j]?).bind Sl.own = some m' := fun j m e1 => by
      by_cases hj : i = j
      · subst hj; exact ⟨l, by rw [ei]; rfl⟩
      · rw [get_set_ne hj] at e1; exact ⟨m, e1⟩
    obtain ⟨m', z1⟩ := get j m e1
    obtain ⟨n', z2⟩ := get k n e2
    exact h.apart j k b m' n' z1 z2 q1 q2
  · obtain ⟨o, q, mb⟩ := h.o0 b z; exact lst b o q mb
  · by_cases hj : i = j
    · subst hj
      exact h.loc i l b (.inr (.inr ⟨ks, ei⟩)) q1
    · rw [get_set_ne hj] at e1
      exact h.loc j m b e1 q1
  · have hj : i ≠ j := fun z => by subst z; rw [get_set_eq hi] at e1; cases e1
    rw [get_set_ne hj] at e1
    exact h.par j m b e1 q1
  · by_cases hj : i = j
    · subst hj
      rw [get_set_eq hi] at e1; cases e1
      exact ⟨a, kvs', ha, upd_same, hk, IsL.mono keep h.ol sub _ _ il⟩
    · rw [get_set_ne hj] at e1
      obtain ⟨b, kv2, q1, q2, q4, q3⟩ := h.dct j ks2 m e1
      exact ⟨b, kv2, q1, by rw [upd_ne (other j m b hj (by rw [e1]; rfl) q1)]; exact q2, q4, IsL.mono keep h.ol sub _ _ q3⟩
  · by_cases hb : b = a
    · subst hb; rw [upd_same] at e1; cases e1
    · rw [upd_ne hb] at e1; exact e1
  · have hj : i ≠ j := fun z => by subst z; rw [ei] at e1; cases e1
    exact ⟨⟨m, by rw [get_set_ne hj]; exact e1⟩, rfl⟩
  · have hj : i ≠ j := fun z => by subst z; rw [ei] at e1; cases e1
    exact ⟨by rw [get_set_ne hj]; exact e1, rfl⟩
end
noncomputable def setD (i : Nat) (ks : List Key) (l : List D) (r : En) : Option En := match r[i]? with
  | some (.p _) => none
  | some (.z _) => none
  | some _ => some (r.set i (.d ks l))
  | none => none
theorem setD_some {i : Nat} {r r' : En} {ks : List Key} {l : List D} (e : setD i ks l r = some r') : i < r.length ∧ (∀ l, r[i]? ≠ some (.p l) ∧ r[i]? ≠ some (.z l)) ∧ r' = r.set i (.d ks l) := by
  unfold setD at e
  cases e1 : r[i]? with
  | none => rw [e1] at e; cases e
  | some x =>
    have hi : i < r.length := (List.getElem?_eq_some_iff.mp e1).1
    rw [e1] at e
    cases x <;> first | (cases e; done) | (cases e; exact ⟨hi, fun l => ⟨(fun z => by cases z), (fun z => by cases z)⟩, rfl⟩)
noncomputable def mKeys (i : Nat) : ML := fun r => match r[i]? with
  | some (.d ks _) => some (ks.map dKey)
  | _ => none
noncomputable def sDSet (i : Nat) (fk fe : ME) : MS := fun r => (fe r).bind fun d => (fk r).bind fun kd => (keyD kd).bind fun k => match r[i]? with
  | some (.d ks l) => if ks.length < sizeLine then some (.nx (r.set i (.d (putD ks l k d).1 (putD ks l k d).2))) else none
  | _ => none
section
variable {X : Cx} {a k e : Expr} {f g : ME} {pos ps pn p : Pos} {x : Str}
theorem ds_dput (i : Nat) (hu : X.A.units + 1 < cLine) (h : PE X (.Name x pn) (tVar i)) (hk : DE X k g) (he : DE X a f)
    (hs : swapsWith a (some (.Subscript (.Name x pn) k ps)) pos.line X.env = pure false := by rfl) :
    DS X (.Assign [.Subscript (.Name x pn) k ps] a pos) (sDSet i g f) := by
  refine PS.conseq (ps_dput hu h hk he hs) fun Dn σ H hq => ?_
  obtain ⟨O0, r, fl, hR, e, q⟩ := hq
  obtain ⟨d, e1, e⟩ := bind_some e
  obtain ⟨kd, e2, e⟩ := bind_some e
  obtain ⟨key, e3, e⟩ := bind_some e
  cases er : r[i]? with
  | none => rw [er] at e; cases e
  | some y =>
    rw [er] at e
    cases y <;> first | (cases e; done) | skip
    rename_i ks l
    simp only at e
    split at e
    · rename_i hlen
      cases e
      obtain ⟨b, kvs, q1, q2, q4, q3⟩ := hR.dct i ks l er
      refine ⟨O0, r, d, hR, e1, fun v H1 s1 i1 => ⟨.ref b, q1, O0, r, kd, hR.same s1, e2, fun u H2 s2 i2 => ?_⟩⟩
      have hu2 := keyD_ok e3 i2
      subst hu2
      have R2 := (hR.same s1).same s2
      have q3' := (q3.same s1 hR.ol).same s2 (hR.same s1).ol
      have i1' : Is X.K (Ow O0 r σ) H2 d v := Is.mono (Same.kp s2 _) (hR.same s1).ol (fun _ z _ => z) _ _ i1
      obtain ⟨p1, p2⟩ := putK_ok (k := key) q4 q3' i1'
      have q2' := s2 _ _ (s1 _ _ q2)
      obtain ⟨R3, k3⟩ := R2.updd er q1 q2' p1 p2
      have hl : kvs.length < sizeLine := by rw [← q4, List.length_map] at hlen; exact hlen
      exact ⟨b, _, rfl, DPut.k q2' hl, q σ _ R3 ((Kp.of_same r σ (s1.trans s2)).trans k3)⟩
    · cases e
theorem is_rel {P : Program} {w : World} {k : Key} {u : Value} (h : (mixKind P w).is k u = true) : RelV (kV k) u := by
  rcases keyIs_shape h with ⟨i, t, rfl, rfl⟩ | ⟨y, t, rfl, rfl⟩
  · exact ⟨t, rfl⟩
  · exact ⟨t, rfl⟩
theorem vals_of : ∀ {xs : List V} {us : List Value}, xs.length = us.length → (∀ (j : Nat) (u : Value), us[j]? = some u → ∃ y, xs[j]? = some y ∧ RelV y u) → Vals xs us
  | [], [], _, _ => .nil
  | [], _ :: _, h, _ => (by cases h)
  | _ :: _, [], h, _ => (by cases h)
  | y :: xs, u :: us, hl, h => by
    obtain ⟨z, e, q⟩ := h 0 u rfl
    cases e
    exact .cons q (vals_of (by simpa using hl) fun j w ew => h (j + 1) w (by simpa using ew))
theorem call_list_dict (hc : X.calm = true) : CallR X (.type "list") (fun xs H Q => ∃ p kvs, xs = [.ref p] ∧ Rd H p (.dK kvs) ∧ ∀ l, H l = none → Q (.ref l) (upd H l (.lst (kvs.map fun kv => kV kv.1)))) := by
  intro pins s σ H xs us Q I r h
  obtain ⟨p, kvs, rfl, e, q⟩ := h
  obtain ⟨u, rfl, rx⟩ := vals1 r
  cases rx
  obtain ⟨z, hd, vs, rel, dd⟩ := dk_rd I.hok e
  obtain ⟨ep, da⟩ := dd.dictAt
  have hlen := KV.length rel
  have hkeys := KV.keys rel
  refine PySem.W.kdl_call (PySem.W.kdl_dict (knd := mixKind X.prog X.w) (kvs := vs) (ep := ep) hd) (I.ok.hd hc) da (by rw [← hlen]; exact z) fun h' tk acc' c' hk hS hacc => ?_
  have vv : Vals (kvs.map fun kv => kV kv.1) acc'.toList := by
    refine vals_of (by rw [List.length_map, hlen, ← hacc.1]; simp) fun j u eu => ?_
    obtain ⟨k, x, ev, is⟩ := hacc.2 j u (by rw [← Array.getElem?_toList]; exact eu)
    refine ⟨kV k, ?_, is_rel is⟩
    have e1 : (kvs.map (·.1))[j]? = some k := by rw [hkeys, List.getElem?_map, ev]; rfl
    rw [List.getElem?_map] at e1 ⊢
    cases e2 : kvs[j]? with
    | none => rw [e2] at e1; cases e1
    | some kv => rw [e2] at e1; cases e1; rfl
  exact ⟨.ref s.heap.objs.size, _, I.laid (t' := tk) hk (Nat.le_refl _) (show ObjOk X.prog X.w _ h' _ (.lst _) from ⟨by rw [List.length_map]; exact z, acc'.toList, c', vv, by simpa using hS⟩), rfl, q _ (I.hok.fresh (Nat.le_refl _))⟩
theorem keys_isl {K : Fg} {O : Addr → Prop} {H : Hp} : ∀ kvs : List (Key × V), IsL K O H ((kvs.map (·.1)).map dKey) (kvs.map fun kv => kV kv.1)
  | [] => .nil
  | kv :: r => .cons (dKey_ok kv.1) (keys_isl r)
theorem df_keys (i : Nat) {p' : Pos} (hc : X.calm = true) (hg : Gl X "list") (hm : X.mg "list" = none) (h : PE X (.Name x pn) (tVar i)) (hs : starEach [.Name x pn] X.env = (false, eval (.Name x pn) X.env) :: starEach [] X.env := by rfl) : DF X (.Call (.Name "list" p') [.Name x pn] [] pos) (mKeys i) := by
  refine PE.conseq (pe_callTy (call_list_dict hc) hg hm PyProof.Rows.boot_list (pa_cons h pa_nil hs) (he := hs)) fun σ H Q hq => ?_
  obtain ⟨O0, r, l, hR, e, q⟩ := hq
  cases er : r[i]? with
  | none => unfold mKeys at e; rw [er] at e; cases e
  | some y =>
    unfold mKeys at e
    rw [er] at e
    cases y <;> first | (cases e; done) | skip
    rename_i ks l'
    cases e
    obtain ⟨b, kvs, q1, q2, q4, q3⟩ := hR.dct i ks l' er
    refine ⟨.ref b, q1, b, kvs, rfl, .inl q2, fun t ht => ?_⟩
    subst q4
    exact q t _ _ (same_upd ht) ht upd_same (keys_isl kvs)
end
noncomputable abbrev MD := En → Option (List Key × List D)
noncomputable def lFd (K : Fg) (f : MD) : TE := fun σ H Q => ∃ O0 r ks l, R K O0 H r σ ∧ f r = some (ks, l) ∧ ∀ a kvs H', Same H H' → H a = none → H' a = some (.dK kvs) → kvs.map (·.1) = ks → IsL K (fun b => Ow O0 r σ b ∨ b = a) H' l (kvs.map (·.2)) → Q (.ref a) H'
noncomputable def DFd (X : Cx) (e : Expr) (f : MD) : Prop := PE X e (lFd X.K f)
noncomputable def mD0 : MD := fun _ => some ([], [])
noncomputable def sOwnD (i : Nat) (f : MD) : MS := fun r => (f r).bind fun q => (setD i q.1 q.2 r).map .nx
section
variable {X : Cx} {a k e b o : Expr} {f g x : ME} {fd : MD} {pos ps pn p apos cpos : Pos} {nm : Str}
theorem fd_nil : DFd X (.Dict [] [] pos) mD0 := by
  refine PE.conseq pe_dnewK fun σ H Q hq => ?_
  obtain ⟨O0, r, ks, l, hR, e, q⟩ := hq
  cases e
  exact fun p hp => q p [] _ (same_upd hp) hp upd_same rfl .nil
theorem ds_ownD (i : Nat) {pos' : Pos} (he : DFd X e fd) (hN : X.N.Nodup) (hi : X.N[i]? = some nm := by rfl) (hx : Loc X.env.scope nm := by first | exact Or.inl rfl | exact Or.inr rfl) (hs : swapsWith e (some (.Name nm pos')) pos.line X.env = pure false := by rfl) (hf : X.fn nm = true ∨ X.env.scope.names.lookup nm = some .local := by first | exact .inl rfl | exact .inr rfl) :
    DS X (.Assign [.Name nm pos'] e pos) (sOwnD i fd) := by
  refine PS.conseq (ps_set hN hi hx he hs hf) fun Dn σ H hq => ?_
  obtain ⟨O0, r, fl', hR, e, q⟩ := hq
  obtain ⟨⟨ks, l⟩, e1, e2⟩ := bind_some e
  obtain ⟨r', e4, rfl⟩ := map_some e2
  obtain ⟨hl, np, rfl⟩ := setD_some e4
  refine ⟨O0, r, ks, l, hR, e1, fun p kvs H1 s1 n1 e3 ek i1 => ?_⟩
  obtain ⟨R1, k1⟩ := hR.setd s1 n1 e3 ek i1 hl np
  exact q _ H1 R1 k1
end
open PySem PySem.Spec PyProof.Rows L2 PySem.W
open PySem PySem.Spec PyProof.Rows L2 PySem.W TS
open PySem PySem.Spec PyProof.Rows L2 PySem.W TS
noncomputable def keyP : D → Option (List Nat)
  | .tup (.str s :: _) => some s
  | _ => none
noncomputable def keysP : List D → Option (List KD)
  | [] => some []
  | d :: l => (keyP d).bind fun s => (keysP l).map fun r => (s, d) :: r
noncomputable def mSrtP (fl : ML) : ML := fun r => (fl r).bind fun l => (keysP l).bind fun q => if q.length < 64 ∧ (q.map (·.1)).Nodup then some (srtK q) else none
theorem keysP_snd : ∀ {l : List D} {q : List KD}, keysP l = some q → q.map (·.2) = l
  | [], q, h => by cases h; rfl
  | d :: l, q, h => by
    obtain ⟨s, _, h⟩ := bind_some h
    obtain ⟨r, h1, rfl⟩ := map_some h
    rw [List.map_cons, keysP_snd h1]
theorem keysP_get : ∀ {l : List D} {q : List KD} {i : Nat} {p : KD}, keysP l = some q → q[i]? = some p → l[i]? = some p.2 ∧ keyP p.2 = some p.1
  | [], q, i, p, h, e => by cases h; simp at e
  | d :: l, q, i, p, h, e => by
    obtain ⟨s, h0, h⟩ := bind_some h
    obtain ⟨r, h1, rfl⟩ := map_some h
    cases i with
    | zero => cases e; exact ⟨rfl, h0⟩
    | succ i =>
      have z := keysP_get (l := l) (i := i) h1 (by simpa using e)
      exact ⟨by simpa using z.1, z.2⟩
open PySem PySem.Spec PyProof.Rows L2 PySem.W
noncomputable def CMulB (i j : Int) : Prop := i.natAbs < 2 ^ 1000 ∧ j.natAbs < 2 ^ 1000
noncomputable def mulB : D → D → Option D
  | .int i, .int j => if i.natAbs < 2 ^ 1000 ∧ j.natAbs < 2 ^ 1000 then some (.int (i * j)) else none
  | _, _ => none
theorem bits_le {k : Int} (h : k.natAbs < 2 ^ 1000) : Builtin.Int.intBits k ≤ 1001 := by
  unfold Builtin.Int.intBits
  split
  · exact Nat.zero_le _
  · rename_i h0
    have hz : k.natAbs ≠ 0 := fun z => h0 (by rw [Int.natAbs_eq_zero.mp z]; rfl)
    have := (Nat.log2_lt hz).mpr h
    omega
section
variable {X : Cx}
theorem op_mulB : OpR X (binaryOp .Mult) (rI CMulB fun i j => .int (i * j)) := opI fun i j _ _ _ _ _ hc q => mul_int q (IntMulOk.of_le (bits_le hc.1) (bits_le hc.2) (by decide))
end
theorem od_mulB {K : Fg} : OpD K (rI CMulB fun i j => .int (i * j)) mulB := od_I fun dx dy d e => by
  cases dx <;> cases dy <;> first | (simp only [mulB, reduceCtorEq] at e; done) | skip
  simp only [mulB] at e
  split at e
  · rename_i hc; cases e; exact ⟨_, _, rfl, rfl, hc, fun O H => by rw [Is.int_iff]⟩
  · cases e
theorem un1 {k : Nat} {A : Around} (r : Room k A) : A.units + 1 < cLine := by have := un2 r; omega
noncomputable def layN (n : Nat) (d : D) : Bool := okD d && (toP d).canLay0 && decide ((toP d).depth ≤ n)
noncomputable def eqN (n : Nat) (x y : D) : Option D := if layN n x = true ∧ layN n y = true then some (.bl (PyData.eqv (toP x) (toP y))) else none
noncomputable def neN (n : Nat) (x y : D) : Option D := if layN n x = true ∧ layN n y = true then some (.bl (!PyData.eqv (toP x) (toP y))) else none
noncomputable def rEqN (K : Fg) (n : Nat) (neg : Bool) : R2 := fun x y H Q => ∃ O dx dy, Is K O H dx x ∧ Is K O H dy y ∧ layN n dx = true ∧ layN n dy = true ∧ Q (.bl (if neg then !PyData.eqv (toP dx) (toP dy) else PyData.eqv (toP dx) (toP dy))) H
theorem op_eqN {X : Cx} {n : Nat} (hu : X.A.units + n < cLine) : OpR X (compareOp .Eq) (rEqN X.K n false) := by
  intro pins s σ H x y v u Q I rx ry hq
  obtain ⟨O, dx, dy, ix, iy, lx, ly, q⟩ := hq
  unfold layN at lx ly
  simp only [Bool.and_eq_true, decide_eq_true_eq] at lx ly
  obtain ⟨as, qa⟩ := reads_of I dx x v lx.1.1 ix rx
  obtain ⟨bs, qb⟩ := reads_of I dy y u ly.1.1 iy ry
  exact PySem.SeqAt.compareEq_reads qa qb lx.1.2 ly.1.2 (by have := Nat.min_le_left (toP dx).depth (toP dy).depth; omega) ⟨.bl _, H, I, rfl, q⟩
theorem op_neN {X : Cx} {n : Nat} (hu : X.A.units + n < cLine) : OpR X (compareOp .NotEq) (rEqN X.K n true) := by
  intro pins s σ H x y v u Q I rx ry hq
  obtain ⟨O, dx, dy, ix, iy, lx, ly, q⟩ := hq
  unfold layN at lx ly
  simp only [Bool.and_eq_true, decide_eq_true_eq] at lx ly
  obtain ⟨as, qa⟩ := reads_of I dx x v lx.1.1 ix rx
  obtain ⟨bs, qb⟩ := reads_of I dy y u ly.1.1 iy ry
  exact PySem.SeqAt.compareNe_reads qa qb lx.1.2 ly.1.2 (by have := Nat.min_le_left (toP dx).depth (toP dy).depth; omega) ⟨.bl _, H, I, rfl, q⟩
theorem od_eqN {K : Fg} {n : Nat} : OpD K (rEqN K n false) (eqN n) := by
  intro O H dx dy d vx vy Q ol ix iy e q
  unfold eqN at e
  split at e
  · rename_i h
    cases e
    exact ⟨O, dx, dy, ix, iy, h.1, h.2, q _ H (Same.refl H) (by rw [Is.bl_iff]; rfl)⟩
  · cases e
theorem od_neN {K : Fg} {n : Nat} : OpD K (rEqN K n true) (neN n) := by
  intro O H dx dy d vx vy Q ol ix iy e q
  unfold neN at e
  split at e
  · rename_i h
    cases e
    exact ⟨O, dx, dy, ix, iy, h.1, h.2, q _ H (Same.refl H) (by rw [Is.bl_iff]; rfl)⟩
  · cases e
theorem eqN_refl {n : Nat} {d : D} (h : layN n d = true) : eqN n d d = some (.bl true) ∧ neN n d d = some (.bl false) := by
  unfold eqN neN
  rw [if_pos ⟨h, h⟩, if_pos ⟨h, h⟩]
  unfold layN at h
  simp only [Bool.and_eq_true, decide_eq_true_eq] at h
  rw [PySem.SeqAt.eqv_refl _ h.1.2]
  exact ⟨rfl, rfl⟩
theorem un400 {k : Nat} {A : Around} (r : Room k A) (h : 16 ≤ k) : A.units + 400 < cLine := by have := r.un; omega
section
variable {X : Cx} {a : Expr} {es : List Expr} {f : En → Option (D × En)} {fl : ML}
noncomputable def mMidX (f : En → Option (D × En)) (fl : ML) : MXA := fun r => (f r).bind fun q => (fl q.2).map fun l => (q.1 :: l, q.2)
theorem dxa_mid (h : DX X a f) (hs : DA X es fl) (hq : starEach (a :: es) X.env = (false, eval a X.env) :: starEach es X.env := by rfl) : DXA X (a :: es) (mMidX f fl) := by
  refine PA.conseq (pa_cons h hs hq) fun σ H Q hq => ?_
  obtain ⟨O0, r, l, r', hR, e, q⟩ := hq
  obtain ⟨⟨d, r1⟩, e1, e⟩ := bind_some e
  obtain ⟨l', e2, e3⟩ := map_some e
  cases e3
  refine ⟨O0, r, d, r1, hR, e1, fun v H1 R1 k1 i1 => ⟨O0, r1, l', R1, e2, fun vs H2 s2 i2 => ?_⟩⟩
  exact q (v :: vs) H2 (R1.same s2) (k1.trans (Kp.of_same r1 σ s2)) (.cons (i1.same s2 R1.ol) i2)
end
theorem R.ov {K : Fg} {O0 : Addr → Prop} {H : Hp} {r : En} {σ : St} {i : Nat} {l : List D} (h : R K O0 H r σ) (er : r[i]? = some (.o l)) : R K O0 H (r.set i (.v (.lst l))) σ := by
  have hi : i < r.length := (List.getElem?_eq_some_iff.mp er).1
  obtain ⟨c, ys, c1, c2, c4⟩ := h.own i l (by rw [er]; rfl)
  have own : ∀ j m, ((r.set i (.v (.lst l)))[j]?).bind Sl.own = some m → i ≠ j ∧ (r[j]?).bind Sl.own = some m := fun j m e => by
    by_cases hj : i = j
    · subst hj; rw [get_set_eq hi] at e; cases e
    · rw [get_set_ne hj] at e; exact ⟨hj, e⟩
  have at_ : ∀ b, OwnAt (r.set i (.v (.lst l))) σ b → OwnAt r σ b := fun b ⟨j, m, e, q⟩ => ⟨j, m, (own j m e).2, q⟩
  have nc : ¬ Ow O0 (r.set i (.v (.lst l))) σ c := fun z => z.elim (fun z => h.loc i l c (.inl er) c1 z) fun ⟨j, m, e, q⟩ => by
    obtain ⟨hj, e'⟩ := own j m e
    exact hj (h.apart i j c l m (by rw [er]; rfl) e' c1 q)
  have ow : ∀ b, Ow O0 (r.set i (.v (.lst l))) σ b → H b ≠ none → Ow O0 r σ b := fun b z _ => z.imp id (at_ b)
  have kp : Keep (Ow O0 r σ) H H := fun b o e _ => e
  refine ⟨by simp [h.len], fun j d ej => ?_, fun j m ej => ?_, fun j k b m n e4 e5 => h.apart j k b m n (own j m e4).2 (own k n e5).2, h.o0, fun j m b ej q => ?_, fun j m b ej q => ?_, fun j ks' m ej => ?_⟩
  · by_cases hj : i = j
    · subst hj
      rw [get_set_eq hi] at ej
      cases ej
      refine ⟨.ref c, c1, ?_⟩
      rw [Is.lst_iff]
      exact ⟨c, ys, rfl, .inl ⟨nc, .inl c2⟩, IsL.mono kp h.ol ow _ _ c4⟩
    · rw [get_set_ne hj] at ej
      obtain ⟨v, q1, q2⟩ := h.val j d ej
      exact ⟨v, q1, Is.mono kp h.ol ow _ _ q2⟩
  · have hj : i ≠ j := fun z => by subst z; rw [get_set_eq hi] at ej; cases ej
    rw [get_set_ne hj] at ej
    obtain ⟨b, zs, q1, q2, q3⟩ := h.own j m ej
    exact ⟨b, zs, q1, q2, IsL.mono kp h.ol ow _ _ q3⟩
  · have hj : i ≠ j := fun z => by subst z; rw [get_set_eq hi] at ej; rcases ej with ej | ej | ⟨_, ej⟩ <;> cases ej
    rw [get_set_ne hj] at ej
    exact h.loc j m b ej q
  · have hj : i ≠ j := fun z => by subst z; rw [get_set_eq hi] at ej; cases ej
    rw [get_set_ne hj] at ej
    exact h.par j m b ej q
  · have hj : i ≠ j := fun z => by subst z; rw [get_set_eq hi] at ej; cases ej
    rw [get_set_ne hj] at ej
    obtain ⟨b, kvs', q1, q2, q4, q3⟩ := h.dct j ks' m ej
    exact ⟨b, kvs', q1, q2, q4, IsL.mono kp h.ol ow _ _ q3⟩
noncomputable def mTV (i : Nat) (f : MB) : MB := fun r => match r[i]? with
  | some (.o l) => f (r.set i (.v (.lst l)))
  | _ => none
theorem dt_ov (i : Nat) {X : Cx} {c : Expr} {f : MB} (h : DT X c f) : DT X c (mTV i f) := by
  refine PT.conseq h fun σ H Q hq => ?_
  obtain ⟨O0, r, b, hR, e, q⟩ := hq
  unfold mTV at e
  split at e
  · rename_i l er
    exact ⟨O0, _, b, hR.ov er, e, q⟩
  · cases e
open PySem PySem.Spec PyProof.Rows L2 PySem.W
noncomputable def FunIs (H : Hp) (f : Addr) (q : Str) (params : Arguments) (body : Expr) (scope : Scope) : Prop :=
  ∃ (pm ctv : Value) (c : Addr) (oc : Obj) (u u' : HO), H f = some (.frz (kla_obj "<lambda>" q params body scope [] pm c ctv) u) ∧ H c = some (.frz oc u') ∧ IsCd q oc
theorem FunIs.same {H H' : Hp} {f : Addr} {q : Str} {params : Arguments} {body : Expr} {scope : Scope} (h : FunIs H f q params body scope) (s : Same H H') : FunIs H' f q params body scope := by
  obtain ⟨pm, ctv, c, oc, u, u', e1, e2, e3⟩ := h
  exact ⟨pm, ctv, c, oc, u, u', s _ _ e1, s _ _ e2, e3⟩
theorem among_app {pos : Pos} {m : List Value} {cv : Value} : ∀ {l : List Value}, TriplesOk l → codeAmong pos (l ++ m) = some cv → codeAmong pos l = some cv ∨ codeAmong pos m = some cv := by
  intro ws
  fun_induction TriplesOk ws with
  | case1 => intro _ e; exact .inr e
  | case2 a t b u x rest ih =>
    intro h e
    simp only [List.cons_append, codeAmong] at e ⊢
    split at e
    · rename_i hc; rw [if_pos hc]; exact .inl e
    · rename_i hc; rw [if_neg hc]; exact ih h e
  | case3 l h1 h2 => intro h; exact h.elim
theorem among_one {pos : Pos} {a b : Int} {c cv : Value} (e : codeAmong pos [rawInt a, rawInt b, c] = some cv) : cv = c := by
  simp only [rawInt, codeAmong] at e
  split at e
  · exact (Option.some.inj e).symm
  · cases e
section
variable {X : Cx} {pins : List (Addr × Obj)} {σ : St} {H H' : Hp} {s : Shared} {h' : Heap} {P : Addr} {ps : Array Value}
theorem inv_grown {t' : Nat} (I : Inv X pins σ H s) (hP : H P = some (.tbl ps)) (kp : ∀ b u, b ≠ P → s.heap.get? b = some u → h'.get? b = some u) (sm : Same H H') (fr : ∀ b, H b = none → b < s.heap.objs.size → H' b = none) (hok : HOk X.prog X.w H' h') : Inv X pins σ H' { s with heap := h', toks := t' } := by
  have nP : ∀ {b : Addr}, H b = none → b ≠ P := fun n z => by rw [z, hP] at n; cases n
  obtain ⟨ts, eP, _⟩ := hok P _ (sm _ _ hP)
  refine I.step (g' := s.gens) (d' := s.drawn) (ch := []) (fun b hb => absurd hb (by simp)) (fun b o _ _ _ e n => kp b o (nP n) e) (fun b o _ _ _ e n => ⟨o.slots, kp b o (nP n) e⟩) (fun b o _ e n => fr b n (Heap.lt_size e)) (fun b o _ e => ?_)
    (fun b xs e => sm _ _ e) (fun b o u e => sm _ _ e) (fun b qs e => ⟨#[], by rw [sm _ _ e]; simp⟩) (fun m hm => ?_) hok I.bare
  · by_cases z : b = P
    · exact ⟨_, z ▸ eP⟩
    · exact ⟨o, kp b o z e⟩
  · obtain ⟨o, es, ep, ho, r⟩ := hm
    exact ⟨o, es, ep, kp _ o (nP I.free) ho, r⟩
end
noncomputable def LamAt (K : Fg) (c : Addr) (q : Str) : Prop := ∃ P, codeHdIn K c P = true ∧ ∀ H, TabIn K H → ∃ more, H P = some (.tbl (#[.str q 0] ++ more))
theorem qOf_app {q : Str} {more : Array Value} : qOf (#[.str q 0] ++ more) = q := by
  unfold qOf
  rw [Array.getElem?_append_left (by simp)]
  rfl
noncomputable def tLam (q : Str) (params : Arguments) (body : Expr) (scope : Scope) : TE := fun _ H Q => ∀ f H', Same H H' → FunIs H' f q params body scope → Q (.ref f) H'
section
variable {X : Cx} {c : Addr} {q : Str} {params : Arguments} {body : Expr} {scope : Scope} {lp : Pos}
theorem pe_lam (hcd : X.env.code = .ref c) (hT : LamAt X.K c q) (hq : X.env.qual ++ "<lambda>" = q) (hdf : defaultsOf params X.env = ([], [])) (hcl : closureFor scope X.env = pure []) : PE X (.Lambda params body scope lp) (tLam q params body scope) := by
  intro pins s σ H Q I hQ
  obtain ⟨P, hh, ht⟩ := hT
  obtain ⟨more, hP⟩ := ht H I.tabIn
  obtain ⟨ts, eP, tr, tc⟩ := I.hok P _ hP
  rw [qOf_app] at tc
  have CH : CodeHd s.heap c P := codeHd_of_K I.kIn hh
  have hg : s.heap.Ns mainGlobals X.mg := I.mod.glob.keeps I.bk
  obtain ⟨bm, ob, b1, b2, b3, b4, b5, b6⟩ := I.mod.bm
  have b3' := I.bk _ _ b3
  have hgP : mainGlobals ≠ P := fun z => by
    obtain ⟨o, es, ep, e, d, _⟩ := hg
    rw [z, eP] at e; cases e; cases d
  have hbP : bm ≠ P := fun z => by rw [z, eP] at b3'; cases b3'; cases b4
  have hbG : bm ≠ mainGlobals := fun z => by
    obtain ⟨o, es, ep, e, d, _⟩ := hg
    rw [z, e] at b3'; cases b3'; rw [d] at b6; cases b6
  have hB : s.heap.BuiltinsAt X.mg P := ⟨bm, ob, b1, b2, hbG, hbP, b3', b4, b5, b6⟩
  have nP : ∀ {b : Addr} {u : HO}, H b = none → b ≠ P := fun n z => by rw [z, hP] at n; cases n
  refine kla_eval hdf ?_
  rw [hq]
  cases hf : codeAmong lp ts.toList with
  | none =>
    refine kla_makeFunction hcl I.ok.glob hg hcd CH eP tr hf hgP hB fun c' ctv h1 tk hx hge hlt hrec htb => ?_
    obtain ⟨c2, oc, vs, t, e2, hoc, hd, hv⟩ := hrec
    cases e2
    have hsz : s.heap.objs.size ≤ h1.objs.size := Nat.le_trans hge (Nat.le_of_lt hlt)
    have nc : H c' = none := I.hok.fresh hge
    have nf : H h1.objs.size = none := I.hok.fresh hsz
    have ncf : c' ≠ h1.objs.size := Nat.ne_of_lt hlt
    let H1 : Hp := upd H c' (.frz oc (.own 0))
    let H2 : Hp := upd H1 h1.objs.size (.frz (kla_obj "<lambda>" q params body scope [] ((X.mg "__name__").getD .none) c' ctv) (.own 0))
    have nf1 : H1 h1.objs.size = none := by show upd H c' _ _ = none; rw [upd_ne ncf.symm]; exact nf
    have sm1 : Same H H1 := same_upd nc
    have sm : Same H H2 := sm1.trans (same_upd nf1)
    have ec : H2 c' = some (.frz oc (.own 0)) := by show upd H1 _ _ c' = _; rw [upd_ne ncf]; exact upd_same
    have ef : H2 h1.objs.size = some (.frz (kla_obj "<lambda>" q params body scope [] ((X.mg "__name__").getD .none) c' ctv) (.own 0)) := upd_same
    have goc := Heap.get?_push_of_some (kla_obj "<lambda>" q params body scope [] ((X.mg "__name__").getD .none) c' ctv) hoc
    have gf : (h1.push (kla_obj "<lambda>" q params body scope [] ((X.mg "__name__").getD .none) c' ctv)).get? h1.objs.size = some (kla_obj "<lambda>" q params body scope [] ((X.mg "__name__").getD .none) c' ctv) := Heap.get?_push_size _ rfl
    have kp : ∀ b u, b ≠ P → s.heap.get? b = some u → (h1.push (kla_obj "<lambda>" q params body scope [] ((X.mg "__name__").getD .none) c' ctv)).get? b = some u := fun b u n e => Heap.get?_push_of_some _ (hx b u n e)
    have hok : HOk X.prog X.w H2 (h1.push (kla_obj "<lambda>" q params body scope [] ((X.mg "__name__").getD .none) c' ctv)) := by
      intro b u e
      by_cases z1 : b = h1.objs.size
      · subst z1; rw [ef] at e; cases e
        exact ⟨gf, ⟨_, gf⟩⟩
      · have e' : H1 b = some u := by have e0 : upd H1 _ _ b = some u := e; rw [upd_ne z1] at e0; exact e0
        by_cases z2 : b = c'
        · subst z2; rw [ec] at e; cases e
          exact ⟨goc, ⟨_, goc⟩⟩
        · have e3 : H b = some u := by have e0 : upd H c' _ b = some u := e'; rw [upd_ne z2] at e0; exact e0
          by_cases z3 : b = P
          · subst z3; rw [hP] at e3; cases e3
            refine ⟨_, Heap.get?_push_of_some _ htb, ?_, fun pos cv ea => ?_⟩
            · rw [Array.toList_append]; exact TriplesOk_snoc _ _ _ _ tr
            · rw [Array.toList_append] at ea
              rw [qOf_app]
              rcases among_app tr ea with ea | ea
              · obtain ⟨c3, oc3, u3, q1, q2, q3⟩ := tc pos cv ea
                exact ⟨c3, oc3, u3, q1, sm _ _ q2, q3⟩
              · exact ⟨c', oc, .own 0, among_one ea, ec, vs, t, hd, hv⟩
          · refine (I.hok b u e3).stay (fun d v hc g => kp d v ?_ g) (fun d g => sm _ _ g) (fun d xs g => sm _ _ g) fun d o v g => sm _ _ g
            rcases hc with rfl | hc
            · exact z3
            · rintro rfl; rw [hP] at hc; cases hc
    exact ⟨.ref h1.objs.size, H2, inv_grown (t' := tk) I hP kp sm (fun b n hb => by
      have z1 : b ≠ h1.objs.size := Nat.ne_of_lt (Nat.lt_of_lt_of_le hb hsz)
      have z2 : b ≠ c' := Nat.ne_of_lt (Nat.lt_of_lt_of_le hb hge)
      show upd H1 _ _ b = none
      rw [upd_ne z1]
      show upd H _ _ b = none
      rw [upd_ne z2]; exact n) hok, rfl, hQ _ H2 sm ⟨_, _, _, _, _, _, ef, ec, vs, t, hd, hv⟩⟩
  | some cv =>
    obtain ⟨c', oc, u', rfl, ec0, ic⟩ := tc lp cv hf
    refine kla_makeFunctionHit hcl I.ok.glob hg hcd CH eP tr hf hB fun ctv h1 tk hx hsz => ?_
    have nf : H h1.objs.size = none := I.hok.fresh hsz
    have kp : ∀ b u, s.heap.get? b = some u → (h1.push (kla_obj "<lambda>" q params body scope [] ((X.mg "__name__").getD .none) c' ctv)).get? b = some u := fun b u e => Heap.get?_push_of_some _ (hx b u e)
    have gf : (h1.push (kla_obj "<lambda>" q params body scope [] ((X.mg "__name__").getD .none) c' ctv)).get? h1.objs.size = some (kla_obj "<lambda>" q params body scope [] ((X.mg "__name__").getD .none) c' ctv) := Heap.get?_push_size _ rfl
    exact ⟨.ref h1.objs.size, _, I.laid (t' := tk) (o := .frz (kla_obj "<lambda>" q params body scope [] ((X.mg "__name__").getD .none) c' ctv) (.own 0)) kp hsz ⟨gf, ⟨_, gf⟩⟩, rfl, hQ _ _ (same_upd nf) ⟨_, _, _, _, _, _, upd_same, same_upd nf _ _ ec0, ic⟩⟩
end
open PySem PySem.Spec PyProof.Rows L2 PySem.W
section
variable {CX : CXT} {P : Program} {w : World} {K : Fg} {mg : Str → Option Value} {base : Heap} {k : Nat} {f c : Addr} {q : Str} {params : Arguments} {body : Expr} {scope : Scope} {pm ctv : Value} {N ps : List Str} {A : Around} {outer : List Env} {s : Shared} {H : Hp} {E : XK} {us : List Value} {vs : List V} {Q : VK} {t : TE}
theorem lam_call (ho : s.heap.get? f = some (kla_obj "<lambda>" q params body scope [] pm c ctv)) (hcd : s.heap.CodeRec (.ref c) q) (S : FnScope N ps scope) (hr : Room (k + 1) A) (e0 : Env0 P w K mg base A outer s H)
    (hb : bindArgs (kla_fn "<lambda>" q params body scope [] pm (.ref c) ctv) ⟨us, []⟩ = pure (ps.zip us)) (hl : vs.length = ps.length) (r : Vals vs us)
    (hbody : PE (cxOf CX P w K mg base N q scope f (.ref c) A outer s H E) body t) (hq : t (L2.start N vs) H Q) : codeAny (model P w) A (.call (.ref f) ⟨us, []⟩) (CR CX outer P w H s Q E) s := by
  have lim : s.heap.NoLimit := e0.mod.nolimit.keeps fun b o e => (e0.bs b o e).1
  have hkind : ∀ y ∈ ps.zip us, scope.names.lookup y.1 = some .local ∨ (scope.names.lookup y.1 = some .cell ∧ ((cellsFrom (s.heap.objs.size + 1) scope.names []).lookup y.1).isSome = true) := fun ⟨n, v⟩ hy => by
    rcases S.par n (List.of_mem_zip hy).1 with z | z
    · exact .inl z
    · exact .inr ⟨z, PySem.W.cellsFrom_some _ _ _ (.inl z)⟩
  refine kla_callFunE hr.depth ho rfl S.co S.gen rfl hcd ?_
  rw [hb]
  refine wpAny_pure (wpAny_newFunctionEnv_cells S.kind hkind fun env he s1 x => ?_)
  subst he
  refine ⟨lim.keeps x.toInCall.keep, kla_codeExpr ?_⟩
  have I : Inv (cxOf CX P w K mg base N q scope f (.ref c) A outer s H E) [] (L2.start N vs) H s1 := inv_start S hr.hd e0 hl r x
  refine wpAny_mono (hbody [] s1 (L2.start N vs) H _ I hq) (fun u s' hs => ?_) fun e s' hs => hs
  obtain ⟨v, H', J, rv, q'⟩ := hs
  exact ⟨v, H', J.os, J.bare, J.base, J.hok, rv, q'⟩
end
theorem lam_key (d : D) (k : List Nat) (e : keyP d = some k) : mBin ixD (mVar 0) (mC (.int 0)) [.v d] = some (.str k) := by
  cases d <;> first | (cases e; done) | skip
  rename_i l
  cases l with
  | nil => cases e
  | cons d l =>
    cases d <;> first | (cases e; done) | skip
    cases e
    show ixD (.tup (.str _ :: l)) (.int 0) = _
    unfold ixD
    simp [atI, ixN]
section
variable {X : Cx} {a : Expr} {pos p' kp lp : Pos} {k : Nat} {x : Str} {fl : ML} {c : Addr} {q : Str} {params : Arguments} {body : Expr} {scope : Scope} {m : ME}
theorem df_sortL (hc : X.calm = true) (hr : Room (k + 1) X.A.in1.in1) (hcd : X.env.code = .ref c) (hT : LamAt X.K c q) (hq : X.env.qual ++ "<lambda>" = q) (hdf : defaultsOf params X.env = ([], [])) (hcl : closureFor scope X.env = pure []) (S : FnScope [x] [x] scope)
    (hb : ∀ (pm ctv : Value) (c : Addr) (u : Value), bindArgs (kla_fn "<lambda>" q params body scope [] pm (.ref c) ctv) ⟨[u], []⟩ = pure [(x, u)])
    (hbody : ∀ (f c : Addr) (A : Around) (outer : List Env) (s : Shared) (H : Hp), DE (cxOf CX0 X.prog X.w X.K X.mg X.base [x] q scope f (.ref c) A outer s H fun _ _ _ => False) body m) (hm1 : ∀ d k, keyP d = some k → m [.v d] = some (.str k))
    (hg : Gl X "sorted") (hm : X.mg "sorted" = none) (ha : DB X a fl)
    (hs : starEach [a] X.env = (false, eval a X.env) :: starEach [] X.env := by rfl)
    (hall : (backToKw pos (keywordEach [⟨some "key", .Lambda params body scope lp, kp⟩] X.env)).all (·.1.isSome) = true := by rfl) (hkw : (backToKw pos (keywordEach [⟨some "key", .Lambda params body scope lp, kp⟩] X.env)).any (·.1.isNone) = false := by rfl)
    (hks : (backToKw pos (keywordEach [⟨some "key", .Lambda params body scope lp, kp⟩] X.env)).filterMap (·.1) = [Str.ofString "key"] := by rfl) (hbe : backTo pos (starEach [a] X.env) = (false, eval a X.env) :: backTo pos (starEach [] X.env) := by rfl) (hpl : (backTo pos (starEach [a] X.env)).any (·.1) = false := by rfl) :
    DF X (.Call (.Name "sorted" p') [a] [⟨some "key", .Lambda params body scope lp, kp⟩] pos) (mSrtP fl) := by
  intro pins s σ H Q I hq'
  obtain ⟨O0, r, l', hR, e, qq⟩ := hq'
  obtain ⟨l, e1, e2⟩ := bind_some e
  obtain ⟨kd, e3, e4⟩ := bind_some e2
  split at e4
  · rename_i hz
    cases e4
    refine wpAny_Call_Name_kw (ld_blt I hg hm PyProof.Rows.boot_sorted ?_)
    refine PyProof.Rows.callWith_kw (thn ((pa_cons ha pa_nil hs) pos pins s σ H (fun vs H1 => ∃ (p : Addr) (xs : List V), vs = [.ref p] ∧ Same H H1 ∧ SqL X.K H1 p xs ∧ IsL X.K (Ow O0 r σ) H1 l xs) I ⟨O0, r, l, hR, e1, fun p xs H1 s1 sq il => ⟨p, xs, rfl, s1, sq, il⟩⟩) fun us s1 ⟨vs, H1, I1, rv, p, xs, ev, sm, sq, il⟩ => ?_) hbe hpl hall hkw
    subst ev
    obtain ⟨u, rfl, ru⟩ := Vals.one rv
    cases ru
    refine thn ((pk_cons (pe_lam hcd hT hq hdf hcl) pk_nil) pos pins s1 σ H1 (fun zs H2 => ∃ f, zs = [.ref f] ∧ Same H1 H2 ∧ FunIs H2 f q params body scope) I1 (fun f H2 sm2 fi => ⟨f, rfl, sm2, fi⟩)) fun ws s2 ⟨zs, H2, I2, rz, f, ez, sm2, fi⟩ => ?_
    subst ez
    obtain ⟨u, rfl, ru⟩ := Vals.one rz
    cases ru
    rw [hks]
    have sm12 := sm.trans sm2
    have R12 := hR.same sm12
    have il2 : IsL X.K (Ow O0 r σ) H2 l xs := il.same sm2 (hR.same sm).ol
    have sq2 : SqL X.K H2 p xs := sm2.seq sq
    have hlx := il2.length
    have hkl : kd.length = l.length := by rw [← keysP_snd e3, List.length_map]
    show wpAny (model X.prog X.w) X.A (call (.builtin "sorted") [.ref p] [(Str.ofString "key", .ref f)]) (EP X pins σ Q) X.xe s2
    refine sortK (ks := kd.map fun p => (⟨p.1.toArray⟩ : Str)) hc I2 sq2 (by omega) (by rw [List.length_map]; omega) (fun i y k hy hk pins' s' H' u sm' I' ry => ?turn) (fun D ys H' ko sm' n1 n2 => ?fin)
    case turn =>
      rw [List.getElem?_map] at hk
      obtain ⟨kp, ek, rfl⟩ := Option.map_eq_some_iff.mp hk
      obtain ⟨el, eo⟩ := keysP_get e3 ek
      obtain ⟨y', ey, iy⟩ := il2.get el
      rw [hy] at ey; cases ey
      have R1 := R12.same sm'
      have iy' : Is X.K (Ow O0 r σ) H' kp.2 y := Is.mono (Same.kp sm' _) R12.ol (fun _ z _ => z) _ _ iy
      obtain ⟨pm, ctv, c', oc, u1, u2, f1, f2, ⟨vs, t, f3, f4⟩⟩ := fi.same sm'
      obtain ⟨g1, _⟩ := I'.hok f _ f1
      obtain ⟨g2, _⟩ := I'.hok c' _ f2
      refine wpAny_call (codeAny_mono (lam_call (CX := CX0) (N := [x]) (ps := [x]) (us := [u]) (vs := [y]) (Q := fun v H3 => v = .str ⟨kp.1.toArray⟩ ∧ Same H' H3) (E := fun _ _ _ => False) g1 ⟨c', oc, vs, t, rfl, g2, f3, f4⟩ S hr I'.env0 (hb pm ctv c' u) rfl (.cons ry .nil) (hbody f c' _ _ s' H') ⟨Ow O0 r σ, [.v kp.2], .str kp.1, R.args (ds := [kp.2]) R1.ol (.cons iy' .nil), hm1 _ _ eo, fun v H3 s3 iv => ⟨by rw [Is.str_iff] at iv; exact iv, s3⟩⟩) fun r s3 hq => ?_)
      cases r with
      | error e => exact hq
      | ok fl =>
        cases fl with
        | ret u =>
          obtain ⟨z, H3, I3, rz, ez, sz⟩ := I'.after hq
          subst ez
          obtain ⟨t, rfl⟩ := rz
          exact ⟨t, H3, rfl, sz, I3⟩
        | next => exact False.elim hq
        | brk => exact False.elim hq
        | cont => exact False.elim hq
    case fin =>
      obtain ⟨qs, hp, rfl, ho⟩ := ko.ex
      have il3 : IsL X.K (Ow O0 r σ) H' (kd.map (·.2)) xs := by rw [keysP_snd e3]; exact il2.same sm' R12.ol
      obtain ⟨bs, hq1, hi⟩ := KIs.perm hp (KIs.of il3)
      obtain ⟨i1, i2⟩ := hi.isl
      have up : upK bs := by
        have z : (qs.map (·.1)).Pairwise fun p q : Str => ¬ q.cps.toList < p.cps.toList := List.pairwise_map.mpr ho
        rw [i2] at z
        exact (List.pairwise_map.mp z).imp fun h => by simpa using h
      rw [srtK_eq hz.2 hq1 up] at i1
      have R2 := R12.same sm'
      refine qq D _ _ ((sm12.trans sm').trans (same_upd n2)) (sm12.free n1) upd_same ?_
      exact IsL.mono (Same.kp (same_upd n2) _) R2.ol (fun b z hb => z.elim id fun z => absurd n2 (by subst z; exact hb)) _ _ i1
  · cases e4
end
open PySem PySem.Spec PyProof.Rows L2 PySem.W
noncomputable def lawH (K : Fg) (T a : Addr) (q : Str) (lo : Obj) (xs : List V) : Hp := fun b => if b = T then some (.tbl #[.str q 0]) else if b = a ∧ K.lookup a = none then some (.frz lo (.lst xs)) else none
section
variable {P : Program} {w : World} {K : Fg} {mg mb : Str → Option Value} {CX : CXT} {k : Nat} {fa a T c0 : Addr} {fd : FuncData} {x q : Str} {sp : Sp} {s₁ : Shared} {vs : List Value} {ns : List Int}
theorem law_callT (KX : K.In s₁.heap) (hns : s₁.heap.Ns mainGlobals mg) (hb : s₁.heap.Ns builtinsNs mb) (hbb : ∀ x : Str, x ≠ "__name__" → mb x = bootBuiltins x) (hlim : s₁.heap.NoLimit)
    (hbm : ∃ bm ob, mg "__builtins__" = some (.ref bm) ∧ bm ≠ builtinsNs ∧ s₁.heap.get? bm = some ob ∧ ob.cls = .type "module" ∧ ob.dict = some builtinsNs ∧ ob.data = .plain) (hg : s₁.gens = #[])
    (ha : s₁.heap.get? a = some { cls := .type "list", data := .seq vs.toArray }) (hi : IntsAre vs ns) (hl : ns.length ≤ sizeLine) (hr : Room k callerA)
    (hT : s₁.heap.get? T = some (tabObj #[])) (hC : CodeHd s₁.heap c0 T) (hKT : K.lookup T = none) (hTI : ∀ H, H T = some (.tbl #[.str q 0]) → TabIn K H)
    (F : ∀ base : Heap, K.In base → base.Ns mainGlobals mg → FnOk P w K mg base CX k fa fd [x] sp) (hbind : ∀ (s : Shared) (u : Value), BindsTo s fd ⟨[u], []⟩ [(x, u)])
    (hsp : ∀ H : Hp, SqL K H a (ns.map V.int) → sp [.ref a] H (fun v _ => v = .bl true) fun _ _ _ => False) (hCX : ∀ H e s', CX [] H s₁ (fun _ _ _ => False) e s' → False) :
    codeAny (model P w) callerA (.call (.ref fa) ⟨[.ref a], []⟩) (fun r s' => r = .ok (.ret (.bool true)) ∧ OldK s₁.heap s'.heap ∧ s'.os = s₁.os ∧ AllBare s'.gens) s₁ := by
  have rv := vals_ints hi
  have lenV := hi.length
  have naT : a ≠ T := fun z => by rw [z, hT] at ha; cases ha
  let lo : Obj := { cls := .type "list", data := .seq vs.toArray }
  obtain ⟨H, hH⟩ : ∃ H, H = lawH K T a q lo (ns.map V.int) := ⟨_, rfl⟩
  have eT : H T = some (.tbl #[.str q 0]) := by rw [hH]; exact if_pos rfl
  have eA : K.lookup a = none → H a = some (.frz lo (.lst (ns.map V.int))) := fun z => by
    rw [hH]; show (if a = T then _ else if a = a ∧ K.lookup a = none then _ else _) = _
    rw [if_neg naT, if_pos ⟨rfl, z⟩]
  have which : ∀ {b u}, H b = some u → (b = T ∧ u = .tbl #[.str q 0]) ∨ (b = a ∧ K.lookup a = none ∧ u = .frz lo (.lst (ns.map V.int))) := fun {b u} e => by
    rw [hH] at e
    have e : (if b = T then some (HO.tbl #[.str q 0]) else if b = a ∧ K.lookup a = none then some (.frz lo (.lst (ns.map V.int))) else none) = some u := e
    split at e
    · rename_i z; exact .inl ⟨z, (Option.some.inj e).symm⟩
    · split at e
      · rename_i z; exact .inr ⟨z.1, z.2, (Option.some.inj e).symm⟩
      · cases e
  have hS : SqL K H a (ns.map V.int) := by
    cases hk : K.lookup a with
    | none => exact .inl (.inr ⟨_, eA hk⟩)
    | some o =>
      have e := KX a o hk
      rw [ha] at e
      cases e
      exact .inr ⟨_, vs.toArray, _, hk, rfl, rfl, rfl, by rw [List.size_toArray, lenV]; exact hl, by simpa using rv⟩
  have hok : HOk P w H s₁.heap := fun b u e => by
    rcases which e with ⟨rfl, rfl⟩ | ⟨rfl, _, rfl⟩
    · exact ⟨#[], hT, trivial, fun pos cv z => by cases z⟩
    · exact ⟨ha, by rw [List.length_map]; exact hl, vs, _, rv, ha⟩
  have no : ∀ {b : Addr} {o : Obj}, s₁.heap.get? b = some o → o ≠ tabObj #[] → o ≠ lo → H b = none := fun {b o} e n1 n2 => by
    cases z : H b with
    | none => rfl
    | some u =>
      rcases which z with ⟨rfl, _⟩ | ⟨rfl, _, _⟩
      · rw [hT] at e; exact absurd (Option.some.inj e).symm n1
      · rw [ha] at e; exact absurd (Option.some.inj e).symm n2
  have nsK : ∀ {b : Addr} {m : Str → Option Value}, s₁.heap.Ns b m → (hidT s₁.heap H).Ns b m := fun {b m} ⟨o, es, ep, e, d, r⟩ => ⟨o, es, ep, hidT_get e (no e (fun z => by rw [z] at d; cases d) fun z => by rw [z] at d; cases d), d, r⟩
  have hKb : K.In (hidT s₁.heap H) := fun b o e => hidT_get (KX b o e) (by
    cases z : H b with
    | none => rfl
    | some u =>
      rcases which z with ⟨rfl, _⟩ | ⟨rfl, h0, _⟩
      · rw [hKT] at e; cases e
      · rw [h0] at e; cases e)
  have hM : Mod K mg (hidT s₁.heap H) := ⟨hKb, nsK hns, ⟨mb, nsK hb, hbb⟩, let ⟨mc, h1, h2⟩ := hlim; ⟨mc, nsK h1, h2⟩, by
    obtain ⟨bm, ob, b1, b2, b3, b4, b5, b6⟩ := hbm
    exact ⟨bm, ob, b1, b2, hidT_get b3 (no b3 (fun z => by rw [z] at b6; cases b6) fun z => by rw [z] at b6; cases b6), b4, b5, b6⟩⟩
  have e0 : Env0 P w K mg (hidT s₁.heap H) callerA [] s₁ H := ⟨rfl, hM, fun b o e => of_hidT e, Nat.le_of_eq (hidT_size _ _), trivial, ⟨fun b hb => absurd (show b ∈ ([] : List Addr) from hb) (by simp), hTI H eT⟩, hok, .of_eq hg⟩
  refine codeAny_mono ((F _ hKb (nsK hns)).run callerA [] s₁ H ⟨[.ref a], []⟩ [.ref a] [.ref a] _ _ hr e0 (hbind s₁ (.ref a)) (.cons rfl .nil) (hsp H hS)) fun r s' h => ?_
  cases r with
  | error e => exact (hCX H e s' h).elim
  | ok fl =>
    cases fl with
    | next => exact False.elim h
    | brk => exact False.elim h
    | cont => exact False.elim h
    | ret u =>
      obtain ⟨v, H', os, bare, un, hok', r', z⟩ := h
      have z' : v = .bl true := z
      subst z'
      obtain rfl : u = Value.bool true := r'
      refine ⟨rfl, ⟨fun b o e => ?_, fun b o e => un.there b o e (by simp)⟩, os, bare⟩
      cases zb : H b with
      | none => exact .inl (un.keep b o e zb (fun z => absurd (show b ∈ ([] : List Addr) from z) (by simp)) (by simp))
      | some u =>
        rcases which zb with ⟨rfl, rfl⟩ | ⟨rfl, h0, rfl⟩
        · obtain ⟨more, e2⟩ := un.tbls _ _ zb
          obtain ⟨ts, e3, _⟩ := hok' _ _ e2
          rw [hT] at e; cases e
          exact .inr (.inl ⟨(hC.tab hT).isCodeTable, rfl, #[], ts, rfl, by simpa using e3⟩)
        · obtain ⟨e2, _⟩ := hok' _ _ (un.frzs _ _ _ zb)
          rw [ha] at e; cases e
          exact .inl e2
end
theorem walk_ofT {l : PySem.W.OpenLaw} {n k : Nat} {p : Program} {loose : List Str} {XP : (Str → Option Value) → Heap → Prop} {YP : World → Heap → Prop} {d : DefRec} {K : Params → Fg} {CX : CXT} {sp : Fg → Sp} {x q : Str} {T : Addr}
    (hn : l.most = some n) (hn2 : n ≤ sizeLine) (hdf : d.params.defaults = []) (hr : Room k callerA)
    (hY : ∀ (w : World) (h : Heap), YP w h → (K w.params).In h) (hT : ∀ (w : World) (h : Heap), YP w h → h.get? T = some (tabObj #[]))
    (hK : ∀ w : World, (K w.params).lookup T = none ∧ (∃ c0, codeHdIn (K w.params) c0 T = true) ∧ ∀ H, H T = some (.tbl #[.str q 0]) → TabIn (K w.params) H)
    (F : ∀ (w : World) (mg : Str → Option Value) (fa : Addr) (h : Heap), (K w.params).In h → h.Ns mainGlobals mg → mg d.name = some (.ref fa) →
      ∃ fd : FuncData, (∀ (s : Shared) (u : Value), BindsTo s fd ⟨[u], []⟩ [(x, u)]) ∧ ∀ base : Heap, (K w.params).In base → base.Ns mainGlobals mg → FnOk l.prog w (K w.params) mg base CX k fa fd [x] (sp (K w.params)))
    (hsp : ∀ (K : Fg) (H : Hp) (a : Addr) (ns : List Int), ns.length ≤ n → SqL K H a (ns.map V.int) → sp K [.ref a] H (fun v _ => v = .bl true) fun _ _ _ => False)
    (hCX : ∀ (H : Hp) (s : Shared) (e : Value) (s' : Shared), CX [] H s (fun _ _ _ => False) e s' → False) :
    PySem.W.WalkO p loose XP YP l.row.toRowW d [] (fun f vs => PySem.call f vs) := by
  refine Att.attach_call hn hdf fun w s₀ s₁ mg mb fa o pm cd doc a vs ns G Y ho hd hcd hmg hobj hints hlen hg => ?_
  have KX := hY w _ Y
  obtain ⟨k1, ⟨c0, k2⟩, k3⟩ := hK w
  obtain ⟨fd, hb, hF⟩ := F w mg fa _ KX G.T.g hmg
  exact law_callT KX G.T.g G.T.b G.T.builtins G.T.nolimit G.T.bmain hg hobj hints (Nat.le_trans hlen hn2) hr (hT w _ Y) (codeHd_of_K KX k2) k1 k3 hF hb (fun H hS => hsp _ H a ns hlen hS) fun H e s' => hCX H s₁ e s'
theorem tabIn_of {K : Fg} {f c T : Addr} {oc : Value} {od : Option Addr} {fd : FuncData} {sl : Array (Option Value)} (a : nsIn K mainGlobals "_law_of_fields" = some (some (.ref f))) (l : K.lookup f = some ⟨oc, od, .func fd, sl⟩) (e : fd.code = .ref c) (h : codeHdIn K c T = true) :
    ∀ H, H T = some (.tbl #[.str "_law_of_fields.<locals>.<lambda>" 0]) → TabIn K H := fun H hH f' o' fd' c' P' a' l' d' e' h' => by
  rw [a] at a'; cases a'
  rw [l] at l'; cases l'
  cases d'
  rw [e] at e'; cases e'
  have z : P' = T := by
    unfold codeHdIn at h h'
    split at h
    · rename_i vs hk
      rw [hk] at h'
      simp only [Bool.and_eq_true] at h h'
      have h1 := h.1.1.1.1.1
      have h2 := h'.1.1.1.1.1
      split at h1
      · rename_i P1 e1
        rw [e1] at h2
        exact (beq_iff_eq.mp h2).symm.trans (beq_iff_eq.mp h1)
      · cases h1
    · cases h
  exact ⟨#[], by rw [z, hH]; rfl⟩
theorem lam_k {K : Fg} {f c T : Addr} {oc : Value} {od : Option Addr} {fd : FuncData} {sl : Array (Option Value)} (a : nsIn K mainGlobals "_law_of_fields" = some (some (.ref f))) (l : K.lookup f = some ⟨oc, od, .func fd, sl⟩) (e : fd.code = .ref c) (h : codeHdIn K c T = true) (n : K.lookup T = none) :
    K.lookup T = none ∧ (∃ c0, codeHdIn K c0 T = true) ∧ ∀ H, H T = some (.tbl #[.str "_law_of_fields.<locals>.<lambda>" 0]) → TabIn K H := ⟨n, ⟨c, h⟩, tabIn_of a l e h⟩
theorem lamAt_of {K : Fg} {h : Heap} {mg : Str → Option Value} {f A c T : Addr} {oc oc' : Value} {od od' : Option Addr} {fd fd' : FuncData} {sl sl' : Array (Option Value)} (X : K.In h) (G : h.Ns mainGlobals mg) (a : nsIn K mainGlobals "_law_of_fields" = some (some (.ref f))) (l : K.lookup f = some ⟨oc, od, .func fd, sl⟩) (e : fd.code = .ref c) (hh : codeHdIn K c T = true)
    (m : mg "_law_of_fields" = some (.ref A)) (l' : K.lookup A = some ⟨oc', od', .func fd', sl'⟩) (cdv : Value) (ec : fd'.code = cdv) : ∃ c0, cdv = .ref c0 ∧ LamAt K c0 "_law_of_fields.<locals>.<lambda>" := by
  have m' := mg_of X G a
  rw [m] at m'; cases m'
  rw [l] at l'; cases l'
  exact ⟨c, ec.symm.trans e, T, hh, fun H hH => hH f _ fd c T a l rfl e hh⟩
theorem lamAt_F {K : Fg} {h : Heap} {mg : Str → Option Value} {f A c T : Addr} {oc : Value} {od : Option Addr} {fd fd' : FuncData} {sl : Array (Option Value)} {st : Stmt} {n n' : Str} (X : K.In h) (G : h.Ns mainGlobals mg) (a : nsIn K mainGlobals "_law_of_fields" = some (some (.ref f))) (l : K.lookup f = some ⟨oc, od, .func fd, sl⟩) (e : fd.code = .ref c) (hh : codeHdIn K c T = true)
    (m : mg "_law_of_fields" = some (.ref A)) (F : Fun K n n' st A fd') (cdv : Value) (ec : fd'.code = cdv) : ∃ c0, cdv = .ref c0 ∧ LamAt K c0 "_law_of_fields.<locals>.<lambda>" := by
  obtain ⟨_, _, _, _, _, _, _, _, _, _, l', _⟩ := F.ex
  exact lamAt_of X G a l e hh m l' cdv ec
end DD
namespace K11
open PySem PySem.Spec PyProof.Rows L2 DD
noncomputable def top (i : Nat) : Stmt := PySem.Challenge.pw_fieldrows_k11_parts_and_numbers.main.body.getD i (.Pass ⟨0, 0, 0, 0⟩)
noncomputable def WF : Nat := 100000
noncomputable def g_has_row : MS := (sRet (mBin (inD false) (mBin ixD (mVar 0) (mC (.int 0))) (mTup (mCons (mC (.str [114, 101, 99])) (mCons (mC (.str [111, 110, 101])) mNil)))))
noncomputable def F_has_row : MF := mkF 1 1 g_has_row
noncomputable def g_own_parts : MS := (sSeq (sIf (mTru (mCall 1 F_has_row (mCons (mVar 0) mNil)))
 (sRet (mBin addD (mC (.int 2)) (mUn lenD (mBin ixD (mBin ixD (mVar 0) (mC (.int 1))) (mC (.int 1))))))
 sSkip)
 (sRet (mC (.int 1))))
noncomputable def F_own_parts : MF := mkF 1 1 g_own_parts
noncomputable def g_straight_in : MS := (sSeq (sIf (mBl (mBin eqA (mBin ixD (mVar 0) (mC (.int 0))) (mC (.str [102, 117, 110]))))
 (sRet (mOfF (mLstF (mCons (mBin ixD (mVar 0) (mC (.int 1))) (mCons (mBin ixD (mVar 0) (mC (.int 2))) mNil)))))
 sSkip)
 (sSeq (sIf (mTru (mCall 1 F_has_row (mCons (mVar 0) mNil)))
 (sRet (mOfF (mComp [] 1 (mIt (mBin ixD (mBin ixD (mVar 0) (mC (.int 1))) (mC (.int 1)))) (setV 0) (mBin ixD (mVar 0) (mC (.int 1))))))
 sSkip)
 (sRet (mOfF (mLstF mNil)))))
noncomputable def F_straight_in : MF := mkF 1 1 g_straight_in
noncomputable def g_within : MS := (sSeq (sOwn 1 (mLstF mNil))
 (sSeq (sOwn 2 (mLstF (mCons (mVar 0) mNil)))
 (sSeq (sWhile WF (mTruB (mOwn 2))
 (sSeq (sSetX 3 (mPop 2))
 (sSeq (sX (mApp 1 (mVar 3)))
 (sX (mExt 2 (mUn revD (mCall 1 F_straight_in (mCons (mVar 3) mNil))))))))
 (sRetOwn 1))))
noncomputable def F_within : MF := mkF 1 4 g_within
noncomputable def g_parts : MS := (sRet (mSumL (mComp [] 1 (mIt (mOfF (mCallF 1 F_within (mCons (mVar 0) mNil)))) (setV 0) (mCall 1 F_own_parts (mCons (mVar 0) mNil)))))
noncomputable def F_parts : MF := mkF 1 1 g_parts
noncomputable def g_own_numbers : MS := (sSeq (sIf (mBl (mBin eqA (mBin ixD (mVar 0) (mC (.int 0))) (mC (.str [118, 97, 114]))))
 (sRet (mOfF (mLstF (mCons (mBin ixD (mVar 0) (mC (.int 1))) mNil))))
 sSkip)
 (sSeq (sIf (mAndT (mTru (mCall 1 F_has_row (mCons (mVar 0) mNil))) (mBl (mBin notND (mBin ixD (mBin ixD (mVar 0) (mC (.int 1))) (mC (.int 2))) (mC .non))))
 (sRet (mOfF (mLstF (mCons (mBin ixD (mBin ixD (mVar 0) (mC (.int 1))) (mC (.int 2))) mNil))))
 sSkip)
 (sRet (mOfF (mLstF mNil)))))
noncomputable def F_own_numbers : MF := mkF 1 1 g_own_numbers
noncomputable def g_numbers : MS := (sSeq (sOwnD 1 mD0)
 (sSeq (sOwn 2 (mLstF (mCons (mVar 0) mNil)))
 (sSeq (sWhile WF (mTruB (mOwn 2))
 (sSeq (sSetX 3 (mPop 2))
 (sIf (mTru (mUn (instD "int") (mVar 3)))
 (sDSet 1 (mVar 3) (mC (.bl true)))
 (sX (mExt 2 (mUn revD (mBin addD (mCall 1 F_straight_in (mCons (mVar 3) mNil)) (mCall 1 F_own_numbers (mCons (mVar 3) mNil)))))))))
 (sRetF (mKeys 1)))))
noncomputable def F_numbers : MF := mkF 1 4 g_numbers
noncomputable def g__law_whole : MS := (sRet (mAnd (mUn (instD "int") (mVar 0)) (mUn notD (mUn (instD "bool") (mVar 0)))))
noncomputable def F__law_whole : MF := mkF 1 1 g__law_whole
noncomputable def g__law_cell_at : MS := (sSeq (sIf (mBl (mBin ltA (mVar 1) (mUn lenD (mVar 0))))
 (sRet (mBin ixD (mVar 0) (mVar 1)))
 sSkip)
 (sRet (mC (.int 0))))
noncomputable def F__law_cell_at : MF := mkF 2 2 g__law_cell_at
noncomputable def g__law_mixed : MS := (sSeq (sSet 2 (mBin addD (mBin powD (mC (.int 10)) (mC (.int 30))) (mC (.int 57))))
 (sSeq (sSet 3 (mBin mulB (mBin modD (mVar 0) (mVar 2)) (mC (.int 271828182845904523536028747135))))
 (sSeq (sSet 3 (mBin addD (mVar 3) (mBin mulB (mBin mulD (mVar 1) (mVar 1)) (mC (.int 314159265358979323846264338327)))))
 (sRet (mBin modD (mBin addD (mVar 3) (mC (.int 577215664901532860606512090082))) (mVar 2))))))
noncomputable def F__law_mixed : MF := mkF 2 4 g__law_mixed
noncomputable def g__law_labels : MS := (sSeq (sSet 1 (mC (.str [97, 98, 99, 100, 101, 102, 103, 104, 105, 106, 107, 108, 109, 110, 111, 112, 113, 114, 115, 116, 117, 118, 119, 120, 121, 122])))
 (sSeq (sSet 2 (mOfF (mLstF (mLit [[100, 101, 102], [102, 110], [100, 111], [101, 109, 112, 116, 121], [103, 101, 116], [119, 105, 116, 104], [112, 117, 116], [108, 101, 115, 115], [116, 97, 103], [119, 105, 100, 101], [99, 97, 115, 101], [110, 101, 118, 101, 114], [105, 102]]))))
 (sSeq (sSet 3 (mBin addD (mC (.int 1)) (mBin modD (mVar 0) (mC (.int 8)))))
 (sSeq (sSet 4 (mBin modD (mBin fdivD (mVar 0) (mC (.int 8))) (mVar 3)))
 (sSeq (sSet 5 (mBin fdivD (mVar 0) (mC (.int 64))))
 (sSeq (sSet 6 (mC (.str [])))
 (sSeq (sFor (setV 7) (mRng1 (mC (.int 8)))
 (sSeq (sSet 6 (mBin addD (mVar 6) (mBin ixD (mVar 1) (mBin modD (mVar 5) (mC (.int 26))))))
 (sSet 5 (mBin fdivD (mVar 5) (mC (.int 26))))))
 (sSeq (sOwn 8 (mLstF mNil))
 (sSeq (sFor (setV 7) (mRng1 (mC (.int 6)))
 (sSeq (sSet 9 (mBin ixD (mVar 1) (mBin modD (mBin addD (mVar 5) (mBin mulD (mC (.int 5)) (mVar 7))) (mC (.int 26)))))
 (sSeq (sSet 10 (mBin addD (mBin addD (mSl (mVar 6) oNone (oSome (mVar 4))) (mVar 9)) (mSl (mVar 6) (oSome (mBin addD (mVar 4) (mC (.int 1)))) (oSome (mVar 3)))))
 (sSeq (sIf (mBl (mBin eqA (mBin modD (mBin fdivD (mVar 5) (mC (.int 26))) (mC (.int 4))) (mC (.int 1))))
 (sSet 10 (mSl (mVar 6) oNone (oSome (mBin subD (mC (.int 8)) (mVar 7)))))
 sSkip)
 (sSeq (sIf (mBl (mBin (inD false) (mVar 10) (mVar 2)))
 (sSet 10 (mBin mulS (mC (.str [113])) (mUn lenD (mVar 10))))
 sSkip)
 (sX (mApp 8 (mVar 10))))))))
 (sRetOwn 8))))))))))
noncomputable def F__law_labels : MF := mkF 1 11 g__law_labels
noncomputable def g__law_leaf : MS := (sSeq (sIf (mBl (mBin eqA (mBin modD (mVar 0) (mC (.int 3))) (mC (.int 0))))
 (sRet (mOfF (mLstF (mCons (mTup (mCons (mC (.str [110, 117, 109])) mNil)) (mCons (mC (.int 1)) (mCons (mOfF (mLstF mNil)) mNil))))))
 sSkip)
 (sSeq (sSet 2 (mBin addD (mVar 1) (mBin mulD (mC (.int 2)) (mBin modD (mBin fdivD (mVar 0) (mC (.int 3))) (mC (.int 5))))))
 (sRet (mOfF (mLstF (mCons (mTup (mCons (mC (.str [118, 97, 114])) (mCons (mVar 2) mNil))) (mCons (mC (.int 1)) (mCons (mOfF (mLstF (mCons (mVar 2) mNil))) mNil))))))))
noncomputable def F__law_leaf : MF := mkF 2 3 g__law_leaf
noncomputable def g__law_of_fields : MS := (sSeq (sSet 5 (mMin (mCons (mLenB (mOwn 0)) (mCons (mBin modD (mVar 1) (mC (.int 4))) mNil))))
 (sSeq (sOwn 6 (mLstF mNil))
 (sSeq (sFor (setV 7) (mRng1 (mVar 5))
 (sX (mAppX 6 (mTupX (xaCons (mBin ixD (mVar 2) (mBin modD (mBin addD (mBin fdivD (mVar 1) (mC (.int 4))) (mVar 7)) (mC (.int 6)))) (xaLast (mPop 0)))))))
 (sSeq (sOwn 6 (mSrtP (mOwn 6)))
 (sSeq (sSet 8 (mC (.int 2)))
 (sSeq (sSet 9 (mOfF (mLstF mNil)))
 (sSeq (sZ 6 (sFor (bdSeq 2 (bdCons (setV 10) (bdCons (setV 11) bdNil))) (mZs 6)
 (sSeq (sSet 8 (mBin addD (mBin addD (mVar 8) (mC (.int 1))) (mBin ixD (mVar 11) (mC (.int 1)))))
 (sSet 9 (mBin addD (mVar 9) (mBin ixD (mVar 11) (mC (.int 2))))))))
 (sSeq (sIf (mBl (mBin notND (mVar 4) (mC .non)))
 (sSet 9 (mBin addD (mVar 9) (mOfF (mLstF (mCons (mVar 4) mNil)))))
 sSkip)
 (sRel 6 (sRet (mOfF (mLstF (mCons (mTup (mCons (mVar 3) (mCons (mTup (mCons (mC (.str [114, 111, 119])) (mCons (mTupOf (mComp [] 2 (mIt (mVar 6)) (bdSeq 2 (bdCons (setV 0) (bdCons (setV 1) bdNil))) (mTup (mCons (mVar 0) (mCons (mBin ixD (mVar 1) (mC (.int 0))) mNil))))) (mCons (mVar 4) mNil)))) mNil))) (mCons (mVar 8) (mCons (mVar 9) mNil)))))))))))))))
noncomputable def F__law_of_fields : MF := mkF 5 12 g__law_of_fields
noncomputable def g__law_of_two : MS := (sRet (mOfF (mLstF (mCons (mTup (mCons (mC (.str [102, 117, 110])) (mCons (mBin ixD (mVar 0) (mC (.int 0))) (mCons (mBin ixD (mVar 1) (mC (.int 0))) mNil)))) (mCons (mBin addD (mBin addD (mC (.int 1)) (mBin ixD (mVar 0) (mC (.int 1)))) (mBin ixD (mVar 1) (mC (.int 1)))) (mCons (mBin addD (mBin ixD (mVar 0) (mC (.int 2))) (mBin ixD (mVar 1) (mC (.int 2)))) mNil))))))
noncomputable def F__law_of_two : MF := mkF 2 2 g__law_of_two
noncomputable def g__law_stepped : MS := (sSeq (sSet 4 (mBin modD (mVar 1) (mC (.int 8))))
 (sSeq (sSet 5 (mBin fdivD (mVar 1) (mC (.int 8))))
 (sIf (mAndT (mBl (mBin eqA (mVar 4) (mC (.int 3)))) (mBl (mBin gtD (mLenB (mOwn 0)) (mC (.int 1)))))
 (sSeq (sSetX 6 (mPop 0))
 (sX (mAppX 0 (mCallXA 2 F__law_of_two (mMidX (mPop 0) (mCons (mVar 6) mNil))))))
 (sIf (mBl (mBin gtD (mVar 4) (mC (.int 3))))
 (sSeq (sSet 7 (mBin ixD (mOfF (mLstF (mCons (mC .non) (mCons (mC .non) (mCons (mBin addD (mBin addD (mVar 3) (mC (.int 1))) (mBin mulD (mC (.int 2)) (mBin modD (mBin fdivD (mVar 5) (mC (.int 3))) (mC (.int 4))))) mNil))))) (mBin modD (mVar 5) (mC (.int 3)))))
 (sX (mAppX 0 (mCallX 5 F__law_of_fields 0 (zP (mCons (mBin fdivD (mVar 5) (mC (.int 12))) (mCons (mVar 2) (mCons (mBin ixD (mOfF (mLstF (mCons (mC (.str [114, 101, 99])) (mCons (mC (.str [111, 110, 101])) mNil)))) (mBin modD (mVar 4) (mC (.int 2)))) (mCons (mVar 7) mNil)))))))))
 (sX (mApp 0 (mCall 2 F__law_leaf (mCons (mVar 5) (mCons (mVar 3) mNil)))))))))
noncomputable def F__law_stepped : MF := mkF 4 8 g__law_stepped
noncomputable def g__law_once : MS := (sSeq (sOwn 1 (mLstF mNil))
 (sSeq (sFor (setV 2) (mIt (mVar 0))
 (sIf (mInB true (mVar 2) (mOwn 1))
 (sX (mApp 1 (mVar 2)))
 sSkip))
 (sRetOwn 1)))
noncomputable def F__law_once : MF := mkF 1 3 g__law_once
noncomputable def g__law_good : MS := (sSeq (sSet 1 (mCall 1 F_parts (mCons (mBin ixD (mVar 0) (mC (.int 0))) mNil)))
 (sSeq (sOwn 2 (mCallF 1 F_numbers (mCons (mBin ixD (mVar 0) (mC (.int 0))) mNil)))
 (sSeq (sSet 3 (mOfF (mCallF 1 F__law_once (mCons (mBin ixD (mVar 0) (mC (.int 2))) mNil))))
 (sSeq (sIf (mOrT (mNotT (mTru (mCall 1 F__law_whole (mCons (mVar 1) mNil)))) (mBl (mBin (neN 400) (mVar 1) (mBin ixD (mVar 0) (mC (.int 1))))))
 (sRet (mC (.bl false)))
 sSkip)
 (sSeq (sIf (mTV 2 (mOrT (mNotT (mTru (mUn (instD "list") (mVar 2)))) (mOrT (mBl (mBin (neN 400) (mVar 2) (mVar 3))) (mNotT (mTru (mAll (mComp [] 1 (mIt (mVar 2)) (setV 0) (mCall 1 F__law_whole (mCons (mVar 0) mNil)))))))))
 (sRet (mC (.bl false)))
 sSkip)
 (sSeq (sX (mApp 2 (mC (.int 0))))
 (sRet (mBin (eqN 400) (mOfF (mCallF 1 F_numbers (mCons (mBin ixD (mVar 0) (mC (.int 0))) mNil))) (mVar 3)))))))))
noncomputable def F__law_good : MF := mkF 1 4 g__law_good
noncomputable def g_law : MS := (sSeq (sSet 1 (mOfF (mCallF 1 F__law_labels (mCons (mCall 2 F__law_mixed (mCons (mCall 2 F__law_cell_at (mCons (mVar 0) (mCons (mC (.int 0)) mNil))) (mCons (mC (.int 0)) mNil))) mNil))))
 (sSeq (sSet 2 (mCall 2 F__law_mixed (mCons (mCall 2 F__law_cell_at (mCons (mVar 0) (mCons (mC (.int 1)) mNil))) (mCons (mC (.int 1)) mNil))))
 (sSeq (sSet 3 (mBin ixD (mOfF (mLstF (mCons (mC (.int 0)) (mCons (mBin modD (mBin fdivD (mVar 2) (mC (.int 2))) (mBin powD (mC (.int 10)) (mC (.int 15)))) mNil)))) (mBin modD (mVar 2) (mC (.int 2)))))
 (sSeq (sOwn 4 (mLstF mNil))
 (sSeq (sFor (bdSeq 2 (bdCons (setV 5) (bdCons (setV 6) bdNil))) (mEnum (mSl (mVar 0) (oSome (mC (.int 2))) (oSome (mC (.int 62)))))
 (sX (mCallX 4 F__law_stepped 4 (zP (mCons (mCall 2 F__law_mixed (mCons (mVar 6) (mCons (mBin addD (mVar 5) (mC (.int 3))) mNil))) (mCons (mVar 1) (mCons (mVar 3) mNil)))))))
 (sSeq (sWhile WF (mBl (mBin gtD (mLenB (mOwn 4)) (mC (.int 1))))
 (sSeq (sSetX 7 (mPop 4))
 (sX (mAppX 4 (mCallXA 2 F__law_of_two (mMidX (mPop 4) (mCons (mVar 7) mNil)))))))
 (sRet (mAll (mComp [] 1 (mIt (mOfF (mCat (mOwn 4) (mLstF (mCons (mCall 2 F__law_leaf (mCons (mVar 2) (mCons (mVar 3) mNil))) mNil))))) (setV 0) (mCall 1 F__law_good (mCons (mVar 0) mNil)))))))))))
noncomputable def F_law : MF := mkF 1 8 g_law
structure De (K : Fg) (mg : Str → Option Value) (n : Str) (i : Nat) (ps : List Str) where
  a : Addr
  d : FuncData
  F : Fun K n n (top i) a d
  m : mg n = some (.ref a)
  b : Binds K d ps []
noncomputable abbrev Ok (P : Program) (w : World) {K : Fg} {mg : Str → Option Value} (base : Heap) {n : Str} {i : Nat} {ps : List Str} (D : De K mg n i ps) (k m : Nat) (F : MF) : Prop := FnOk P w K mg base CX0 k D.a D.d ps (spD K m F)
set_option genInjectivity false in
set_option genSizeOf false in
structure Txt (K : Fg) (mg : Str → Option Value) where
  d_has_row : De K mg "has_row" 3 ["kind"]
  d_own_parts : De K mg "own_parts" 2 ["kind"]
  d_straight_in : De K mg "straight_in" 4 ["kind"]
  d_within : De K mg "within" 5 ["K"]
  d_parts : De K mg "parts" 1 ["K"]
  d_own_numbers : De K mg "own_numbers" 7 ["kind"]
  d_numbers : De K mg "numbers" 6 ["K"]
  d__law_whole : De K mg "_law_whole" 9 ["_law_found"]
  d__law_cell_at : De K mg "_law_cell_at" 10 ["_law_script", "_law_k"]
  d__law_mixed : De K mg "_law_mixed" 11 ["_law_cell", "_law_k"]
  d__law_labels : De K mg "_law_labels" 12 ["_law_number"]
  d__law_leaf : De K mg "_law_leaf" 13 ["_law_number", "_law_base"]
  d__law_of_fields : De K mg "_law_of_fields" 14 ["_law_pile", "_law_number", "_law_labels_here", "_law_word", "_law_tail"]
  d__law_of_two : De K mg "_law_of_two" 15 ["_law_one", "_law_other"]
  d__law_stepped : De K mg "_law_stepped" 16 ["_law_pile", "_law_number", "_law_labels_here", "_law_base"]
  d__law_once : De K mg "_law_once" 17 ["_law_order"]
  d__law_good : De K mg "_law_good" 18 ["_law_piece"]
  d_law : De K mg "law" 19 ["_law_script"]
  z_all : mg "all" = none
  z_bool : mg "bool" = none
  z_enumerate : mg "enumerate" = none
  z_int : mg "int" = none
  z_isinstance : mg "isinstance" = none
  z_len : mg "len" = none
  z_list : mg "list" = none
  z_min : mg "min" = none
  z_range : mg "range" = none
  z_sorted : mg "sorted" = none
  z_sum : mg "sum" = none
  z_tuple : mg "tuple" = none
  lam : ∀ cdv, d__law_of_fields.d.code = cdv → ∃ c0, cdv = .ref c0 ∧ LamAt K c0 "_law_of_fields.<locals>.<lambda>"
theorem lam_q : (Str.ofString "_law_of_fields" ++ Str.ofString ".<locals>.") ++ Str.ofString "<lambda>" = Str.ofString "_law_of_fields.<locals>.<lambda>" := by decide +kernel
section
variable {P : Program} {w : World} {K : Fg} {mg : Str → Option Value} {base : Heap}
theorem sc_has_row : FnScope ["kind"] ["kind"] (defScope (top 3)) := ⟨rfl, rfl, rfl, by decide +kernel, rfl, by decide +kernel, by decide +kernel⟩
theorem ok_has_row (T : Txt K mg) : Ok P w base T.d_has_row 1 1 F_has_row := by
  refine fn_d T.d_has_row.F sc_has_row 1 1 rfl rfl (g := g_has_row) (fun cdv A outer s H E hr => ?_)
  unfold g_has_row
  exact (by refine ds_one ?_; exact (by refine ds_ret ?_; exact (de_cmp op_in_seq (od_in false) (de_ix (de_var 0 (pv 0)) de_int) (by refine de_tup ?_; exact (by refine da_cons (de_str (s := [114, 101, 99]) (by rfl)) ?_ (hs := stConst); refine da_cons (de_str (s := [111, 110, 101]) (by rfl)) ?_ (hs := stConst); exact da_nil)) rfl)))
theorem sc_own_parts : FnScope ["kind"] ["kind"] (defScope (top 2)) := ⟨rfl, rfl, rfl, by decide +kernel, rfl, by decide +kernel, by decide +kernel⟩
theorem ok_own_parts (T : Txt K mg) : Ok P w base T.d_own_parts 2 1 F_own_parts := by
  refine fn_d T.d_own_parts.F sc_own_parts 1 1 rfl rfl (g := g_own_parts) (fun cdv A outer s H E hr => ?_)
  unfold g_own_parts
  exact (by refine ds_cons ?_ ?_; exact (ds_if (dt_tru (de_call (ok_has_row T) (hr.mono (by decide)) (by rfl) T.d_has_row.m T.d_has_row.F.kp T.d_has_row.b (da_cons (de_var 0 (pv 0)) da_nil (hs := stName)))) (by refine ds_one ?_; exact (by refine ds_ret ?_; exact (de_bin op_plus od_plus de_int (de_len (by rfl) T.z_len (de_ix (de_ix (de_var 0 (pv 0)) de_int) de_int))))) ds_nil); exact (by refine ds_one ?_; exact (by refine ds_ret ?_; exact de_int)))
theorem sc_straight_in : FnScope ["kind"] ["kind"] (defScope (top 4)) := ⟨rfl, rfl, rfl, by decide +kernel, rfl, by decide +kernel, by decide +kernel⟩
theorem ok_straight_in (T : Txt K mg) : Ok P w base T.d_straight_in 2 1 F_straight_in := by
  refine fn_d T.d_straight_in.F sc_straight_in 1 1 rfl rfl (g := g_straight_in) (fun cdv A outer s H E hr => ?_)
  unfold g_straight_in
  exact (by refine ds_cons ?_ ?_; exact (ds_if (dt_cmp (op_eqA hr.units0) od_eqA (de_ix (de_var 0 (pv 0)) de_int) (de_str (s := [102, 117, 110]) (by rfl)) (nomark _)) (by refine ds_one ?_; exact (by refine ds_ret ?_; exact (by refine de_f ?_; exact (by refine df_lst ?_; exact (by refine da_cons (de_ix (de_var 0 (pv 0)) de_int) ?_ (hs := stSub); refine da_cons (de_ix (de_var 0 (pv 0)) de_int) ?_ (hs := stSub); exact da_nil))))) ds_nil); exact (by refine ds_cons ?_ ?_; exact (ds_if (dt_tru (de_call (ok_has_row T) (hr.mono (by decide)) (by rfl) T.d_has_row.m T.d_has_row.F.kp T.d_has_row.b (da_cons (de_var 0 (pv 0)) da_nil (hs := stName)))) (by refine ds_one ?_; exact (by refine ds_ret ?_; exact (by refine de_f ?_; exact (df_comp (N' := ["field"]) (cap := []) rfl cmp_mk (di_seq (de_ix (de_ix (de_var 0 (pv 0)) de_int) de_int)) (fun _ _ _ _ => (dg_name 0 (show (["field"] : List Str).Nodup by decide +kernel))) (fun _ _ _ _ => by exact (by refine de_ix ?_ ?_; exact (de_var 0 (pv 0)); exact de_int)) 1)))) ds_nil); exact (by refine ds_one ?_; exact (by refine ds_ret ?_; exact (by refine de_f ?_; exact (by refine df_lst ?_; exact da_nil))))))
theorem sc_within : FnScope ["K", "found", "waiting", "kind"] ["K"] (defScope (top 5)) := ⟨rfl, rfl, rfl, by decide +kernel, rfl, by decide +kernel, by decide +kernel⟩
theorem ok_within (T : Txt K mg) : Ok P w base T.d_within 3 1 F_within := by
  refine fn_d T.d_within.F sc_within 1 4 rfl rfl (g := g_within) (fun cdv A outer s H E hr => ?_)
  unfold g_within
  exact (by refine ds_cons ?_ ?_; exact (ds_own 1 (by refine df_lst ?_; exact da_nil) sc_within.nd); exact (by refine ds_cons ?_ ?_; exact (ds_own 2 (by refine df_lst ?_; exact (da_cons (de_var 0 (pv 0)) da_nil (hs := stName))) sc_within.nd); exact (by refine ds_cons ?_ ?_; exact (ds_while WF PassesOwn.never (dt_truB (db_own 2 (pv 2))) (by refine ds_cons ?_ ?_; exact (ds_setX 3 (dx_pop 2 (pv 2)) sc_within.nd); exact (by refine ds_cons ?_ ?_; exact (ds_x (dx_append 1 (pv 1) (de_var 3 (pv 3)))); exact (by refine ds_one ?_; exact (ds_x (dx_extend 2 (pv 2) (de_rev (de_call (ok_straight_in T) (hr.mono (by decide)) (by rfl) T.d_straight_in.m T.d_straight_in.F.kp T.d_straight_in.b (da_cons (de_var 3 (pv 3)) da_nil (hs := stName)))))))))); exact (by refine ds_one ?_; exact (ds_retOwn 1 (pv 1))))))
theorem sc_parts : FnScope ["K"] ["K"] (defScope (top 1)) := ⟨rfl, rfl, rfl, by decide +kernel, rfl, by decide +kernel, by decide +kernel⟩
theorem ok_parts (T : Txt K mg) : Ok P w base T.d_parts 4 1 F_parts := by
  refine fn_d T.d_parts.F sc_parts 1 1 rfl rfl (g := g_parts) (fun cdv A outer s H E hr => ?_)
  unfold g_parts
  exact (by refine ds_one ?_; exact (by refine ds_ret ?_; exact (de_sumL (by rfl) (by rfl) T.z_sum (by refine db_f ?_; exact (df_comp (N' := ["kind"]) (cap := []) rfl cmp_mk (di_seq (by refine de_f ?_; exact (df_call (ok_within T) (hr.mono (by decide)) (by rfl) T.d_within.m T.d_within.F.kp T.d_within.b (da_cons (de_var 0 (pv 0)) da_nil (hs := stName))))) (fun _ _ _ _ => (dg_name 0 (show (["kind"] : List Str).Nodup by decide +kernel))) (fun _ _ _ _ => by exact (de_call (ok_own_parts T) (hr.mono (by decide)) (by rfl) T.d_own_parts.m T.d_own_parts.F.kp T.d_own_parts.b (by refine da_cons ?_ ?_; exact (de_var 0 (pv 0)); exact da_nil))) 1)))))
theorem sc_own_numbers : FnScope ["kind"] ["kind"] (defScope (top 7)) := ⟨rfl, rfl, rfl, by decide +kernel, rfl, by decide +kernel, by decide +kernel⟩
theorem ok_own_numbers (T : Txt K mg) : Ok P w base T.d_own_numbers 2 1 F_own_numbers := by
  refine fn_d T.d_own_numbers.F sc_own_numbers 1 1 rfl rfl (g := g_own_numbers) (fun cdv A outer s H E hr => ?_)
  unfold g_own_numbers
  exact (by refine ds_cons ?_ ?_; exact (ds_if (dt_cmp (op_eqA hr.units0) od_eqA (de_ix (de_var 0 (pv 0)) de_int) (de_str (s := [118, 97, 114]) (by rfl)) (nomark _)) (by refine ds_one ?_; exact (by refine ds_ret ?_; exact (by refine de_f ?_; exact (by refine df_lst ?_; exact (da_cons (de_ix (de_var 0 (pv 0)) de_int) da_nil (hs := stSub)))))) ds_nil); exact (by refine ds_cons ?_ ?_; exact (ds_if (dt_w (dw_and (dt_tru (de_call (ok_has_row T) (hr.mono (by decide)) (by rfl) T.d_has_row.m T.d_has_row.F.kp T.d_has_row.b (da_cons (de_var 0 (pv 0)) da_nil (hs := stName)))) (dw_and1 (dt_cmp op_notN od_notN (de_ix (de_ix (de_var 0 (pv 0)) de_int) de_int) de_non (nomark _))))) (by refine ds_one ?_; exact (by refine ds_ret ?_; exact (by refine de_f ?_; exact (by refine df_lst ?_; exact (da_cons (de_ix (de_ix (de_var 0 (pv 0)) de_int) de_int) da_nil (hs := stSub)))))) ds_nil); exact (by refine ds_one ?_; exact (by refine ds_ret ?_; exact (by refine de_f ?_; exact (by refine df_lst ?_; exact da_nil))))))
theorem sc_numbers : FnScope ["K", "found", "waiting", "part"] ["K"] (defScope (top 6)) := ⟨rfl, rfl, rfl, by decide +kernel, rfl, by decide +kernel, by decide +kernel⟩
theorem ok_numbers (T : Txt K mg) : Ok P w base T.d_numbers 3 1 F_numbers := by
  refine fn_d T.d_numbers.F sc_numbers 1 4 rfl rfl (g := g_numbers) (fun cdv A outer s H E hr => ?_)
  unfold g_numbers
  exact (by refine ds_cons ?_ ?_; exact (ds_ownD 1 fd_nil sc_numbers.nd); exact (by refine ds_cons ?_ ?_; exact (ds_own 2 (by refine df_lst ?_; exact (da_cons (de_var 0 (pv 0)) da_nil (hs := stName))) sc_numbers.nd); exact (by refine ds_cons ?_ ?_; exact (ds_while WF PassesOwn.never (dt_truB (db_own 2 (pv 2))) (by refine ds_cons ?_ ?_; exact (ds_setX 3 (dx_pop 2 (pv 2)) sc_numbers.nd); exact (by refine ds_one ?_; exact (ds_if (dt_tru (de_isinst (by rfl) T.z_isinstance (de_var 3 (pv 3)) (pe_bltn (by rfl) T.z_int boot_int rfl))) (by refine ds_one ?_; exact (by refine ds_dput 1 (un1 hr) (pv 1) ?_ ?_; exact (de_var 3 (pv 3)); exact de_bl)) (by refine ds_one ?_; exact (ds_x (dx_extend 2 (pv 2) (de_rev (de_bin op_plus od_plus (de_call (ok_straight_in T) (hr.mono (by decide)) (by rfl) T.d_straight_in.m T.d_straight_in.F.kp T.d_straight_in.b (da_cons (de_var 3 (pv 3)) da_nil (hs := stName))) (de_call (ok_own_numbers T) (hr.mono (by decide)) (by rfl) T.d_own_numbers.m T.d_own_numbers.F.kp T.d_own_numbers.b (da_cons (de_var 3 (pv 3)) da_nil (hs := stName)))))))))))); exact (by refine ds_one ?_; exact (ds_retF (df_keys 1 rfl (by rfl) T.z_list (pv 1)))))))
theorem sc__law_whole : FnScope ["_law_found"] ["_law_found"] (defScope (top 9)) := ⟨rfl, rfl, rfl, by decide +kernel, rfl, by decide +kernel, by decide +kernel⟩
theorem ok__law_whole (T : Txt K mg) : Ok P w base T.d__law_whole 1 1 F__law_whole := by
  refine fn_d T.d__law_whole.F sc__law_whole 1 1 rfl rfl (g := g__law_whole) (fun cdv A outer s H E hr => ?_)
  unfold g__law_whole
  exact (by refine ds_one ?_; exact (by refine ds_ret ?_; exact (de_and (de_isinst (by rfl) T.z_isinstance (de_var 0 (pv 0)) (pe_bltn (by rfl) T.z_int boot_int rfl)) (de_one (de_not (de_isinst (by rfl) T.z_isinstance (de_var 0 (pv 0)) (pe_bltn (by rfl) T.z_bool boot_bool rfl)))))))
theorem sc__law_cell_at : FnScope ["_law_script", "_law_k"] ["_law_script", "_law_k"] (defScope (top 10)) := ⟨rfl, rfl, rfl, by decide +kernel, rfl, by decide +kernel, by decide +kernel⟩
theorem ok__law_cell_at (T : Txt K mg) : Ok P w base T.d__law_cell_at 1 2 F__law_cell_at := by
  refine fn_d T.d__law_cell_at.F sc__law_cell_at 2 2 rfl rfl (g := g__law_cell_at) (fun cdv A outer s H E hr => ?_)
  unfold g__law_cell_at
  exact (by refine ds_cons ?_ ?_; exact (ds_if (dt_cmp op_ltA od_ltA (de_var 1 (pv 1)) (de_len (by rfl) T.z_len (de_var 0 (pv 0))) (nomark _)) (by refine ds_one ?_; exact (by refine ds_ret ?_; exact (de_ix (de_var 0 (pv 0)) (de_var 1 (pv 1))))) ds_nil); exact (by refine ds_one ?_; exact (by refine ds_ret ?_; exact de_int)))
theorem sc__law_mixed : FnScope ["_law_cell", "_law_k", "_law_big", "_law_number"] ["_law_cell", "_law_k"] (defScope (top 11)) := ⟨rfl, rfl, rfl, by decide +kernel, rfl, by decide +kernel, by decide +kernel⟩
theorem ok__law_mixed (T : Txt K mg) : Ok P w base T.d__law_mixed 1 2 F__law_mixed := by
  refine fn_d T.d__law_mixed.F sc__law_mixed 2 4 rfl rfl (g := g__law_mixed) (fun cdv A outer s H E hr => ?_)
  unfold g__law_mixed
  exact (by refine ds_cons ?_ ?_; exact (ds_set 2 (de_bin op_plus od_plus (de_bin op_pow od_pow de_int de_int) de_int) sc__law_mixed.nd); exact (by refine ds_cons ?_ ?_; exact (ds_set 3 (de_bin op_mulB od_mulB (de_bin op_mod od_mod (de_var 0 (pv 0)) (de_var 2 (pv 2))) de_int) sc__law_mixed.nd); exact (by refine ds_cons ?_ ?_; exact (ds_set 3 (de_bin op_plus od_plus (de_var 3 (pv 3)) (de_bin op_mulB od_mulB (de_bin op_mul od_mul (de_var 1 (pv 1)) (de_var 1 (pv 1))) de_int)) sc__law_mixed.nd); exact (by refine ds_one ?_; exact (by refine ds_ret ?_; exact (de_bin op_mod od_mod (de_bin op_plus od_plus (de_var 3 (pv 3)) de_int) (de_var 2 (pv 2))))))))
theorem sc__law_labels : FnScope ["_law_number", "_law_letters", "_law_kept", "_law_long", "_law_place", "_law_rest", "_law_base", "_law_k", "_law_found", "_law_sign", "_law_word"] ["_law_number"] (defScope (top 12)) := ⟨rfl, rfl, rfl, by decide +kernel, rfl, by decide +kernel, by decide +kernel⟩
theorem ok__law_labels (T : Txt K mg) : Ok P w base T.d__law_labels 1 1 F__law_labels := by
  refine fn_d T.d__law_labels.F sc__law_labels 1 11 rfl rfl (g := g__law_labels) (fun cdv A outer s H E hr => ?_)
  unfold g__law_labels
  exact (by refine ds_cons ?_ ?_; exact (ds_set 1 (de_str (s := [97, 98, 99, 100, 101, 102, 103, 104, 105, 106, 107, 108, 109, 110, 111, 112, 113, 114, 115, 116, 117, 118, 119, 120, 121, 122]) (by rfl)) sc__law_labels.nd); exact (by refine ds_cons ?_ ?_; exact (by refine ds_set 2 ?_ ?_ ?_ ?_ ?_ ?_; exact (by refine de_f ?_; exact (by refine df_lst ?_; exact (by refine da_strs (ss := [[100, 101, 102], [102, 110], [100, 111], [101, 109, 112, 116, 121], [103, 101, 116], [119, 105, 116, 104], [112, 117, 116], [108, 101, 115, 115], [116, 97, 103], [119, 105, 100, 101], [99, 97, 115, 101], [110, 101, 118, 101, 114], [105, 102]]) ?_; rfl))); exact (id sc__law_labels.nd); rfl; (first | exact Or.inl rfl | exact Or.inr rfl); rfl; (first | exact Or.inl rfl | exact Or.inr rfl)); exact (by refine ds_cons ?_ ?_; exact (ds_set 3 (de_bin op_plus od_plus de_int (de_bin op_mod od_mod (de_var 0 (pv 0)) de_int)) sc__law_labels.nd); exact (by refine ds_cons ?_ ?_; exact (ds_set 4 (de_bin op_mod od_mod (de_bin op_fdiv od_fdiv (de_var 0 (pv 0)) de_int) (de_var 3 (pv 3))) sc__law_labels.nd); exact (by refine ds_cons ?_ ?_; exact (ds_set 5 (de_bin op_fdiv od_fdiv (de_var 0 (pv 0)) de_int) sc__law_labels.nd); exact (by refine ds_cons ?_ ?_; exact (ds_set 6 (de_str (s := []) (by rfl)) sc__law_labels.nd); exact (by refine ds_cons ?_ ?_; exact (ds_for PassesOwn.never rfl (di_rng1 (by rfl) T.z_range de_int) (dg_name 7 sc__law_labels.nd) (by refine ds_cons ?_ ?_; exact (ds_set 6 (de_bin op_plus od_plus (de_var 6 (pv 6)) (de_ix (de_var 1 (pv 1)) (de_bin op_mod od_mod (de_var 5 (pv 5)) de_int))) sc__law_labels.nd); exact (by refine ds_one ?_; exact (ds_set 5 (de_bin op_fdiv od_fdiv (de_var 5 (pv 5)) de_int) sc__law_labels.nd)))); exact (by refine ds_cons ?_ ?_; exact (ds_own 8 (by refine df_lst ?_; exact da_nil) sc__law_labels.nd); exact (by refine ds_cons ?_ ?_; exact (ds_for PassesOwn.never rfl (di_rng1 (by rfl) T.z_range de_int) (dg_name 7 sc__law_labels.nd) (by refine ds_cons ?_ ?_; exact (ds_set 9 (de_ix (de_var 1 (pv 1)) (de_bin op_mod od_mod (de_bin op_plus od_plus (de_var 5 (pv 5)) (de_bin op_mul od_mul de_int (de_var 7 (pv 7)))) de_int)) sc__law_labels.nd); exact (by refine ds_cons ?_ ?_; exact (ds_set 10 (de_bin op_plus od_plus (de_bin op_plus od_plus (de_sl (de_var 6 (pv 6)) do_none (do_some (de_var 4 (pv 4)))) (de_var 9 (pv 9))) (de_sl (de_var 6 (pv 6)) (do_some (de_bin op_plus od_plus (de_var 4 (pv 4)) de_int)) (do_some (de_var 3 (pv 3))))) sc__law_labels.nd); exact (by refine ds_cons ?_ ?_; exact (ds_if (dt_cmp (op_eqA hr.units0) od_eqA (de_bin op_mod od_mod (de_bin op_fdiv od_fdiv (de_var 5 (pv 5)) de_int) de_int) de_int (nomark _)) (by refine ds_one ?_; exact (ds_set 10 (de_sl (de_var 6 (pv 6)) do_none (do_some (de_bin op_sub od_sub de_int (de_var 7 (pv 7))))) sc__law_labels.nd)) ds_nil); exact (by refine ds_cons ?_ ?_; exact (ds_if (dt_cmp op_in_seq (od_in false) (de_var 10 (pv 10)) (de_var 2 (pv 2)) rfl) (by refine ds_one ?_; exact (ds_set 10 (de_bin op_mulS od_mulS (de_str (s := [113]) (by rfl)) (de_len (by rfl) T.z_len (de_var 10 (pv 10)))) sc__law_labels.nd)) ds_nil); exact (by refine ds_one ?_; exact (ds_x (dx_append 8 (pv 8) (de_var 10 (pv 10)))))))))); exact (by refine ds_one ?_; exact (ds_retOwn 8 (pv 8))))))))))))
theorem sc__law_leaf : FnScope ["_law_number", "_law_base", "_law_place"] ["_law_number", "_law_base"] (defScope (top 13)) := ⟨rfl, rfl, rfl, by decide +kernel, rfl, by decide +kernel, by decide +kernel⟩
theorem ok__law_leaf (T : Txt K mg) : Ok P w base T.d__law_leaf 1 2 F__law_leaf := by
  refine fn_d T.d__law_leaf.F sc__law_leaf 2 3 rfl rfl (g := g__law_leaf) (fun cdv A outer s H E hr => ?_)
  unfold g__law_leaf
  exact (by refine ds_cons ?_ ?_; exact (ds_if (dt_cmp (op_eqA hr.units0) od_eqA (de_bin op_mod od_mod (de_var 0 (pv 0)) de_int) de_int (nomark _)) (by refine ds_one ?_; exact (by refine ds_ret ?_; exact (by refine de_f ?_; exact (by refine df_lst ?_; exact (by refine da_cons (by refine de_tup ?_; exact (da_cons (de_str (s := [110, 117, 109]) (by rfl)) da_nil (hs := stConst))) ?_ (hs := stTuple); refine da_cons de_int ?_ (hs := stConst); refine da_cons (by refine de_f ?_; exact (by refine df_lst ?_; exact da_nil)) ?_ (hs := stList); exact da_nil))))) ds_nil); exact (by refine ds_cons ?_ ?_; exact (ds_set 2 (de_bin op_plus od_plus (de_var 1 (pv 1)) (de_bin op_mul od_mul de_int (de_bin op_mod od_mod (de_bin op_fdiv od_fdiv (de_var 0 (pv 0)) de_int) de_int))) sc__law_leaf.nd); exact (by refine ds_one ?_; exact (by refine ds_ret ?_; exact (by refine de_f ?_; exact (by refine df_lst ?_; exact (by refine da_cons (by refine de_tup ?_; exact (by refine da_cons (de_str (s := [118, 97, 114]) (by rfl)) ?_ (hs := stConst); refine da_cons (de_var 2 (pv 2)) ?_ (hs := stName); exact da_nil)) ?_ (hs := stTuple); refine da_cons de_int ?_ (hs := stConst); refine da_cons (by refine de_f ?_; exact (by refine df_lst ?_; exact (da_cons (de_var 2 (pv 2)) da_nil (hs := stName)))) ?_ (hs := stList); exact da_nil)))))))
theorem sc__law_of_fields : FnScope ["_law_pile", "_law_number", "_law_labels_here", "_law_word", "_law_tail", "_law_many", "_law_pieces", "_law_k", "_law_count", "_law_order", "_law_label", "_law_piece"] ["_law_pile", "_law_number", "_law_labels_here", "_law_word", "_law_tail"] (defScope (top 14)) := ⟨rfl, rfl, rfl, by decide +kernel, rfl, by decide +kernel, by decide +kernel⟩
theorem ok__law_of_fields (T : Txt K mg) : Ok P w base T.d__law_of_fields 4 5 F__law_of_fields := by
  refine fn_dC T.d__law_of_fields.F sc__law_of_fields 5 12 rfl rfl (g := g__law_of_fields) (fun cdv hcd A outer s H E hr => ?_)
  obtain ⟨c0, rfl, hT⟩ := T.lam cdv hcd
  unfold g__law_of_fields
  exact (by refine ds_cons ?_ ?_; exact (ds_set 5 (de_min (by rfl) (by rfl) T.z_min (by refine da_cons (de_lenB (by rfl) T.z_len (db_own 0 (pv 0))) ?_ (hs := stCall); refine da_cons (de_bin op_mod od_mod (de_var 1 (pv 1)) de_int) ?_ (hs := stBin); exact da_nil)) sc__law_of_fields.nd); exact (by refine ds_cons ?_ ?_; exact (ds_own 6 (by refine df_lst ?_; exact da_nil) sc__law_of_fields.nd); exact (by refine ds_cons ?_ ?_; exact (ds_for PassesOwn.never rfl (di_rng1 (by rfl) T.z_range (de_var 5 (pv 5))) (dg_name 7 sc__law_of_fields.nd) (by refine ds_one ?_; exact (ds_x (dx_appendX 6 (pv 6) (dx_tup (dxa_cons (de_ix (de_var 2 (pv 2)) (de_bin op_mod od_mod (de_bin op_plus od_plus (de_bin op_fdiv od_fdiv (de_var 1 (pv 1)) de_int) (de_var 7 (pv 7))) de_int)) (dxa_last (dx_pop 0 (pv 0))))))))); exact (by refine ds_cons ?_ ?_; exact (ds_own 6 (df_sortL (k := 0) rfl (Room.in1 (Room.in1 (hr.mono (by decide)))) rfl hT lam_q rfl rfl ⟨rfl, rfl, rfl, by decide +kernel, rfl, by decide +kernel, by decide +kernel⟩ (fun _ _ _ _ => rfl) (fun _ _ _ _ _ _ => de_ix (de_var 0 (pv 0)) de_int) lam_key (by rfl) T.z_sorted (db_own 6 (pv 6))) sc__law_of_fields.nd); exact (by refine ds_cons ?_ ?_; exact (ds_set 8 de_int sc__law_of_fields.nd); exact (by refine ds_cons ?_ ?_; exact (ds_set 9 (by refine de_f ?_; exact (by refine df_lst ?_; exact da_nil)) sc__law_of_fields.nd); exact (by refine ds_cons ?_ ?_; exact (ds_z 6 (ds_for PassesOwn.never rfl (di_k (dk_z 6 (pv 6))) (dg_seq rfl (dgs_cons (dg_name 10 sc__law_of_fields.nd) (dgs_cons (dg_name 11 sc__law_of_fields.nd) dgs_nil))) (by refine ds_cons ?_ ?_; exact (ds_set 8 (de_bin op_plus od_plus (de_bin op_plus od_plus (de_var 8 (pv 8)) de_int) (de_ix (de_var 11 (pv 11)) de_int)) sc__law_of_fields.nd); exact (by refine ds_one ?_; exact (ds_set 9 (de_bin op_plus od_plus (de_var 9 (pv 9)) (de_ix (de_var 11 (pv 11)) de_int)) sc__law_of_fields.nd))))); exact (by refine ds_cons ?_ ?_; exact (ds_if (dt_cmp op_notN od_notN (de_var 4 (pv 4)) de_non (nomark _)) (by refine ds_one ?_; exact (ds_set 9 (de_bin op_plus od_plus (de_var 9 (pv 9)) (by refine de_f ?_; exact (by refine df_lst ?_; exact (da_cons (de_var 4 (pv 4)) da_nil (hs := stName))))) sc__law_of_fields.nd)) ds_nil); exact (ds_rel 6 (by refine ds_one ?_; exact (by refine ds_ret ?_; exact (by refine de_f ?_; exact (by refine df_lst ?_; exact (by refine da_cons (by refine de_tup ?_; exact (by refine da_cons (de_var 3 (pv 3)) ?_ (hs := stName); refine da_cons (by refine de_tup ?_; exact (by refine da_cons (de_str (s := [114, 111, 119]) (by rfl)) ?_ (hs := stConst); refine da_cons (de_tupleOf (by rfl) T.z_tuple (by refine db_f ?_; exact (df_comp (N' := ["_law_label", "_law_piece"]) (cap := []) rfl cmp_mk (di_seq (de_var 6 (pv 6))) (fun _ _ _ _ => (dg_seq rfl (dgs_cons (dg_name 0 (show (["_law_label", "_law_piece"] : List Str).Nodup by decide +kernel)) (dgs_cons (dg_name 1 (show (["_law_label", "_law_piece"] : List Str).Nodup by decide +kernel)) dgs_nil)))) (fun _ _ _ _ => by exact (by refine de_tup ?_; exact (by refine da_cons ?_ ?_; exact (de_var 0 (pv 0)); refine da_cons ?_ ?_; exact (by refine de_ix ?_ ?_; exact (de_var 1 (pv 1)); exact de_int); exact da_nil))) 2))) ?_ (hs := stCall); refine da_cons (de_var 4 (pv 4)) ?_ (hs := stName); exact da_nil)) ?_ (hs := stTuple); exact da_nil)) ?_ (hs := stTuple); refine da_cons (de_var 8 (pv 8)) ?_ (hs := stName); refine da_cons (de_var 9 (pv 9)) ?_ (hs := stName); exact da_nil))))))))))))))
theorem sc__law_of_two : FnScope ["_law_one", "_law_other"] ["_law_one", "_law_other"] (defScope (top 15)) := ⟨rfl, rfl, rfl, by decide +kernel, rfl, by decide +kernel, by decide +kernel⟩
theorem ok__law_of_two (T : Txt K mg) : Ok P w base T.d__law_of_two 1 2 F__law_of_two := by
  refine fn_d T.d__law_of_two.F sc__law_of_two 2 2 rfl rfl (g := g__law_of_two) (fun cdv A outer s H E hr => ?_)
  unfold g__law_of_two
  exact (by refine ds_one ?_; exact (by refine ds_ret ?_; exact (by refine de_f ?_; exact (by refine df_lst ?_; exact (by refine da_cons (by refine de_tup ?_; exact (by refine da_cons (de_str (s := [102, 117, 110]) (by rfl)) ?_ (hs := stConst); refine da_cons (de_ix (de_var 0 (pv 0)) de_int) ?_ (hs := stSub); refine da_cons (de_ix (de_var 1 (pv 1)) de_int) ?_ (hs := stSub); exact da_nil)) ?_ (hs := stTuple); refine da_cons (de_bin op_plus od_plus (de_bin op_plus od_plus de_int (de_ix (de_var 0 (pv 0)) de_int)) (de_ix (de_var 1 (pv 1)) de_int)) ?_ (hs := stBin); refine da_cons (de_bin op_plus od_plus (de_ix (de_var 0 (pv 0)) de_int) (de_ix (de_var 1 (pv 1)) de_int)) ?_ (hs := stBin); exact da_nil)))))
theorem sc__law_stepped : FnScope ["_law_pile", "_law_number", "_law_labels_here", "_law_base", "_law_way", "_law_rest", "_law_last", "_law_tail"] ["_law_pile", "_law_number", "_law_labels_here", "_law_base"] (defScope (top 16)) := ⟨rfl, rfl, rfl, by decide +kernel, rfl, by decide +kernel, by decide +kernel⟩
theorem ok__law_stepped (T : Txt K mg) : Ok P w base T.d__law_stepped 5 4 F__law_stepped := by
  refine fn_d T.d__law_stepped.F sc__law_stepped 4 8 rfl rfl (g := g__law_stepped) (fun cdv A outer s H E hr => ?_)
  unfold g__law_stepped
  exact (by refine ds_cons ?_ ?_; exact (ds_set 4 (de_bin op_mod od_mod (de_var 1 (pv 1)) de_int) sc__law_stepped.nd); exact (by refine ds_cons ?_ ?_; exact (ds_set 5 (de_bin op_fdiv od_fdiv (de_var 1 (pv 1)) de_int) sc__law_stepped.nd); exact (by refine ds_one ?_; exact (ds_if (dt_w (dw_and (dt_cmp (op_eqA hr.units0) od_eqA (de_var 4 (pv 4)) de_int (nomark _)) (dw_and1 (dt_cmp op_gt od_gt (de_lenB (by rfl) T.z_len (db_own 0 (pv 0))) de_int (nomark _))))) (by refine ds_cons ?_ ?_; exact (ds_setX 6 (dx_pop 0 (pv 0)) sc__law_stepped.nd); exact (by refine ds_one ?_; exact (ds_x (dx_appendX 0 (pv 0) (dx_callA (ok__law_of_two T) (hr.mono (by decide)) (by rfl) T.d__law_of_two.m T.d__law_of_two.F.kp T.d__law_of_two.b (dxa_mid (dx_pop 0 (pv 0)) (da_cons (de_var 6 (pv 6)) da_nil (hs := stName)))))))) (by refine ds_one ?_; exact (ds_if (dt_cmp op_gt od_gt (de_var 4 (pv 4)) de_int (nomark _)) (by refine ds_cons ?_ ?_; exact (by refine ds_set 7 ?_ ?_ ?_ ?_ ?_ ?_; exact (by refine de_ix ?_ ?_; exact (by refine de_f ?_; exact (by refine df_lst ?_; exact (by refine da_cons de_non ?_ (hs := stConst); refine da_cons de_non ?_ (hs := stConst); refine da_cons (de_bin op_plus od_plus (de_bin op_plus od_plus (de_var 3 (pv 3)) de_int) (de_bin op_mul od_mul de_int (de_bin op_mod od_mod (de_bin op_fdiv od_fdiv (de_var 5 (pv 5)) de_int) de_int))) ?_ (hs := stBin); exact da_nil))); exact (de_bin op_mod od_mod (de_var 5 (pv 5)) de_int)); exact (id sc__law_stepped.nd); rfl; (first | exact Or.inl rfl | exact Or.inr rfl); rfl; (first | exact Or.inl rfl | exact Or.inr rfl)); exact (by refine ds_one ?_; exact (ds_x (dx_appendX 0 (pv 0) (dx_call (ok__law_of_fields T) (hr.mono (by decide)) (by rfl) T.d__law_of_fields.m T.d__law_of_fields.F.kp T.d__law_of_fields.b (dz_p (pv 0) (by refine da_cons ?_ ?_; exact (de_bin op_fdiv od_fdiv (de_var 5 (pv 5)) de_int); refine da_cons ?_ ?_; exact (de_var 2 (pv 2)); refine da_cons ?_ ?_; exact (by refine de_ix ?_ ?_; exact (by refine de_f ?_; exact (by refine df_lst ?_; exact (by refine da_cons (de_str (s := [114, 101, 99]) (by rfl)) ?_ (hs := stConst); refine da_cons (de_str (s := [111, 110, 101]) (by rfl)) ?_ (hs := stConst); exact da_nil))); exact (de_bin op_mod od_mod (de_var 4 (pv 4)) de_int)); refine da_cons ?_ ?_; exact (de_var 7 (pv 7)); exact da_nil))))))) (by refine ds_one ?_; exact (ds_x (dx_append 0 (pv 0) (de_call (ok__law_leaf T) (hr.mono (by decide)) (by rfl) T.d__law_leaf.m T.d__law_leaf.F.kp T.d__law_leaf.b (by refine da_cons (de_var 5 (pv 5)) ?_ (hs := stName); refine da_cons (de_var 3 (pv 3)) ?_ (hs := stName); exact da_nil)))))))))))
theorem sc__law_once : FnScope ["_law_order", "_law_seen", "_law_number"] ["_law_order"] (defScope (top 17)) := ⟨rfl, rfl, rfl, by decide +kernel, rfl, by decide +kernel, by decide +kernel⟩
theorem ok__law_once (T : Txt K mg) : Ok P w base T.d__law_once 1 1 F__law_once := by
  refine fn_d T.d__law_once.F sc__law_once 1 3 rfl rfl (g := g__law_once) (fun cdv A outer s H E hr => ?_)
  unfold g__law_once
  exact (by refine ds_cons ?_ ?_; exact (ds_own 1 (by refine df_lst ?_; exact da_nil) sc__law_once.nd); exact (by refine ds_cons ?_ ?_; exact (ds_for PassesOwn.never rfl (di_seq (de_var 0 (pv 0))) (dg_name 2 sc__law_once.nd) (by refine ds_one ?_; exact (ds_if (dt_notInB (de_var 2 (pv 2)) (db_own 1 (pv 1))) (by refine ds_one ?_; exact (ds_x (dx_append 1 (pv 1) (de_var 2 (pv 2))))) ds_nil))); exact (by refine ds_one ?_; exact (ds_retOwn 1 (pv 1)))))
theorem sc__law_good : FnScope ["_law_piece", "_law_count", "_law_found", "_law_due"] ["_law_piece"] (defScope (top 18)) := ⟨rfl, rfl, rfl, by decide +kernel, rfl, by decide +kernel, by decide +kernel⟩
theorem ok__law_good (T : Txt K mg) : Ok P w base T.d__law_good 25 1 F__law_good := by
  refine fn_d T.d__law_good.F sc__law_good 1 4 rfl rfl (g := g__law_good) (fun cdv A outer s H E hr => ?_)
  unfold g__law_good
  exact (by refine ds_cons ?_ ?_; exact (ds_set 1 (de_call (ok_parts T) (hr.mono (by decide)) (by rfl) T.d_parts.m T.d_parts.F.kp T.d_parts.b (da_cons (de_ix (de_var 0 (pv 0)) de_int) da_nil (hs := stSub))) sc__law_good.nd); exact (by refine ds_cons ?_ ?_; exact (ds_own 2 (df_call (ok_numbers T) (hr.mono (by decide)) (by rfl) T.d_numbers.m T.d_numbers.F.kp T.d_numbers.b (da_cons (de_ix (de_var 0 (pv 0)) de_int) da_nil (hs := stSub))) sc__law_good.nd); exact (by refine ds_cons ?_ ?_; exact (ds_set 3 (by refine de_f ?_; exact (df_call (ok__law_once T) (hr.mono (by decide)) (by rfl) T.d__law_once.m T.d__law_once.F.kp T.d__law_once.b (da_cons (de_ix (de_var 0 (pv 0)) de_int) da_nil (hs := stSub)))) sc__law_good.nd); exact (by refine ds_cons ?_ ?_; exact (ds_if (dt_w (dw_or (dt_not (dt_tru (de_call (ok__law_whole T) (hr.mono (by decide)) (by rfl) T.d__law_whole.m T.d__law_whole.F.kp T.d__law_whole.b (da_cons (de_var 1 (pv 1)) da_nil (hs := stName))))) (dw_or1 (dt_cmp (op_neN (n := 400) (un400 hr (by decide))) od_neN (de_var 1 (pv 1)) (de_ix (de_var 0 (pv 0)) de_int) (nomark _))))) (by refine ds_one ?_; exact (by refine ds_ret ?_; exact de_bl)) ds_nil); exact (by refine ds_cons ?_ ?_; exact (ds_if (dt_ov 2 (dt_w (dw_or (dt_not (dt_tru (de_isinst (by rfl) T.z_isinstance (de_var 2 (pv 2)) (pe_bltn (by rfl) T.z_list boot_list rfl)))) (dw_or (dt_cmp (op_neN (n := 400) (un400 hr (by decide))) od_neN (de_var 2 (pv 2)) (de_var 3 (pv 3)) (nomark _)) (dw_or1 (dt_not (dt_tru (de_all (by rfl) T.z_all (by refine db_f ?_; exact (df_comp (N' := ["_law_number"]) (cap := []) rfl cmp_mk (di_seq (de_var 2 (pv 2))) (fun _ _ _ _ => (dg_name 0 (show (["_law_number"] : List Str).Nodup by decide +kernel))) (fun _ _ _ _ => by exact (de_call (ok__law_whole T) (hr.mono (by decide)) (by rfl) T.d__law_whole.m T.d__law_whole.F.kp T.d__law_whole.b (by refine da_cons ?_ ?_; exact (de_var 0 (pv 0)); exact da_nil))) 1)))))))))) (by refine ds_one ?_; exact (by refine ds_ret ?_; exact de_bl)) ds_nil); exact (by refine ds_cons ?_ ?_; exact (ds_x (dx_append 2 (pv 2) de_int)); exact (by refine ds_one ?_; exact (by refine ds_ret ?_; exact (de_cmp (op_eqN (n := 400) (un400 hr (by decide))) od_eqN (by refine de_f ?_; exact (df_call (ok_numbers T) (hr.mono (by decide)) (by rfl) T.d_numbers.m T.d_numbers.F.kp T.d_numbers.b (da_cons (de_ix (de_var 0 (pv 0)) de_int) da_nil (hs := stSub)))) (de_var 3 (pv 3)) (nomark _))))))))))
theorem sc_law : FnScope ["_law_script", "_law_labels_here", "_law_number", "_law_base", "_law_pile", "_law_k", "_law_cell", "_law_last"] ["_law_script"] (defScope (top 19)) := ⟨rfl, rfl, rfl, by decide +kernel, rfl, by decide +kernel, by decide +kernel⟩
theorem ok_law (T : Txt K mg) : Ok P w base T.d_law 26 1 F_law := by
  refine fn_d T.d_law.F sc_law 1 8 rfl rfl (g := g_law) (fun cdv A outer s H E hr => ?_)
  unfold g_law
  exact (by refine ds_cons ?_ ?_; exact (ds_set 1 (by refine de_f ?_; exact (df_call (ok__law_labels T) (hr.mono (by decide)) (by rfl) T.d__law_labels.m T.d__law_labels.F.kp T.d__law_labels.b (da_cons (de_call (ok__law_mixed T) (hr.mono (by decide)) (by rfl) T.d__law_mixed.m T.d__law_mixed.F.kp T.d__law_mixed.b (by refine da_cons (de_call (ok__law_cell_at T) (hr.mono (by decide)) (by rfl) T.d__law_cell_at.m T.d__law_cell_at.F.kp T.d__law_cell_at.b (by refine da_cons (de_var 0 (pv 0)) ?_ (hs := stName); refine da_cons de_int ?_ (hs := stConst); exact da_nil)) ?_ (hs := stCall); refine da_cons de_int ?_ (hs := stConst); exact da_nil)) da_nil (hs := stCall)))) sc_law.nd); exact (by refine ds_cons ?_ ?_; exact (ds_set 2 (de_call (ok__law_mixed T) (hr.mono (by decide)) (by rfl) T.d__law_mixed.m T.d__law_mixed.F.kp T.d__law_mixed.b (by refine da_cons (de_call (ok__law_cell_at T) (hr.mono (by decide)) (by rfl) T.d__law_cell_at.m T.d__law_cell_at.F.kp T.d__law_cell_at.b (by refine da_cons (de_var 0 (pv 0)) ?_ (hs := stName); refine da_cons de_int ?_ (hs := stConst); exact da_nil)) ?_ (hs := stCall); refine da_cons de_int ?_ (hs := stConst); exact da_nil)) sc_law.nd); exact (by refine ds_cons ?_ ?_; exact (by refine ds_set 3 ?_ ?_ ?_ ?_ ?_ ?_; exact (by refine de_ix ?_ ?_; exact (by refine de_f ?_; exact (by refine df_lst ?_; exact (by refine da_cons de_int ?_ (hs := stConst); refine da_cons (de_bin op_mod od_mod (de_bin op_fdiv od_fdiv (de_var 2 (pv 2)) de_int) (de_bin op_pow od_pow de_int de_int)) ?_ (hs := stBin); exact da_nil))); exact (de_bin op_mod od_mod (de_var 2 (pv 2)) de_int)); exact (id sc_law.nd); rfl; (first | exact Or.inl rfl | exact Or.inr rfl); rfl; (first | exact Or.inl rfl | exact Or.inr rfl)); exact (by refine ds_cons ?_ ?_; exact (ds_own 4 (by refine df_lst ?_; exact da_nil) sc_law.nd); exact (by refine ds_cons ?_ ?_; exact (ds_for PassesOwn.never rfl (di_enum (by rfl) T.z_enumerate (de_sl (de_var 0 (pv 0)) (do_some de_int) (do_some de_int))) (dg_seq rfl (dgs_cons (dg_name 5 sc_law.nd) (dgs_cons (dg_name 6 sc_law.nd) dgs_nil))) (by refine ds_one ?_; exact (ds_x (dx_call (ok__law_stepped T) (hr.mono (by decide)) (by rfl) T.d__law_stepped.m T.d__law_stepped.F.kp T.d__law_stepped.b (dz_p (pv 4) (by refine da_cons (de_call (ok__law_mixed T) (hr.mono (by decide)) (by rfl) T.d__law_mixed.m T.d__law_mixed.F.kp T.d__law_mixed.b (by refine da_cons (de_var 6 (pv 6)) ?_ (hs := stName); refine da_cons (de_bin op_plus od_plus (de_var 5 (pv 5)) de_int) ?_ (hs := stBin); exact da_nil)) ?_ (hs := stCall); refine da_cons (de_var 1 (pv 1)) ?_ (hs := stName); refine da_cons (de_var 3 (pv 3)) ?_ (hs := stName); exact da_nil)))))); exact (by refine ds_cons ?_ ?_; exact (ds_while WF PassesOwn.never (dt_cmp op_gt od_gt (de_lenB (by rfl) T.z_len (db_own 4 (pv 4))) de_int (nomark _)) (by refine ds_cons ?_ ?_; exact (ds_setX 7 (dx_pop 4 (pv 4)) sc_law.nd); exact (by refine ds_one ?_; exact (ds_x (dx_appendX 4 (pv 4) (dx_callA (ok__law_of_two T) (hr.mono (by decide)) (by rfl) T.d__law_of_two.m T.d__law_of_two.F.kp T.d__law_of_two.b (dxa_mid (dx_pop 4 (pv 4)) (da_cons (de_var 7 (pv 7)) da_nil (hs := stName))))))))); exact (by refine ds_one ?_; exact (by refine ds_ret ?_; exact (de_all (by rfl) T.z_all (by refine db_f ?_; exact (df_comp (N' := ["_law_piece"]) (cap := []) rfl cmp_mk (di_seq (by refine de_f ?_; exact (df_cat (db_own 4 (pv 4)) (by refine db_f ?_; exact (by refine df_lst ?_; exact (da_cons (de_call (ok__law_leaf T) (hr.mono (by decide)) (by rfl) T.d__law_leaf.m T.d__law_leaf.F.kp T.d__law_leaf.b (by refine da_cons (de_var 2 (pv 2)) ?_ (hs := stName); refine da_cons (de_var 3 (pv 3)) ?_ (hs := stName); exact da_nil)) da_nil (hs := stCall))))))) (fun _ _ _ _ => (dg_name 0 (show (["_law_piece"] : List Str).Nodup by decide +kernel))) (fun _ _ _ _ => by exact (de_call (ok__law_good T) (hr.mono (by decide)) (by rfl) T.d__law_good.m T.d__law_good.F.kp T.d__law_good.b (by refine da_cons ?_ ?_; exact (de_var 0 (pv 0)); exact da_nil))) 1)))))))))))
end
theorem nott {f : ME} {r : En} {b : Bool} (e : f r = some (.bl b)) : mNotT (mTru f) r = some (!b) := by unfold mNotT mTru; rw [e]; rfl
theorem orT_fx {f g : MB} {r : En} {b : Bool} (e1 : f r = some false) (e2 : g r = some b) : mOrT f g r = some b := by
  unfold mOrT; rw [e1, Option.bind_some, if_neg (by simp), e2]
theorem andT_ff {f g : MB} {r : En} (e1 : f r = some false) : mAndT f g r = some false := by
  unfold mAndT; rw [e1, Option.bind_some, if_neg (by simp)]
theorem andT_tx {f g : MB} {r : En} {b : Bool} (e1 : f r = some true) (e2 : g r = some b) : mAndT f g r = some b := by
  unfold mAndT; rw [e1, Option.bind_some, if_pos rfl, e2]
theorem tru_of {f : ME} {r : En} {b : Bool} (e : f r = some (.bl b)) : mTru f r = some b := by unfold mTru; rw [e]; rfl
theorem comp_go {bd : D → En → Option En} {x : ME} {d y : D} {t out : List D} {r r1 : En} (h : bd d r = some r1) (e : x r1 = some y) (q : compL bd mTrue x t r1 = some out) : compL bd mTrue x (d :: t) r = some (y :: out) := by
  unfold compL
  rw [h, Option.bind_some]
  show (mTrue r1).bind _ = _
  unfold mTrue
  rw [Option.bind_some, if_pos rfl, e, Option.bind_some]
  show (compL bd mTrue x t r1).map _ = _
  rw [q]; rfl
theorem ext_of {i : Nat} {f : ME} {r : En} {S m : List D} {d : D} (e : r[i]? = some (.o S)) (e2 : f r = some d) (e3 : itemsD d = some m) (h : S.length + m.length ≤ sizeLine) : mExt i f r = some (.non, r.set i (.o (S ++ m))) := by
  simp [mExt, mtOf, e, Sl.ml, putO, e2, e3, h]
theorem sSetX_of {i : Nat} {f : En → Option (D × En)} {r r' r2 : En} {d : D} (e : f r = some (d, r')) (e2 : setV i d r' = some r2) : sSetX i f r = some (.nx r2) := by
  unfold sSetX; rw [e]; show (setV i d r').map Fl.nx = _; rw [e2]; rfl
theorem own_true {i : Nat} {r : En} {S : List D} {d : D} (e : r[i]? = some (.o (S ++ [d]))) : mTruB (mOwn i) r = some true := by
  unfold mTruB mOwn
  rw [e]
  show some (!(S ++ [d]).isEmpty) = _
  simp
theorem own_false {i : Nat} {r : En} (e : r[i]? = some (.o [])) : mTruB (mOwn i) r = some false := by
  unfold mTruB mOwn
  rw [e]; rfl
theorem callX0 {n i : Nat} {m : MF} {fs : ML} {r r' : En} {l es l' : List D} {d : D} {as : List Sl} (e1 : mtOf r i = some l) (e2 : fs r = some es) (hl : es.length + 1 = n) (e3 : m (.p l :: es.map .v) = some (.v d, as)) (e4 : as[0]? = some (.p l')) (e5 : putO i l' r = some r') : mCallX n m i (zP fs) r = some (d, r') := by
  unfold mCallX zP
  rw [e1, Option.bind_some, e2, Option.map_some, Option.bind_some, if_pos (by show ([] : List D).length + 1 + es.length = n; rw [List.length_nil]; omega)]
  show (m (zArgs [] l es)).bind _ = _
  rw [show zArgs [] l es = .p l :: es.map Sl.v from rfl, e3, Option.bind_some]
  show (match as[([] : List D).length]? with
    | some (.p l') => (putO i l' r).map fun r' => (d, r')
    | _ => none) = _
  rw [show ([] : List D).length = 0 from rfl, e4]
  show (putO i l' r).map _ = _
  rw [e5]; rfl
theorem mk_rt' {n N : Nat} {s : MS} {as : List Sl} {r' : En} {d : D} (e : s (as ++ List.replicate (N - n) .un) = some (.rt d r')) : mkF n N s as = some (.v d, r'.take n) := by
  unfold mkF; rw [e]; rfl
theorem mk_nx {n N : Nat} {s : MS} {as : List Sl} {r' : En} (e : s (as ++ List.replicate (N - n) .un) = some (.nx r')) : mkF n N s as = some (.v .non, r'.take n) := by
  unfold mkF; rw [e]; rfl
theorem sub_of {f g : ME} {r : En} {i j : Int} (e1 : f r = some (.int i)) (e2 : g r = some (.int j)) : mBin subD f g r = some (.int (i - j)) := bin_of e1 e2 rfl
noncomputable abbrev Ws := List (List Nat)
noncomputable abbrev dw (l : Ws) : List D := l.map D.str
mutual
inductive Kd where
  | num
  | var (n : Int)
  | fn (a b : Kd)
  | rw (o : Bool) (fs : Fs) (tl : Option Int)
inductive Fs where
  | nil
  | cons (l : List Nat) (k : Kd) (r : Fs)
end
noncomputable def sNum : List Nat := [110, 117, 109]
noncomputable def sVar : List Nat := [118, 97, 114]
noncomputable def sFun : List Nat := [102, 117, 110]
noncomputable def sRec : List Nat := [114, 101, 99]
noncomputable def sOne : List Nat := [111, 110, 101]
noncomputable def sRow : List Nat := [114, 111, 119]
noncomputable def wrd (o : Bool) : List Nat := if o then sOne else sRec
noncomputable def tlD : Option Int → D
  | none => .non
  | some i => .int i
mutual
noncomputable def Kd.ds : Kd → D
  | .num => .tup [.str sNum]
  | .var n => .tup [.str sVar, .int n]
  | .fn a b => .tup [.str sFun, a.ds, b.ds]
  | .rw o fs tl => .tup [.str (wrd o), .tup [.str sRow, .tup fs.ds, tlD tl]]
noncomputable def Fs.ds : Fs → List D
  | .nil => []
  | .cons l k r => .tup [.str l, k.ds] :: r.ds
end
noncomputable def Fs.kds : Fs → List Kd
  | .nil => []
  | .cons _ k r => k :: r.kds
noncomputable def Kd.kids : Kd → List Kd
  | .num => []
  | .var _ => []
  | .fn a b => [a, b]
  | .rw _ fs _ => fs.kds
noncomputable def Kd.isRw : Kd → Bool
  | .rw _ _ _ => true
  | _ => false
theorem ds_len : ∀ fs : Fs, fs.ds.length = fs.kds.length
  | .nil => rfl
  | .cons _ _ r => by simp only [Fs.ds, Fs.kds, List.length_cons, ds_len r]
theorem row_eq (k : Kd) : ∃ as, F_has_row [.v k.ds] = some (.v (.bl k.isRw), as) := by
  refine mk_rt (r' := [.v k.ds]) ?_
  show g_has_row [.v k.ds] = _
  unfold g_has_row
  have tp : mTup (mCons (mC (.str [114, 101, 99])) (mCons (mC (.str [111, 110, 101])) mNil)) [.v k.ds] = some (.tup [.str sRec, .str sOne]) := tup_of (cons_of con_of (cons_of con_of nil_of)) (by show 2 ≤ 100; decide)
  cases k with
  | num => exact ret_of (bin_of (bin_of (x := Kd.num.ds) rfl con_of (at_zero _ _)) tp rfl)
  | var n => exact ret_of (bin_of (bin_of (x := (Kd.var n).ds) rfl con_of (at_zero _ _)) tp rfl)
  | fn a b => exact ret_of (bin_of (bin_of (x := (Kd.fn a b).ds) rfl con_of (at_zero _ _)) tp rfl)
  | rw o fs tl => cases o <;> exact ret_of (bin_of (bin_of (x := (Kd.rw _ fs tl).ds) rfl con_of (at_zero _ _)) tp rfl)
theorem comp_kds : ∀ (fs : Fs) (x : Sl), fre x → compL (setV 0) mTrue (mBin ixD (mVar 0) (mC (.int 1))) fs.ds [x] = some (fs.kds.map Kd.ds)
  | .nil, _, _ => rfl
  | .cons l k r, x, hx => comp_go (r1 := [.v (.tup [.str l, k.ds])]) (setV_fre (x := x) rfl hx) (bin_of (x := .tup [.str l, k.ds]) rfl con_of (atI_nat (j := 1) rfl)) (comp_kds r (.v (.tup [.str l, k.ds])) trivial)
theorem straight_eq {k : Kd} (h : k.kids.length ≤ 1000) : ∃ as, F_straight_in [.v k.ds] = some (.v (.lst (k.kids.map Kd.ds)), as) := by
  let R : En := [.v k.ds]
  refine mk_rt (r' := R) ?_
  show g_straight_in R = _
  unfold g_straight_in
  have hd : ∀ (w : List Nat) (l : List D), k.ds = .tup (.str w :: l) → ∀ u : List Nat, mBl (mBin eqA (mBin ixD (mVar 0) (mC (.int 0))) (mC (.str u))) R = some (decide (w = u)) := fun w l e u => bl_of (bin_of (bin_of (x := .tup (.str w :: l)) (by show some k.ds = _; rw [e]) con_of (at_zero _ _)) con_of rfl)
  have hr : mTru (mCall 1 F_has_row (mCons (mVar 0) mNil)) R = some k.isRw := tru_of (call_of (p := .v (.bl k.isRw)) (cons_of rfl nil_of) rfl (row_eq k))
  cases k with
  | num => exact seq_ff (hd sNum [] rfl sFun) (seq_ff hr (ret_of (lstF_of nil_of (by show 0 ≤ 100; decide))))
  | var n => exact seq_ff (hd sVar [.int n] rfl sFun) (seq_ff hr (ret_of (lstF_of nil_of (by show 0 ≤ 100; decide))))
  | fn a b => exact seq_tt (hd sFun [a.ds, b.ds] rfl sFun) (ret_of (lstF_of (cons_of (bin_of (x := (Kd.fn a b).ds) rfl con_of (atI_nat (j := 1) rfl)) (cons_of (bin_of (x := (Kd.fn a b).ds) rfl con_of (atI_nat (j := 2) rfl)) nil_of)) (by show 2 ≤ 100; decide)))
  | rw o fs tl =>
    have e1 : mBl (mBin eqA (mBin ixD (mVar 0) (mC (.int 0))) (mC (.str [102, 117, 110]))) R = some false := (hd (wrd o) [.tup [.str sRow, .tup fs.ds, tlD tl]] rfl sFun).trans (by cases o <;> rfl)
    refine seq_ff e1 (seq_tt hr (ret_of ?_))
    have it : mIt (mBin ixD (mBin ixD (mVar 0) (mC (.int 1))) (mC (.int 1))) R = some fs.ds := by
      unfold mIt
      rw [bin_of (x := .tup [.str sRow, .tup fs.ds, tlD tl]) (bin_of (x := (Kd.rw o fs tl).ds) rfl con_of (atI_nat (j := 1) rfl)) con_of (atI_nat (j := 1) rfl)]; rfl
    have cp : mComp [] 1 (mIt (mBin ixD (mBin ixD (mVar 0) (mC (.int 1))) (mC (.int 1)))) (setV 0) (mBin ixD (mVar 0) (mC (.int 1))) R = some (fs.kds.map Kd.ds) := by
      unfold mComp mCompIf
      rw [it, Option.bind_some, if_pos (by rw [ds_len]; exact Nat.lt_of_le_of_lt h (by decide))]
      exact comp_kds fs .un trivial
    exact congrArg (Option.map D.lst) cp
mutual
noncomputable def Kd.pre : Kd → List Kd
  | .num => [.num]
  | .var n => [.var n]
  | .fn a b => .fn a b :: (a.pre ++ b.pre)
  | .rw o fs tl => .rw o fs tl :: fs.pre
noncomputable def Fs.pre : Fs → List Kd
  | .nil => []
  | .cons _ k r => k.pre ++ r.pre
end
mutual
noncomputable def Kd.wd : Kd → Prop
  | .num => True
  | .var _ => True
  | .fn a b => a.wd ∧ b.wd
  | .rw _ fs _ => fs.kds.length ≤ 8 ∧ fs.wd
noncomputable def Fs.wd : Fs → Prop
  | .nil => True
  | .cons _ k r => k.wd ∧ r.wd
end
theorem kids_len {k : Kd} (h : k.wd) : k.kids.length ≤ 8 := by
  cases k with
  | num => exact Nat.zero_le _
  | var n => exact Nat.zero_le _
  | fn a b => show 2 ≤ 8; decide
  | rw o fs tl => exact h.1
theorem pre_pos (k : Kd) : 1 ≤ k.pre.length := by cases k <;> simp [Kd.pre]
noncomputable def bodyS : MS := (sSeq (sSetX 3 (mPop 2))
 (sSeq (sX (mApp 1 (mVar 3)))
 (sX (mExt 2 (mUn revD (mCall 1 F_straight_in (mCons (mVar 3) mNil)))))))
noncomputable abbrev wS (m : Nat) (E : D) (F S : List D) (x : Sl) : Option Fl := sWhile m (mTruB (mOwn 2)) bodyS [.v E, .o F, .o S, x]
theorem st_kd {E : D} {F S : List D} {x : Sl} {k : Kd} (hx : fre x) (h : k.wd) (hF : F.length ≤ 10000) (hS : S.length ≤ 10000) (m : Nat) : wS (m + 1) E F (S ++ [k.ds]) x = wS m E (F ++ [k.ds]) (S ++ (k.kids.map Kd.ds).reverse) (.v k.ds) := by
  refine while_go (own_true (S := S) (d := k.ds) rfl) ?_
  unfold bodyS
  have hl := kids_len h
  let R1 : En := [.v E, .o F, .o S, .v k.ds]
  let R2 : En := [.v E, .o (F ++ [k.ds]), .o S, .v k.ds]
  have pop : sSetX 3 (mPop 2) [.v E, .o F, .o (S ++ [k.ds]), x] = some (.nx R1) := sSetX_of (pop_of rfl) (setV_fre (x := x) rfl hx)
  have ap : sX (mApp 1 (mVar 3)) R1 = some (.nx R2) := sX_of (d := .non) (app_of rfl rfl (Nat.lt_of_le_of_lt hF (by decide)))
  have cc : mCall 1 F_straight_in (mCons (mVar 3) mNil) R2 = some (.lst (k.kids.map Kd.ds)) := call_of (p := .v (.lst (k.kids.map Kd.ds))) (cons_of rfl nil_of) rfl (straight_eq (by omega))
  refine (seq_of pop).trans ((seq_of ap).trans ?_)
  exact sX_of (d := .non) (ext_of (S := S) (un_of cc rfl) rfl (by rw [List.length_reverse, List.length_map]; exact Nat.le_trans (by omega : _ ≤ 10008) (by decide)) (e := rfl))
mutual
theorem wi_v (E : D) : ∀ (k : Kd), k.wd → ∀ (S F : List D) (x : Sl), fre x → F.length + k.pre.length ≤ 5000 → S.length + k.pre.length ≤ 5000 → ∃ x', fre x' ∧ ∀ m, wS (k.pre.length + m) E F (S ++ [k.ds]) x = wS m E (F ++ k.pre.map Kd.ds) S x'
  | .num, h, S, F, x, hx, hF, hS => by
    simp only [Kd.pre, List.length_cons, List.length_nil] at hF hS
    refine ⟨.v Kd.num.ds, trivial, fun m => ?_⟩
    rw [show Kd.num.pre.length + m = m + 1 by simp [Kd.pre]; omega, st_kd hx h (by omega) (by omega)]
    simp [Kd.pre, Kd.kids]
  | .var n, h, S, F, x, hx, hF, hS => by
    simp only [Kd.pre, List.length_cons, List.length_nil] at hF hS
    refine ⟨.v (Kd.var n).ds, trivial, fun m => ?_⟩
    rw [show (Kd.var n).pre.length + m = m + 1 by simp [Kd.pre]; omega, st_kd hx h (by omega) (by omega)]
    simp [Kd.pre, Kd.kids]
  | .fn a b, h, S, F, x, hx, hF, hS => by
    simp only [Kd.pre, List.length_cons, List.length_append] at hF hS
    have pb := pre_pos b
    obtain ⟨x1, f1, e1⟩ := wi_v E a h.1 (S ++ [b.ds]) (F ++ [(Kd.fn a b).ds]) (.v (Kd.fn a b).ds) trivial (by simp only [List.length_append, List.length_cons, List.length_nil]; omega) (by simp only [List.length_append, List.length_cons, List.length_nil]; omega)
    obtain ⟨x2, f2, e2⟩ := wi_v E b h.2 S (F ++ [(Kd.fn a b).ds] ++ a.pre.map Kd.ds) x1 f1 (by simp only [List.length_append, List.length_cons, List.length_nil, List.length_map]; omega) (by omega)
    refine ⟨x2, f2, fun m => ?_⟩
    rw [show (Kd.fn a b).pre.length + m = (a.pre.length + (b.pre.length + m)) + 1 by simp [Kd.pre]; omega, st_kd hx h (by omega) (by omega)]
    rw [show S ++ ((Kd.fn a b).kids.map Kd.ds).reverse = S ++ [b.ds] ++ [a.ds] by simp [Kd.kids], e1 (b.pre.length + m), e2 m]
    simp [Kd.pre]
  | .rw o fs tl, h, S, F, x, hx, hF, hS => by
    simp only [Kd.pre, List.length_cons] at hF hS
    obtain ⟨x1, f1, e1⟩ := wi_f E fs h.2 S (F ++ [(Kd.rw o fs tl).ds]) (.v (Kd.rw o fs tl).ds) trivial (by simp only [List.length_append, List.length_cons, List.length_nil]; omega) (by omega)
    refine ⟨x1, f1, fun m => ?_⟩
    rw [show (Kd.rw o fs tl).pre.length + m = (fs.pre.length + m) + 1 by simp [Kd.pre]; omega, st_kd hx h (by omega) (by omega)]
    rw [show S ++ ((Kd.rw o fs tl).kids.map Kd.ds).reverse = S ++ (fs.kds.map Kd.ds).reverse from rfl, e1 m]
    simp [Kd.pre]
theorem wi_f (E : D) : ∀ (fs : Fs), fs.wd → ∀ (S F : List D) (x : Sl), fre x → F.length + fs.pre.length ≤ 5000 → S.length + fs.pre.length ≤ 5000 → ∃ x', fre x' ∧ ∀ m, wS (fs.pre.length + m) E F (S ++ (fs.kds.map Kd.ds).reverse) x = wS m E (F ++ fs.pre.map Kd.ds) S x'
  | .nil, h, S, F, x, hx, hF, hS => ⟨x, hx, fun m => by simp [Fs.pre, Fs.kds]⟩
  | .cons l k r, h, S, F, x, hx, hF, hS => by
    simp only [Fs.pre, List.length_append] at hF hS
    have hr : r.kds.length ≤ r.pre.length := kds_le r
    have pk := pre_pos k
    obtain ⟨x1, f1, e1⟩ := wi_v E k h.1 (S ++ (r.kds.map Kd.ds).reverse) F x hx (by omega) (by rw [List.length_append, List.length_reverse, List.length_map]; omega)
    obtain ⟨x2, f2, e2⟩ := wi_f E r h.2 S (F ++ k.pre.map Kd.ds) x1 f1 (by rw [List.length_append, List.length_map]; omega) (by omega)
    refine ⟨x2, f2, fun m => ?_⟩
    rw [show (Fs.cons l k r).pre.length + m = k.pre.length + (r.pre.length + m) by simp [Fs.pre]; omega]
    rw [show S ++ ((Fs.cons l k r).kds.map Kd.ds).reverse = S ++ (r.kds.map Kd.ds).reverse ++ [k.ds] by simp [Fs.kds], e1 (r.pre.length + m), e2 m]
    simp [Fs.pre]
theorem kds_le : ∀ r : Fs, r.kds.length ≤ r.pre.length
  | .nil => Nat.le_refl _
  | .cons _ k r => by have := kds_le r; have := pre_pos k; simp only [Fs.kds, Fs.pre, List.length_cons, List.length_append]; omega
end
theorem within_eq {k : Kd} (h : k.wd) (hs : k.pre.length ≤ 4000) : ∃ as, F_within [.v k.ds] = some (.f (k.pre.map Kd.ds), as) := by
  obtain ⟨x', fx, w⟩ := wi_v k.ds k h [] [] .un trivial (by simp only [List.length_nil]; omega) (by simp only [List.length_nil]; omega)
  have w1 := w (WF - k.pre.length - 1 + 1)
  rw [show k.pre.length + (WF - k.pre.length - 1 + 1) = WF by unfold WF; omega] at w1
  unfold wS at w1
  rw [while_end (own_false (i := 2) (by rfl)), List.nil_append, List.nil_append] at w1
  unfold bodyS at w1
  unfold F_within mkF g_within
  show ∃ as, (sSeq _ _ [.v k.ds, .un, .un, .un]).bind _ = _
  rw [seq_of (r' := [.v k.ds, .o [], .un, .un]) (by rfl), seq_of (r' := [.v k.ds, .o [], .o [k.ds], .un]) (by rfl), seq_of w1]
  exact ⟨_, rfl⟩
theorem big_eq {r : En} : mBin addD (mBin powD (mC (.int 10)) (mC (.int 30))) (mC (.int 57)) r = some (.int 1000000000000000000000000000057) := by rfl
theorem mulB_of {f g : ME} {r : En} {i j : Int} (e1 : f r = some (.int i)) (e2 : g r = some (.int j)) (h : i.natAbs < 2 ^ 1000 ∧ j.natAbs < 2 ^ 1000) : mBin mulB f g r = some (.int (i * j)) := bin_of e1 e2 (if_pos h)
theorem small1000 {n : Nat} (h : n < 2 ^ 200) : n < 2 ^ 1000 := Nat.lt_of_lt_of_le h (by decide +kernel)
theorem mixed_eq (c : Int) {k : Int} (h0 : 0 ≤ k) (h1 : k ≤ 1000) : ∃ n : Int, 0 ≤ n ∧ ∃ as, F__law_mixed [.v (.int c), .v (.int k)] = some (.v (.int n), as) := by
  let B : Int := 1000000000000000000000000000057
  let m1 : Int := c % B * 271828182845904523536028747135
  let m2 : Int := m1 + k * k * 314159265358979323846264338327
  have hb : 0 ≤ c % B ∧ c % B < B := ⟨Int.emod_nonneg _ (by decide), Int.emod_lt_of_pos _ (by decide)⟩
  have hcb : (c % B).natAbs < 2 ^ 200 := by have h2 : c % B < 1000000000000000000000000000057 := hb.2; omega
  have hkk : 0 ≤ k * k ∧ k * k ≤ 1000000 := ⟨Int.mul_nonneg h0 h0, by
    have := Int.mul_le_mul h1 h1 h0 (by omega)
    omega⟩
  refine ⟨(m2 + 577215664901532860606512090082) % B, Int.emod_nonneg _ (by decide), mk_rt (r' := [.v (.int c), .v (.int k), .v (.int B), .v (.int m2)]) ?_⟩
  show g__law_mixed [.v (.int c), .v (.int k), .un, .un] = _
  unfold g__law_mixed
  refine seq_set (r2 := [.v (.int c), .v (.int k), .v (.int B), .un]) (.int B) big_eq rfl ?_
  refine seq_set (r2 := [.v (.int c), .v (.int k), .v (.int B), .v (.int m1)]) (.int m1) (mulB_of (mod_of (i := c) (j := B) rfl rfl (by decide)) con_of ⟨small1000 hcb, small1000 (by decide)⟩) rfl ?_
  refine seq_set (r2 := [.v (.int c), .v (.int k), .v (.int B), .v (.int m2)]) (.int m2) (add_of rfl (mulB_of (mul_of (i := k) (j := k) rfl rfl (by omega)) con_of ⟨small1000 (by omega), small1000 (by decide)⟩)) rfl ?_
  exact ret_of (mod_of (add_of rfl con_of) rfl (by decide))
theorem cell_eq (ns : List Int) (k : Nat) : ∃ as, F__law_cell_at [.v (.lst (ns.map D.int)), .v (.int (k : Int))] = some (.v (.int (ns.getD k 0)), as) := by
  let R : En := [.v (.lst (ns.map D.int)), .v (.int (k : Int))]
  refine mk_rt (r' := R) ?_
  show g__law_cell_at R = _
  unfold g__law_cell_at
  have c0 : mBl (mBin ltA (mVar 1) (mUn lenD (mVar 0))) R = some (decide (k < ns.length)) := (bl_of (bin_of (x := .int (k : Int)) (y := .int (ns.length : Int)) (d := .bl (decide ((k : Int) < (ns.length : Int)))) rfl (un_of (x := .lst (ns.map D.int)) rfl (by show some (D.int ((ns.map D.int).length : Int)) = _; rw [List.length_map])) rfl)).trans (by congr 1; rw [decide_eq_decide]; omega)
  by_cases h : k < ns.length
  · refine seq_tt (c0.trans (by rw [decide_eq_true h])) (ret_of (bin_of (x := .lst (ns.map D.int)) rfl rfl ?_))
    rw [List.getD_eq_getElem?_getD, List.getElem?_eq_getElem h]
    exact atI_nat (by simp [h])
  · refine seq_ff (c0.trans (by rw [decide_eq_false h])) (ret_of ?_)
    rw [List.getD_eq_getElem?_getD, List.getElem?_eq_none (by omega)]; rfl
noncomputable def kept : Ws := [[100, 101, 102], [102, 110], [100, 111], [101, 109, 112, 116, 121], [103, 101, 116], [119, 105, 116, 104], [112, 117, 116], [108, 101, 115, 115], [116, 97, 103], [119, 105, 100, 101], [99, 97, 115, 101], [110, 101, 118, 101, 114], [105, 102]]
theorem kept_noq : ∀ u ∈ kept, 113 ∉ u ∧ 2 ≤ u.length ∧ u.length ≤ 5 := by decide
theorem kept_one : ∀ u ∈ kept, ∀ v ∈ kept, u.length = v.length → ∀ p, p < 5 → u.take p = v.take p → u.drop (p + 1) = v.drop (p + 1) → u = v := by decide +kernel
noncomputable def red (w : List Nat) : List Nat := if w ∈ kept then List.replicate w.length 113 else w
theorem red_len (w : List Nat) : (red w).length = w.length := by
  unfold red; split
  · rw [List.length_replicate]
  · rfl
theorem red_low {w : List Nat} (h : ∀ c ∈ w, 97 ≤ c ∧ c ≤ 122) : ∀ c ∈ red w, 97 ≤ c ∧ c ≤ 122 := fun c hc => by
  unfold red at hc; split at hc
  · rw [(List.mem_replicate.mp hc).2]; decide
  · exact h c hc
noncomputable def wat (B : List Nat) (pl lg s : Nat) : List Nat := B.take pl ++ [s] ++ (B.take lg).drop (pl + 1)
theorem wat_parts {B : List Nat} {pl lg : Nat} (h8 : B.length = 8) (h1 : pl < lg) (h2 : lg ≤ 8) (s : Nat) : (wat B pl lg s).length = lg ∧ (wat B pl lg s).take pl = B.take pl ∧ (wat B pl lg s).drop (pl + 1) = (B.take lg).drop (pl + 1) := by
  have l1 : (B.take pl).length = pl := by rw [List.length_take]; omega
  have l2 : (B.take pl ++ [s]).length = pl + 1 := by rw [List.length_append, l1]; rfl
  unfold wat
  refine ⟨?_, ?_, ?_⟩
  · rw [List.length_append, l2, List.length_drop, List.length_take]; omega
  · rw [List.append_assoc, List.take_left' l1]
  · rw [List.drop_left' l2]
theorem wat_inj {B : List Nat} {pl lg s s' : Nat} (e : wat B pl lg s = wat B pl lg s') : s = s' := by
  unfold wat at e
  have := (List.append_inj e (by simp)).1
  have := (List.append_inj this rfl).2
  exact (List.cons.inj this).1
theorem one_kept {B : List Nat} {pl lg s s' : Nat} (h8 : B.length = 8) (h1 : pl < lg) (h2 : lg ≤ 8) (hk : wat B pl lg s ∈ kept) (e : List.replicate lg 113 = wat B pl lg s') : False := by
  have n := kept_noq _ hk
  have p := wat_parts h8 h1 h2 s
  have p' := wat_parts h8 h1 h2 s'
  rw [p.1] at n
  have all : ∀ x ∈ wat B pl lg s', x = 113 := fun x hx => by rw [← e] at hx; exact (List.mem_replicate.mp hx).2
  rcases Nat.eq_zero_or_pos pl with z | z
  · subst z
    have hne : ((B.take lg).drop 1) ≠ [] := List.ne_nil_of_length_pos (by rw [List.length_drop, List.length_take]; omega)
    obtain ⟨x, hx⟩ := List.exists_mem_of_ne_nil _ hne
    have := all x (by unfold wat; exact List.mem_append_right _ hx)
    subst this
    exact n.1 (by unfold wat; exact List.mem_append_right _ hx)
  · have hne : B.take pl ≠ [] := List.ne_nil_of_length_pos (by rw [List.length_take]; omega)
    obtain ⟨x, hx⟩ := List.exists_mem_of_ne_nil _ hne
    have := all x (by unfold wat; exact List.mem_append_left _ (List.mem_append_left _ hx))
    subst this
    exact n.1 (by unfold wat; exact List.mem_append_left _ (List.mem_append_left _ hx))
theorem red_wat {B : List Nat} {pl lg s s' : Nat} (h8 : B.length = 8) (h1 : pl < lg) (h2 : lg ≤ 8) (hs : s ≠ s') : red (wat B pl lg s) ≠ red (wat B pl lg s') := fun e => by
  have p := wat_parts h8 h1 h2 s
  have p' := wat_parts h8 h1 h2 s'
  unfold red at e
  rw [p.1, p'.1] at e
  by_cases c : wat B pl lg s ∈ kept
  · rw [if_pos c] at e
    by_cases c' : wat B pl lg s' ∈ kept
    · have n := kept_noq _ c
      rw [p.1] at n
      exact hs (wat_inj (kept_one _ c _ c' (by rw [p.1, p'.1]) pl (by omega) (by rw [p.2.1, p'.2.1]) (by rw [p.2.2, p'.2.2])))
    · rw [if_neg c'] at e
      exact one_kept h8 h1 h2 c e
  · rw [if_neg c] at e
    by_cases c' : wat B pl lg s' ∈ kept
    · rw [if_pos c'] at e
      exact one_kept h8 h1 h2 c' e.symm
    · rw [if_neg c'] at e
      exact hs (wat_inj e)
noncomputable def ltr : List Nat := [97, 98, 99, 100, 101, 102, 103, 104, 105, 106, 107, 108, 109, 110, 111, 112, 113, 114, 115, 116, 117, 118, 119, 120, 121, 122]
theorem ltr_at : ∀ i, i < 26 → ltr[i]? = some (97 + i) := by decide
theorem modnn (a : Int) : 0 ≤ a % 26 ∧ a % 26 < 26 := ⟨Int.emod_nonneg _ (by decide), Int.emod_lt_of_pos _ (by decide)⟩
noncomputable def chr (a : Int) : Nat := 97 + (a % 26).toNat
theorem chr_ok (a : Int) : 97 ≤ chr a ∧ chr a ≤ 122 := by have := modnn a; unfold chr; omega
theorem chr_of {f g : ME} {r : En} {a : Int} (e1 : f r = some (.str ltr)) (e2 : g r = some (.int a)) : mBin ixD f (mBin modD g (mC (.int 26))) r = some (.str [chr a]) := by
  have q := modnn a
  refine bin_of e1 (y := .int ((a % 26).toNat : Int)) ?_ ?_
  · rw [Int.toNat_of_nonneg q.1]; exact mod_of e2 con_of (by decide)
  · show (if ltr.length ≤ sizeLine then (atI ltr ((a % 26).toNat : Int)).map (fun c => D.str [c]) else none) = _
    rw [if_pos (Nat.le_trans (by decide : ltr.length ≤ 100) (by decide)), atI_nat (ltr_at _ (by omega))]; rfl
noncomputable def body1 : MS := (sSeq (sSet 6 (mBin addD (mVar 6) (mBin ixD (mVar 1) (mBin modD (mVar 5) (mC (.int 26))))))
 (sSet 5 (mBin fdivD (mVar 5) (mC (.int 26)))))
theorem base_loop (N KT LG PL : D) : ∀ (l : List D) (t : List Nat) (q : Int) (x : Sl), fre x → t.length + l.length ≤ 50 → ∃ (t' : List Nat) (q' : Int) (x' : Sl), fre x' ∧ t'.length = l.length ∧ (∀ c ∈ t', 97 ≤ c ∧ c ≤ 122) ∧
    forL (setV 7) body1 l [.v N, .v (.str ltr), .v KT, .v LG, .v PL, .v (.int q), .v (.str t), x, .un, .un, .un] = some (.nx [.v N, .v (.str ltr), .v KT, .v LG, .v PL, .v (.int q'), .v (.str (t ++ t')), x', .un, .un, .un])
  | [], t, q, x, hx, _ => ⟨[], q, x, hx, rfl, by simp, by simp [forL]⟩
  | d :: l, t, q, x, hx, h => by
    rw [List.length_cons] at h
    obtain ⟨t', q', x', fx, hl, hc, ih⟩ := base_loop N KT LG PL l (t ++ [chr q]) (q / 26) (.v d) trivial (by rw [List.length_append]; simp only [List.length_cons, List.length_nil]; omega)
    refine ⟨chr q :: t', q', x', fx, by rw [List.length_cons, List.length_cons, hl], fun c h => ?_, ?_⟩
    · (rcases List.mem_cons.mp h with rfl | h)
      · exact chr_ok q
      · exact hc c h
    · let R : En := [.v N, .v (.str ltr), .v KT, .v LG, .v PL, .v (.int q), .v (.str t), .v d, .un, .un, .un]
      let R2 : En := [.v N, .v (.str ltr), .v KT, .v LG, .v PL, .v (.int q), .v (.str (t ++ [chr q])), .v d, .un, .un, .un]
      let R3 : En := [.v N, .v (.str ltr), .v KT, .v LG, .v PL, .v (.int (q / 26)), .v (.str (t ++ [chr q])), .v d, .un, .un, .un]
      have b : body1 R = some (.nx R3) := by
        unfold body1
        refine (seq_of (r' := R2) (sSet_of (bin_of (x := .str t) rfl (chr_of rfl rfl) (str_add (by show _ + 1 ≤ _; omega))) rfl)).trans ?_
        exact sSet_of (fdiv_of (i := q) rfl con_of (by decide)) rfl
      rw [for_go (r1 := R) (setV_fre (x := x) rfl hx) b, ih, List.append_assoc]; rfl
noncomputable def word (B : List Nat) (pl lg : Nat) (q : Int) (k : Nat) : List Nat := if q / 26 % 4 = 1 then B.take (8 - k) else wat B pl lg (chr (q + 5 * (k : Int)))
noncomputable def body2 : MS := (sSeq (sSet 9 (mBin ixD (mVar 1) (mBin modD (mBin addD (mVar 5) (mBin mulD (mC (.int 5)) (mVar 7))) (mC (.int 26)))))
 (sSeq (sSet 10 (mBin addD (mBin addD (mSl (mVar 6) oNone (oSome (mVar 4))) (mVar 9)) (mSl (mVar 6) (oSome (mBin addD (mVar 4) (mC (.int 1)))) (oSome (mVar 3)))))
 (sSeq (sIf (mBl (mBin eqA (mBin modD (mBin fdivD (mVar 5) (mC (.int 26))) (mC (.int 4))) (mC (.int 1))))
 (sSet 10 (mSl (mVar 6) oNone (oSome (mBin subD (mC (.int 8)) (mVar 7)))))
 sSkip)
 (sSeq (sIf (mBl (mBin (inD false) (mVar 10) (mVar 2)))
 (sSet 10 (mBin mulS (mC (.str [113])) (mUn lenD (mVar 10))))
 sSkip)
 (sX (mApp 8 (mVar 10)))))))
theorem any_eq (t : List Nat) : ∀ ss : Ws, ((ss.map D.str).any fun z => eqF z (.str t)) = decide (t ∈ ss)
  | [] => by simp
  | x :: ss => by
    rw [List.map_cons, List.any_cons, any_eq t ss]
    show (decide (x = t) || decide (t ∈ ss)) = _
    by_cases c : x = t
    · subst c; simp
    · have c' : ¬ t = x := fun e => c e.symm
      simp [c, c']
theorem in_of {w : List Nat} {l : Ws} : inD false (.str w) (.lst (dw l)) = some (.bl (decide (w ∈ l))) := by
  show (if flatD (.str w) = true ∧ (l.map D.str).all flatD = true then some (D.bl ((l.map D.str).any fun z => eqF z (.str w))) else none) = _
  rw [if_pos ⟨rfl, by rw [List.all_map, List.all_eq_true]; exact fun _ _ => rfl⟩, any_eq]
theorem len_str {s : List Nat} (h : s.length ≤ 100) : lenD (.str s) = some (.int (s.length : Int)) := if_pos (Nat.le_trans h (by decide))
theorem sl_str {f : ME} {lo hi : MO} {r : En} {s : List Nat} {a b : Option Int} (e1 : f r = some (.str s)) (e2 : lo r = some a) (e3 : hi r = some b) (h : s.length ≤ 100) : mSl f lo hi r = some (.str (cutL s a b)) := sl_of e1 e2 e3 (if_pos (Nat.le_trans h (by decide)))
theorem word_len {B : List Nat} (h8 : B.length = 8) {pl lg : Nat} (h1 : pl < lg) (h2 : lg ≤ 8) (q : Int) (k : Nat) : (word B pl lg q k).length ≤ 8 := by
  unfold word; split
  · rw [List.length_take]; omega
  · rw [(wat_parts h8 h1 h2 _).1]; exact h2
theorem lab_loop (N : D) {B : List Nat} (h8 : B.length = 8) {pl lg : Nat} (h1 : pl < lg) (h2 : lg ≤ 8) (q : Int) : ∀ (n s : Nat) (Fd : List D) (x y z : Sl), fre x → fre y → fre z → s + n ≤ 6 → Fd.length + n ≤ 50 →
    ∃ x' y' z', forL (setV 7) body2 ((List.range' s n).map fun j => D.int ((0 : Int) + (j : Nat))) [.v N, .v (.str ltr), .v (.lst (dw kept)), .v (.int (lg : Int)), .v (.int (pl : Int)), .v (.int q), .v (.str B), x, .o Fd, y, z] = some (.nx [.v N, .v (.str ltr), .v (.lst (dw kept)), .v (.int (lg : Int)), .v (.int (pl : Int)), .v (.int q), .v (.str B), x', .o (Fd ++ (List.range' s n).map fun k => D.str (red (word B pl lg q k))), y', z'])
  | 0, s, Fd, x, y, z, _, _, _, _, _ => ⟨x, y, z, by simp [forL]⟩
  | n + 1, s, Fd, x, y, z, hx, hy, hz, hs, hF => by
    let w := word B pl lg q s
    have wl : w.length ≤ 8 := word_len h8 h1 h2 q s
    obtain ⟨x', y', z', ih⟩ := lab_loop N h8 h1 h2 q n (s + 1) (Fd ++ [.str (red w)]) (.v (.int (s : Int))) (.v (.str [chr (q + 5 * (s : Int))])) (.v (.str (red w))) trivial trivial trivial (by omega) (by rw [List.length_append]; simp only [List.length_cons, List.length_nil]; omega)
    refine ⟨x', y', z', ?_⟩
    rw [List.range'_succ, List.map_cons, List.map_cons, Int.zero_add]
    let fr' : Sl → Sl → Sl → En := fun y z o => [.v N, .v (.str ltr), .v (.lst (dw kept)), .v (.int (lg : Int)), .v (.int (pl : Int)), .v (.int q), .v (.str B), .v (.int (s : Int)), o, y, z]
    let sg : List Nat := [chr (q + 5 * (s : Int))]
    let w0 := wat B pl lg (chr (q + 5 * (s : Int)))
    have e9 : mBin ixD (mVar 1) (mBin modD (mBin addD (mVar 5) (mBin mulD (mC (.int 5)) (mVar 7))) (mC (.int 26))) (fr' y z (.o Fd)) = some (.str sg) := chr_of rfl (add_of rfl (mul_of con_of rfl (by omega)))
    have e10 : mBin addD (mBin addD (mSl (mVar 6) oNone (oSome (mVar 4))) (mVar 9)) (mSl (mVar 6) (oSome (mBin addD (mVar 4) (mC (.int 1)))) (oSome (mVar 3))) (fr' (.v (.str sg)) z (.o Fd)) = some (.str w0) := by
      have a1 : mSl (mVar 6) oNone (oSome (mVar 4)) (fr' (.v (.str sg)) z (.o Fd)) = some (.str (B.take pl)) := by
        rw [← cut_to B pl]
        exact sl_str rfl rfl (osome_of rfl) (by omega)
      have a2 : mSl (mVar 6) (oSome (mBin addD (mVar 4) (mC (.int 1)))) (oSome (mVar 3)) (fr' (.v (.str sg)) z (.o Fd)) = some (.str ((B.take lg).drop (pl + 1))) := by
        rw [← cut_mid B (pl + 1) lg, Int.natCast_add]
        exact sl_str rfl (osome_of (add_of rfl con_of)) (osome_of rfl) (by omega)
      exact bin_of (bin_of a1 rfl (str_add (by rw [List.length_take]; show _ + 1 ≤ _; omega))) a2 (str_add (by rw [List.length_append, List.length_drop, List.length_take, List.length_take]; show _ + 1 + _ ≤ _; omega))
    have c1 : mBl (mBin eqA (mBin modD (mBin fdivD (mVar 5) (mC (.int 26))) (mC (.int 4))) (mC (.int 1))) (fr' (.v (.str sg)) (.v (.str w0)) (.o Fd)) = some (decide (q / 26 % 4 = 1)) := bl_of (bin_of (mod_of (fdiv_of (i := q) rfl con_of (by decide)) con_of (by decide)) con_of rfl)
    have i1 : sIf (mBl (mBin eqA (mBin modD (mBin fdivD (mVar 5) (mC (.int 26))) (mC (.int 4))) (mC (.int 1)))) (sSet 10 (mSl (mVar 6) oNone (oSome (mBin subD (mC (.int 8)) (mVar 7))))) sSkip (fr' (.v (.str sg)) (.v (.str w0)) (.o Fd)) = some (.nx (fr' (.v (.str sg)) (.v (.str w)) (.o Fd))) := by
      by_cases h : q / 26 % 4 = 1
      · rw [sIf_t (c1.trans (by rw [decide_eq_true h]))]
        have ew : w = B.take (8 - s) := if_pos h
        rw [ew]
        refine sSet_of (d := .str (B.take (8 - s))) ?_ rfl
        rw [← cut_to B (8 - s)]
        refine sl_str rfl rfl (osome_of ?_) (by omega)
        rw [show ((8 - s : Nat) : Int) = 8 - (s : Int) by omega]
        exact sub_of con_of rfl
      · have ew : w = w0 := if_neg h
        rw [sIf_f (c1.trans (by rw [decide_eq_false h])), ew]; rfl
    have c2 : mBl (mBin (inD false) (mVar 10) (mVar 2)) (fr' (.v (.str sg)) (.v (.str w)) (.o Fd)) = some (decide (w ∈ kept)) := bl_of (bin_of (x := .str w) (y := .lst (dw kept)) rfl rfl in_of)
    have i2 : sIf (mBl (mBin (inD false) (mVar 10) (mVar 2))) (sSet 10 (mBin mulS (mC (.str [113])) (mUn lenD (mVar 10)))) sSkip (fr' (.v (.str sg)) (.v (.str w)) (.o Fd)) = some (.nx (fr' (.v (.str sg)) (.v (.str (red w))) (.o Fd))) := by
      by_cases h : w ∈ kept
      · rw [sIf_t (c2.trans (by rw [decide_eq_true h]))]
        have ew : red w = List.replicate w.length 113 := if_pos h
        rw [ew]
        refine sSet_of (d := .str (List.replicate w.length 113)) (bin_of con_of (un_of (x := .str w) rfl (len_str (by omega))) ?_) rfl
        show (if (0 : Int) ≤ (w.length : Int) ∧ (w.length : Int) ≤ 1000 then some (D.str (List.replicate (w.length : Int).toNat 113)) else none) = _
        rw [if_pos ⟨by omega, by omega⟩, Int.toNat_natCast]
      · have ew : red w = w := if_neg h
        rw [sIf_f (c2.trans (by rw [decide_eq_false h])), ew]; rfl
    have b : body2 (fr' y z (.o Fd)) = some (.nx (fr' (.v (.str sg)) (.v (.str (red w))) (.o (Fd ++ [.str (red w)])))) := by
      unfold body2
      refine (seq_of (r' := fr' (.v (.str sg)) z (.o Fd)) (sSet_of e9 (setV_fre (x := y) rfl hy))).trans ((seq_of (r' := fr' (.v (.str sg)) (.v (.str w0)) (.o Fd)) (sSet_of e10 (setV_fre (x := z) rfl hz))).trans ((seq_of i1).trans ((seq_of i2).trans ?_)))
      exact sX_of (d := .non) (app_of rfl rfl (Nat.lt_of_le_of_lt (by omega : Fd.length ≤ 50) (by decide)))
    refine (for_go (r1 := fr' y z (.o Fd)) (setV_fre (x := x) rfl hx) b).trans (ih.trans ?_)
    simp [w]
structure LbOk (L : Ws) : Prop where
  len : L.length = 6
  nd : L.Nodup
  low : ∀ l ∈ L, ∀ c ∈ l, 97 ≤ c ∧ c ≤ 122
theorem labels_eq (n : Int) : ∃ L, LbOk L ∧ ∃ as, F__law_labels [.v (.int n)] = some (.f (dw L), as) := by
  have q8 : 0 ≤ n % 8 ∧ n % 8 < 8 := ⟨Int.emod_nonneg _ (by decide), Int.emod_lt_of_pos _ (by decide)⟩
  obtain ⟨lg, elg⟩ : ∃ z : Nat, (z : Int) = 1 + n % 8 := ⟨(1 + n % 8).toNat, Int.toNat_of_nonneg (by omega)⟩
  have qp : 0 ≤ n / 8 % (lg : Int) ∧ n / 8 % (lg : Int) < lg := ⟨Int.emod_nonneg _ (by omega), Int.emod_lt_of_pos _ (by omega)⟩
  obtain ⟨pl, epl⟩ : ∃ z : Nat, (z : Int) = n / 8 % (lg : Int) := ⟨(n / 8 % (lg : Int)).toNat, Int.toNat_of_nonneg qp.1⟩
  have h1 : pl < lg := by omega
  have h2 : lg ≤ 8 := by omega
  let rg : List D := (List.range 8).map fun k => .int ((0 : Int) + (k : Nat))
  obtain ⟨B, q, x1, fx1, hB, cB, lp1⟩ := base_loop (.int n) (.lst (dw kept)) (.int (lg : Int)) (.int (pl : Int)) rg [] (n / 64) .un trivial (by show 0 + 8 ≤ 50; decide)
  have h8 : B.length = 8 := by rw [hB]; rfl
  rw [List.nil_append] at lp1
  obtain ⟨x2, y2, z2, lp2⟩ := lab_loop (.int n) h8 h1 h2 q 6 0 [] x1 .un .un fx1 trivial trivial (by decide) (by decide)
  rw [List.nil_append] at lp2
  let L : Ws := (List.range' 0 6).map fun k => red (word B pl lg q k)
  have eL : ((List.range' 0 6).map fun k => D.str (red (word B pl lg q k))) = dw L := by show _ = L.map D.str; rw [List.map_map]; rfl
  rw [eL] at lp2
  have m6 : ∀ {i : Nat}, i ∈ List.range' 0 6 → i < 6 := fun {i} h => by rw [List.mem_range'_1] at h; omega
  refine ⟨L, ⟨by rw [List.length_map, List.length_range'], ?_, fun l hl c hc => ?_⟩, ?_⟩
  · show List.Pairwise _ _
    rw [List.pairwise_map]
    refine List.Pairwise.imp_of_mem (R := fun i j => i < j) (fun {i j} hi hj hij e => ?_) List.pairwise_lt_range'
    have hi := m6 hi
    have hj := m6 hj
    unfold word at e
    by_cases c : q / 26 % 4 = 1
    · rw [if_pos c, if_pos c] at e
      have := congrArg List.length e
      rw [red_len, red_len, List.length_take, List.length_take] at this
      omega
    · rw [if_neg c, if_neg c] at e
      refine red_wat h8 h1 h2 (fun z => ?_) e
      unfold chr at z
      have a := modnn (q + 5 * (i : Int))
      have b := modnn (q + 5 * (j : Int))
      omega
  · obtain ⟨k, hk, rfl⟩ := List.mem_map.mp hl
    refine red_low (fun c hc => ?_) c hc
    unfold word at hc
    split at hc
    · exact cB c (List.mem_of_mem_take hc)
    · unfold wat at hc
      (rcases List.mem_append.mp hc with hc | hc)
      · rcases List.mem_append.mp hc with hc | hc
        · exact cB c (List.mem_of_mem_take hc)
        · rw [List.mem_singleton.mp hc]; exact chr_ok _
      · exact cB c (List.mem_of_mem_take (List.mem_of_mem_drop hc))
  · let K0 : D := .lst (dw kept)
    let R0 : En := [.v (.int n), .un, .un, .un, .un, .un, .un, .un, .un, .un, .un]
    let R1 : En := [.v (.int n), .v (.str ltr), .un, .un, .un, .un, .un, .un, .un, .un, .un]
    let R2 : En := [.v (.int n), .v (.str ltr), .v K0, .un, .un, .un, .un, .un, .un, .un, .un]
    let R3 : En := [.v (.int n), .v (.str ltr), .v K0, .v (.int (lg : Int)), .un, .un, .un, .un, .un, .un, .un]
    let R4 : En := [.v (.int n), .v (.str ltr), .v K0, .v (.int (lg : Int)), .v (.int (pl : Int)), .un, .un, .un, .un, .un, .un]
    let R5 : En := [.v (.int n), .v (.str ltr), .v K0, .v (.int (lg : Int)), .v (.int (pl : Int)), .v (.int (n / 64)), .un, .un, .un, .un, .un]
    let R6 : En := [.v (.int n), .v (.str ltr), .v K0, .v (.int (lg : Int)), .v (.int (pl : Int)), .v (.int (n / 64)), .v (.str []), .un, .un, .un, .un]
    let R7 : En := [.v (.int n), .v (.str ltr), .v K0, .v (.int (lg : Int)), .v (.int (pl : Int)), .v (.int q), .v (.str B), x1, .un, .un, .un]
    let R8 : En := [.v (.int n), .v (.str ltr), .v K0, .v (.int (lg : Int)), .v (.int (pl : Int)), .v (.int q), .v (.str B), x1, .o [], .un, .un]
    have f1 : sFor (setV 7) (mRng1 (mC (.int 8))) body1 R6 = some (.nx R7) := by
      unfold sFor
      rw [rng_of (n := 8) rfl (by decide), Option.bind_some]
      exact lp1
    have f2 : sFor (setV 7) (mRng1 (mC (.int 6))) body2 R8 = some (.nx [.v (.int n), .v (.str ltr), .v K0, .v (.int (lg : Int)), .v (.int (pl : Int)), .v (.int q), .v (.str B), x2, .o (dw L), y2, z2]) := by
      unfold sFor
      rw [rng_of (n := 6) rfl (by decide), Option.bind_some, List.range_eq_range']
      exact lp2
    unfold body1 at f1
    unfold body2 at f2
    have e : g__law_labels R0 = some (.rf (dw L) [.v (.int n), .v (.str ltr), .v K0, .v (.int (lg : Int)), .v (.int (pl : Int)), .v (.int q), .v (.str B), x2, .o (dw L), y2, z2]) := by
      unfold g__law_labels
      refine seq_set (r2 := R1) (.str ltr) con_of rfl (seq_set (r2 := R2) K0 rfl rfl (seq_set (r2 := R3) (.int (lg : Int)) (by rw [elg]; exact add_of con_of (mod_of rfl con_of (by decide))) rfl ?_))
      refine seq_set (r2 := R4) (.int (pl : Int)) (by rw [epl]; exact mod_of (fdiv_of rfl con_of (by decide)) rfl (by omega)) rfl ?_
      refine seq_set (r2 := R5) (.int (n / 64)) (fdiv_of rfl con_of (by decide)) rfl (seq_set (r2 := R6) (.str []) con_of rfl ?_)
      exact (seq_of f1).trans ((seq_of (r' := R8) rfl).trans ((seq_of f2).trans rfl))
    unfold F__law_labels mkF
    show ∃ as, (g__law_labels R0).bind _ = _
    rw [e]
    exact ⟨_, rfl⟩
noncomputable def tlI : Option Int → List Int
  | none => []
  | some t => [t]
noncomputable def Kd.owns : Kd → List Int
  | .var n => [n]
  | .rw _ _ tl => tlI tl
  | _ => []
theorem owns_eq (k : Kd) : ∃ as, F_own_numbers [.v k.ds] = some (.v (.lst (k.owns.map D.int)), as) := by
  let R : En := [.v k.ds]
  refine mk_rt (r' := R) ?_
  show g_own_numbers R = _
  unfold g_own_numbers
  have hd : ∀ (w : List Nat) (l : List D), k.ds = .tup (.str w :: l) → ∀ u : List Nat, mBl (mBin eqA (mBin ixD (mVar 0) (mC (.int 0))) (mC (.str u))) R = some (decide (w = u)) := fun w l e u => bl_of (bin_of (bin_of (x := .tup (.str w :: l)) (by show some k.ds = _; rw [e]) con_of (at_zero _ _)) con_of rfl)
  have hr : mTru (mCall 1 F_has_row (mCons (mVar 0) mNil)) R = some k.isRw := tru_of (call_of (p := .v (.bl k.isRw)) (cons_of rfl nil_of) rfl (row_eq k))
  cases k with
  | num => exact seq_ff (hd sNum [] rfl sVar) (seq_ff (andT_ff hr) (ret_of (lstF_of nil_of (by show 0 ≤ 100; decide))))
  | var n => exact seq_tt (hd sVar [.int n] rfl sVar) (ret_of (lstF_of (cons_of (bin_of (x := (Kd.var n).ds) rfl con_of (atI_nat (j := 1) rfl)) nil_of) (by show 1 ≤ 100; decide)))
  | fn a b => exact seq_ff (hd sFun [a.ds, b.ds] rfl sVar) (seq_ff (andT_ff hr) (ret_of (lstF_of nil_of (by show 0 ≤ 100; decide))))
  | rw o fs tl =>
    have e1 : mBl (mBin eqA (mBin ixD (mVar 0) (mC (.int 0))) (mC (.str [118, 97, 114]))) R = some false := (hd (wrd o) [.tup [.str sRow, .tup fs.ds, tlD tl]] rfl sVar).trans (by cases o <;> rfl)
    have e2 : mBin ixD (mBin ixD (mVar 0) (mC (.int 1))) (mC (.int 2)) R = some (tlD tl) := bin_of (x := .tup [.str sRow, .tup fs.ds, tlD tl]) (bin_of (x := (Kd.rw o fs tl).ds) rfl con_of (atI_nat (j := 1) rfl)) con_of (atI_nat (j := 2) rfl)
    cases tl with
    | none => exact seq_ff e1 (seq_ff (andT_tx hr (bl_of (bin_of e2 con_of rfl))) (ret_of (lstF_of nil_of (by show 0 ≤ 100; decide))))
    | some t => exact seq_ff e1 (seq_tt (andT_tx hr (bl_of (bin_of e2 con_of rfl))) (ret_of (lstF_of (cons_of e2 nil_of) (by show 1 ≤ 100; decide))))
noncomputable def ins (ns : List Int) (n : Int) : List Int := if n ∈ ns then ns else ns ++ [n]
noncomputable def inss (ns : List Int) (o : List Int) : List Int := o.foldl ins ns
theorem inss_app (ns o p : List Int) : inss ns (o ++ p) = inss (inss ns o) p := List.foldl_append
theorem ins_len (ns : List Int) (n : Int) : (ins ns n).length ≤ ns.length + 1 := by
  unfold ins
  split
  · exact Nat.le_succ _
  · rw [List.length_append]; exact Nat.le_refl _
theorem inss_len : ∀ (o ns : List Int), (inss ns o).length ≤ ns.length + o.length
  | [], ns => Nat.le_refl _
  | n :: o, ns => by
    have := inss_len o (ins ns n)
    have := ins_len ns n
    show (inss (ins ns n) o).length ≤ _
    rw [List.length_cons]; omega
noncomputable abbrev keyI (ns : List Int) : List Key := ns.map Sum.inl
theorem put_key (ns : List Int) (l : List D) (n : Int) (d : D) : (putD (keyI ns) l (.inl n) d).1 = keyI (ins ns n) := by
  have e : ((keyI ns).any fun j => decide (j = (Sum.inl n : Key))) = decide (n ∈ ns) := by
    (rw [Bool.eq_iff_iff, List.any_eq_true, decide_eq_true_eq])
    constructor
    · rintro ⟨x, hx, h⟩
      obtain ⟨m, hm, rfl⟩ := List.mem_map.mp hx
      rw [decide_eq_true_eq] at h
      rw [← Sum.inl.inj h]; exact hm
    · exact fun h => ⟨.inl n, List.mem_map_of_mem h, by simp⟩
  unfold putD ins
  rw [e]
  by_cases h : n ∈ ns
  · rw [decide_eq_true h, if_pos rfl, if_pos h]
  · rw [decide_eq_false h, if_neg Bool.false_ne_true, if_neg h]
    show keyI ns ++ [_] = keyI (ns ++ [n])
    rw [show keyI (ns ++ [n]) = keyI ns ++ keyI [n] from List.map_append]; rfl
mutual
noncomputable def Kd.ord : Kd → List Int
  | .num => []
  | .var n => [n]
  | .fn a b => a.ord ++ b.ord
  | .rw _ fs tl => fs.ord ++ tlI tl
noncomputable def Fs.ord : Fs → List Int
  | .nil => []
  | .cons _ k r => k.ord ++ r.ord
end
noncomputable def bodyN : MS := (sSeq (sSetX 3 (mPop 2))
 (sIf (mTru (mUn (instD "int") (mVar 3)))
 (sDSet 1 (mVar 3) (mC (.bl true)))
 (sX (mExt 2 (mUn revD (mBin addD (mCall 1 F_straight_in (mCons (mVar 3) mNil)) (mCall 1 F_own_numbers (mCons (mVar 3) mNil))))))))
noncomputable abbrev wN (m : Nat) (E : D) (ks : List Key) (l S : List D) (x : Sl) : Option Fl := sWhile m (mTruB (mOwn 2)) bodyN [.v E, .d ks l, .o S, x]
theorem owns_len (k : Kd) : k.owns.length ≤ 1 := by
  cases k with
  | rw o fs tl => cases tl <;> first | exact Nat.zero_le _ | exact Nat.le_refl _
  | num => exact Nat.zero_le _
  | var n => exact Nat.le_refl _
  | fn a b => exact Nat.zero_le _
theorem ds_tup (k : Kd) : ∃ l, k.ds = .tup l := by cases k <;> exact ⟨_, rfl⟩
theorem st_kd' {E : D} {ks : List Key} {l S : List D} {x : Sl} {k : Kd} (hx : fre x) (h : k.wd) (hS : S.length ≤ 10000) (m : Nat) : wN (m + 1) E ks l (S ++ [k.ds]) x = wN m E ks l (S ++ ((k.kids.map Kd.ds) ++ (k.owns.map D.int)).reverse) (.v k.ds) := by
  refine while_go (own_true (S := S) (d := k.ds) rfl) ?_
  unfold bodyN
  have hl := kids_len h
  have ho := owns_len k
  let R1 : En := [.v E, .d ks l, .o S, .v k.ds]
  have pop : sSetX 3 (mPop 2) [.v E, .d ks l, .o (S ++ [k.ds]), x] = some (.nx R1) := sSetX_of (pop_of rfl) (setV_fre (x := x) rfl hx)
  have cc : mCall 1 F_straight_in (mCons (mVar 3) mNil) R1 = some (.lst (k.kids.map Kd.ds)) := call_of (p := .v (.lst (k.kids.map Kd.ds))) (cons_of rfl nil_of) rfl (straight_eq (by omega))
  have co : mCall 1 F_own_numbers (mCons (mVar 3) mNil) R1 = some (.lst (k.owns.map D.int)) := call_of (p := .v (.lst (k.owns.map D.int))) (cons_of rfl nil_of) rfl (owns_eq k)
  have ca : mBin addD (mCall 1 F_straight_in (mCons (mVar 3) mNil)) (mCall 1 F_own_numbers (mCons (mVar 3) mNil)) R1 = some (.lst ((k.kids.map Kd.ds) ++ (k.owns.map D.int))) := ladd cc co (by rw [List.length_map, List.length_map]; omega)
  have ci : mTru (mUn (instD "int") (mVar 3)) R1 = some false := by
    obtain ⟨l', e⟩ := ds_tup k
    refine tru_of (un_of (x := .tup l') (by show some k.ds = _; rw [e]) rfl)
  refine (seq_of pop).trans ((sIf_f ci).trans ?_)
  exact sX_of (d := .non) (ext_of (S := S) (un_of ca rfl) rfl (by rw [List.length_reverse, List.length_append, List.length_map, List.length_map]; exact Nat.le_trans (by omega : _ ≤ 10009) (by decide)) (e := rfl))
theorem st_int {E : D} {ns : List Int} {l S : List D} {x : Sl} {n : Int} (hx : fre x) (hk : ns.length ≤ 1000) : ∃ l', ∀ m, wN (m + 1) E (keyI ns) l (S ++ [.int n]) x = wN m E (keyI (ins ns n)) l' S (.v (.int n)) := by
  refine ⟨(putD (keyI ns) l (.inl n) (.bl true)).2, fun m => ?_⟩
  rw [← put_key ns l n (.bl true)]
  refine while_go (own_true (S := S) (d := .int n) rfl) ?_
  unfold bodyN
  let R1 : En := [.v E, .d (keyI ns) l, .o S, .v (.int n)]
  have pop : sSetX 3 (mPop 2) [.v E, .d (keyI ns) l, .o (S ++ [.int n]), x] = some (.nx R1) := sSetX_of (pop_of rfl) (setV_fre (x := x) rfl hx)
  have ci : mTru (mUn (instD "int") (mVar 3)) R1 = some true := tru_of (un_of (x := .int n) rfl rfl)
  refine (seq_of pop).trans ((sIf_t ci).trans ?_)
  unfold sDSet
  show (if (keyI ns).length < sizeLine then _ else none) = _
  rw [if_pos (by rw [List.length_map]; exact Nat.lt_of_le_of_lt hk (by decide))]; rfl
theorem ord_len : ∀ k : Kd, k.ord.length ≤ k.pre.length := fun k => ordK k
where
  ordK : ∀ k : Kd, k.ord.length ≤ k.pre.length
    | .num => Nat.zero_le _
    | .var n => Nat.le_refl _
    | .fn a b => by have := ordK a; have := ordK b; simp only [Kd.ord, Kd.pre, List.length_append, List.length_cons]; omega
    | .rw o fs tl => by
      have := ordF fs
      have : (tlI tl).length ≤ 1 := by cases tl <;> first | exact Nat.zero_le _ | exact Nat.le_refl _
      simp only [Kd.ord, Kd.pre, List.length_append, List.length_cons]; omega
  ordF : ∀ fs : Fs, fs.ord.length ≤ fs.pre.length
    | .nil => Nat.le_refl _
    | .cons _ k r => by have := ordK k; have := ordF r; simp only [Fs.ord, Fs.pre, List.length_append]; omega
mutual
theorem nu_v (E : D) : ∀ (k : Kd), k.wd → ∀ (S : List D) (ns : List Int) (l : List D) (x : Sl), fre x → ns.length + k.ord.length ≤ 900 → S.length + 2 * k.pre.length ≤ 5000 → ∃ c l' x', c ≤ 2 * k.pre.length ∧ fre x' ∧ ∀ m, wN (c + m) E (keyI ns) l (S ++ [k.ds]) x = wN m E (keyI (inss ns k.ord)) l' S x'
  | .num, h, S, ns, l, x, hx, hk, hS => by
    refine ⟨1, l, .v Kd.num.ds, by show 1 ≤ 2 * 1; decide, trivial, fun m => ?_⟩
    rw [Nat.add_comm 1 m, st_kd' hx h (by omega)]
    simp [Kd.kids, Kd.owns, Kd.ord, inss]
  | .var n, h, S, ns, l, x, hx, hk, hS => by
    have hp : (Kd.var n).pre.length = 1 := rfl
    obtain ⟨l', e⟩ := st_int (E := E) (ns := ns) (l := l) (S := S) (x := .v (Kd.var n).ds) (n := n) trivial (by omega)
    refine ⟨2, l', .v (.int n), by omega, trivial, fun m => ?_⟩
    rw [show 2 + m = (m + 1) + 1 by omega, st_kd' hx h (by omega)]
    rw [show S ++ (((Kd.var n).kids.map Kd.ds) ++ ((Kd.var n).owns.map D.int)).reverse = S ++ [.int n] from rfl, e m]; rfl
  | .fn a b, h, S, ns, l, x, hx, hk, hS => by
    have hp : (Kd.fn a b).pre.length = a.pre.length + b.pre.length + 1 := by simp [Kd.pre]
    have ho : (Kd.fn a b).ord.length = a.ord.length + b.ord.length := by simp [Kd.ord]
    have pb := pre_pos b
    have hi := inss_len a.ord ns
    obtain ⟨c1, l1, x1, b1, f1, e1⟩ := nu_v E a h.1 (S ++ [b.ds]) ns l (.v (Kd.fn a b).ds) trivial (by omega) (by rw [List.length_append]; simp only [List.length_cons, List.length_nil]; omega)
    obtain ⟨c2, l2, x2, b2, f2, e2⟩ := nu_v E b h.2 S (inss ns a.ord) l1 x1 f1 (by omega) (by omega)
    refine ⟨c1 + c2 + 1, l2, x2, by omega, f2, fun m => ?_⟩
    rw [show c1 + c2 + 1 + m = (c1 + (c2 + m)) + 1 by omega, st_kd' hx h (by omega)]
    rw [show S ++ (((Kd.fn a b).kids.map Kd.ds) ++ ((Kd.fn a b).owns.map D.int)).reverse = S ++ [b.ds] ++ [a.ds] by simp [Kd.kids, Kd.owns], e1, e2, ← inss_app]; rfl
  | .rw o fs tl, h, S, ns, l, x, hx, hk, hS => by
    have hp : (Kd.rw o fs tl).pre.length = fs.pre.length + 1 := by simp [Kd.pre]
    have ho : (Kd.rw o fs tl).ord.length = fs.ord.length + (tlI tl).length := by simp [Kd.ord]
    have hi := inss_len fs.ord ns
    cases tl with
    | none =>
      obtain ⟨c1, l1, x1, b1, f1, e1⟩ := nu_f E fs h.2 S ns l (.v (Kd.rw o fs none).ds) trivial (by omega) (by omega)
      refine ⟨c1 + 1, l1, x1, by omega, f1, fun m => ?_⟩
      rw [show c1 + 1 + m = (c1 + m) + 1 by omega, st_kd' hx h (by omega)]
      rw [show S ++ (((Kd.rw o fs none).kids.map Kd.ds) ++ ((Kd.rw o fs none).owns.map D.int)).reverse = S ++ (fs.kds.map Kd.ds).reverse by simp [Kd.kids, Kd.owns, tlI], e1]
      rw [show (Kd.rw o fs none).ord = fs.ord by simp [Kd.ord, tlI]]
    | some t =>
      have ht : (tlI (some t)).length = 1 := rfl
      obtain ⟨c1, l1, x1, b1, f1, e1⟩ := nu_f E fs h.2 (S ++ [.int t]) ns l (.v (Kd.rw o fs (some t)).ds) trivial (by omega) (by rw [List.length_append]; simp only [List.length_cons, List.length_nil]; omega)
      obtain ⟨l2, e2⟩ := st_int (E := E) (ns := inss ns fs.ord) (l := l1) (S := S) (x := x1) (n := t) f1 (by omega)
      refine ⟨c1 + 1 + 1, l2, .v (.int t), by omega, trivial, fun m => ?_⟩
      rw [show c1 + 1 + 1 + m = (c1 + (m + 1)) + 1 by omega, st_kd' hx h (by omega)]
      rw [show S ++ (((Kd.rw o fs (some t)).kids.map Kd.ds) ++ ((Kd.rw o fs (some t)).owns.map D.int)).reverse = S ++ [.int t] ++ (fs.kds.map Kd.ds).reverse by simp [Kd.kids, Kd.owns, tlI], e1, e2]
      rw [show (Kd.rw o fs (some t)).ord = fs.ord ++ [t] by simp [Kd.ord, tlI], inss_app]; rfl
theorem nu_f (E : D) : ∀ (fs : Fs), fs.wd → ∀ (S : List D) (ns : List Int) (l : List D) (x : Sl), fre x → ns.length + fs.ord.length ≤ 900 → S.length + 2 * fs.pre.length ≤ 5000 → ∃ c l' x', c ≤ 2 * fs.pre.length ∧ fre x' ∧ ∀ m, wN (c + m) E (keyI ns) l (S ++ (fs.kds.map Kd.ds).reverse) x = wN m E (keyI (inss ns fs.ord)) l' S x'
  | .nil, h, S, ns, l, x, hx, hk, hS => ⟨0, l, x, Nat.zero_le _, hx, fun m => by simp [Fs.kds, Fs.ord, inss]⟩
  | .cons lb k r, h, S, ns, l, x, hx, hk, hS => by
    have hp : (Fs.cons lb k r).pre.length = k.pre.length + r.pre.length := by simp [Fs.pre]
    have ho : (Fs.cons lb k r).ord.length = k.ord.length + r.ord.length := by simp [Fs.ord]
    have hr : r.kds.length ≤ r.pre.length := kds_le r
    have hi := inss_len k.ord ns
    obtain ⟨c1, l1, x1, b1, f1, e1⟩ := nu_v E k h.1 (S ++ (r.kds.map Kd.ds).reverse) ns l x hx (by omega) (by rw [List.length_append, List.length_reverse, List.length_map]; omega)
    obtain ⟨c2, l2, x2, b2, f2, e2⟩ := nu_f E r h.2 S (inss ns k.ord) l1 x1 f1 (by omega) (by omega)
    refine ⟨c1 + c2, l2, x2, by omega, f2, fun m => ?_⟩
    rw [show c1 + c2 + m = c1 + (c2 + m) by omega]
    rw [show S ++ ((Fs.cons lb k r).kds.map Kd.ds).reverse = S ++ (r.kds.map Kd.ds).reverse ++ [k.ds] by simp [Fs.kds], e1, e2, ← inss_app]; rfl
end
theorem numbers_eq {k : Kd} (h : k.wd) (hs : k.pre.length ≤ 400) : ∃ as, F_numbers [.v k.ds] = some (.f ((inss [] k.ord).map D.int), as) := by
  have ho := ord_len k
  obtain ⟨c, l, x, b1, f1, w⟩ := nu_v k.ds k h [] [] [] .un trivial (by simp only [List.length_nil]; omega) (by simp only [List.length_nil]; omega)
  have w1 := w (WF - c - 1 + 1)
  rw [show c + (WF - c - 1 + 1) = WF by unfold WF; omega] at w1
  unfold wN at w1
  rw [while_end (own_false (i := 2) (by rfl)), List.nil_append] at w1
  unfold bodyN at w1
  unfold F_numbers mkF g_numbers
  show ∃ as, (sSeq _ _ [.v k.ds, .un, .un, .un]).bind _ = _
  rw [seq_of (r' := [.v k.ds, .d (keyI []) [], .un, .un]) (by rfl), seq_of (r' := [.v k.ds, .d (keyI []) [], .o [k.ds], .un]) (by rfl), seq_of w1]
  refine ⟨[.v k.ds], ?_⟩
  show some (Rs.f ((keyI (inss [] k.ord)).map dKey), _) = _
  rw [List.map_map]; rfl
noncomputable def Kd.own : Kd → Int
  | .rw _ fs _ => 2 + (fs.kds.length : Int)
  | _ => 1
mutual
noncomputable def Kd.cnt : Kd → Int
  | .num => 1
  | .var _ => 1
  | .fn a b => 1 + a.cnt + b.cnt
  | .rw _ fs _ => 2 + fs.cnt
noncomputable def Fs.cnt : Fs → Int
  | .nil => 0
  | .cons _ k r => 1 + k.cnt + r.cnt
end
mutual
theorem sum_own : ∀ k : Kd, (k.pre.map Kd.own).sum = k.cnt
  | .num => rfl
  | .var _ => rfl
  | .fn a b => by
    have h1 := sum_own a
    have h2 := sum_own b
    simp only [Kd.pre, Kd.cnt, Kd.own, List.map_cons, List.map_append, List.sum_cons, List.sum_append]; omega
  | .rw o fs tl => by
    have h1 := sum_ownF fs
    simp only [Kd.pre, Kd.cnt, Kd.own, List.map_cons, List.sum_cons]; omega
theorem sum_ownF : ∀ fs : Fs, (fs.pre.map Kd.own).sum + (fs.kds.length : Int) = fs.cnt
  | .nil => rfl
  | .cons _ k r => by
    have h1 := sum_own k
    have h2 := sum_ownF r
    simp only [Fs.pre, Fs.cnt, Fs.kds, List.map_append, List.sum_append, List.length_cons]; omega
end
theorem own_eq (k : Kd) : ∃ as, F_own_parts [.v k.ds] = some (.v (.int k.own), as) := by
  let R : En := [.v k.ds]
  refine mk_rt (r' := R) ?_
  show g_own_parts R = _
  unfold g_own_parts
  have hr : mTru (mCall 1 F_has_row (mCons (mVar 0) mNil)) R = some k.isRw := tru_of (call_of (p := .v (.bl k.isRw)) (cons_of rfl nil_of) rfl (row_eq k))
  cases k with
  | rw o fs tl =>
    have e2 : mBin ixD (mBin ixD (mVar 0) (mC (.int 1))) (mC (.int 1)) R = some (.tup fs.ds) := bin_of (x := .tup [.str sRow, .tup fs.ds, tlD tl]) (bin_of (x := (Kd.rw o fs tl).ds) rfl con_of (atI_nat (j := 1) rfl)) con_of (atI_nat (j := 1) rfl)
    exact seq_tt hr (ret_of (add_of con_of (un_of e2 (by show some (D.int (fs.ds.length : Int)) = _; rw [ds_len]))))
  | num => exact seq_ff hr (ret_of rfl)
  | var n => exact seq_ff hr (ret_of rfl)
  | fn a b => exact seq_ff hr (ret_of rfl)
theorem ints_map : ∀ l : List Int, intsD (l.map D.int) = some l
  | [] => rfl
  | i :: l => by show (intsD (l.map D.int)).map _ = _; rw [ints_map l]; rfl
theorem comp_own : ∀ (P : List Kd) (x : Sl), fre x → compL (setV 0) mTrue (mCall 1 F_own_parts (mCons (mVar 0) mNil)) (P.map Kd.ds) [x] = some ((P.map Kd.own).map D.int)
  | [], _, _ => rfl
  | k :: P, x, hx => comp_go (r1 := [.v k.ds]) (setV_fre (x := x) rfl hx) (call_of (p := .v (.int k.own)) (cons_of rfl nil_of) rfl (own_eq k)) (comp_own P (.v k.ds) trivial)
theorem parts_eq {k : Kd} (h : k.wd) (hs : k.pre.length ≤ 4000) : ∃ as, F_parts [.v k.ds] = some (.v (.int k.cnt), as) := by
  let R : En := [.v k.ds]
  refine mk_rt (r' := R) ?_
  show g_parts R = _
  unfold g_parts
  obtain ⟨as, ew⟩ := within_eq h hs
  have cf : mIt (mOfF (mCallF 1 F_within (mCons (mVar 0) mNil))) R = some (k.pre.map Kd.ds) := by
    have a0 : mCons (mVar 0) mNil R = some [k.ds] := cons_of rfl nil_of
    unfold mIt mOfF mCallF
    rw [a0, Option.bind_some, if_pos (show ([k.ds] : List D).length = 1 from rfl), show F_within (([k.ds] : List D).map Sl.v) = some (.f (k.pre.map Kd.ds), as) from ew]; rfl
  have cp : mComp [] 1 (mIt (mOfF (mCallF 1 F_within (mCons (mVar 0) mNil)))) (setV 0) (mCall 1 F_own_parts (mCons (mVar 0) mNil)) R = some ((k.pre.map Kd.own).map D.int) := by
    unfold mComp mCompIf
    rw [cf, Option.bind_some, if_pos (by rw [List.length_map]; exact Nat.lt_of_le_of_lt hs (by decide))]
    exact comp_own k.pre .un trivial
  refine ret_of ?_
  unfold mSumL
  rw [cp, Option.bind_some, ints_map]
  show some (D.int ((k.pre.map Kd.own).sum)) = _
  rw [sum_own]
theorem any_int (n : Int) : ∀ ns : List Int, ((ns.map D.int).any fun z => eqF z (.int n)) = decide (n ∈ ns)
  | [] => by simp
  | m :: ns => by
    rw [List.map_cons, List.any_cons, any_int n ns]
    show (decide (m = n) || _) = _
    by_cases h : m = n
    · subst h; simp
    · rw [decide_eq_false h, Bool.false_or]
      have : (n ∈ m :: ns) ↔ n ∈ ns := ⟨fun z => (List.mem_cons.mp z).elim (fun z => absurd z.symm h) id, fun z => List.mem_cons_of_mem _ z⟩
      simp only [this]
theorem flat_int : ∀ ns : List Int, (ns.map D.int).all flatD = true
  | [] => rfl
  | n :: ns => by rw [List.map_cons, List.all_cons, flat_int ns]; rfl
noncomputable def bodyO : MS := (sIf (mInB true (mVar 2) (mOwn 1))
 (sX (mApp 1 (mVar 2)))
 sSkip)
theorem once_loop (A0 : D) : ∀ (o ns : List Int) (x : Sl), fre x → ns.length + o.length ≤ 1000 → ∃ x', forL (setV 2) bodyO (o.map D.int) [.v A0, .o (ns.map D.int), x] = some (.nx [.v A0, .o ((inss ns o).map D.int), x'])
  | [], ns, x, _, _ => ⟨x, rfl⟩
  | n :: o, ns, x, hx, hl => by
    rw [List.length_cons] at hl
    have := ins_len ns n
    obtain ⟨x', ih⟩ := once_loop A0 o (ins ns n) (.v (.int n)) trivial (by omega)
    refine ⟨x', ?_⟩
    let R : En := [.v A0, .o (ns.map D.int), .v (.int n)]
    have ci : mInB true (mVar 2) (mOwn 1) R = some (!decide (n ∈ ns)) := by
      have e : inD true (.int n) (.lst (ns.map D.int)) = some (.bl (!decide (n ∈ ns))) := by
        show (if flatD (.int n) = true ∧ (ns.map D.int).all flatD = true then some (D.bl (if true then !((ns.map D.int).any fun z => eqF z (.int n)) else _)) else none) = _
        rw [if_pos ⟨rfl, flat_int ns⟩, any_int]; rfl
      unfold mInB
      rw [show mVar 2 R = some (.int n) from rfl, Option.bind_some, show mOwn 1 R = some (ns.map D.int) from rfl, Option.bind_some, e]; rfl
    have bd : bodyO R = some (.nx [.v A0, .o ((ins ns n).map D.int), .v (.int n)]) := by
      unfold bodyO ins
      by_cases h : n ∈ ns
      · rw [if_pos h]
        exact (sIf_f (ci.trans (by rw [decide_eq_true h]; rfl))).trans rfl
      · rw [if_neg h]
        refine (sIf_t (ci.trans (by rw [decide_eq_false h]; rfl))).trans ((sX_of (d := .non) (app_of (S := ns.map D.int) rfl rfl (by rw [List.length_map]; exact Nat.lt_of_le_of_lt (by omega : ns.length ≤ 1000) (by decide)))).trans ?_)
        show some (Fl.nx [.v A0, .o (ns.map D.int ++ [.int n]), .v (.int n)]) = some (Fl.nx [.v A0, .o ((ns ++ [n]).map D.int), .v (.int n)])
        rw [List.map_append]; rfl
    rw [List.map_cons]
    exact (for_go (r1 := R) (setV_fre (x := x) rfl hx) bd).trans ih
theorem once_eq (o : List Int) (h : o.length ≤ 1000) : ∃ as, F__law_once [.v (.lst (o.map D.int))] = some (.f ((inss [] o).map D.int), as) := by
  obtain ⟨x', lp⟩ := once_loop (.lst (o.map D.int)) o [] .un trivial (by simp only [List.length_nil]; omega)
  have fo : sFor (setV 2) (mIt (mVar 0)) bodyO [.v (.lst (o.map D.int)), .o [], .un] = some (.nx [.v (.lst (o.map D.int)), .o ((inss [] o).map D.int), x']) := lp
  unfold bodyO at fo
  unfold F__law_once mkF g__law_once
  show ∃ as, (sSeq _ _ [.v (.lst (o.map D.int)), .un, .un]).bind _ = _
  rw [seq_of (r' := [.v (.lst (o.map D.int)), .o [], .un]) (by rfl), seq_of fo]
  exact ⟨_, rfl⟩
noncomputable def pc (k : Kd) : D := .lst [k.ds, .int k.cnt, .lst (k.ord.map .int)]
noncomputable abbrev Fk := List Nat × Kd
noncomputable def fdP (p : Fk) : D := .tup [.str p.1, pc p.2]
noncomputable def kdP (p : Fk) : KD := (p.1, fdP p)
noncomputable def toFs : List Fk → Fs
  | [] => .nil
  | p :: r => .cons p.1 p.2 (toFs r)
noncomputable def leU (a b : Fk) : Bool := !decide (b.1 < a.1)
noncomputable def srtU (U : List Fk) : List Fk := U.mergeSort leU
theorem srtU_perm (U : List Fk) : (srtU U).Perm U := List.mergeSort_perm U leU
theorem srtU_up (U : List Fk) : (srtU U).Pairwise fun a b => a.1 ≤ b.1 := by
  have iff : ∀ a b : Fk, leU a b = true ↔ a.1 ≤ b.1 := fun a b => by
    unfold leU
    rw [Bool.not_eq_true', decide_eq_false_iff_not]
    exact Iff.rfl
  exact (List.pairwise_mergeSort (le := leU) (fun a b c h1 h2 => (iff a c).mpr (List.le_trans ((iff a b).mp h1) ((iff b c).mp h2))) (fun a b => by
    rw [Bool.or_eq_true]
    exact (List.le_total a.1 b.1).imp (iff a b).mpr (iff b a).mpr) U).imp fun {a b} z => (iff a b).mp z
theorem map_kdP (P : List Fk) : (P.map kdP).map (·.1) = P.map (·.1) ∧ (P.map kdP).map (·.2) = P.map fdP := by
  constructor <;> rw [List.map_map] <;> rfl
theorem keysP_eq : ∀ P : List Fk, keysP (P.map fdP) = some (P.map kdP)
  | [] => rfl
  | p :: r => by
    rw [List.map_cons]
    unfold keysP
    rw [show keyP (fdP p) = some p.1 from rfl, Option.bind_some, keysP_eq r]; rfl
theorem srtP_of {fl : ML} {r : En} {P : List Fk} (e : fl r = some (P.map fdP)) (h : P.length < 64) (nd : (P.map (·.1)).Nodup) : mSrtP fl r = some ((srtU P).map fdP) := by
  unfold mSrtP
  rw [e, Option.bind_some, keysP_eq, Option.bind_some, if_pos ⟨by rw [List.length_map]; exact h, by rw [(map_kdP P).1]; exact nd⟩]
  rw [← srtK_eq (m := (srtU P).map kdP) (by rw [(map_kdP P).1]; exact nd) ((srtU_perm P).map kdP) (by
    unfold upK
    rw [List.pairwise_map]
    exact (srtU_up P).imp fun {a b} z => z), (map_kdP _).2]
theorem toFs_kds : ∀ U : List Fk, (toFs U).kds = U.map (·.2)
  | [] => rfl
  | p :: r => by simp only [toFs, Fs.kds, List.map_cons, toFs_kds r]
theorem toFs_wd : ∀ U : List Fk, (∀ p ∈ U, p.2.wd) → (toFs U).wd
  | [], _ => trivial
  | p :: r, h => ⟨h p (by simp), toFs_wd r fun q hq => h q (by simp [hq])⟩
noncomputable def szs (P : List Kd) : Nat := (P.map fun k => k.pre.length).sum
theorem toFs_pre : ∀ U : List Fk, (toFs U).pre.length = szs (U.map (·.2))
  | [] => rfl
  | p :: r => by
    have := toFs_pre r
    unfold szs at *
    simp only [toFs, Fs.pre, List.length_append, List.map_cons, List.sum_cons, this]
theorem szs_perm {P Q : List Kd} (h : P.Perm Q) : szs P = szs Q := (h.map _).sum_nat
theorem szs_app (P Q : List Kd) : szs (P ++ Q) = szs P + szs Q := by
  unfold szs; rw [List.map_append, List.sum_append]
theorem szs_snoc (P : List Kd) (k : Kd) : szs (P ++ [k]) = szs P + k.pre.length := by
  rw [szs_app]; unfold szs; simp
theorem szs_rev (P : List Kd) : szs P.reverse = szs P := szs_perm (List.reverse_perm P)
theorem len_szs : ∀ P : List Kd, P.length ≤ szs P
  | [] => Nat.le_refl _
  | k :: P => by
    have := len_szs P
    have := pre_pos k
    unfold szs at *
    rw [List.length_cons, List.map_cons, List.sum_cons]; omega
theorem one_szs {k : Kd} : ∀ {P : List Kd}, k ∈ P → k.pre.length ≤ szs P
  | [], h => by cases h
  | x :: P, h => by
    unfold szs
    (rw [List.map_cons, List.sum_cons])
    (rcases List.mem_cons.mp h with rfl | h)
    · omega
    · have := one_szs h
      unfold szs at this; omega
theorem pop_p {i : Nat} {r : En} {S : List D} {d : D} (e : r[i]? = some (.p (S ++ [d]))) : mPop i r = some (d, r.set i (.p S)) := by
  simp [mPop, mtOf, e, Sl.ml, putO]
theorem app_p {i : Nat} {f : ME} {r : En} {S : List D} {d : D} (e : r[i]? = some (.p S)) (e2 : f r = some d) (h : S.length < sizeLine) : mApp i f r = some (.non, r.set i (.p (S ++ [d]))) := by
  simp [mApp, mtOf, e, Sl.ml, putO, e2, h]
theorem appX_of {i : Nat} {f : En → Option (D × En)} {r0 r1 : En} {l0 l : List D} {d : D} (e0 : mtOf r0 i = some l0) (e : f r0 = some (d, r1)) (e1 : r1[i]? = some (.p l)) (h : l.length < sizeLine) : mAppX i f r0 = some (.non, r1.set i (.p (l ++ [d]))) := by
  unfold mAppX
  rw [e, Option.bind_some, e0, Option.bind_some]
  simp [mtOf, e1, Sl.ml, putO, h]
theorem appO_of {i : Nat} {f : En → Option (D × En)} {r0 r1 : En} {l0 l : List D} {d : D} (e0 : mtOf r0 i = some l0) (e : f r0 = some (d, r1)) (e1 : r1[i]? = some (.o l)) (h : l.length < sizeLine) : mAppX i f r0 = some (.non, r1.set i (.o (l ++ [d]))) := by
  unfold mAppX
  rw [e, Option.bind_some, e0, Option.bind_some]
  simp [mtOf, e1, Sl.ml, putO, h]
theorem z_of {i : Nat} {g : MS} {r r1 r2 r3 : En} (e1 : frZ i r = some r1) (e2 : g r1 = some (.nx r2)) (e3 : unZ i r2 = some r3) : sZ i g r = some (.nx r3) := by
  unfold sZ
  rw [e1, Option.bind_some, e2, Option.bind_some]
  show (unZ i r2).map Fl.nx = _
  rw [e3]; rfl
theorem for_of {bd : D → En → Option En} {it : ML} {g : MS} {r : En} {l : List D} {z : Option Fl} (e1 : it r = some l) (e2 : forL bd g l r = z) : sFor bd it g r = z := by
  unfold sFor; rw [e1, Option.bind_some]; exact e2
theorem getD_inj {L : Ws} (nd : L.Nodup) {i j : Nat} (hi : i < L.length) (hj : j < L.length) (hij : i ≠ j) : L.getD i [] ≠ L.getD j [] := by
  have e : ∀ {i : Nat} (hl : i < L.length), L.getD i [] = L[i] := fun hl => by rw [List.getD_eq_getElem?_getD, List.getElem?_eq_getElem hl]; rfl
  rw [e hi, e hj]
  rcases Nat.lt_or_gt_of_ne hij with z | z
  · exact List.pairwise_iff_getElem.mp nd i j hi hj z
  · exact fun q => List.pairwise_iff_getElem.mp nd j i hj hi z q.symm
theorem pick3 {a b c : D} {P : D → Prop} (ha : P a) (hb : P b) (hc : P c) : ∀ i, i < 3 → ∃ d, P d ∧ ([a, b, c] : List D)[i]? = some d
  | 0, _ => ⟨a, ha, rfl⟩
  | 1, _ => ⟨b, hb, rfl⟩
  | 2, _ => ⟨c, hc, rfl⟩
  | i + 3, h => absurd h (by omega)
theorem pick_of {f g h k : ME} {r : En} {a b c : D} {n : Int} {P : D → Prop} (e1 : f r = some a) (e2 : g r = some b) (e3 : h r = some c) (e4 : k r = some (.int n)) (ha : P a) (hb : P b) (hc : P c) : ∃ d, P d ∧ mBin ixD (mOfF (mLstF (mCons f (mCons g (mCons h mNil))))) (mBin modD k (mC (.int 3))) r = some d := by
  have q : 0 ≤ n % 3 ∧ n % 3 < 3 := ⟨Int.emod_nonneg _ (by decide), Int.emod_lt_of_pos _ (by decide)⟩
  obtain ⟨d, hd, e⟩ := pick3 ha hb hc (n % 3).toNat (by omega)
  refine ⟨d, hd, bin_of (y := .int ((n % 3).toNat : Int)) (lstF_of (cons_of e1 (cons_of e2 (cons_of e3 nil_of))) (by show 3 ≤ 100; decide)) ?_ (atI_nat e)⟩
  rw [Int.toNat_of_nonneg q.1]; exact mod_of e4 con_of (by decide)
theorem pc0 {f : ME} {r : En} {k : Kd} (e : f r = some (pc k)) : mBin ixD f (mC (.int 0)) r = some k.ds := bin_of e con_of (at_zero _ _)
theorem pc1 {f : ME} {r : En} {k : Kd} (e : f r = some (pc k)) : mBin ixD f (mC (.int 1)) r = some (.int k.cnt) := bin_of e con_of (atI_nat (j := 1) rfl)
theorem pc2 {f : ME} {r : En} {k : Kd} (e : f r = some (pc k)) : mBin ixD f (mC (.int 2)) r = some (.lst (k.ord.map .int)) := bin_of e con_of (atI_nat (j := 2) rfl)
theorem cat_of {f g : ME} {r : En} {a b : List Int} (e1 : f r = some (.lst (a.map .int))) (e2 : g r = some (.lst (b.map .int))) (h : a.length + b.length ≤ 5000) : mBin addD f g r = some (.lst ((a ++ b).map .int)) := by
  refine bin_of e1 e2 ?_
  show (if _ then some _ else none) = _
  rw [if_pos (by rw [List.length_map, List.length_map]; exact Nat.le_trans h (by decide)), List.map_append]
theorem leaf_eq (n b : Int) : ∃ k : Kd, k.wd ∧ k.pre.length = 1 ∧ ∃ as, F__law_leaf [.v (.int n), .v (.int b)] = some (.v (pc k), as) := by
  let R0 : En := [.v (.int n), .v (.int b), .un]
  have c0 : mBl (mBin eqA (mBin modD (mVar 0) (mC (.int 3))) (mC (.int 0))) R0 = some (decide (n % 3 = 0)) := bl_of (bin_of (mod_of (i := n) rfl con_of (by decide)) con_of rfl)
  by_cases c : n % 3 = 0
  · refine ⟨.num, trivial, rfl, mk_rt (r' := R0) ?_⟩
    show g__law_leaf R0 = _
    unfold g__law_leaf
    exact seq_tt (c0.trans (by rw [decide_eq_true c])) (ret_of (lstF_of (cons_of (tup_of (cons_of con_of nil_of) (by show 1 ≤ 100; decide)) (cons_of con_of (cons_of (lstF_of nil_of (by show 0 ≤ 100; decide)) nil_of))) (by show 3 ≤ 100; decide)))
  · let p : Int := b + 2 * (n / 3 % 5)
    refine ⟨.var p, trivial, rfl, mk_rt (r' := [.v (.int n), .v (.int b), .v (.int p)]) ?_⟩
    show g__law_leaf R0 = _
    unfold g__law_leaf
    refine seq_ff (c0.trans (by rw [decide_eq_false c])) (seq_set (r2 := [.v (.int n), .v (.int b), .v (.int p)]) (.int p) (add_of rfl (mul_of con_of (mod_of (fdiv_of rfl con_of (by decide)) con_of (by decide)) (by decide))) rfl ?_)
    exact ret_of (lstF_of (cons_of (tup_of (cons_of con_of (cons_of rfl nil_of)) (by show 2 ≤ 100; decide)) (cons_of con_of (cons_of (lstF_of (cons_of rfl nil_of) (by show 1 ≤ 100; decide)) nil_of))) (by show 3 ≤ 100; decide))
theorem two_eq (a b : Kd) (h : a.ord.length + b.ord.length ≤ 5000) : ∃ as, F__law_of_two [.v (pc a), .v (pc b)] = some (.v (pc (.fn a b)), as) := by
  refine mk_rt (r' := [.v (pc a), .v (pc b)]) ?_
  show g__law_of_two [.v (pc a), .v (pc b)] = _
  unfold g__law_of_two
  refine ret_of (lstF_of (cons_of (tup_of (cons_of con_of (cons_of (pc0 (k := a) rfl) (cons_of (pc0 (k := b) rfl) nil_of))) (by show 3 ≤ 100; decide)) (cons_of (add_of (add_of con_of (pc1 (k := a) rfl)) (pc1 (k := b) rfl)) (cons_of (cat_of (pc2 (k := a) rfl) (pc2 (k := b) rfl) h) nil_of))) (by show 3 ≤ 100; decide))
noncomputable def lab6 (L : Ws) (q : Int) (k : Nat) : List Nat := L.getD ((q + (k : Int)) % 6).toNat []
theorem mod6 (a : Int) : 0 ≤ a % 6 ∧ a % 6 < 6 := ⟨Int.emod_nonneg _ (by decide), Int.emod_lt_of_pos _ (by decide)⟩
theorem lab6_nd {L : Ws} (h : LbOk L) (q : Int) {m : Nat} (hm : m ≤ 6) : ((List.range' 0 m).map (lab6 L q)).Nodup := by
  have h6 := h.len
  unfold List.Nodup
  rw [List.pairwise_map]
  refine List.Pairwise.imp_of_mem (R := fun i j => i < j) (fun {i j} hi hj hij => ?_) List.pairwise_lt_range'
  rw [List.mem_range'_1] at hi hj
  have a := mod6 (q + (i : Int))
  have b := mod6 (q + (j : Int))
  exact getD_inj h.nd (by omega) (by omega) (by omega)
noncomputable def bodyT : MS := (sX (mAppX 6 (mTupX (xaCons (mBin ixD (mVar 2) (mBin modD (mBin addD (mBin fdivD (mVar 1) (mC (.int 4))) (mVar 7)) (mC (.int 6)))) (xaLast (mPop 0))))))
theorem take_loop {L : Ws} (hL : LbOk L) (n : Int) (W T Y : D) : ∀ (m s : Nat) (P : List Kd) (U : List Fk) (x : Sl), fre x → m ≤ P.length → U.length + m ≤ 50 →
    ∃ (P' : List Kd) (V : List Fk) (x' : Sl), P = P' ++ (V.map (·.2)).reverse ∧ V.length = m ∧ V.map (·.1) = (List.range' s m).map (lab6 L (n / 4)) ∧
      forL (setV 7) bodyT ((List.range' s m).map fun j => D.int ((0 : Int) + (j : Nat))) [.p (P.map pc), .v (.int n), .v (.lst (dw L)), .v W, .v T, .v Y, .o (U.map fdP), x, .un, .un, .un, .un]
        = some (.nx [.p (P'.map pc), .v (.int n), .v (.lst (dw L)), .v W, .v T, .v Y, .o ((U ++ V).map fdP), x', .un, .un, .un, .un])
  | 0, s, P, U, x, _, _, _ => ⟨P, [], x, by simp, rfl, rfl, by simp [forL]⟩
  | m + 1, s, P, U, x, hx, hm, hU => by
    have h6 := hL.len
    obtain ⟨P0, k, rfl⟩ : ∃ P0 k, P = P0 ++ [k] := by
      rcases List.eq_nil_or_concat P with h | ⟨P0, k, h⟩
      · subst h; simp at hm
      · exact ⟨P0, k, by rw [h, List.concat_eq_append]⟩
    let lb := lab6 L (n / 4) s
    obtain ⟨P', V, x', e1, e2, e3, ih⟩ := take_loop hL n W T Y m (s + 1) P0 (U ++ [(lb, k)]) (.v (.int (s : Int))) trivial (by rw [List.length_append] at hm; simp at hm; exact hm) (by rw [List.length_append]; simp only [List.length_cons, List.length_nil]; omega)
    refine ⟨P', (lb, k) :: V, x', by rw [e1]; simp, by rw [List.length_cons, e2], by rw [List.range'_succ, List.map_cons, List.map_cons, e3], ?_⟩
    rw [List.range'_succ, List.map_cons, Int.zero_add]
    let uf : List D := U.map fdP
    let fr' : List Kd → List D → En := fun P a => [.p (P.map pc), .v (.int n), .v (.lst (dw L)), .v W, .v T, .v Y, .o a, .v (.int (s : Int)), .un, .un, .un, .un]
    have lu : uf.length ≤ 50 := by
      show (U.map _).length ≤ 50
      rw [List.length_map]; omega
    have pp : mPop 0 (fr' (P0 ++ [k]) uf) = some (pc k, fr' P0 uf) := by
      refine pop_p (S := P0.map pc) (d := pc k) ?_
      show some (Sl.p ((P0 ++ [k]).map pc)) = _
      rw [List.map_append]; rfl
    have q3 := mod6 (n / 4 + (s : Int))
    have hi : ((n / 4 + (s : Int)) % 6).toNat < L.length := by omega
    have el : mBin ixD (mVar 2) (mBin modD (mBin addD (mBin fdivD (mVar 1) (mC (.int 4))) (mVar 7)) (mC (.int 6))) (fr' (P0 ++ [k]) uf) = some (.str lb) := by
      refine bin_of (x := .lst (dw L)) (y := .int (((n / 4 + (s : Int)) % 6).toNat : Int)) rfl ?_ (atI_nat ?_)
      · rw [Int.toNat_of_nonneg q3.1]
        exact mod_of (add_of (fdiv_of rfl con_of (by decide)) rfl) con_of (by decide)
      · show (dw L)[((n / 4 + (s : Int)) % 6).toNat]? = some (D.str (L.getD ((n / 4 + (s : Int)) % 6).toNat []))
        rw [List.getElem?_map, List.getElem?_eq_getElem hi, List.getD_eq_getElem?_getD, List.getElem?_eq_getElem hi]; rfl
    have tx : mTupX (xaCons (mBin ixD (mVar 2) (mBin modD (mBin addD (mBin fdivD (mVar 1) (mC (.int 4))) (mVar 7)) (mC (.int 6)))) (xaLast (mPop 0))) (fr' (P0 ++ [k]) uf) = some (fdP (lb, k), fr' P0 uf) := by
      unfold mTupX xaCons xaLast
      rw [el, Option.bind_some, pp]; rfl
    have b : bodyT (fr' (P0 ++ [k]) uf) = some (.nx (fr' P0 (uf ++ [fdP (lb, k)]))) := by
      unfold bodyT
      exact sX_of (d := .non) (appO_of (i := 6) (l0 := uf) (l := uf) rfl tx rfl (Nat.lt_of_le_of_lt lu (by decide)))
    refine (for_go (r1 := fr' (P0 ++ [k]) uf) (setV_fre (x := x) rfl hx) b).trans ?_
    have u1 : uf ++ [fdP (lb, k)] = (U ++ [(lb, k)]).map fdP := by rw [List.map_append]; rfl
    show forL _ _ _ [.p (P0.map pc), .v (.int n), .v (.lst (dw L)), .v W, .v T, .v Y, .o (uf ++ [fdP (lb, k)]), .v (.int (s : Int)), .un, .un, .un, .un] = _
    rw [u1, ih, List.append_assoc]; rfl
theorem set_of {k : Nat} {f : ME} {r r2 : En} (d : D) (e : f r = some d) (e2 : setV k d r = some r2) : sSet k f r = some (.nx r2) := by
  unfold sSet
  rw [e, Option.bind_some, e2]; rfl
noncomputable def bodyC : MS := (sSeq (sSet 8 (mBin addD (mBin addD (mVar 8) (mC (.int 1))) (mBin ixD (mVar 11) (mC (.int 1)))))
 (sSet 9 (mBin addD (mVar 9) (mBin ixD (mVar 11) (mC (.int 2))))))
theorem count_loop (A0 A1 A2 A3 A4 A5 A6 A7 : Sl) : ∀ (U : List Fk) (c : Int) (a : List Int) (x y : Sl), fre x → fre y → a.length + (toFs U).ord.length ≤ 5000 →
    ∃ (x' y' : Sl), forL (bdSeq 2 (bdCons (setV 10) (bdCons (setV 11) bdNil))) bodyC (U.map fdP) [A0, A1, A2, A3, A4, A5, A6, A7, .v (.int c), .v (.lst (a.map .int)), x, y]
      = some (.nx [A0, A1, A2, A3, A4, A5, A6, A7, .v (.int (c + (toFs U).cnt)), .v (.lst ((a ++ (toFs U).ord).map .int)), x', y'])
  | [], c, a, x, y, _, _, _ => ⟨x, y, by simp [forL, toFs, Fs.cnt, Fs.ord]⟩
  | p :: U, c, a, x, y, hx, hy, h => by
    have h' : a.length + (p.2.ord.length + (toFs U).ord.length) ≤ 5000 := by
      have : (toFs (p :: U)).ord.length = p.2.ord.length + (toFs U).ord.length := by simp only [toFs, Fs.ord, List.length_append]
      omega
    obtain ⟨x', y', ih⟩ := count_loop A0 A1 A2 A3 A4 A5 A6 A7 U (c + 1 + p.2.cnt) (a ++ p.2.ord) (.v (.str p.1)) (.v (pc p.2)) trivial trivial (by rw [List.length_append]; omega)
    refine ⟨x', y', ?_⟩
    rw [List.map_cons]
    have b : bodyC [A0, A1, A2, A3, A4, A5, A6, A7, .v (.int c), .v (.lst (a.map .int)), .v (.str p.1), .v (pc p.2)] = some (.nx [A0, A1, A2, A3, A4, A5, A6, A7, .v (.int (c + 1 + p.2.cnt)), .v (.lst ((a ++ p.2.ord).map .int)), .v (.str p.1), .v (pc p.2)]) := by
      unfold bodyC
      refine seq_set (r2 := [A0, A1, A2, A3, A4, A5, A6, A7, .v (.int (c + 1 + p.2.cnt)), .v (.lst (a.map .int)), .v (.str p.1), .v (pc p.2)]) (.int (c + 1 + p.2.cnt)) (add_of (add_of rfl con_of) (pc1 (k := p.2) rfl)) rfl ?_
      exact set_of (.lst ((a ++ p.2.ord).map .int)) (cat_of rfl (pc2 (k := p.2) rfl) (by omega)) rfl
    refine (for_go (r1 := [A0, A1, A2, A3, A4, A5, A6, A7, .v (.int c), .v (.lst (a.map .int)), .v (.str p.1), .v (pc p.2)]) (bdP (r1 := [A0, A1, A2, A3, A4, A5, A6, A7, .v (.int c), .v (.lst (a.map .int)), .v (.str p.1), y]) (setV_fre (x := x) rfl hx) (setV_fre (x := y) rfl hy)) b).trans ?_
    rw [ih]
    have e1 : c + 1 + p.2.cnt + (toFs U).cnt = c + (toFs (p :: U)).cnt := by simp only [toFs, Fs.cnt]; omega
    have e2 : a ++ p.2.ord ++ (toFs U).ord = a ++ (toFs (p :: U)).ord := by simp only [toFs, Fs.ord, List.append_assoc]
    rw [e1, e2]
theorem comp_row : ∀ (U : List Fk) (x y : Sl), fre x → fre y → compL (bdSeq 2 (bdCons (setV 0) (bdCons (setV 1) bdNil))) mTrue (mTup (mCons (mVar 0) (mCons (mBin ixD (mVar 1) (mC (.int 0))) mNil))) (U.map fdP) [x, y] = some (toFs U).ds
  | [], _, _, _, _ => rfl
  | p :: U, x, y, hx, hy => comp_go (r1 := [.v (.str p.1), .v (pc p.2)]) (bdP (r1 := [.v (.str p.1), y]) (setV_fre (x := x) rfl hx) (setV_fre (x := y) rfl hy)) (tup_of (cons_of rfl (cons_of (pc0 (k := p.2) rfl) nil_of)) (by show 2 ≤ 100; decide)) (comp_row U (.v (.str p.1)) (.v (pc p.2)) trivial trivial)
theorem fields_eq (n : Int) {L : Ws} (hL : LbOk L) (o : Bool) (tl : Option Int) (P : List Kd) (hP : szs P ≤ 900) : ∃ (P' : List Kd) (V : List Fk) (as : List Sl), P = P' ++ (V.map (·.2)).reverse ∧ V.length ≤ 3 ∧ as[0]? = some (.p (P'.map pc)) ∧
    F__law_of_fields [.p (P.map pc), .v (.int n), .v (.lst (dw L)), .v (.str (wrd o)), .v (tlD tl)] = some (.v (pc (.rw o (toFs (srtU V)) tl)), as) := by
  have q4 : 0 ≤ n % 4 ∧ n % 4 < 4 := ⟨Int.emod_nonneg _ (by decide), Int.emod_lt_of_pos _ (by decide)⟩
  let W : D := .str (wrd o)
  let T : D := tlD tl
  let R0 : En := [.p (P.map pc), .v (.int n), .v (.lst (dw L)), .v W, .v T, .un, .un, .un, .un, .un, .un, .un]
  obtain ⟨m, em⟩ : ∃ m : Nat, (m : Int) = (if n % 4 < (P.length : Int) then n % 4 else (P.length : Int)) := ⟨(if n % 4 < (P.length : Int) then n % 4 else (P.length : Int)).toNat, Int.toNat_of_nonneg (by split <;> omega)⟩
  have hm : m ≤ 3 ∧ m ≤ P.length := by split at em <;> omega
  have e1 : mMin (mCons (mLenB (mOwn 0)) (mCons (mBin modD (mVar 1) (mC (.int 4))) mNil)) R0 = some (.int (m : Int)) := by
    have a : mCons (mLenB (mOwn 0)) (mCons (mBin modD (mVar 1) (mC (.int 4))) mNil) R0 = some [.int (P.length : Int), .int (n % 4)] := by
      refine cons_of ?_ (cons_of (mod_of rfl con_of (by decide)) nil_of)
      show some (D.int ((P.map pc).length : Int)) = _; rw [List.length_map]
    unfold mMin
    rw [a, em]; rfl
  obtain ⟨P', V, x', p1, p2, p3, lp⟩ := take_loop hL n W T (.int (m : Int)) m 0 P [] .un trivial hm.2 (by simp only [List.length_nil]; omega)
  rw [List.nil_append] at lp
  have nd : (V.map (·.1)).Nodup := by rw [p3]; exact lab6_nd hL _ (by omega)
  let U := srtU V
  have pv : szs (U.map (·.2)) ≤ 900 := by
    rw [szs_perm ((srtU_perm V).map _)]
    have : szs P = szs P' + szs (V.map (·.2)) := by rw [p1, szs_app, szs_rev]
    omega
  have ho : (toFs U).ord.length ≤ 900 := Nat.le_trans (ord_len.ordF _) (by rw [toFs_pre]; exact pv)
  obtain ⟨y1, y2, lc⟩ := count_loop (.p (P'.map pc)) (.v (.int n)) (.v (.lst (dw L))) (.v W) (.v T) (.v (.int (m : Int))) (.z (U.map fdP)) x' U 2 [] .un .un trivial trivial (by simp only [List.length_nil]; omega)
  rw [List.nil_append] at lc
  let k : Kd := .rw o (toFs U) tl
  refine ⟨P', V, [.p (P'.map pc), .v (.int n), .v (.lst (dw L)), .v W, .v T], p1, by omega, rfl, ?_⟩
  let fr' : Sl → Sl → Sl → Sl → Sl → Sl → En := fun u x c a y z => [.p (P'.map pc), .v (.int n), .v (.lst (dw L)), .v W, .v T, .v (.int (m : Int)), u, x, c, a, y, z]
  have e : g__law_of_fields R0 = some (.rt (pc k) (fr' (.v (.lst (U.map fdP))) x' (.v (.int k.cnt)) (.v (.lst (k.ord.map .int))) y1 y2)) := by
    unfold g__law_of_fields
    have fo : sFor (setV 7) (mRng1 (mVar 5)) bodyT [.p (P.map pc), .v (.int n), .v (.lst (dw L)), .v W, .v T, .v (.int (m : Int)), .o [], .un, .un, .un, .un, .un] = some (.nx (fr' (.o (V.map fdP)) x' .un .un .un .un)) := by
      unfold sFor
      rw [rng_of (n := m) rfl (by omega), Option.bind_some, List.range_eq_range']
      exact lp
    unfold bodyT at fo
    refine seq_set (r2 := [.p (P.map pc), .v (.int n), .v (.lst (dw L)), .v W, .v T, .v (.int (m : Int)), .un, .un, .un, .un, .un, .un]) (.int (m : Int)) e1 rfl ?_
    refine (seq_of (r' := [.p (P.map pc), .v (.int n), .v (.lst (dw L)), .v W, .v T, .v (.int (m : Int)), .o [], .un, .un, .un, .un, .un]) rfl).trans ((seq_of fo).trans ?_)
    have so : sOwn 6 (mSrtP (mOwn 6)) (fr' (.o (V.map fdP)) x' .un .un .un .un) = some (.nx (fr' (.o (U.map fdP)) x' .un .un .un .un)) := by
      unfold sOwn
      rw [srtP_of (P := V) rfl (by omega) nd]; rfl
    refine (seq_of so).trans ?_
    refine seq_set (r2 := fr' (.o (U.map fdP)) x' (.v (.int 2)) .un .un .un) (.int 2) con_of rfl ?_
    refine seq_set (r2 := fr' (.o (U.map fdP)) x' (.v (.int 2)) (.v (.lst [])) .un .un) (.lst []) (lstF_of nil_of (by show 0 ≤ 100; decide)) rfl ?_
    have fz : sZ 6 (sFor (bdSeq 2 (bdCons (setV 10) (bdCons (setV 11) bdNil))) (mZs 6) bodyC) (fr' (.o (U.map fdP)) x' (.v (.int 2)) (.v (.lst [])) .un .un) = some (.nx (fr' (.o (U.map fdP)) x' (.v (.int (2 + (toFs U).cnt))) (.v (.lst ((toFs U).ord.map .int))) y1 y2)) :=
      z_of (r1 := fr' (.z (U.map fdP)) x' (.v (.int 2)) (.v (.lst [])) .un .un) (r2 := fr' (.z (U.map fdP)) x' (.v (.int (2 + (toFs U).cnt))) (.v (.lst ((toFs U).ord.map .int))) y1 y2) rfl (for_of (l := U.map fdP) rfl lc) rfl
    unfold bodyC at fz
    refine (seq_of fz).trans ?_
    have si : sIf (mBl (mBin notND (mVar 4) (mC .non))) (sSet 9 (mBin addD (mVar 9) (mOfF (mLstF (mCons (mVar 4) mNil))))) sSkip (fr' (.o (U.map fdP)) x' (.v (.int (2 + (toFs U).cnt))) (.v (.lst ((toFs U).ord.map .int))) y1 y2) = some (.nx (fr' (.o (U.map fdP)) x' (.v (.int k.cnt)) (.v (.lst (k.ord.map .int))) y1 y2)) := by
      cases htl : tl with
      | none =>
        have ek : k.ord = (toFs U).ord := by show (toFs U).ord ++ tlI tl = _; rw [htl]; exact List.append_nil _
        rw [ek]
        refine (sIf_f (bl_of (bin_of (x := T) rfl con_of ?_))).trans rfl
        show notND (tlD tl) .non = _
        rw [htl]; rfl
      | some t =>
        refine (sIf_t (bl_of (bin_of (x := T) rfl con_of ?_))).trans ?_
        · show notND (tlD tl) .non = _
          rw [htl]; rfl
        · have ek : k.ord = (toFs U).ord ++ [t] := by show (toFs U).ord ++ tlI tl = _; rw [htl]; rfl
          rw [ek]
          refine set_of (.lst (((toFs U).ord ++ [t]).map .int)) (cat_of (b := [t]) rfl (lstF_of (cons_of ?_ nil_of) (by show 1 ≤ 100; decide)) (by simp only [List.length_cons, List.length_nil]; omega)) rfl
          show some (tlD tl) = _
          rw [htl]; rfl
    refine (seq_of si).trans ?_
    unfold sRel
    show sRet _ (fr' (.v (.lst (U.map fdP))) x' (.v (.int k.cnt)) (.v (.lst (k.ord.map .int))) y1 y2) = _
    have ul : U.length ≤ 3 := by show (srtU V).length ≤ 3; rw [(srtU_perm V).length_eq]; omega
    have ec : mTupOf (mComp [] 2 (mIt (mVar 6)) (bdSeq 2 (bdCons (setV 0) (bdCons (setV 1) bdNil))) (mTup (mCons (mVar 0) (mCons (mBin ixD (mVar 1) (mC (.int 0))) mNil)))) (fr' (.v (.lst (U.map fdP))) x' (.v (.int k.cnt)) (.v (.lst (k.ord.map .int))) y1 y2) = some (.tup (toFs U).ds) := by
      unfold mTupOf mComp mCompIf
      rw [show mIt (mVar 6) (fr' (.v (.lst (U.map fdP))) x' (.v (.int k.cnt)) (.v (.lst (k.ord.map .int))) y1 y2) = some (U.map fdP) from rfl, Option.bind_some, if_pos (by rw [List.length_map]; exact Nat.lt_of_le_of_lt ul (by decide))]
      rw [show capR [] 2 _ = [.un, .un] from rfl, comp_row U .un .un trivial trivial]; rfl
    refine ret_of (lstF_of (cons_of (tup_of (cons_of rfl (cons_of (tup_of (cons_of con_of (cons_of ec (cons_of rfl nil_of))) (by show 3 ≤ 100; decide)) nil_of)) (by show 2 ≤ 100; decide)) (cons_of rfl (cons_of rfl nil_of))) (by show 3 ≤ 100; decide))
  exact mk_rt' (n := 5) (N := 12) (s := g__law_of_fields) (as := [.p (P.map pc), .v (.int n), .v (.lst (dw L)), .v W, .v T]) e
theorem mod2 (a : Int) : 0 ≤ a % 2 ∧ a % 2 < 2 := ⟨Int.emod_nonneg _ (by decide), Int.emod_lt_of_pos _ (by decide)⟩
theorem callXA_of {n : Nat} {m : MF} {xs : En → Option (List D × En)} {r r1 : En} {l : List D} {d : D} (e : xs r = some (l, r1)) (hl : l.length = n) (h : ∃ as, m (l.map .v) = some (.v d, as)) : mCallXA n m xs r = some (d, r1) := by
  obtain ⟨as, h⟩ := h
  unfold mCallXA
  rw [e, Option.bind_some]
  simp [hl, h, rsD]
theorem last2 {P : List Kd} (h : 1 < P.length) : ∃ P0 f la, P = P0 ++ [f] ++ [la] := by
  rcases List.eq_nil_or_concat P with h' | ⟨P1, la, h'⟩
  · subst h'; simp at h
  · rw [List.concat_eq_append] at h'
    rcases List.eq_nil_or_concat P1 with z | ⟨P0, f, z⟩
    · subst z h'; simp at h
    · rw [List.concat_eq_append] at z; exact ⟨P0, f, la, by rw [h', z]⟩
theorem step_eq {L : Ws} (hL : LbOk L) (n b : Int) {P : List Kd} (hP : ∀ k ∈ P, k.wd) (hz : szs P ≤ 800) : ∃ (P2 : List Kd) (as : List Sl), (∀ k ∈ P2, k.wd) ∧ szs P2 = szs P + 1 ∧ as[0]? = some (.p (P2.map pc)) ∧
    F__law_stepped [.p (P.map pc), .v (.int n), .v (.lst (dw L)), .v (.int b)] = some (.v .non, as) := by
  have hl : P.length ≤ 1000 := by have := len_szs P; omega
  let w := n % 8
  let q := n / 8
  let fr' : List Kd → Sl → Sl → En := fun P x y => [.p (P.map pc), .v (.int n), .v (.lst (dw L)), .v (.int b), .v (.int w), .v (.int q), x, y]
  let R : En := fr' P .un .un
  have pl : ∀ P : List Kd, (P.map pc).length = P.length := fun P => List.length_map _
  have fin : ∀ (P2 : List Kd) (r' : En), (∀ k ∈ P2, k.wd) → szs P2 = szs P + 1 → r'[0]? = some (.p (P2.map pc)) → g__law_stepped [.p (P.map pc), .v (.int n), .v (.lst (dw L)), .v (.int b), .un, .un, .un, .un] = some (.nx r') → ∃ (P2 : List Kd) (as : List Sl), (∀ k ∈ P2, k.wd) ∧ szs P2 = szs P + 1 ∧ as[0]? = some (.p (P2.map pc)) ∧
      F__law_stepped [.p (P.map pc), .v (.int n), .v (.lst (dw L)), .v (.int b)] = some (.v .non, as) := fun P2 r' a1 a2 a4 a5 => ⟨P2, r'.take 4, a1, a2, by rw [List.getElem?_take, if_pos (by decide)]; exact a4, mk_nx (n := 4) (N := 8) a5⟩
  have start : ∀ {h : MS} {z}, h R = z → sSeq (sSet 4 (mBin modD (mVar 1) (mC (.int 8)))) (sSeq (sSet 5 (mBin fdivD (mVar 1) (mC (.int 8)))) h) [.p (P.map pc), .v (.int n), .v (.lst (dw L)), .v (.int b), .un, .un, .un, .un] = z := fun e =>
    seq_set (r2 := [.p (P.map pc), .v (.int n), .v (.lst (dw L)), .v (.int b), .v (.int w), .un, .un, .un]) (.int w) (mod_of rfl con_of (by decide)) rfl (seq_set (r2 := R) (.int q) (fdiv_of rfl con_of (by decide)) rfl e)
  have c3 : mBl (mBin eqA (mVar 4) (mC (.int 3))) R = some (decide (w = 3)) := bl_of (bin_of (x := .int w) rfl con_of rfl)
  have cl : mBl (mBin gtD (mLenB (mOwn 0)) (mC (.int 1))) R = some (decide (1 < (P.length : Int))) := gt_of (by show some (D.int ((P.map pc).length : Int)) = _; rw [pl]) con_of
  have cg : mBl (mBin gtD (mVar 4) (mC (.int 3))) R = some (decide (3 < w)) := gt_of rfl con_of
  by_cases hA1 : w = 3 ∧ 1 < P.length
  · obtain ⟨P0, f, la, rfl⟩ := last2 hA1.2
    have of := hP f (by simp)
    have ol := hP la (by simp)
    have zf : f.pre.length + la.pre.length ≤ 800 := by
      rw [szs_snoc, szs_snoc] at hz; omega
    refine fin (P0 ++ [.fn f la]) (fr' (P0 ++ [.fn f la]) (.v (pc la)) .un) (fun k hk => ?_) ?_ rfl ?_
    · rcases List.mem_append.mp hk with hk | hk
      · exact hP k (by simp [hk])
      · rw [List.mem_singleton.mp hk]; exact ⟨of, ol⟩
    · rw [szs_snoc, szs_snoc, szs_snoc]
      show _ + (Kd.fn f la :: (f.pre ++ la.pre)).length = _
      rw [List.length_cons, List.length_append]; omega
    · unfold g__law_stepped
      refine start ((sIf_t (andT_tx (c3.trans (by rw [decide_eq_true hA1.1])) (cl.trans (by rw [decide_eq_true (by omega)])))).trans ?_)
      have p1 : sSetX 6 (mPop 0) (fr' (P0 ++ [f] ++ [la]) .un .un) = some (.nx (fr' (P0 ++ [f]) (.v (pc la)) .un)) := by
        refine sSetX_of (pop_p (S := (P0 ++ [f]).map pc) (d := pc la) ?_) rfl
        show some (Sl.p ((P0 ++ [f] ++ [la]).map pc)) = _
        rw [List.map_append (l₁ := P0 ++ [f])]; rfl
      have p2 : mPop 0 (fr' (P0 ++ [f]) (.v (pc la)) .un) = some (pc f, fr' P0 (.v (pc la)) .un) := by
        refine pop_p (S := P0.map pc) (d := pc f) ?_
        show some (Sl.p ((P0 ++ [f]).map pc)) = _
        rw [List.map_append]; rfl
      have mx : mMidX (mPop 0) (mCons (mVar 6) mNil) (fr' (P0 ++ [f]) (.v (pc la)) .un) = some ([pc f, pc la], fr' P0 (.v (pc la)) .un) := by
        unfold mMidX
        rw [p2]; rfl
      have tx := callXA_of (n := 2) (m := F__law_of_two) mx rfl (two_eq f la (by have := ord_len f; have := ord_len la; omega))
      refine (seq_of p1).trans ((sX_of (d := .non) (appX_of (i := 0) (l0 := (P0 ++ [f]).map pc) (l := P0.map pc) rfl tx rfl (by rw [pl]; simp at hl; exact Nat.lt_of_le_of_lt (by omega : P0.length ≤ 1000) (by decide)))).trans ?_)
      show some (Fl.nx [.p (P0.map pc ++ [pc (Kd.fn f la)]), .v (.int n), .v (.lst (dw L)), .v (.int b), .v (.int w), .v (.int q), .v (pc la), .un]) = some (Fl.nx [.p ((P0 ++ [Kd.fn f la]).map pc), .v (.int n), .v (.lst (dw L)), .v (.int b), .v (.int w), .v (.int q), .v (pc la), .un])
      rw [List.map_append]; rfl
  · have na : mAndT (mBl (mBin eqA (mVar 4) (mC (.int 3)))) (mBl (mBin gtD (mLenB (mOwn 0)) (mC (.int 1)))) R = some false := by
      by_cases h : w = 3
      · exact andT_tx (c3.trans (by rw [decide_eq_true h])) (cl.trans (by rw [decide_eq_false (by omega)]))
      · exact andT_ff (c3.trans (by rw [decide_eq_false h]))
    by_cases h4 : 3 < w
    · obtain ⟨td, ⟨tl, etl⟩, et⟩ : ∃ d, (∃ tl : Option Int, d = tlD tl) ∧ mBin ixD (mOfF (mLstF (mCons (mC .non) (mCons (mC .non) (mCons (mBin addD (mBin addD (mVar 3) (mC (.int 1))) (mBin mulD (mC (.int 2)) (mBin modD (mBin fdivD (mVar 5) (mC (.int 3))) (mC (.int 4))))) mNil))))) (mBin modD (mVar 5) (mC (.int 3))) R = some d :=
        pick_of (P := fun d => ∃ tl : Option Int, d = tlD tl) con_of con_of (add_of (i := b + 1) (add_of rfl con_of) (mul_of con_of (mod_of (fdiv_of rfl con_of (by decide)) con_of (by decide)) (by decide))) rfl ⟨none, rfl⟩ ⟨none, rfl⟩ ⟨some _, rfl⟩
      subst etl
      let R9 : En := fr' P .un (.v (tlD tl))
      have q2 : 0 ≤ w % 2 ∧ w % 2 < 2 := mod2 w
      obtain ⟨o, ew⟩ : ∃ o : Bool, mBin ixD (mOfF (mLstF (mCons (mC (.str [114, 101, 99])) (mCons (mC (.str [111, 110, 101])) mNil)))) (mBin modD (mVar 4) (mC (.int 2))) R9 = some (.str (wrd o)) := by
        have el : mOfF (mLstF (mCons (mC (.str [114, 101, 99])) (mCons (mC (.str [111, 110, 101])) mNil))) R9 = some (.lst [.str sRec, .str sOne]) := lstF_of (cons_of con_of (cons_of con_of nil_of)) (by show 2 ≤ 100; decide)
        have ei : mBin modD (mVar 4) (mC (.int 2)) R9 = some (.int (w % 2)) := mod_of rfl con_of (by decide)
        rcases (by omega : w % 2 = 0 ∨ w % 2 = 1) with h | h
        · exact ⟨false, bin_of el (y := .int ((0 : Nat) : Int)) (ei.trans (by rw [h]; rfl)) (atI_nat (j := 0) rfl)⟩
        · exact ⟨true, bin_of el (y := .int ((1 : Nat) : Int)) (ei.trans (by rw [h]; rfl)) (atI_nat (j := 1) rfl)⟩
      obtain ⟨P', V, as, p1, p2, p5, p6⟩ := fields_eq (q / 12) hL o tl P (by omega)
      let k : Kd := .rw o (toFs (srtU V)) tl
      have ec : mCallX 5 F__law_of_fields 0 (zP (mCons (mBin fdivD (mVar 5) (mC (.int 12))) (mCons (mVar 2) (mCons (mBin ixD (mOfF (mLstF (mCons (mC (.str [114, 101, 99])) (mCons (mC (.str [111, 110, 101])) mNil)))) (mBin modD (mVar 4) (mC (.int 2)))) (mCons (mVar 7) mNil))))) R9 = some (pc k, fr' P' .un (.v (tlD tl))) :=
        callX0 (l := P.map pc) (es := [.int (q / 12), .lst (dw L), .str (wrd o), tlD tl]) (as := as) (l' := P'.map pc) rfl (cons_of (fdiv_of rfl con_of (by decide)) (cons_of rfl (cons_of ew (cons_of rfl nil_of)))) rfl p6 p5 rfl
      have memV : ∀ p ∈ srtU V, p.2 ∈ P := fun p hp => by
        have hp' := (srtU_perm V).mem_iff.mp hp
        rw [p1]
        exact List.mem_append.mpr (.inr (List.mem_reverse.mpr (List.mem_map_of_mem hp')))
      have sub : ∀ x ∈ P', x ∈ P := fun x hx => by rw [p1]; exact List.mem_append.mpr (.inl hx)
      have lenP : P'.length ≤ P.length := by rw [p1, List.length_append]; omega
      refine fin (P' ++ [k]) (fr' (P' ++ [k]) .un (.v (tlD tl))) (fun x hx => ?_) ?_ rfl ?_
      · rcases List.mem_append.mp hx with hx | hx
        · exact hP x (sub x hx)
        · rw [List.mem_singleton.mp hx]
          refine ⟨?_, toFs_wd _ fun p hp => hP _ (memV p hp)⟩
          rw [toFs_kds, List.length_map, (srtU_perm V).length_eq]; omega
      · rw [szs_snoc]
        show _ + (_ :: (toFs (srtU V)).pre).length = _
        have e : szs P = szs P' + szs (V.map (·.2)) := by rw [p1, szs_app, szs_rev]
        rw [List.length_cons, toFs_pre, szs_perm ((srtU_perm V).map _), e]; omega
      · unfold g__law_stepped
        refine start ((sIf_f na).trans ((sIf_t (cg.trans (by rw [decide_eq_true h4]))).trans ?_))
        refine seq_set (r2 := R9) (tlD tl) et rfl ?_
        refine (sX_of (d := .non) (appX_of (i := 0) (l0 := P.map pc) (l := P'.map pc) rfl ec rfl (by rw [pl]; exact Nat.lt_of_le_of_lt (by omega : P'.length ≤ 1000) (by decide)))).trans ?_
        show some (Fl.nx [.p (P'.map pc ++ [pc k]), .v (.int n), .v (.lst (dw L)), .v (.int b), .v (.int w), .v (.int q), .un, .v (tlD tl)]) = some (Fl.nx [.p ((P' ++ [k]).map pc), .v (.int n), .v (.lst (dw L)), .v (.int b), .v (.int w), .v (.int q), .un, .v (tlD tl)])
        rw [List.map_append]; rfl
    · obtain ⟨k, k1, k3, ek⟩ := leaf_eq q b
      refine fin (P ++ [k]) (fr' (P ++ [k]) .un .un) (fun x hx => ?_) (by rw [szs_snoc, k3]) rfl ?_
      · rcases List.mem_append.mp hx with hx | hx
        · exact hP x hx
        · rw [List.mem_singleton.mp hx]; exact k1
      · unfold g__law_stepped
        refine start ((sIf_f na).trans ((sIf_f (cg.trans (by rw [decide_eq_false h4]))).trans ?_))
        refine (sX_of (d := .non) (app_p (i := 0) (S := P.map pc) rfl (call_of (p := .v (pc k)) (cons_of rfl (cons_of rfl nil_of)) rfl ek) (by rw [pl]; exact Nat.lt_of_le_of_lt hl (by decide)))).trans ?_
        show some (Fl.nx [.p (P.map pc ++ [pc k]), .v (.int n), .v (.lst (dw L)), .v (.int b), .v (.int w), .v (.int q), .un, .un]) = some (Fl.nx [.p ((P ++ [k]).map pc), .v (.int n), .v (.lst (dw L)), .v (.int b), .v (.int w), .v (.int q), .un, .un])
        rw [List.map_append]; rfl
theorem whole_eq (i : Int) : ∃ as, F__law_whole [.v (.int i)] = some (.v (.bl true), as) := by
  refine mk_rt (r' := [.v (.int i)]) ?_
  show g__law_whole [.v (.int i)] = _
  unfold g__law_whole
  exact ret_of rfl
theorem lay_ints : ∀ l : List Int, okDs (l.map .int) = true ∧ PyData.canLayAll0 (toPs (l.map .int)) = true ∧ PyData.depthAll (toPs (l.map .int)) = 0
  | [] => ⟨rfl, rfl, by simp [toPs, PyData.depthAll]⟩
  | i :: l => by
    obtain ⟨a, b, c⟩ := lay_ints l
    refine ⟨by simp only [List.map_cons, okDs, okD, a, Bool.and_true], by simp only [List.map_cons, toPs, toP, PyData.canLayAll0, PyData.canLay0, b, Bool.and_true], ?_⟩
    simp only [List.map_cons, toPs, toP, PyData.depthAll, PyData.depth, c, Nat.max_self]
theorem lay_lst (l : List Int) : layN 400 (.lst (l.map .int)) = true := by
  obtain ⟨a, b, c⟩ := lay_ints l
  unfold layN
  rw [show okD (.lst (l.map .int)) = true from a, show (toP (.lst (l.map .int))).canLay0 = true from b, show (toP (.lst (l.map .int))).depth = 1 by simp only [toP, PyData.depth, c]]
  rfl
theorem lay_int (i : Int) : layN 400 (.int i) = true := rfl
theorem comp_whole : ∀ (l : List Int) (x : Sl), fre x → compL (setV 0) mTrue (mCall 1 F__law_whole (mCons (mVar 0) mNil)) (l.map .int) [x] = some (List.replicate l.length (.bl true))
  | [], _, _ => rfl
  | i :: l, x, hx => by
    rw [List.map_cons, List.length_cons, List.replicate_succ]
    exact comp_go (r1 := [.v (.int i)]) (setV_fre (x := x) rfl hx) (call_of (p := .v (.bl true)) (cons_of rfl nil_of) rfl (whole_eq i)) (comp_whole l (.v (.int i)) trivial)
theorem bls_rep : ∀ n : Nat, blsD (List.replicate n (.bl true)) = some (List.replicate n true)
  | 0 => rfl
  | n + 1 => by
    rw [List.replicate_succ, List.replicate_succ]
    unfold blsD
    rw [bls_rep n]; rfl
theorem all_rep (n : Nat) : (List.replicate n true).all id = true := by simp
theorem callF_of {n : Nat} {m : MF} {fl : ML} {r : En} {l q : List D} (e : fl r = some l) (hl : l.length = n) (h : ∃ as, m (l.map .v) = some (.f q, as)) : mCallF n m fl r = some q := by
  obtain ⟨as, h⟩ := h
  unfold mCallF
  rw [e, Option.bind_some, if_pos hl, h]; rfl
theorem ofF_of {fl : ML} {r : En} {q : List D} (e : fl r = some q) : mOfF fl r = some (.lst q) := by unfold mOfF; rw [e]; rfl
theorem good_eq {k : Kd} (h : k.wd) (hs : k.pre.length ≤ 400) : ∃ as, F__law_good [.v (pc k)] = some (.v (.bl true), as) := by
  have ho := ord_len k
  let W : List Int := inss [] k.ord
  let w : List D := W.map .int
  have lw : W.length ≤ 400 := by
    have := inss_len k.ord []
    simp only [List.length_nil] at this
    show (inss [] k.ord).length ≤ 400
    omega
  let fr' : Sl → Sl → Sl → En := fun a b c => [.v (pc k), a, b, c]
  let R3 : En := fr' (.v (.int k.cnt)) (.o w) (.v (.lst w))
  let R3v : En := fr' (.v (.int k.cnt)) (.v (.lst w)) (.v (.lst w))
  let R4 : En := fr' (.v (.int k.cnt)) (.o (w ++ [.int 0])) (.v (.lst w))
  refine mk_rt (r' := R4) ?_
  show g__law_good (fr' .un .un .un) = _
  unfold g__law_good
  refine seq_set (r2 := fr' (.v (.int k.cnt)) .un .un) (.int k.cnt) (call_of (p := .v (.int k.cnt)) (cons_of (pc0 (k := k) rfl) nil_of) rfl (parts_eq h (by omega))) rfl ?_
  have s2 : sOwn 2 (mCallF 1 F_numbers (mCons (mBin ixD (mVar 0) (mC (.int 0))) mNil)) (fr' (.v (.int k.cnt)) .un .un) = some (.nx (fr' (.v (.int k.cnt)) (.o w) .un)) := by
    have e : mCallF 1 F_numbers (mCons (mBin ixD (mVar 0) (mC (.int 0))) mNil) (fr' (.v (.int k.cnt)) .un .un) = some w := callF_of (cons_of (pc0 (k := k) rfl) nil_of) rfl (numbers_eq h hs)
    unfold sOwn
    rw [e]; rfl
  refine (seq_of s2).trans ?_
  refine seq_set (r2 := R3) (.lst w) (ofF_of (callF_of (q := w) (cons_of (pc2 (k := k) rfl) nil_of) rfl (once_eq k.ord (by omega)))) rfl ?_
  have c1 : mOrT (mNotT (mTru (mCall 1 F__law_whole (mCons (mVar 1) mNil)))) (mBl (mBin (neN 400) (mVar 1) (mBin ixD (mVar 0) (mC (.int 1))))) R3 = some false :=
    orT_fx (nott (call_of (p := .v (.bl true)) (cons_of rfl nil_of) rfl (whole_eq k.cnt))) (bl_of (bin_of (x := .int k.cnt) rfl (pc1 (k := k) rfl) (eqN_refl (lay_int _)).2))
  refine seq_ff c1 ?_
  have ca : mAll (mComp [] 1 (mIt (mVar 2)) (setV 0) (mCall 1 F__law_whole (mCons (mVar 0) mNil))) R3v = some (.bl true) := by
    have cm : mComp [] 1 (mIt (mVar 2)) (setV 0) (mCall 1 F__law_whole (mCons (mVar 0) mNil)) R3v = some (List.replicate W.length (.bl true)) := by
      unfold mComp mCompIf
      rw [show mIt (mVar 2) R3v = some w from rfl, Option.bind_some, if_pos (by show (W.map _).length < _; rw [List.length_map]; exact Nat.lt_of_le_of_lt lw (by decide))]
      exact comp_whole W .un trivial
    unfold mAll
    rw [cm, Option.bind_some, bls_rep]
    show some (D.bl _) = _
    rw [all_rep]
  have c2 : mTV 2 (mOrT (mNotT (mTru (mUn (instD "list") (mVar 2)))) (mOrT (mBl (mBin (neN 400) (mVar 2) (mVar 3))) (mNotT (mTru (mAll (mComp [] 1 (mIt (mVar 2)) (setV 0) (mCall 1 F__law_whole (mCons (mVar 0) mNil)))))))) R3 = some false := by
    show mOrT _ _ R3v = _
    exact orT_fx (nott (b := true) (un_of (x := .lst w) rfl rfl)) (orT_fx (bl_of (bin_of (x := .lst w) (y := .lst w) rfl rfl (eqN_refl (lay_lst W)).2)) (nott ca))
  refine seq_ff c2 ?_
  have s4 : sX (mApp 2 (mC (.int 0))) R3 = some (.nx R4) := by
    refine (sX_of (d := .non) (app_of (i := 2) (S := w) (d := .int 0) rfl con_of ?_)).trans rfl
    show (W.map _).length < _
    rw [List.length_map]; exact Nat.lt_of_le_of_lt lw (by decide)
  refine (seq_of s4).trans (ret_of ?_)
  exact bin_of (x := .lst w) (y := .lst w) (ofF_of (callF_of (q := w) (cons_of (pc0 (k := k) rfl) nil_of) rfl (numbers_eq h hs))) rfl (eqN_refl (lay_lst W)).1
section
variable {L : Ws} {b : Int}
noncomputable def bodyP : MS := (sX (mCallX 4 F__law_stepped 4 (zP (mCons (mCall 2 F__law_mixed (mCons (mVar 6) (mCons (mBin addD (mVar 5) (mC (.int 3))) mNil))) (mCons (mVar 1) (mCons (mVar 3) mNil))))))
theorem pile_loop (hL : LbOk L) (A0 A2 A7 : Sl) : ∀ (cs : List Int) (s : Nat) (P : List Kd) (x y : Sl), fre x → fre y → s + cs.length ≤ 500 → szs P + cs.length ≤ 500 → (∀ k ∈ P, k.wd) →
    ∃ (P' : List Kd) (x' y' : Sl), (∀ k ∈ P', k.wd) ∧ szs P' = szs P + cs.length ∧
      forL (bdSeq 2 (bdCons (setV 5) (bdCons (setV 6) bdNil))) bodyP (((cs.map D.int).zipIdx s).map fun p => D.tup [.int (p.2 : Nat), p.1]) [A0, .v (.lst (dw L)), A2, .v (.int b), .o (P.map pc), x, y, A7] = some (.nx [A0, .v (.lst (dw L)), A2, .v (.int b), .o (P'.map pc), x', y', A7])
  | [], s, P, x, y, hx, hy, _, _, hP => ⟨P, x, y, hP, rfl, by simp [forL]⟩
  | c :: cs, s, P, x, y, hx, hy, hs, hz, hP => by
    rw [List.length_cons] at hs hz
    obtain ⟨z, _, em⟩ := mixed_eq c (k := (s : Int) + 3) (by omega) (by omega)
    obtain ⟨P2, as, a1, a2, a4, a5⟩ := step_eq hL z b hP (by omega)
    obtain ⟨P', x', y', e1, e2, ih⟩ := pile_loop hL A0 A2 A7 cs (s + 1) P2 (.v (.int (s : Int))) (.v (.int c)) trivial trivial (by omega) (by omega) a1
    refine ⟨P', x', y', e1, by rw [e2, a2, List.length_cons]; omega, ?_⟩
    rw [List.map_cons, List.zipIdx_cons, List.map_cons]
    let R : En := [A0, .v (.lst (dw L)), A2, .v (.int b), .o (P.map pc), .v (.int (s : Int)), .v (.int c), A7]
    have ec : mCallX 4 F__law_stepped 4 (zP (mCons (mCall 2 F__law_mixed (mCons (mVar 6) (mCons (mBin addD (mVar 5) (mC (.int 3))) mNil))) (mCons (mVar 1) (mCons (mVar 3) mNil)))) R = some (.non, [A0, .v (.lst (dw L)), A2, .v (.int b), .o (P2.map pc), .v (.int (s : Int)), .v (.int c), A7]) := callX0 (l := P.map pc) (es := [.int z, .lst (dw L), .int b]) (as := as) (l' := P2.map pc) rfl (cons_of (call_of (p := .v (.int z)) (cons_of rfl (cons_of (add_of rfl con_of) nil_of)) rfl em) (cons_of rfl (cons_of rfl nil_of))) rfl a5 a4 rfl
    have bd : bodyP R = some (.nx [A0, .v (.lst (dw L)), A2, .v (.int b), .o (P2.map pc), .v (.int (s : Int)), .v (.int c), A7]) := by
      unfold bodyP
      exact sX_of ec
    exact (for_go (r1 := R) (bdP (r1 := [A0, .v (.lst (dw L)), A2, .v (.int b), .o (P.map pc), .v (.int (s : Int)), y, A7]) (setV_fre (x := x) rfl hx) (setV_fre (x := y) rfl hy)) bd).trans ih
noncomputable def bodyW : MS := (sSeq (sSetX 7 (mPop 4))
 (sX (mAppX 4 (mCallXA 2 F__law_of_two (mMidX (mPop 4) (mCons (mVar 7) mNil))))))
noncomputable def condW : MB := mBl (mBin gtD (mLenB (mOwn 4)) (mC (.int 1)))
theorem join_loop (A0 A1 A2 A3 A5 A6 : Sl) : ∀ (n : Nat) (P : List Kd) (x : Sl), fre x → P.length ≤ n + 1 → (∀ k ∈ P, k.wd) → szs P + P.length ≤ 350 →
    ∃ (P' : List Kd) (x' : Sl), (∀ k ∈ P', k.wd ∧ k.pre.length ≤ 350) ∧ P'.length ≤ 350 ∧ ∀ m, sWhile (n + m + 1) condW bodyW [A0, A1, A2, A3, .o (P.map pc), A5, A6, x] = some (.nx [A0, A1, A2, A3, .o (P'.map pc), A5, A6, x'])
  | n, P, x, hx, hn, hP, hz => by
    have cl : condW [A0, A1, A2, A3, .o (P.map pc), A5, A6, x] = some (decide (1 < (P.length : Int))) := gt_of (by show some (D.int ((P.map pc).length : Int)) = _; rw [List.length_map]) con_of
    by_cases h1 : 1 < P.length
    · cases n with
      | zero => omega
      | succ n =>
        obtain ⟨P0, f, la, rfl⟩ := last2 h1
        have of := hP f (by simp)
        have ol := hP la (by simp)
        have z2 : szs (P0 ++ [f] ++ [la]) = szs P0 + f.pre.length + la.pre.length := by rw [szs_snoc, szs_snoc]
        have zf : szs (P0 ++ [Kd.fn f la]) = szs P0 + (1 + f.pre.length + la.pre.length) := by
          rw [szs_snoc]
          show _ + (Kd.fn f la :: (f.pre ++ la.pre)).length = _
          rw [List.length_cons, List.length_append]; omega
        have l1 : (P0 ++ [f] ++ [la]).length = P0.length + 2 := by simp
        have l2 : (P0 ++ [Kd.fn f la]).length = P0.length + 1 := by simp
        obtain ⟨P', x', e1, e2, ih⟩ := join_loop A0 A1 A2 A3 A5 A6 n (P0 ++ [.fn f la]) (.v (pc la)) trivial (by omega) (fun k hk => by
          (rcases List.mem_append.mp hk with hk | hk)
          · exact hP k (by simp [hk])
          · rw [List.mem_singleton.mp hk]; exact ⟨of, ol⟩) (by omega)
        refine ⟨P', x', e1, e2, fun m => ?_⟩
        rw [show n + 1 + m + 1 = (n + m + 1) + 1 by omega]
        let fr' : List Kd → Sl → En := fun P x => [A0, A1, A2, A3, .o (P.map pc), A5, A6, x]
        have p1 : sSetX 7 (mPop 4) (fr' (P0 ++ [f] ++ [la]) x) = some (.nx (fr' (P0 ++ [f]) (.v (pc la)))) := by
          refine sSetX_of (pop_of (S := (P0 ++ [f]).map pc) (d := pc la) ?_) (setV_fre (x := x) rfl hx)
          show some (Sl.o ((P0 ++ [f] ++ [la]).map pc)) = _
          rw [List.map_append (l₁ := P0 ++ [f])]; rfl
        have p2 : mPop 4 (fr' (P0 ++ [f]) (.v (pc la))) = some (pc f, fr' P0 (.v (pc la))) := by
          refine pop_of (S := P0.map pc) (d := pc f) ?_
          show some (Sl.o ((P0 ++ [f]).map pc)) = _
          rw [List.map_append]; rfl
        have mx : mMidX (mPop 4) (mCons (mVar 7) mNil) (fr' (P0 ++ [f]) (.v (pc la))) = some ([pc f, pc la], fr' P0 (.v (pc la))) := by
          unfold mMidX
          rw [p2]; rfl
        have tx := callXA_of (n := 2) (m := F__law_of_two) mx rfl (two_eq f la (by have := ord_len f; have := ord_len la; omega))
        have bd : bodyW (fr' (P0 ++ [f] ++ [la]) x) = some (.nx (fr' (P0 ++ [.fn f la]) (.v (pc la)))) := by
          unfold bodyW
          refine (seq_of p1).trans ((sX_of (d := .non) (appO_of (i := 4) (l0 := (P0 ++ [f]).map pc) (l := P0.map pc) rfl tx rfl (by rw [List.length_map]; exact Nat.lt_of_le_of_lt (by omega : P0.length ≤ 1000) (by decide)))).trans ?_)
          show some (Fl.nx [A0, A1, A2, A3, .o (P0.map pc ++ [pc (Kd.fn f la)]), A5, A6, .v (pc la)]) = some (Fl.nx [A0, A1, A2, A3, .o ((P0 ++ [Kd.fn f la]).map pc), A5, A6, .v (pc la)])
          rw [List.map_append]; rfl
        exact (while_go (cl.trans (by rw [decide_eq_true (by omega)])) bd).trans (ih m)
    · refine ⟨P, x, fun k hk => ⟨hP k hk, by have := one_szs hk; omega⟩, by omega, fun m => ?_⟩
      exact while_end (cl.trans (by rw [decide_eq_false (by omega)]))
end
theorem comp_good : ∀ (P : List Kd) (x : Sl), fre x → (∀ k ∈ P, k.wd ∧ k.pre.length ≤ 350) → compL (setV 0) mTrue (mCall 1 F__law_good (mCons (mVar 0) mNil)) (P.map pc) [x] = some (List.replicate P.length (.bl true))
  | [], _, _, _ => rfl
  | k :: P, x, hx, h => by
    rw [List.map_cons, List.length_cons, List.replicate_succ]
    have hk := h k (by simp)
    exact comp_go (r1 := [.v (pc k)]) (setV_fre (x := x) rfl hx) (call_of (p := .v (.bl true)) (cons_of rfl nil_of) rfl (good_eq hk.1 (by omega))) (comp_good P (.v (pc k)) trivial fun q hq => h q (by simp [hq]))
theorem law_math (ns : List Int) (hl : ns.length ≤ 63) : ∃ as, F_law [.v (.lst (ns.map .int))] = some (.v (.bl true), as) := by
  let sc : D := .lst (ns.map .int)
  obtain ⟨z0, _, m0⟩ := mixed_eq (ns.getD 0 0) (k := ((0 : Nat) : Int)) (by decide) (by decide)
  obtain ⟨L, hL, eL⟩ := labels_eq z0
  obtain ⟨z, hz, m1⟩ := mixed_eq (ns.getD 1 0) (k := ((1 : Nat) : Int)) (by decide) (by decide)
  have c0 := cell_eq ns 0
  have c1 := cell_eq ns 1
  let DL : D := .lst (dw L)
  let R2 : En := [.v sc, .v DL, .v (.int z), .un, .un, .un, .un, .un]
  obtain ⟨b, eb⟩ : ∃ b : Int, mBin ixD (mOfF (mLstF (mCons (mC (.int 0)) (mCons (mBin modD (mBin fdivD (mVar 2) (mC (.int 2))) (mBin powD (mC (.int 10)) (mC (.int 15)))) mNil)))) (mBin modD (mVar 2) (mC (.int 2))) R2 = some (.int b) := by
    have el : mOfF (mLstF (mCons (mC (.int 0)) (mCons (mBin modD (mBin fdivD (mVar 2) (mC (.int 2))) (mBin powD (mC (.int 10)) (mC (.int 15)))) mNil))) R2 = some (.lst [.int 0, .int (z / 2 % 1000000000000000)]) := lstF_of (cons_of con_of (cons_of (mod_of (j := 1000000000000000) (fdiv_of (i := z) rfl con_of (by decide)) rfl (by decide)) nil_of)) (by show 2 ≤ 100; decide)
    have ei : mBin modD (mVar 2) (mC (.int 2)) R2 = some (.int (z % 2)) := mod_of rfl con_of (by decide)
    rcases (by omega : z % 2 = 0 ∨ z % 2 = 1) with h | h
    · exact ⟨_, bin_of el (y := .int ((0 : Nat) : Int)) (ei.trans (by rw [h]; rfl)) (atI_nat (j := 0) rfl)⟩
    · exact ⟨_, bin_of el (y := .int ((1 : Nat) : Int)) (ei.trans (by rw [h]; rfl)) (atI_nat (j := 1) rfl)⟩
  let cs : List Int := (ns.take 62).drop 2
  have hcs : cs.length ≤ 60 := by show ((ns.take 62).drop 2).length ≤ 60; rw [List.length_drop, List.length_take]; omega
  obtain ⟨P, x5, x6, hP, hs, lp⟩ := pile_loop (b := b) hL (.v sc) (.v (.int z)) .un cs 0 [] .un .un trivial trivial (by omega) (by show 0 + _ ≤ 500; omega) (fun k hk => by cases hk)
  have hs' : szs P ≤ 60 := by rw [hs]; show 0 + cs.length ≤ 60; omega
  have lP := len_szs P
  obtain ⟨Q, x7, hQ, lQ, wl⟩ := join_loop (.v sc) (.v DL) (.v (.int z)) (.v (.int b)) x5 x6 P.length P .un trivial (by omega) hP (by omega)
  obtain ⟨k, k1, k2, ek⟩ := leaf_eq z b
  let R4 : En := [.v sc, .v DL, .v (.int z), .v (.int b), .o [], .un, .un, .un]
  let R5 : En := [.v sc, .v DL, .v (.int z), .v (.int b), .o (P.map pc), x5, x6, .un]
  let R6 : En := [.v sc, .v DL, .v (.int z), .v (.int b), .o (Q.map pc), x5, x6, x7]
  refine mk_rt (r' := R6) ?_
  show g_law [.v sc, .un, .un, .un, .un, .un, .un, .un] = _
  unfold g_law
  refine seq_set (r2 := [.v sc, .v DL, .un, .un, .un, .un, .un, .un]) DL (ofF_of (callF_of (l := [.int z0]) (cons_of (call_of (p := .v (.int z0)) (l := [.int (ns.getD 0 0), .int ((0 : Nat) : Int)]) (cons_of (call_of (p := .v (.int (ns.getD 0 0))) (l := [sc, .int ((0 : Nat) : Int)]) (cons_of rfl (cons_of con_of nil_of)) rfl c0) (cons_of con_of nil_of)) rfl m0) nil_of) rfl eL)) rfl ?_
  refine seq_set (r2 := R2) (.int z) (call_of (p := .v (.int z)) (l := [.int (ns.getD 1 0), .int ((1 : Nat) : Int)]) (cons_of (call_of (p := .v (.int (ns.getD 1 0))) (l := [sc, .int ((1 : Nat) : Int)]) (cons_of rfl (cons_of con_of nil_of)) rfl c1) (cons_of con_of nil_of)) rfl m1) rfl ?_
  refine seq_set (r2 := [.v sc, .v DL, .v (.int z), .v (.int b), .un, .un, .un, .un]) (.int b) eb rfl ?_
  refine (seq_of (r' := R4) rfl).trans ?_
  have sl : mEnum (mSl (mVar 0) (oSome (mC (.int 2))) (oSome (mC (.int 62)))) R4 = some (((cs.map D.int).zipIdx 0).map fun p => D.tup [.int (p.2 : Nat), p.1]) := by
    unfold mEnum
    have q : mSl (mVar 0) (oSome (mC (.int 2))) (oSome (mC (.int 62))) R4 = some (.lst (cs.map D.int)) := by
      refine sl_of (a := some ((2 : Nat) : Int)) (b := some ((62 : Nat) : Int)) (x := sc) rfl (osome_of con_of) (osome_of con_of) ?_
      show some (D.lst (cutL (ns.map D.int) (some ((2 : Nat) : Int)) (some ((62 : Nat) : Int)))) = _
      rw [cut_mid]
      show _ = some (D.lst (List.map D.int ((ns.take 62).drop 2)))
      rw [List.map_drop, List.map_take]
    rw [q]; rfl
  refine (seq_of (r' := R5) ?_).trans ?_
  · unfold bodyP at lp
    exact for_of sl lp
  have wl' := wl (WF - P.length - 1)
  rw [show P.length + (WF - P.length - 1) + 1 = WF by unfold WF; omega] at wl'
  unfold bodyW condW at wl'
  refine (seq_of wl').trans (ret_of ?_)
  have e1 : mLstF (mCons (mCall 2 F__law_leaf (mCons (mVar 2) (mCons (mVar 3) mNil))) mNil) R6 = some [pc k] := by
    unfold mLstF
    rw [show mCons (mCall 2 F__law_leaf (mCons (mVar 2) (mCons (mVar 3) mNil))) mNil R6 = some [pc k] from cons_of (call_of (p := .v (pc k)) (l := [.int z, .int b]) (cons_of rfl (cons_of rfl nil_of)) rfl ek) nil_of]; rfl
  have e2 : mIt (mOfF (mCat (mOwn 4) (mLstF (mCons (mCall 2 F__law_leaf (mCons (mVar 2) (mCons (mVar 3) mNil))) mNil)))) R6 = some ((Q ++ [k]).map pc) := by
    unfold mIt mOfF mCat
    rw [show mOwn 4 R6 = some (Q.map pc) from rfl, Option.bind_some, e1, Option.bind_some, if_pos (by rw [List.length_map]; exact Nat.le_trans (Nat.add_le_add_right lQ 1) (by decide)), List.map_append]; rfl
  have e3 : mComp [] 1 (mIt (mOfF (mCat (mOwn 4) (mLstF (mCons (mCall 2 F__law_leaf (mCons (mVar 2) (mCons (mVar 3) mNil))) mNil))))) (setV 0) (mCall 1 F__law_good (mCons (mVar 0) mNil)) R6 = some (List.replicate (Q ++ [k]).length (.bl true)) := by
    unfold mComp mCompIf
    rw [e2, Option.bind_some, if_pos (by rw [List.length_map, List.length_append]; exact Nat.lt_of_le_of_lt (Nat.add_le_add_right lQ 1) (by decide))]
    refine comp_good (Q ++ [k]) .un trivial fun q hq => ?_
    (rcases List.mem_append.mp hq with hq | hq)
    · exact hQ q hq
    · rw [List.mem_singleton.mp hq]; exact ⟨k1, by omega⟩
  unfold mAll
  rw [e3, Option.bind_some, bls_rep]
  show some (D.bl _) = _
  rw [all_rep]
theorem len1 {α : Type} {l : List α} (h : l.length = 1) : ∃ a0, l = [a0] := List.length_eq_one_iff.mp h
theorem len2 {α : Type} {l : List α} (h : l.length = 2) : ∃ a0 a1, l = [a0, a1] := by
  cases l with
  | nil => cases h
  | cons a0 l => obtain ⟨a1, rfl⟩ := len1 (Nat.succ.inj h); exact ⟨a0, a1, rfl⟩
theorem len3 {α : Type} {l : List α} (h : l.length = 3) : ∃ a0 a1 a2, l = [a0, a1, a2] := by
  cases l with
  | nil => cases h
  | cons a0 l => obtain ⟨a1, a2, rfl⟩ := len2 (Nat.succ.inj h); exact ⟨a0, a1, a2, rfl⟩
theorem len4 {α : Type} {l : List α} (h : l.length = 4) : ∃ a0 a1 a2 a3, l = [a0, a1, a2, a3] := by
  cases l with
  | nil => cases h
  | cons a0 l => obtain ⟨a1, a2, a3, rfl⟩ := len3 (Nat.succ.inj h); exact ⟨a0, a1, a2, a3, rfl⟩
theorem len5 {α : Type} {l : List α} (h : l.length = 5) : ∃ a0 a1 a2 a3 a4, l = [a0, a1, a2, a3, a4] := by
  cases l with
  | nil => cases h
  | cons a0 l => obtain ⟨a1, a2, a3, a4, rfl⟩ := len4 (Nat.succ.inj h); exact ⟨a0, a1, a2, a3, a4, rfl⟩
noncomputable def DfOk (K : Fg) (n : Str) (st : Stmt) : Prop := ∃ (f : Addr) (od an : Option Addr) (sl : Array (Option Value)) (oc kV dc pm cd ct : Value), PySem.W.nsIn K mainGlobals n = some (some (.ref f)) ∧ K.lookup f = some ⟨oc, od, .func (PySem.W.fnOf n n (defArgs st) (defBody st) (defScope st) .none kV dc pm an cd ct), sl⟩ ∧ PySem.W.codeIn K cd n = true ∧ PySem.W.keepIn K (.ref f) = true
theorem dfo {K : Fg} {n : Str} {st : Stmt} {f : Addr} {od an : Option Addr} {sl : Array (Option Value)} {oc kV dc pm cd ct : Value} (a : PySem.W.nsIn K mainGlobals n = some (some (.ref f))) (l : K.lookup f = some ⟨oc, od, .func (PySem.W.fnOf n n (defArgs st) (defBody st) (defScope st) .none kV dc pm an cd ct), sl⟩) (c : PySem.W.codeIn K cd n = true) (k : PySem.W.keepIn K (.ref f) = true) : DfOk K n st := ⟨f, od, an, sl, oc, kV, dc, pm, cd, ct, a, l, c, k⟩
theorem deo {K : Fg} {h : Heap} {mg : Str → Option Value} {n : Str} {i : Nat} {ps : List Str} (X : K.In h) (G : h.Ns mainGlobals mg) (D : DfOk K n (top i)) (hb : ∀ {f : Addr} {d : FuncData}, Fun K n n (top i) f d → Binds K d ps []) : Nonempty (De K mg n i ps) := by
  obtain ⟨f, _, _, _, _, _, _, _, _, _, a, l, c, k⟩ := D
  have F := fun_mk (st := top i) l c k
  exact ⟨⟨f, _, F, PySem.W.mg_of X G a, hb F⟩⟩
theorem law_sp {K : Fg} (hm : ∀ ns : List Int, ns.length ≤ 63 → ∃ as, F_law [.v (.lst (ns.map .int))] = some (.v (.bl true), as)) (H : Hp) (a : Addr) (ns : List Int) (hl : ns.length ≤ 63) (hS : SqL K H a (ns.map V.int)) : spD K 1 F_law [.ref a] H (fun v _ => v = .bl true) (fun _ _ _ => False) := by
  have il : ∀ l : List Int, IsL K (fun _ => False) H (l.map D.int) (l.map V.int) := fun l => by
    induction l with
    | nil => exact IsL.nil
    | cons x l ih => exact .cons (by rw [Is.int_iff]) ih
  obtain ⟨as, e⟩ := hm ns hl
  refine ⟨fun _ => False, [.v (.lst (ns.map .int))], _, as, rfl, R.args (ds := [.lst (ns.map .int)]) noF (.cons (by rw [Is.lst_iff]; exact ⟨a, _, rfl, hS.imp (fun z => ⟨id, z⟩) id, il ns⟩) .nil), fun i l => ?_, e, fun v H' _ iv => by rw [Is.bl_iff] at iv; exact iv⟩
  cases i with
  | zero => exact ⟨(fun z => by cases z), (fun z => by cases z), (fun _ z => by cases z)⟩
  | succ i => exact ⟨(fun z => by cases z), (fun z => by cases z), (fun _ z => by cases z)⟩
theorem all_mk {l : PySem.W.OpenLaw} {w : World} {K : Fg} {h : Heap} {mg : Str → Option Value} {fa : Addr} (X : K.In h) (G : h.Ns mainGlobals mg) (hfa : mg "law" = some (.ref fa))
    (D0 : DfOk K "has_row" (top 3))
    (D1 : DfOk K "own_parts" (top 2))
    (D2 : DfOk K "straight_in" (top 4))
    (D3 : DfOk K "within" (top 5))
    (D4 : DfOk K "parts" (top 1))
    (D5 : DfOk K "own_numbers" (top 7))
    (D6 : DfOk K "numbers" (top 6))
    (D7 : DfOk K "_law_whole" (top 9))
    (D8 : DfOk K "_law_cell_at" (top 10))
    (D9 : DfOk K "_law_mixed" (top 11))
    (D10 : DfOk K "_law_labels" (top 12))
    (D11 : DfOk K "_law_leaf" (top 13))
    (D12 : DfOk K "_law_of_fields" (top 14))
    (D13 : DfOk K "_law_of_two" (top 15))
    (D14 : DfOk K "_law_stepped" (top 16))
    (D15 : DfOk K "_law_once" (top 17))
    (D16 : DfOk K "_law_good" (top 18))
    (D17 : DfOk K "law" (top 19))
    (z_all : PySem.W.nsIn K mainGlobals "all" = some none)
    (z_bool : PySem.W.nsIn K mainGlobals "bool" = some none)
    (z_enumerate : PySem.W.nsIn K mainGlobals "enumerate" = some none)
    (z_int : PySem.W.nsIn K mainGlobals "int" = some none)
    (z_isinstance : PySem.W.nsIn K mainGlobals "isinstance" = some none)
    (z_len : PySem.W.nsIn K mainGlobals "len" = some none)
    (z_list : PySem.W.nsIn K mainGlobals "list" = some none)
    (z_min : PySem.W.nsIn K mainGlobals "min" = some none)
    (z_range : PySem.W.nsIn K mainGlobals "range" = some none)
    (z_sorted : PySem.W.nsIn K mainGlobals "sorted" = some none)
    (z_sum : PySem.W.nsIn K mainGlobals "sum" = some none)
    (z_tuple : PySem.W.nsIn K mainGlobals "tuple" = some none)
    {fL cL TL : Addr} {ocL : Value} {odL : Option Addr} {fdL : FuncData} {slL : Array (Option Value)} (aL : PySem.W.nsIn K mainGlobals "_law_of_fields" = some (some (.ref fL))) (lL : K.lookup fL = some ⟨ocL, odL, .func fdL, slL⟩) (eL : fdL.code = .ref cL) {odC : Option Addr} {vsC : Array Value} {slC : Array (Option Value)} (lC : K.lookup cL = some ⟨.type "code", odC, .fields vsC, slC⟩) (pC : vsC[11]? = some (.ref TL)) (hL : PySem.W.codeHdIn K cL TL = true) :
    ∃ fd : FuncData, (∀ (s : Shared) (v : Value), BindsTo s fd ⟨[v], []⟩ [("_law_script", v)]) ∧ ∀ base : Heap, K.In base → base.Ns mainGlobals mg → FnOk l.prog w K mg base CX0 26 fa fd ["_law_script"] (spD K 1 F_law) := by
  obtain ⟨f17, _, _, _, _, _, _, _, _, _, a17, l17, c17, k17⟩ := D17
  have e := hfa.symm.trans (PySem.W.mg_of X G a17)
  cases e
  have F17 := fun_mk (st := top 19) l17 c17 k17
  have b17 := F17.binds (ps := ["_law_script"]) fun _ _ _ _ _ _ us hl => by obtain ⟨_, rfl⟩ := len1 hl; rfl
  have dL : De K mg "_law_of_fields" 14 ["_law_pile", "_law_number", "_law_labels_here", "_law_word", "_law_tail"] := Classical.choice (deo (ps := ["_law_pile", "_law_number", "_law_labels_here", "_law_word", "_law_tail"]) X G D12 fun F => F.binds (ps := ["_law_pile", "_law_number", "_law_labels_here", "_law_word", "_law_tail"]) fun _ _ _ _ _ _ us hl => by obtain ⟨_, _, _, _, _, rfl⟩ := len5 hl; rfl)
  exact ⟨_, fun s v => .of_eq rfl, fun base _ _ => ok_law ⟨Classical.choice (deo (ps := ["kind"]) X G D0 fun F => F.binds (ps := ["kind"]) fun _ _ _ _ _ _ us hl => by obtain ⟨_, rfl⟩ := len1 hl; rfl),
    Classical.choice (deo (ps := ["kind"]) X G D1 fun F => F.binds (ps := ["kind"]) fun _ _ _ _ _ _ us hl => by obtain ⟨_, rfl⟩ := len1 hl; rfl),
    Classical.choice (deo (ps := ["kind"]) X G D2 fun F => F.binds (ps := ["kind"]) fun _ _ _ _ _ _ us hl => by obtain ⟨_, rfl⟩ := len1 hl; rfl),
    Classical.choice (deo (ps := ["K"]) X G D3 fun F => F.binds (ps := ["K"]) fun _ _ _ _ _ _ us hl => by obtain ⟨_, rfl⟩ := len1 hl; rfl),
    Classical.choice (deo (ps := ["K"]) X G D4 fun F => F.binds (ps := ["K"]) fun _ _ _ _ _ _ us hl => by obtain ⟨_, rfl⟩ := len1 hl; rfl),
    Classical.choice (deo (ps := ["kind"]) X G D5 fun F => F.binds (ps := ["kind"]) fun _ _ _ _ _ _ us hl => by obtain ⟨_, rfl⟩ := len1 hl; rfl),
    Classical.choice (deo (ps := ["K"]) X G D6 fun F => F.binds (ps := ["K"]) fun _ _ _ _ _ _ us hl => by obtain ⟨_, rfl⟩ := len1 hl; rfl),
    Classical.choice (deo (ps := ["_law_found"]) X G D7 fun F => F.binds (ps := ["_law_found"]) fun _ _ _ _ _ _ us hl => by obtain ⟨_, rfl⟩ := len1 hl; rfl),
    Classical.choice (deo (ps := ["_law_script", "_law_k"]) X G D8 fun F => F.binds (ps := ["_law_script", "_law_k"]) fun _ _ _ _ _ _ us hl => by obtain ⟨_, _, rfl⟩ := len2 hl; rfl),
    Classical.choice (deo (ps := ["_law_cell", "_law_k"]) X G D9 fun F => F.binds (ps := ["_law_cell", "_law_k"]) fun _ _ _ _ _ _ us hl => by obtain ⟨_, _, rfl⟩ := len2 hl; rfl),
    Classical.choice (deo (ps := ["_law_number"]) X G D10 fun F => F.binds (ps := ["_law_number"]) fun _ _ _ _ _ _ us hl => by obtain ⟨_, rfl⟩ := len1 hl; rfl),
    Classical.choice (deo (ps := ["_law_number", "_law_base"]) X G D11 fun F => F.binds (ps := ["_law_number", "_law_base"]) fun _ _ _ _ _ _ us hl => by obtain ⟨_, _, rfl⟩ := len2 hl; rfl),
    dL,
    Classical.choice (deo (ps := ["_law_one", "_law_other"]) X G D13 fun F => F.binds (ps := ["_law_one", "_law_other"]) fun _ _ _ _ _ _ us hl => by obtain ⟨_, _, rfl⟩ := len2 hl; rfl),
    Classical.choice (deo (ps := ["_law_pile", "_law_number", "_law_labels_here", "_law_base"]) X G D14 fun F => F.binds (ps := ["_law_pile", "_law_number", "_law_labels_here", "_law_base"]) fun _ _ _ _ _ _ us hl => by obtain ⟨_, _, _, _, rfl⟩ := len4 hl; rfl),
    Classical.choice (deo (ps := ["_law_order"]) X G D15 fun F => F.binds (ps := ["_law_order"]) fun _ _ _ _ _ _ us hl => by obtain ⟨_, rfl⟩ := len1 hl; rfl),
    Classical.choice (deo (ps := ["_law_piece"]) X G D16 fun F => F.binds (ps := ["_law_piece"]) fun _ _ _ _ _ _ us hl => by obtain ⟨_, rfl⟩ := len1 hl; rfl),
    ⟨_, _, F17, PySem.W.mg_of X G a17, b17⟩, PySem.W.mg_none_of X G z_all, PySem.W.mg_none_of X G z_bool, PySem.W.mg_none_of X G z_enumerate, PySem.W.mg_none_of X G z_int, PySem.W.mg_none_of X G z_isinstance, PySem.W.mg_none_of X G z_len, PySem.W.mg_none_of X G z_list, PySem.W.mg_none_of X G z_min, PySem.W.mg_none_of X G z_range, PySem.W.mg_none_of X G z_sorted, PySem.W.mg_none_of X G z_sum, PySem.W.mg_none_of X G z_tuple, fun cdv ec => lamAt_F X G aL lL eL hL dL.m dL.F cdv ec⟩⟩
theorem walk {l : PySem.W.OpenLaw} {q : Program} {loose : List Str} {XP : (Str → Option Value) → Heap → Prop} {YP : World → Heap → Prop} {d : DefRec} {K : Params → Fg} {T : Addr} (hm : ∀ ns : List Int, ns.length ≤ 63 → ∃ as, F_law [.v (.lst (ns.map .int))] = some (.v (.bl true), as)) (hn : l.most = some 63) (hdf : d.params.defaults = [])
    (hY : ∀ (w : World) (h : Heap), YP w h → (K w.params).In h) (hT : ∀ (w : World) (h : Heap), YP w h → h.get? T = some (PySem.W.tabObj #[])) (hK : ∀ w : World, (K w.params).lookup T = none ∧ (∃ c0, PySem.W.codeHdIn (K w.params) c0 T = true) ∧ ∀ H : Hp, H T = some (.tbl #[.str "_law_of_fields.<locals>.<lambda>" 0]) → TabIn (K w.params) H)
    (F : ∀ (w : World) (mg : Str → Option Value) (fa : Addr) (h : Heap), (K w.params).In h → h.Ns mainGlobals mg → mg d.name = some (.ref fa) →
      ∃ fd : FuncData, (∀ (s : Shared) (u : Value), BindsTo s fd ⟨[u], []⟩ [("_law_script", u)]) ∧ ∀ base : Heap, (K w.params).In base → base.Ns mainGlobals mg → FnOk l.prog w (K w.params) mg base CX0 26 fa fd ["_law_script"] (spD (K w.params) 1 F_law)) :
    PySem.W.WalkO q loose XP YP l.row.toRowW d [] (fun f vs => PySem.call f vs) :=
  walk_ofT (n := 63) (k := 26) (x := "_law_script") (CX := CX0) (sp := fun K => spD K 1 F_law) hn (by decide) hdf ⟨rfl, by decide, by decide⟩ hY hT hK F (fun K H a ns hl hS => law_sp hm H a ns hl hS) fun _ _ _ _ z => z
end K11
open PyProof.Rows PySem PySem.W
set_option maxRecDepth 100000 in
set_option maxHeartbeats 0 in
theorem PySem.Challenge.cw_fieldrows_k11_parts_and_numbers_holds : PySem.Challenge.rw_fieldrows_k11_parts_and_numbers.Holds := by
  w_on; o_law; k_head; (case hw => w_witness2)
  k_fill
  refine K11.walk (l := PySem.Challenge.rw_fieldrows_k11_parts_and_numbers) K11.law_math rfl rfl (fun w h Y => PySem.W.km_in_of Y) (fun w h Y => PySem.W.km_tabs_of Y _ (List.mem_singleton.mpr rfl)) ?L ?F
  case L =>
    intro w
    refine' DD.lam_k ?a ?l ?e ?h ?n
    (case a => k_is)
    (case l => k_is)
    (case e => exact rfl)
    (case h => kernel_rfl)
    (case n => kernel_rfl)
  case F =>
    intro w mg fa h KX G hmg
    refine' K11.all_mk KX G hmg (K11.dfo ?a0 ?l0 ?c0 ?k0) (K11.dfo ?a1 ?l1 ?c1 ?k1) (K11.dfo ?a2 ?l2 ?c2 ?k2) (K11.dfo ?a3 ?l3 ?c3 ?k3) (K11.dfo ?a4 ?l4 ?c4 ?k4) (K11.dfo ?a5 ?l5 ?c5 ?k5) (K11.dfo ?a6 ?l6 ?c6 ?k6) (K11.dfo ?a7 ?l7 ?c7 ?k7) (K11.dfo ?a8 ?l8 ?c8 ?k8) (K11.dfo ?a9 ?l9 ?c9 ?k9) (K11.dfo ?a10 ?l10 ?c10 ?k10) (K11.dfo ?a11 ?l11 ?c11 ?k11) (K11.dfo ?a12 ?l12 ?c12 ?k12) (K11.dfo ?a13 ?l13 ?c13 ?k13) (K11.dfo ?a14 ?l14 ?c14 ?k14) (K11.dfo ?a15 ?l15 ?c15 ?k15) (K11.dfo ?a16 ?l16 ?c16 ?k16) (K11.dfo ?a17 ?l17 ?c17 ?k17) ?z_all ?z_bool ?z_enumerate ?z_int ?z_isinstance ?z_len ?z_list ?z_min ?z_range ?z_sorted ?z_sum ?z_tuple ?aL ?lL ?eL ?lC ?pC ?hL
    (case a0 => k_is)
    (case l0 => k_is)
    (case c0 => k_is)
    (case k0 => k_is)
    (case a1 => k_is)
    (case l1 => k_is)
    (case c1 => k_is)
    (case k1 => k_is)
    (case a2 => k_is)
    (case l2 => k_is)
    (case c2 => k_is)
    (case k2 => k_is)
    (case a3 => k_is)
    (case l3 => k_is)
    (case c3 => k_is)
    (case k3 => k_is)
    (case a4 => k_is)
    (case l4 => k_is)
    (case c4 => k_is)
    (case k4 => k_is)
    (case a5 => k_is)
    (case l5 => k_is)
    (case c5 => k_is)
    (case k5 => k_is)
    (case a6 => k_is)
    (case l6 => k_is)
    (case c6 => k_is)
    (case k6 => k_is)
    (case a7 => k_is)
    (case l7 => k_is)
    (case c7 => k_is)
    (case k7 => k_is)
    (case a8 => k_is)
    (case l8 => k_is)
    (case c8 => k_is)
    (case k8 => k_is)
    (case a9 => k_is)
    (case l9 => k_is)
    (case c9 => k_is)
    (case k9 => k_is)
    (case a10 => k_is)
    (case l10 => k_is)
    (case c10 => k_is)
    (case k10 => k_is)
    (case a11 => k_is)
    (case l11 => k_is)
    (case c11 => k_is)
    (case k11 => k_is)
    (case a12 => k_is)
    (case l12 => k_is)
    (case c12 => k_is)
    (case k12 => k_is)
    (case a13 => k_is)
    (case l13 => k_is)
    (case c13 => k_is)
    (case k13 => k_is)
    (case a14 => k_is)
    (case l14 => k_is)
    (case c14 => k_is)
    (case k14 => k_is)
    (case a15 => k_is)
    (case l15 => k_is)
    (case c15 => k_is)
    (case k15 => k_is)
    (case a16 => k_is)
    (case l16 => k_is)
    (case c16 => k_is)
    (case k16 => k_is)
    (case a17 => k_is)
    (case l17 => k_is)
    (case c17 => k_is)
    (case k17 => k_is)
    (case z_all => k_is)
    (case z_bool => k_is)
    (case z_enumerate => k_is)
    (case z_int => k_is)
    (case z_isinstance => k_is)
    (case z_len => k_is)
    (case z_list => k_is)
    (case z_min => k_is)
    (case z_range => k_is)
    (case z_sorted => k_is)
    (case z_sum => k_is)
    (case z_tuple => k_is)
    (case aL => k_is)
    (case lL => k_is)
    (case eL => exact rfl)
    (case lC => k_is)
    (case pC => exact rfl)
    (case hL => kernel_rfl)
