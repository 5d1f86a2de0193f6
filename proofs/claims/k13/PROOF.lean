import PyProof.Rows.All
import Wide.All
import OpenK.AllK
import Wide.FinOn
import PySem.Challenge.RW_fieldrows_k13_filled_twice
import Lean
set_option Elab.async false
set_option linter.all false
set_option maxRecDepth 100000
set_option maxHeartbeats 4100000
noncomputable abbrev Fg := PySem.W.Frag
namespace L2
open PySem PySem.Spec PyProof.Rows
noncomputable abbrev Key := Sum Int Str
noncomputable def keyIs : Key -> Value -> Bool
  | .inl k, v => Value.isInt k v
  | .inr x, v => Value.isStrOf x v
noncomputable def keyH (w : World) : Key -> Int
  | .inl k => hashInt k
  | .inr x => hashStr w x
theorem keyIs_shape : ∀ {k : Key} {v : Value}, keyIs k v = true -> (∃ i t, k = Sum.inl i /\ v = Value.int i t) \/ (∃ x t, k = Sum.inr x /\ v = Value.str x t)
  | .inl i, v, h => by
    obtain ⟨t, e⟩ := Value.isInt_shape (k := i) (v := v) h
    exact .inl ⟨i, t, rfl, e⟩
  | .inr x, v, h => by
    obtain ⟨t, e⟩ := Value.isStrOf_shape (x := x) (v := v) h
    exact .inr ⟨x, t, rfl, e⟩
theorem keyIs_int (i : Int) (t : Tok) : keyIs (.inl i) (.int i t) = true := by simp [keyIs, Value.isInt]
theorem keyIs_str (x : Str) (t : Tok) : keyIs (.inr x) (.str x t) = true := by simp [keyIs, Value.isStrOf]
theorem key_ll (a b : Int) : decide ((Sum.inl a : Key) = Sum.inl b) = (a == b) := by
  by_cases e : a = b
  · subst e; simp
  · have h : ¬ (Sum.inl a : Key) = Sum.inl b := fun q => e (Sum.inl.inj q)
    rw [decide_eq_false h]
    exact (beq_eq_false_iff_ne.mpr e).symm
theorem key_rr (a b : Str) : decide ((Sum.inr a : Key) = Sum.inr b) = decide (a = b) := by
  by_cases e : a = b
  · subst e; simp
  · have h : ¬ (Sum.inr a : Key) = Sum.inr b := fun q => e (Sum.inr.inj q)
    rw [decide_eq_false h, decide_eq_false e]
theorem key_lr (a : Int) (b : Str) : decide ((Sum.inl a : Key) = Sum.inr b) = false := decide_eq_false (fun q => nomatch q)
theorem key_rl (a : Str) (b : Int) : decide ((Sum.inr a : Key) = Sum.inl b) = false := decide_eq_false (fun q => nomatch q)
noncomputable def mixKind (prog : Program) (w : World) : PySem.KeyKind prog w Key where
  is := keyIs
  hash := keyH w
  inj := fun v a b ha hb => by
    rcases keyIs_shape ha with ⟨i, t, rfl, rfl⟩ | ⟨x, t, rfl, rfl⟩
    · rcases keyIs_shape hb with ⟨j, u, rfl, e⟩ | ⟨y, u, rfl, e⟩
      · injection e with e1 _; rw [e1]
      · exact nomatch e
    · rcases keyIs_shape hb with ⟨j, u, rfl, e⟩ | ⟨y, u, rfl, e⟩
      · exact nomatch e
      · injection e with e1 _; rw [e1]
  byValue := fun k v h => by
    rcases keyIs_shape h with ⟨i, t, rfl, rfl⟩ | ⟨x, t, rfl, rfl⟩ <;> rfl
  pyHash := fun hv h => by
    rcases keyIs_shape hv with ⟨i, t, rfl, rfl⟩ | ⟨x, t, rfl, rfl⟩
    · exact wpAny_pyHash_int h
    · exact wpAny_pyHash_str h
  eqBool := fun hu hv h => by
    rcases keyIs_shape hu with ⟨i, t, rfl, rfl⟩ | ⟨x, t, rfl, rfl⟩
    · rcases keyIs_shape hv with ⟨j, u, rfl, rfl⟩ | ⟨y, u, rfl, rfl⟩
      · rw [key_ll] at h; exact wpAny_eqBool_int h
      · rw [key_lr] at h; exact SeqAt.EqAt.int_str i t y u _ _ _ _ h
    · rcases keyIs_shape hv with ⟨j, u, rfl, rfl⟩ | ⟨y, u, rfl, rfl⟩
      · rw [key_rl] at h; exact SeqAt.EqAt.str_int x t j u _ _ _ _ h
      · rw [key_rr] at h; exact wpAny_eqBool_str h
  «strs» := fun k x t v h => by
    rcases keyIs_shape h with ⟨i, u, rfl, e⟩ | ⟨y, u, rfl, e⟩
    · exact nomatch e
    · injection e with e1 _
      subst e1
      cases v <;> rfl
theorem mixKind_int (prog : Program) (w : World) (i : Int) (t : Tok) : (mixKind prog w).is (.inl i) (.int i t) = true := keyIs_int i t
theorem mixKind_str (prog : Program) (w : World) (x : Str) (t : Tok) : (mixKind prog w).is (.inr x) (.str x t) = true := keyIs_str x t
end L2
namespace L2
open PySem PySem.Spec PyProof.Rows
inductive V where
  | non | bl (b : Bool) | int (i : Int) | str (x : Str) | byt (b : Array UInt8) | flt (b : UInt64) | ref (a : Addr) | ty (n : String)
  deriving DecidableEq
noncomputable def RelV : V -> Value -> Prop
  | .non, u => u = Value.none
  | .bl b, u => u = Value.bool b
  | .int i, u => ∃ t, u = Value.int i t
  | .str x, u => ∃ t, u = Value.str x t
  | .byt b, u => ∃ t, u = Value.bytes b t
  | .flt b, u => ∃ t, u = Value.float b t
  | .ref a, u => u = Value.ref a
  | .ty n, u => u = Value.type n
noncomputable abbrev yD : List V -> List Value -> Prop := Paired RelV
theorem yD.length {xs : List V} {us : List Value} (r : yD xs us) : xs.length = us.length := Paired.length r
theorem yD.get : ∀ {xs : List V} {us : List Value} {i : Nat} {x : V}, yD xs us -> xs[i]? = some x -> ∃ u, us[i]? = some u /\ RelV x u
  | _, _, _, _, .nil, e => by simp at e
  | _, _, 0, _, .cons r _, e => by simp at e; subst e; exact ⟨_, rfl, r⟩
  | _, _, i + 1, x, .cons _ t, e => by
    obtain ⟨u, h1, h2⟩ := yD.get (i := i) (x := x) t (by simpa using e)
    exact ⟨u, by simpa using h1, h2⟩
theorem yD.append : ∀ {xs ys : List V} {us ws : List Value}, yD xs us -> yD ys ws -> yD (xs ++ ys) (us ++ ws)
  | _, _, _, _, .nil, s => s
  | _, _, _, _, .cons r t, s => .cons r (yD.append t s)
theorem yD.take : ∀ {xs : List V} {us : List Value} (n : Nat), yD xs us -> yD (xs.take n) (us.take n)
  | _, _, 0, _ => .nil
  | _, _, _ + 1, .nil => .nil
  | _, _, n + 1, .cons r t => .cons r (yD.take n t)
theorem yD.drop : ∀ {xs : List V} {us : List Value} (n : Nat), yD xs us -> yD (xs.drop n) (us.drop n)
  | _, _, 0, r => r
  | _, _, _ + 1, .nil => .nil
  | _, _, n + 1, .cons _ t => yD.drop n t
noncomputable def RelO : Option V -> Option Value -> Prop
  | some v, some u => RelV v u
  | none, none => True
  | _, _ => False
noncomputable def KV {κ : Type} : List (κ × V) -> List (κ × Value) -> Prop := Paired fun (p : κ × V) (q : κ × Value) => p.1 = q.1 /\ RelV p.2 q.2
noncomputable def kV : Key -> V
  | .inl i => .int i
  | .inr x => .str x
inductive HO where
  | lst (xs : List V)
  | tup (xs : List V)
  | dK (kvs : List (Key × V)) | dT (kvs : List (List Key × V))
  | set (S : Int -> Bool) (n : Nat)
  | ins (C dx : Addr) (fs : List (Str × V))
  | own (x : Addr)
  | xd (fs : List (Str × V))
  | met (f x : Addr)
  | rng (lo hi : Int)
  | frz (o : Obj) (u : HO)
  | tbl (ps : Array Value)
  | ext (φ : Heap -> Prop)
noncomputable abbrev Hp := Addr -> Option HO
noncomputable def upd (H : Hp) (a : Addr) (o : HO) : Hp := fun b => if b = a then some o else H b
theorem zT {H : Hp} {a : Addr} {o : HO} : upd H a o a = some o := by unfold upd; rw [if_pos rfl]
theorem zU {H : Hp} {a b : Addr} {o : HO} (h : b ≠ a) : upd H a o b = H b := by unfold upd; rw [if_neg h]
theorem ne_of {H : Hp} {a b : Addr} {o u : HO} (h : H a = some o) (h' : H b = some u) (d : o ≠ u) : a ≠ b := by
  intro e; subst e; rw [h] at h'; exact d (Option.some.inj h')
theorem ne_of_none {H : Hp} {a b : Addr} {o : HO} (h : H a = some o) (h' : H b = none) : a ≠ b := by
  intro e; subst e; rw [h] at h'; cases h'
section
variable (P : Program) (w : World)
noncomputable def ObjOk (H : Hp) (h : Heap) (a : Addr) : HO -> Prop
  | .lst xs => xs.length <= sizeLine /\ ∃ (its : List Value) (n : Nat), yD xs its /\ h.get? a = some { cls := .type "list", data := .seq its.toArray n }
  | .tup xs => xs.length <= sizeLine /\ ∃ its : List Value, yD xs its /\ IsTup h a its.toArray
  | .dK kvs => kvs.length <= sizeLine /\ (a == sysModules) = false /\ ∃ vs, KV kvs vs /\ h.DictOf (mixKind P w) a vs
  | .dT kvs => kvs.length <= sizeLine /\ (a == sysModules) = false /\ ∃ xs : List (List Key × Addr × Value),
      Paired (fun (p : List Key × V) (q : List Key × Addr × Value) => p.1 = q.1 /\ H q.2.1 = some (.tup (p.1.map kV)) /\ RelV p.2 q.2.2) kvs xs /\
      ∃ o es ep, h.get? a = some o /\ o.ExactDict /\ o.data = .dict es ep /\ es.toList = xs.map (entryOfKey (tupleKind (mixKind P w))) /\ (xs.map (·.1)).Nodup
  | .set S n => h.SetOf (intKind P w) a S n
  | .ins C dx fs => H dx = some (.own a) /\ fs.length <= 1000 /\ dx ≠ a /\ h.get? a = some (PySem.W.instObj C dx) /\
      ∃ mA, h.Ns1 dx mA /\ (∀ f, RelO (fs.lookup f) (mA f)) /\ PySem.Within mA (fs.map (·.1))
  | .own _ => ∃ o, h.get? a = some o
  | .xd fs => ∃ mA, h.Ns1 a mA /\ ∀ f, RelO (fs.lookup f) (mA f)
  | .rng lo hi => ∃ t u v, h.get? a = some { cls := .type "range", data := .fields #[.int lo t, .int hi u, .int 1 v] }
  | .frz o u => h.get? a = some o /\ ObjOk H h a u
  | .tbl ps => h.get? a = some { cls := .none, data := .fields ps }
  | .met f x => h.get? a = some (PySem.W.methodObj (.ref f) (.ref x))
  | .ext φ => φ h /\ (∃ o, h.get? a = some o) /\ ∀ h1 h2 : Heap, φ h1 -> (∀ o, h1.get? a = some o -> h2.get? a = some o) -> φ h2
noncomputable def HOk (H : Hp) (h : Heap) : Prop := ∀ a o, H a = some o -> ObjOk P w H h a o
end
section
variable {P : Program} {w : World} {H H' : Hp} {h h' : Heap} {a : Addr} {o : HO}
theorem ObjOk.lt (x : ObjOk P w H h a o) : a < h.objs.size := by
  cases o with
  | lst xs => obtain ⟨_, _, _, _, e⟩ := x; exact Heap.lt_size e
  | tup xs => obtain ⟨_, _, _, p⟩ := x; exact p.lt
  | dK kvs => obtain ⟨_, _, _, _, o, _, _, e, _⟩ := x; exact Heap.lt_size e
  | dT kvs => obtain ⟨_, _, _, _, o, _, _, e, _⟩ := x; exact Heap.lt_size e
  | set S n => obtain ⟨o, _, _, _, e, _⟩ := x; exact Heap.lt_size e
  | ins C dx fs => obtain ⟨_, _, _, e, _⟩ := x; exact Heap.lt_size e
  | own y => obtain ⟨_, e⟩ := x; exact Heap.lt_size e
  | xd fs => obtain ⟨_, ⟨_, _, _, e, _⟩, _⟩ := x; exact Heap.lt_size e
  | rng lo hi => obtain ⟨_, _, _, e⟩ := x; exact Heap.lt_size e
  | frz ob u => obtain ⟨e, _⟩ := x; exact Heap.lt_size e
  | tbl ps => exact Heap.lt_size (show h.get? a = some _ from x)
  | met f y => exact Heap.lt_size (show h.get? a = some _ from x)
  | ext φ => obtain ⟨_, ⟨_, e⟩, _⟩ := x; exact Heap.lt_size e
theorem Paired.mapP {α β : Type} {F G : α -> β -> Prop} : ∀ {l₁ : List α} {l₂ : List β}, Paired F l₁ l₂ -> (∀ a b, F a b -> G a b) -> Paired G l₁ l₂
  | _, _, .nil, _ => .nil
  | _, _, .cons r t, f => .cons (f _ _ r) (Paired.mapP t f)
theorem ObjOk.stay (x : ObjOk P w H h a o) (k : ∀ b u, (b = a \/ H b = some (.own a)) -> h.get? b = some u -> h'.get? b = some u)
    (ho : ∀ b, H b = some (.own a) -> H' b = some (.own a)) (ht : ∀ b xs, H b = some (.tup xs) -> H' b = some (.tup xs)) : ObjOk P w H' h' a o := by
  induction o with
  | lst xs => obtain ⟨z, its, n, r, e⟩ := x; exact ⟨z, its, n, r, k _ _ (.inl rfl) e⟩
  | tup xs => obtain ⟨z, its, r, ob, e, c⟩ := x; exact ⟨z, its, r, ob, k _ _ (.inl rfl) e, c⟩
  | dK kvs => obtain ⟨z, y, vs, r, ob, es, ep, e, c⟩ := x; exact ⟨z, y, vs, r, ob, es, ep, k _ _ (.inl rfl) e, c⟩
  | dT kvs =>
    obtain ⟨z, y, xs, r, ob, es, ep, e, c⟩ := x
    exact ⟨z, y, xs, Paired.mapP r fun p q z => ⟨z.1, ht _ _ z.2.1, z.2.2⟩, ob, es, ep, k _ _ (.inl rfl) e, c⟩
  | set S n => obtain ⟨ob, es, ep, t, e, c⟩ := x; exact ⟨ob, es, ep, t, k _ _ (.inl rfl) e, c⟩
  | ins C dx fs =>
    obtain ⟨d, z, ne, e, mA, ⟨od, es, ep, e2, c⟩, r⟩ := x
    exact ⟨ho _ d, z, ne, k _ _ (.inl rfl) e, mA, ⟨od, es, ep, k _ _ (.inr d) e2, c⟩, r⟩
  | own y => obtain ⟨ob, e⟩ := x; exact ⟨ob, k _ _ (.inl rfl) e⟩
  | xd fs => obtain ⟨mA, ⟨od, es, ep, e, c⟩, r⟩ := x; exact ⟨mA, ⟨od, es, ep, k _ _ (.inl rfl) e, c⟩, r⟩
  | rng lo hi => obtain ⟨t, u, v, e⟩ := x; exact ⟨t, u, v, k _ _ (.inl rfl) e⟩
  | frz ob u ih => obtain ⟨e, q⟩ := x; exact ⟨k _ _ (.inl rfl) e, ih q⟩
  | tbl ps =>
    have e : h.get? a = some { cls := .none, data := .fields ps } := x
    show h'.get? a = some { cls := .none, data := .fields ps }
    exact k a _ (.inl rfl) e
  | met f y =>
    have e : h.get? a = some (PySem.W.methodObj (.ref f) (.ref y)) := x
    show h'.get? a = some (PySem.W.methodObj (.ref f) (.ref y))
    exact k a _ (.inl rfl) e
  | ext φ => obtain ⟨p, ⟨o, e⟩, st⟩ := x; exact ⟨st _ _ p fun o q => k _ _ (.inl rfl) q, ⟨o, k _ _ (.inl rfl) e⟩, st⟩
theorem HOk.lt (x : HOk P w H h) (e : H a = some o) : a < h.objs.size := (x a o e).lt
theorem HOk.fresh (x : HOk P w H h) (e : h.objs.size <= a) : H a = none := by
  cases q : H a with
  | none => rfl
  | some u => exact absurd (Nat.lt_of_lt_of_le (x.lt q) e) (Nat.lt_irrefl _)
theorem HOk.kept (x : HOk P w H h) (k : ∀ b u, h.get? b = some u -> h'.get? b = some u) : HOk P w H h' := fun a o e =>
  (x a o e).stay (fun b u _ q => k b u q) (fun _ q => q) fun _ _ q => q
theorem HOk.laid (x : HOk P w H h) (k : ∀ b u, h.get? b = some u -> h'.get? b = some u) (hp : h.objs.size <= a) (new : ObjOk P w (upd H a o) h' a o) : HOk P w (upd H a o) h' := fun b u e => by
  have hn := x.fresh hp
  by_cases hb : b = a
  · subst hb; rw [zT] at e; cases e; exact new
  · rw [zU hb] at e
    exact (x b u e).stay (fun c v _ q => k c v q) (fun c q => by rw [zU (ne_of_none q hn)]; exact q) fun c xs q => by rw [zU (ne_of_none q hn)]; exact q
end
noncomputable def Rd (H : Hp) (a : Addr) (u : HO) : Prop := H a = some u \/ ∃ o, H a = some (.frz o u)
theorem Rd.ok {P : Program} {w : World} {H : Hp} {h : Heap} {a : Addr} {u : HO} (r : Rd H a u) (x : HOk P w H h) : ObjOk P w H h a u := by
  rcases r with r | ⟨o, r⟩
  · exact x a u r
  · obtain ⟨_, q⟩ := x a _ r
    exact q
noncomputable def Mut : Option HO -> Prop
  | some (.lst _) => True
  | some (.dK _) => True
  | some (.dT _) => True
  | some (.set _ _) => True
  | some (.ins _ _ _) => True
  | some (.ext _) => True
  | _ => False
section
variable {P : Program} {w : World} {H : Hp} {h h' : Heap} {x e : Addr} {o' : HO}
theorem HOk.write (ok : HOk P w H h) (mu : Mut (H x)) (he : e = x \/ H e = some (.own x)) (k : ∀ b u, b ≠ e -> h.get? b = some u -> h'.get? b = some u) (heo : ∃ u, h'.get? e = some u)
    (new : ObjOk P w (upd H x o') h' x o') : HOk P w (upd H x o') h' := fun b u q => by
  have nown : ∀ c y, H c = some (.own y) -> c ≠ x := fun c y r z => by subst z; rw [r] at mu; exact mu
  have ntup : ∀ c xs, H c = some (.tup xs) -> c ≠ x := fun c xs r z => by subst z; rw [r] at mu; exact mu
  by_cases hb : b = x
  · subst hb; rw [zT] at q; cases q; exact new
  · rw [zU hb] at q
    by_cases hbe : b = e
    · have q' : H b = some (.own x) := by
        rcases he with z | z
        · exact absurd (hbe.trans z) hb
        · rw [hbe]; exact z
      rw [q] at q'; cases q'
      obtain ⟨v, hv⟩ := heo
      exact ⟨v, by rw [hbe]; exact hv⟩
    · refine (ok b u q).stay (fun c v hc r => k c v ?_ r) (fun c r => by rw [zU (nown c b r)]; exact r) fun c xs r => by rw [zU (ntup c xs r)]; exact r
      rcases hc with rfl | hc
      · exact hbe
      · rintro rfl
        rcases he with z | z
        · exact nown c b hc z
        · rw [hc] at z; cases z; exact hb rfl
end
structure Un (fs ex : List Addr) (H H' : Hp) (h h' : Heap) : Prop where
  keep : ∀ b o, h.get? b = some o -> H b = none -> b ∉ fs -> b ∉ ex -> h'.get? b = some o
  slot : ∀ b o, h.get? b = some o -> H b = none -> b ∈ fs -> b ∉ ex -> ∃ sl, h'.get? b = some { o with slots := sl }
  free : ∀ b o, h.get? b = some o -> H b = none -> b ∉ ex -> H' b = none
  there : ∀ b o, h.get? b = some o -> b ∉ ex -> ∃ o', h'.get? b = some o'
  tups : ∀ b xs, H b = some (.tup xs) -> H' b = some (.tup xs)
  frzs : ∀ b o u, H b = some (.frz o u) -> H' b = some (.frz o u)
  tbls : ∀ b ps, H b = some (.tbl ps) -> ∃ more, H' b = some (.tbl (ps ++ more))
section
variable {fs fs' ex ex' : List Addr} {H H1 H2 : Hp} {h h1 h2 h' : Heap} {a x e : Addr} {o : HO}
theorem Un.any (u : Un fs ex H H1 h h1) {b : Addr} {ob : Obj} (q : h.get? b = some ob) (n : H b = none) (hx : b ∉ ex) : ∃ sl, h1.get? b = some { ob with slots := sl } := by
  by_cases hb : b ∈ fs
  · exact u.slot b ob q n hb hx
  · exact ⟨ob.slots, u.keep b ob q n hb hx⟩
theorem Un.kept (k : ∀ b u, h.get? b = some u -> h'.get? b = some u) : Un fs ex H H h h' :=
  ⟨fun b ob q _ _ _ => k b ob q, fun b ob q _ _ _ => ⟨ob.slots, k b ob q⟩, fun _ _ _ n _ => n, fun b ob q _ => ⟨ob, k b ob q⟩, fun _ _ q => q, fun _ _ _ q => q, fun _ ps q => ⟨#[], by rw [q]; simp⟩⟩
theorem Un.refl : Un fs ex H H h h := Un.kept fun _ _ q => q
theorem Un.laid (k : ∀ b u, h.get? b = some u -> h'.get? b = some u) (hp : h.objs.size <= a) (hn : H a = none) : Un fs ex H (upd H a o) h h' where
  keep := fun b u q _ _ _ => k b u q
  slot := fun b u q _ _ _ => ⟨u.slots, k b u q⟩
  free := fun b u q n _ => by rw [zU (Nat.ne_of_lt (Nat.lt_of_lt_of_le (Heap.lt_size q) hp))]; exact n
  there := fun b u q _ => ⟨u, k b u q⟩
  tups := fun b xs q => by rw [zU (ne_of_none q hn)]; exact q
  frzs := fun b u xs q => by rw [zU (ne_of_none q hn)]; exact q
  tbls := fun b ps q => ⟨#[], by rw [zU (ne_of_none q hn), q]; simp⟩
theorem Un.write (mu : Mut (H x)) (he : e = x \/ H e = some (.own x)) (k : ∀ b u, b ≠ e -> h.get? b = some u -> h'.get? b = some u) (heo : ∃ u, h'.get? e = some u) : Un fs ex H (upd H x o) h h' := by
  have hx : ∀ b, H b = none -> b ≠ x := fun b n z => by subst z; rw [n] at mu; exact mu
  have hb : ∀ b, H b = none -> b ≠ e := fun b n z => by
    subst z
    rcases he with r | r
    · exact hx b n r
    · rw [n] at r; cases r
  have hm : ∀ b u, H b = some u -> ¬ Mut (some u) -> b ≠ x := fun b u q nm z => by subst z; rw [q] at mu; exact nm mu
  refine ⟨fun b u q n _ _ => k b u (hb b n) q, fun b u q n _ _ => ⟨u.slots, k b u (hb b n) q⟩, fun b u q n _ => by rw [zU (hx b n)]; exact n, fun b u q _ => ?_,
    fun b xs q => by rw [zU (hm b _ q fun z => z)]; exact q, fun b u xs q => by rw [zU (hm b _ q fun z => z)]; exact q, fun b ps q => ⟨#[], by rw [zU (hm b _ q fun z => z), q]; simp⟩⟩
  by_cases hbe : b = e
  · subst hbe; exact heo
  · exact ⟨u, k b u hbe q⟩
end
noncomputable def trk (h : Heap) (H : Hp) : List Addr := (List.range h.objs.size).filter fun a => (H a).isSome
noncomputable def hidT (h : Heap) (H : Hp) : Heap := PySem.W.hideAll h (trk h H)
theorem hidT_size (h : Heap) (H : Hp) : (hidT h H).objs.size = h.objs.size := PySem.W.hideAll_size _ _
theorem hidT_get {h : Heap} {H : Hp} {b : Addr} {o : Obj} (e : h.get? b = some o) (n : H b = none) : (hidT h H).get? b = some o :=
  PySem.W.hideAll_get _ e fun hm => by
    have q : (H b).isSome = true := (List.mem_filter.mp hm).2
    rw [n] at q; simp at q
theorem of_hidT {h : Heap} {H : Hp} {b : Addr} {o : Obj} (e : (hidT h H).get? b = some o) : h.get? b = some o /\ H b = none := by
  have e' : h.get? b = some o := PySem.W.of_hideAll (trk h H) e
  refine ⟨e', ?_⟩
  cases q : H b with
  | none => rfl
  | some x =>
    have hm : b ∈ trk h H := List.mem_filter.mpr ⟨List.mem_range.mpr (Heap.lt_size e'), by simp [q]⟩
    have z : (hidT h H).get? b = none := PySem.W.hideAll_none (trk h H) hm
    rw [z] at e; cases e
end L2
namespace L2
open PySem PySem.Spec PyProof.Rows
structure Mod (K : Fg) (mg : Str -> Option Value) (base : Heap) : Prop where
  kin : K.In base
  glob : base.Ns mainGlobals mg
  blt : ∃ mb, base.Ns builtinsNs mb /\ ∀ x : Str, x ≠ "__name__" -> mb x = bootBuiltins x
  nolimit : base.NoLimit
structure Cx where
  prog : Program
  w : World
  K : Fg
  mg : Str -> Option Value
  base : Heap
  A : Around
  N : List Str
  s₀ : Shared
  H₀ : Hp
  env : Env
  outer : List Env
  stack : List Env
  ex : List Addr
  fn : Str -> Bool
  calm : Bool
  pn : List (Addr × Obj)
  xe : Value -> Shared -> Prop
noncomputable def frs (l : List Env) : List Addr := l.filterMap (·.frame)
noncomputable abbrev Cx.fs (X : Cx) : List Addr := frs X.outer
noncomputable def Vis (sc : Scope) (x : Str) : Prop := sc.names.lookup x = some .local \/ sc.names.lookup x = some .cell \/ sc.names.lookup x = some .free
noncomputable def Loc (sc : Scope) (x : Str) : Prop := sc.names.lookup x = some .local \/ sc.names.lookup x = some .cell
noncomputable def Look (env : Env) (h : Heap) (m : Str -> Option Value) (x : Str) (u : Value) : Prop :=
  (env.kindOf x = some .local /\ m x = some u) \/ ((env.kindOf x = some .cell \/ env.kindOf x = some .free) /\ ∃ c, env.cells.lookup x = some c /\ h.IsCell c (some u))
structure Cx.Ok (X : Cx) : Prop where
  mod : Mod X.K X.mg X.base
  kind : X.env.scope.kind = .function
  glob : X.env.globals = mainGlobals
  blt : X.env.builtins = builtinsNs
  above : X.s₀.heap.objs.size <= X.env.locals
  inj : ∀ x y c, X.env.cells.lookup x = some c -> X.env.cells.lookup y = some c -> x = y
  has : ∀ x, (X.env.kindOf x = some .cell \/ X.env.kindOf x = some .free) -> ∃ c, X.env.cells.lookup x = some c
  cab : ∀ x c, X.fn x = true -> X.env.cells.lookup x = some c -> X.s₀.heap.objs.size <= c
  hd : X.calm = true -> X.A.handled = none
  frames : X.A.frames = some X.stack
  stk : X.stack = X.outer \/ (X.stack = X.env :: X.outer /\ X.env.frame = some X.env.locals)
  exf : ∀ b ∈ X.ex, b ≠ X.env.locals /\ ∀ x c, X.env.cells.lookup x = some c -> c ≠ b
  bs : ∀ b o, X.base.get? b = some o -> X.s₀.heap.get? b = some o /\ X.H₀ b = none
  bsz : X.base.objs.size <= X.s₀.heap.objs.size
  noex : ∀ b o, X.base.get? b = some o -> b ∉ X.ex
  exfs : ∀ b ∈ X.ex, b ∉ X.fs
  funs : X.s₀.heap.FunFrames X.base X.outer
  frf : ∀ b ∈ X.fs, X.H₀ b = none
structure Inv (X : Cx) (pins : List (Addr × Obj)) (σ : List (Option V)) (H : Hp) (s : Shared) : Prop where
  ok : X.Ok
  os : s.os = X.s₀.os
  bare : AllBare s.gens
  base : Un X.fs X.ex X.H₀ H X.s₀.heap s.heap
  loc : ∃ m, s.heap.Ns X.env.locals m /\ ∀ (i : Nat) (x : Str) (v : V), X.N[i]? = some x -> σ[i]? = some (some v) -> Vis X.env.scope x -> ∃ u, RelV v u /\ Look X.env s.heap m x u
  cell : ∀ x c, X.env.cells.lookup x = some c -> ∃ v, s.heap.IsCell c v
  free : H X.env.locals = none
  freeC : ∀ x c, X.env.cells.lookup x = some c -> H c = none
  pin : ∀ p ∈ X.pn ++ pins, s.heap.get? p.1 = some p.2 /\ H p.1 = none /\ p.1 ≠ X.env.locals /\ p.1 ∉ X.fs /\ ∀ v, p.2.data ≠ .cell v
  hok : HOk X.prog X.w H s.heap
  len : σ.length = X.N.length
section
variable {X : Cx} {pins : List (Addr × Obj)} {σ : List (Option V)} {H H' : Hp} {s : Shared} {h' : Heap}
theorem Cx.Ok.nofr (ok : X.Ok) {b : Addr} {o : Obj} (e : X.base.get? b = some o) : b ∉ X.fs := fun hb => by
  have := (ok.funs.mem hb).1
  rw [e] at this; cases this
theorem Inv.bs (I : Inv X pins σ H s) : ∀ b o, X.base.get? b = some o -> s.heap.get? b = some o /\ H b = none := fun b o e =>
  ⟨I.base.keep b o (I.ok.bs b o e).1 (I.ok.bs b o e).2 (I.ok.nofr e) (I.ok.noex b o e), I.base.free b o (I.ok.bs b o e).1 (I.ok.bs b o e).2 (I.ok.noex b o e)⟩
theorem Inv.bk (I : Inv X pins σ H s) : ∀ b o, X.base.get? b = some o -> s.heap.get? b = some o := fun b o e => (I.bs b o e).1
theorem Inv.mod (I : Inv X pins σ H s) : Mod X.K X.mg X.base := I.ok.mod
theorem Inv.kIn (I : Inv X pins σ H s) : X.K.In s.heap := I.ok.mod.kin.keeps I.bk
theorem Inv.lt (I : Inv X pins σ H s) : X.env.locals < s.heap.objs.size := let ⟨_, hn, _⟩ := I.loc; hn.lt
theorem Inv.sz (I : Inv X pins σ H s) : X.s₀.heap.objs.size <= s.heap.objs.size := Nat.le_trans I.ok.above (Nat.le_of_lt I.lt)
theorem Inv.nofs (I : Inv X pins σ H s) {a : Addr} (h : s.heap.objs.size <= a) : a ∉ X.fs := fun hb => by
  obtain ⟨_, o, ho, _⟩ := I.ok.funs.mem hb
  exact absurd (Nat.lt_of_lt_of_le (Heap.lt_size ho) (Nat.le_trans I.sz h)) (Nat.lt_irrefl _)
theorem Inv.cne (I : Inv X pins σ H s) : ∀ x c, X.env.cells.lookup x = some c -> c ≠ X.env.locals := fun x c e z => by
  obtain ⟨v, o, ho, hd⟩ := I.cell x c e
  obtain ⟨m, ⟨o', es, ep, ho', hd', _⟩, _⟩ := I.loc
  rw [z, ho'] at ho; cases ho; rw [hd'] at hd; cases hd
theorem Inv.funs (I : Inv X pins σ H s) : s.heap.FunFrames X.base X.outer := by
  have all : ∀ (l : List Env), (∀ b ∈ frs l, b ∈ X.fs) -> X.s₀.heap.FunFrames X.base l -> s.heap.FunFrames X.base l := by
    intro l
    induction l with
    | nil => intro _ _; trivial
    | cons env r ih =>
      intro hs hl
      obtain ⟨hk, ⟨L, o, hf, hn, ho, hd⟩, hr⟩ := hl
      have hL : L ∈ X.fs := hs L (by unfold frs; rw [List.filterMap_cons, hf]; exact List.mem_cons_self)
      obtain ⟨sl, e⟩ := I.base.slot L o ho (I.ok.frf L hL) hL fun z => I.ok.exfs L z hL
      exact ⟨hk, ⟨L, _, hf, hn, e, hd⟩, ih (fun b hb => hs b (by unfold frs; rw [List.filterMap_cons, hf]; exact List.mem_cons_of_mem _ hb)) hr⟩
  exact all X.outer (fun _ hb => hb) I.ok.funs
theorem Inv.stack (I : Inv X pins σ H s) : s.heap.FunFrames X.base X.stack := by
  rcases I.ok.stk with e | ⟨e, hf⟩
  · rw [e]; exact I.funs
  · rw [e]
    obtain ⟨m, hn, _⟩ := I.loc
    refine .cons (by rw [I.ok.kind]; decide) hf hn ?_ I.funs
    exact Heap.get?_none_of_le (Nat.le_trans I.ok.bsz I.ok.above)
theorem Inv.stkSub (I : Inv X pins σ H s) : ∀ b ∈ frs X.stack, b ∈ X.env.locals :: X.fs := fun b hb => by
  rcases I.ok.stk with e | ⟨e, hf⟩
  · rw [e] at hb; exact List.mem_cons_of_mem _ hb
  · rw [e] at hb
    unfold frs at hb
    rw [List.filterMap_cons, hf] at hb
    exact hb
theorem Inv.stkFree (I : Inv X pins σ H s) : ∀ b ∈ frs X.stack, H b = none := fun b hb => by
  rcases List.mem_cons.mp (I.stkSub b hb) with e | hb
  · rw [e]; exact I.free
  · obtain ⟨_, o, ho, _⟩ := I.ok.funs.mem hb
    exact I.base.free b o ho (I.ok.frf b hb) fun z => I.ok.exfs b z hb
theorem Inv.step {g' : Array GenState} {t' : Nat} {d' : Drawn} {ch : List Addr} (I : Inv X pins σ H s)
    (hch : ∀ b ∈ ch, (b ∈ X.ex \/ X.s₀.heap.objs.size <= b) /\ b ≠ X.env.locals /\ (∀ x c, X.env.cells.lookup x = some c -> c ≠ b) /\ ∀ p ∈ X.pn ++ pins, p.1 ≠ b)
    (keep : ∀ b o, b ≠ X.env.locals -> b ∉ X.fs -> b ∉ ch -> s.heap.get? b = some o -> H b = none -> h'.get? b = some o)
    (slot : ∀ b o, b ≠ X.env.locals -> b ∈ X.fs -> b ∉ ch -> s.heap.get? b = some o -> H b = none -> ∃ sl, h'.get? b = some { o with slots := sl }) (free : ∀ b o, b ∉ ch -> s.heap.get? b = some o -> H b = none -> H' b = none)
    (there : ∀ b o, b ∉ ch -> s.heap.get? b = some o -> ∃ o', h'.get? b = some o')
    (tups : ∀ b xs, H b = some (.tup xs) -> H' b = some (.tup xs)) (frzs : ∀ b o u, H b = some (.frz o u) -> H' b = some (.frz o u)) (tbls : ∀ b ps, H b = some (.tbl ps) -> ∃ more, H' b = some (.tbl (ps ++ more)))
    (ns : ∀ m, s.heap.Ns X.env.locals m -> h'.Ns X.env.locals m) (hok : HOk X.prog X.w H' h') (hg : AllBare g') :
    Inv X pins σ H' { s with heap := h', gens := g', drawn := d', toks := t' } := by
  have neL : ∀ b o, X.s₀.heap.get? b = some o -> b ≠ X.env.locals := fun b o e => Nat.ne_of_lt (Nat.lt_of_lt_of_le (Heap.lt_size e) I.ok.above)
  have neC : ∀ b o, X.s₀.heap.get? b = some o -> b ∉ X.ex -> b ∉ ch := fun b o e hx hb => by
    rcases (hch b hb).1 with z | z
    · exact hx z
    · exact absurd (Nat.lt_of_lt_of_le (Heap.lt_size e) z) (Nat.lt_irrefl _)
  have cellK : ∀ x c, X.env.cells.lookup x = some c -> ∀ v, s.heap.IsCell c v -> h'.IsCell c v := fun x c e v ⟨o, ho, hd⟩ => by
    have nch : c ∉ ch := fun z => (hch c z).2.2.1 x c e rfl
    by_cases hc : c ∈ X.fs
    · obtain ⟨sl, q⟩ := slot c o (I.cne x c e) hc nch ho (I.freeC x c e)
      exact ⟨_, q, hd⟩
    · exact ⟨o, keep c o (I.cne x c e) hc nch ho (I.freeC x c e), hd⟩
  refine ⟨I.ok, I.os, hg, ⟨fun b o e n hb hx => ?_, fun b o e n hb hx => ?_, fun b o e n hx => ?_, fun b o e hx => ?_, fun b xs e => tups b xs (I.base.tups b xs e), fun b o xs e => frzs b o xs (I.base.frzs b o xs e), fun b ps e => ?_⟩, ?_, fun x c e => ?_, ?_, fun x c e => ?_, fun p hp => ?_, hok, I.len⟩
  · exact keep b o (neL b o e) hb (neC b o e hx) (I.base.keep b o e n hb hx) (I.base.free b o e n hx)
  · obtain ⟨sl, e1⟩ := I.base.slot b o e n hb hx
    obtain ⟨sl', e2⟩ := slot b _ (neL b o e) hb (neC b o e hx) e1 (I.base.free b o e n hx)
    exact ⟨sl', e2⟩
  · obtain ⟨o', e1⟩ := I.base.there b o e hx
    exact free b o' (neC b o e hx) e1 (I.base.free b o e n hx)
  · obtain ⟨o', e1⟩ := I.base.there b o e hx
    exact there b o' (neC b o e hx) e1
  · obtain ⟨m1, e1⟩ := I.base.tbls b ps e
    obtain ⟨m2, e2⟩ := tbls b _ e1
    exact ⟨m1 ++ m2, by rw [e2, Array.append_assoc]⟩
  · obtain ⟨m, hn, hl⟩ := I.loc
    refine ⟨m, ns m hn, fun i x v e1 e2 e3 => ?_⟩
    obtain ⟨u, r, l⟩ := hl i x v e1 e2 e3
    refine ⟨u, r, ?_⟩
    rcases l with l | ⟨k, c, e, z⟩
    · exact .inl l
    · exact .inr ⟨k, c, e, cellK x c e _ z⟩
  · obtain ⟨v, z⟩ := I.cell x c e
    exact ⟨v, cellK x c e v z⟩
  · obtain ⟨m, ⟨o, _, _, ho, _⟩, _⟩ := I.loc
    exact free _ o (fun z => (hch _ z).2.1 rfl) ho I.free
  · obtain ⟨v, o, ho, hd⟩ := I.cell x c e
    exact free c o (fun z => (hch c z).2.2.1 x c e rfl) ho (I.freeC x c e)
  · obtain ⟨e, n, ne, nf, d⟩ := I.pin p hp
    have nch : p.1 ∉ ch := fun z => (hch p.1 z).2.2.2 p hp rfl
    exact ⟨keep p.1 p.2 ne nf nch e n, free p.1 p.2 nch e n, ne, nf, d⟩
theorem Inv.un {t' : Nat} (I : Inv X pins σ H s) (u : Un X.fs [] H H' s.heap h') (hok : HOk X.prog X.w H' h') : Inv X pins σ H' { s with heap := h', toks := t' } := by
  obtain ⟨m, ⟨o, es, ep, ho, r⟩, _⟩ := id I.loc
  obtain ⟨sl, hL⟩ := u.any ho I.free (by simp)
  exact I.step (g' := s.gens) (d' := s.drawn) (ch := []) (fun _ z => nomatch z) (fun b o _ hb _ e n => u.keep b o e n hb (by simp)) (fun b o _ hb _ e n => u.slot b o e n hb (by simp)) (fun b o _ e n => u.free b o e n (by simp)) (fun b o _ e => u.there b o e (by simp)) u.tups u.frzs u.tbls (fun m' hm => by
    obtain ⟨o', es', ep', ho', r'⟩ := hm
    rw [ho] at ho'; cases ho'
    exact ⟨_, es', ep', hL, r'⟩) hok I.bare
theorem Inv.call {g' : Array GenState} {t' : Nat} {d' : Drawn} {ch : List Addr} (I : Inv X pins σ H s) (u : Un (frs X.stack) ch H H' s.heap h') (hok : HOk X.prog X.w H' h') (hg : AllBare g')
    (hch : ∀ b ∈ ch, (b ∈ X.ex \/ X.s₀.heap.objs.size <= b) /\ b ≠ X.env.locals /\ (∀ x c, X.env.cells.lookup x = some c -> c ≠ b) /\ ∀ p ∈ X.pn ++ pins, p.1 ≠ b) :
    Inv X pins σ H' { s with heap := h', gens := g', drawn := d', toks := t' } := by
  obtain ⟨m, ⟨o, es, ep, ho, r⟩, _⟩ := id I.loc
  obtain ⟨sl, hL⟩ := u.any ho I.free fun z => (hch _ z).2.1 rfl
  exact I.step (ch := ch) hch (fun b o hL hb hc e n => u.keep b o e n (fun z => (List.mem_cons.mp (I.stkSub b z)).elim hL hb) hc) (fun b o _ _ hc e n => u.any e n hc) (fun b o hc e n => u.free b o e n hc) (fun b o hc e => u.there b o e hc) u.tups u.frzs u.tbls (fun m' hm => by
    obtain ⟨o', es', ep', ho', r'⟩ := hm
    rw [ho] at ho'; cases ho'
    exact ⟨_, es', ep', hL, r'⟩) hok hg
theorem Inv.turned {t' : Nat} {it : Addr} (I : Inv X pins σ H s) (k : ∀ b o, b ≠ it -> s.heap.get? b = some o -> h'.get? b = some o) (hn : H it = none) (hL : it ≠ X.env.locals)
    (h1 : it ∈ X.ex \/ X.s₀.heap.objs.size <= it) (h2 : ∀ x c, X.env.cells.lookup x = some c -> c ≠ it) (h3 : ∀ p ∈ X.pn ++ pins, p.1 ≠ it) : Inv X pins σ H { s with heap := h', toks := t' } := by
  have nit : ∀ b u, H b = some u -> b ≠ it := fun b u e z => by rw [z, hn] at e; cases e
  refine I.step (g' := s.gens) (d' := s.drawn) (ch := [it]) (fun b hb => ?_) (fun b o _ _ hc e _ => k b o (fun z => hc (by simp [z])) e) (fun b o _ _ hc e _ => ⟨o.slots, k b o (fun z => hc (by simp [z])) e⟩) (fun _ _ _ _ n => n)
    (fun b o hc e => ⟨o, k b o (fun z => hc (by simp [z])) e⟩) (fun _ _ e => e) (fun _ _ _ e => e) (fun b ps e => ⟨#[], by rw [e]; simp⟩) (fun m hm => ?_) (fun b u e => ?_) I.bare
  · have e : b = it := by simpa using hb
    subst e
    exact ⟨h1, hL, h2, h3⟩
  · obtain ⟨o, es, ep, ho, r⟩ := hm
    exact ⟨o, es, ep, k _ o (Ne.symm hL) ho, r⟩
  · refine (I.hok b u e).stay (fun c v hc q => k c v ?_ q) (fun _ q => q) fun _ _ q => q
    rcases hc with z | z
    · rw [z]; exact nit b u e
    · exact nit c _ z
theorem Inv.tok (I : Inv X pins σ H s) (t : Nat) : Inv X pins σ H { s with toks := t } := I.un (h' := s.heap) (t' := t) Un.refl I.hok
theorem Inv.kept {t' : Nat} (I : Inv X pins σ H s) (k : ∀ b u, s.heap.get? b = some u -> h'.get? b = some u) : Inv X pins σ H { s with heap := h', toks := t' } := I.un (Un.kept k) (I.hok.kept k)
theorem Inv.laid {a : Addr} {o : HO} {t' : Nat} (I : Inv X pins σ H s) (k : ∀ b u, s.heap.get? b = some u -> h'.get? b = some u) (hp : s.heap.objs.size <= a) (new : ObjOk X.prog X.w (upd H a o) h' a o) :
    Inv X pins σ (upd H a o) { s with heap := h', toks := t' } := I.un (Un.laid k hp (I.hok.fresh hp)) (I.hok.laid k hp new)
theorem Inv.write {x e : Addr} {o : HO} {t' : Nat} (I : Inv X pins σ H s) (mu : Mut (H x)) (he : e = x \/ H e = some (.own x)) (k : ∀ b u, b ≠ e -> s.heap.get? b = some u -> h'.get? b = some u) (heo : ∃ u, h'.get? e = some u)
    (new : ObjOk X.prog X.w (upd H x o) h' x o) : Inv X pins σ (upd H x o) { s with heap := h', toks := t' } := I.un (Un.write mu he k heo) (I.hok.write mu he k heo new)
theorem Inv.pins_of {pins' : List (Addr × Obj)} (I : Inv X pins σ H s) (h : ∀ p ∈ pins', s.heap.get? p.1 = some p.2 /\ H p.1 = none /\ p.1 ≠ X.env.locals /\ p.1 ∉ X.fs /\ ∀ v, p.2.data ≠ .cell v) : Inv X pins' σ H s :=
  ⟨I.ok, I.os, I.bare, I.base, I.loc, I.cell, I.free, I.freeC, fun p hp => (List.mem_append.mp hp).elim (fun z => I.pin p (List.mem_append_left _ z)) (h p), I.hok, I.len⟩
theorem nodup_ix {N : List Str} (hN : N.Nodup) {i j : Nat} {x : Str} (a : N[i]? = some x) (b : N[j]? = some x) : i = j := by
  obtain ⟨h1, e1⟩ := List.getElem?_eq_some_iff.mp a
  obtain ⟨h2, e2⟩ := List.getElem?_eq_some_iff.mp b
  exact (List.getElem_inj hN).mp (e1.trans e2.symm)
theorem store_ok2 {M : Model} {A : Around} {E : Value -> Shared -> Prop} {i : Nat} {x : Str} {v : V} {u : Value} {Q : Unit -> Shared -> Prop} (I : Inv X pins σ H s) (hN : X.N.Nodup) (hi : X.N[i]? = some x) (hx : Loc X.env.scope x) (r : RelV v u)
    (h : ∀ s', Inv X pins (σ.set i (some v)) H s' -> (∃ a, Heap.SameBut a s.heap s'.heap /\ (a = X.env.locals \/ X.env.cells.lookup x = some a)) -> Q () s') (hf : X.fn x = true \/ X.env.scope.names.lookup x = some .local := by first | exact .inl rfl | exact .inr rfl | assumption) : wpAny M A (storeName X.env x u) Q E s := by
  obtain ⟨m, hn, hl⟩ := id I.loc
  have hcls : (X.env.scope.kind == .class || (X.env.scope.kind == .module && X.env.locals != X.env.globals)) = false := by rw [I.ok.kind]; rfl
  have hiσ : i < σ.length := by rw [I.len]; exact (List.getElem?_eq_some_iff.mp hi).1
  have cne := I.cne
  have tracked : ∀ {a : Addr} {h' : Heap}, (∃ o, s.heap.get? a = some o /\ H a = none) -> Heap.SameBut a s.heap h' -> HOk X.prog X.w H h' := fun {a h'} ha hs b ob e => by
    obtain ⟨_, _, hfree⟩ := ha
    refine (I.hok b ob e).stay (fun c w' hc q => (hs.2 c ?_).trans q) (fun _ q => q) fun _ _ q => q
    rintro rfl
    rcases hc with rfl | hc
    · rw [hfree] at e; cases e
    · rw [hfree] at hc; cases hc
  rcases hx with hk | hk
  · refine wpAny_storeName_local hk hn (fun h' hn' hs => ?_) hcls
    obtain ⟨oL, _, _, hoL, _⟩ := id hn
    refine h _ ⟨I.ok, I.os, I.bare, ⟨fun b o e n hb hx => ?_, fun b o e n hb hx => ?_, I.base.free, fun b o e hx => ?_, I.base.tups, I.base.frzs, I.base.tbls⟩, ⟨_, hn', fun j y v' e1 e2 e3 => ?_⟩, fun y c e => ?_, I.free, I.freeC, fun p hp => ?_, tracked ⟨oL, hoL, I.free⟩ hs, by simpa using I.len⟩ ⟨_, hs, .inl rfl⟩
    · exact (hs.2 b (Nat.ne_of_lt (Nat.lt_of_lt_of_le (Heap.lt_size e) I.ok.above))).trans (I.base.keep b o e n hb hx)
    · obtain ⟨sl, e1⟩ := I.base.slot b o e n hb hx
      exact ⟨sl, (hs.2 b (Nat.ne_of_lt (Nat.lt_of_lt_of_le (Heap.lt_size e) I.ok.above))).trans e1⟩
    · obtain ⟨o', e1⟩ := I.base.there b o e hx
      exact ⟨o', (hs.2 b (Nat.ne_of_lt (Nat.lt_of_lt_of_le (Heap.lt_size e) I.ok.above))).trans e1⟩
    · by_cases hj : j = i
      · subst hj
        rw [hi] at e1; cases e1
        rw [List.getElem?_set_self hiσ] at e2
        cases e2
        exact ⟨u, r, .inl ⟨hk, by simp⟩⟩
      · rw [List.getElem?_set_ne (Ne.symm hj)] at e2
        obtain ⟨u', r', q⟩ := hl j y v' e1 e2 e3
        refine ⟨u', r', ?_⟩
        rcases q with ⟨k, e⟩ | ⟨k, c, e, z⟩
        · refine .inl ⟨k, ?_⟩
          have : y ≠ x := fun e => hj (nodup_ix hN e1 (e ▸ hi))
          simp [this, e]
        · exact .inr ⟨k, c, e, z.sameBut hs (cne y c e)⟩
    · obtain ⟨w', z⟩ := I.cell y c e
      exact ⟨w', z.sameBut hs (cne y c e)⟩
    · obtain ⟨e, n, ne, nf, d⟩ := I.pin p hp
      exact ⟨(hs.2 p.1 ne).trans e, n, ne, nf, d⟩
  · have hfn : X.fn x = true := by
      rcases hf with z | z
      · exact z
      · rw [z] at hk; cases hk
    obtain ⟨c, hc⟩ := I.ok.has x (.inl hk)
    obtain ⟨w', z⟩ := I.cell x c hc
    refine wpAny_storeName_cell I.ok.kind hk hc z (fun h' hc' hs => ?_)
    obtain ⟨oc, hoc, hocd⟩ := id z
    refine h { s with heap := h' } ⟨I.ok, I.os, I.bare, ⟨fun b o e n hb hx => ?_, fun b o e n hb hx => ?_, I.base.free, fun b o e hx => ?_, I.base.tups, I.base.frzs, I.base.tbls⟩, ⟨m, hn.sameBut hs (Ne.symm (cne x c hc)), fun j y v' e1 e2 e3 => ?_⟩, fun y c' e => ?_, I.free, I.freeC, fun p hp => ?_, tracked ⟨oc, hoc, I.freeC x c hc⟩ hs, by simpa using I.len⟩ ⟨c, hs, .inr hc⟩
    · exact (hs.2 b (Nat.ne_of_lt (Nat.lt_of_lt_of_le (Heap.lt_size e) (I.ok.cab x c hfn hc)))).trans (I.base.keep b o e n hb hx)
    · obtain ⟨sl, e1⟩ := I.base.slot b o e n hb hx
      exact ⟨sl, (hs.2 b (Nat.ne_of_lt (Nat.lt_of_lt_of_le (Heap.lt_size e) (I.ok.cab x c hfn hc)))).trans e1⟩
    · obtain ⟨o', e1⟩ := I.base.there b o e hx
      exact ⟨o', (hs.2 b (Nat.ne_of_lt (Nat.lt_of_lt_of_le (Heap.lt_size e) (I.ok.cab x c hfn hc)))).trans e1⟩
    · by_cases hj : j = i
      · subst hj
        rw [hi] at e1; cases e1
        rw [List.getElem?_set_self hiσ] at e2
        cases e2
        exact ⟨u, r, .inr ⟨.inl hk, c, hc, hc'⟩⟩
      · rw [List.getElem?_set_ne (Ne.symm hj)] at e2
        obtain ⟨u', r', q⟩ := hl j y v' e1 e2 e3
        refine ⟨u', r', ?_⟩
        rcases q with q | ⟨k, c', e, z'⟩
        · exact .inl q
        · refine .inr ⟨k, c', e, z'.sameBut hs ?_⟩
          rintro rfl
          exact hj (nodup_ix hN e1 (I.ok.inj _ _ _ e hc ▸ hi))
    · by_cases hcc : c' = c
      · subst hcc; exact ⟨_, hc'⟩
      · obtain ⟨w2, z2⟩ := I.cell y c' e
        exact ⟨w2, z2.sameBut hs hcc⟩
    · obtain ⟨e, n, ne, nf, d⟩ := I.pin p hp
      refine ⟨(hs.2 p.1 ?_).trans e, n, ne, nf, d⟩
      intro q
      rw [q, hoc] at e
      have q' : oc = p.2 := Option.some.inj e
      exact d w' (by rw [<- q']; exact hocd)
theorem store_ok {M : Model} {A : Around} {E : Value -> Shared -> Prop} {i : Nat} {x : Str} {v : V} {u : Value} {Q : Unit -> Shared -> Prop} (I : Inv X pins σ H s) (hN : X.N.Nodup) (hi : X.N[i]? = some x) (hx : Loc X.env.scope x) (r : RelV v u)
    (h : ∀ s', Inv X pins (σ.set i (some v)) H s' -> Q () s') (hf : X.fn x = true \/ X.env.scope.names.lookup x = some .local := by first | exact .inl rfl | exact .inr rfl | assumption) : wpAny M A (storeName X.env x u) Q E s :=
  store_ok2 I hN hi hx r (fun s' I' _ => h s' I') hf
theorem Inv.call' {s' : Shared} {ch : List Addr} (I : Inv X pins σ H s) (ho : s'.os = s.os) (u : Un (frs X.stack) ch H H' s.heap s'.heap) (hok : HOk X.prog X.w H' s'.heap) (hg : AllBare s'.gens)
    (hch : ∀ b ∈ ch, (b ∈ X.ex \/ X.s₀.heap.objs.size <= b) /\ b ≠ X.env.locals /\ (∀ x c, X.env.cells.lookup x = some c -> c ≠ b) /\ ∀ p ∈ X.pn ++ pins, p.1 ≠ b) : Inv X pins σ H' s' := by
  obtain ⟨h', g', d', t', o'⟩ := s'
  have e : o' = s.os := ho
  subst e
  exact I.call (g' := g') (t' := t') (d' := d') u hok hg hch
end
noncomputable abbrev XK := Value -> Option Addr -> Hp -> Prop
noncomputable abbrev St := List (Option V)
noncomputable abbrev VK := V -> Hp -> Prop
noncomputable abbrev TE := St -> Hp -> VK -> Prop
noncomputable abbrev TT := St -> Hp -> (Bool -> Hp -> Prop) -> Prop
noncomputable abbrev TA := St -> Hp -> (List V -> Hp -> Prop) -> Prop
structure Ends where
  nx : St -> Hp -> Prop
  rt : VK
  bk : St -> Hp -> Prop := fun _ _ => False
  ct : St -> Hp -> Prop := fun _ _ => False
noncomputable abbrev TS := Ends -> St -> Hp -> Prop
noncomputable def EP (X : Cx) (pins : List (Addr × Obj)) (σ : St) (Q : VK) (u : Value) (s' : Shared) : Prop := ∃ v H', Inv X pins σ H' s' /\ RelV v u /\ Q v H'
noncomputable def TP (X : Cx) (pins : List (Addr × Obj)) (σ : St) (Q : Bool -> Hp -> Prop) (b : Bool) (s' : Shared) : Prop := ∃ H', Inv X pins σ H' s' /\ Q b H'
noncomputable def AP (X : Cx) (pins : List (Addr × Obj)) (σ : St) (Q : List V -> Hp -> Prop) (us : List Value) (s' : Shared) : Prop := ∃ vs H', Inv X pins σ H' s' /\ yD vs us /\ Q vs H'
noncomputable def SP (X : Cx) (pins : List (Addr × Obj)) (D : Ends) (f : Flow) (s' : Shared) : Prop :=
  match f with
  | .next => ∃ σ' H', Inv X pins σ' H' s' /\ D.nx σ' H'
  | .brk => ∃ σ' H', Inv X pins σ' H' s' /\ D.bk σ' H'
  | .cont => ∃ σ' H', Inv X pins σ' H' s' /\ D.ct σ' H'
  | .ret u => ∃ v σ' H', Inv X pins σ' H' s' /\ RelV v u /\ D.rt v H'
noncomputable def PE (X : Cx) (e : Expr) (t : TE) : Prop :=
  ∀ (pins : List (Addr × Obj)) (s : Shared) (σ : St) (H : Hp) (Q : VK), Inv X pins σ H s -> t σ H Q -> wpAny (model X.prog X.w) X.A (eval e X.env) (EP X pins σ Q) X.xe s
noncomputable def PT (X : Cx) (e : Expr) (t : TT) : Prop :=
  ∀ (pins : List (Addr × Obj)) (s : Shared) (σ : St) (H : Hp) (Q : Bool -> Hp -> Prop), Inv X pins σ H s -> t σ H Q -> wpAny (model X.prog X.w) X.A (isTrue e X.env (eval e X.env)) (TP X pins σ Q) X.xe s
noncomputable def PW (X : Cx) (e : Expr) (t : TT) : Prop :=
  ∀ (whole : Sem Value) (pins : List (Addr × Obj)) (s : Shared) (σ : St) (H : Hp) (Q : Bool -> Hp -> Prop), Inv X pins σ H s -> t σ H Q -> wpAny (model X.prog X.w) X.A (isTrue e X.env whole) (TP X pins σ Q) X.xe s
theorem PW.pt {X : Cx} {e : Expr} {t : TT} (h : PW X e t) : PT X e t := h _
noncomputable def PA (X : Cx) (es : List Expr) (t : TA) : Prop :=
  ∀ (pos : Pos) (pins : List (Addr × Obj)) (s : Shared) (σ : St) (H : Hp) (Q : List V -> Hp -> Prop), Inv X pins σ H s -> t σ H Q -> wpAny (model X.prog X.w) X.A (spliced (backTo pos (starEach es X.env))) (AP X pins σ Q) X.xe s
noncomputable def PS (X : Cx) (st : Stmt) (t : TS) : Prop :=
  ∀ (pins : List (Addr × Obj)) (s : Shared) (σ : St) (H : Hp) (D : Ends), Inv X pins σ H s -> t D σ H -> wpAny (model X.prog X.w) X.A (exec st X.env) (SP X pins D) X.xe s
noncomputable def PSs (X : Cx) (st : List Stmt) (t : TS) : Prop :=
  ∀ (pins : List (Addr × Obj)) (s : Shared) (σ : St) (H : Hp) (D : Ends), Inv X pins σ H s -> t D σ H -> wpAny (model X.prog X.w) X.A (execs st X.env) (SP X pins D) X.xe s
theorem thn {α : Type} {t : Sem α} {Q Q' : α -> Shared -> Prop} {M : Model} {A : Around} {E : Value -> Shared -> Prop} {s : Shared} (h : wpAny M A t Q E s) (hQ : ∀ a s, Q a s -> Q' a s) : wpAny M A t Q' E s := wpAny_mono h hQ fun _ _ x => x
end L2
namespace L2
open PySem PySem.Spec PyProof.Rows
section
variable {X : Cx}
noncomputable def tVar (i : Nat) : TE := fun σ H Q => ∃ v, σ[i]? = some (some v) /\ Q v H
noncomputable def tC (v : V) : TE := fun _ H Q => Q v H
theorem pe_var {i : Nat} {x : Str} {pos : Pos} (hN : X.N[i]? = some x) (hv : Vis X.env.scope x) (hd : (x == ("__debug__" : Str)) = false := by decide) (hcd : (x == ("__classdict__" : Str)) = false := by decide) : PE X (.Name x pos) (tVar i) := by
  intro pins s σ H Q I h
  obtain ⟨v, e, h⟩ := h
  obtain ⟨m, hn, hl⟩ := I.loc
  obtain ⟨u, r, l⟩ := hl i x v hN e hv
  have fin : EP X pins σ Q u s := ⟨v, H, I, r, h⟩
  rcases l with ⟨hk, hm⟩ | ⟨hk, c, hc, hcell⟩
  · exact wpAny_Name (wpAny_loadName_local I.ok.kind hk hn hm fin) hd
  · rcases hk with hk | hk
    · exact wpAny_Name (wpAny_loadName_cell I.ok.kind hk hc hcell fin) hd
    · exact wpAny_Name (wpAny_loadName_free I.ok.kind hk hc hcell fin hcd) hd
theorem pe_int {i j pos} : PE X (.Constant (.int i) j pos) (tC (.int i)) := fun _ _ _ H _ I h => wpAny_Constant_int ⟨.int i, H, I.tok _, ⟨_, rfl⟩, h⟩
theorem pe_bl {b j pos} : PE X (.Constant (.bool b) j pos) (tC (.bl b)) := fun _ _ _ H _ I h => Constant_bool ⟨.bl b, H, I, rfl, h⟩
theorem pe_non {j pos} : PE X (.Constant .none j pos) (tC .non) := fun _ _ _ H _ I h => Constant_none ⟨.non, H, I, rfl, h⟩
theorem pe_str {x j pos} : PE X (.Constant (.str x) j pos) (tC (.str x)) := fun _ _ _ H _ I h => Calls.Constant_str ⟨.str x, H, I.tok _, ⟨_, rfl⟩, h⟩
noncomputable def Gl (X : Cx) (x : Str) : Prop := X.env.kindOf x = some .globalImplicit
theorem ld_glob {E : Value -> Shared -> Prop} {pins : List (Addr × Obj)} {s : Shared} {σ : St} {H : Hp} {x : Str} {u : Value} {pos : Pos} {Q : Value -> Shared -> Prop} (I : Inv X pins σ H s) (hg : Gl X x) (hm : X.mg x = some u) (h : Q u s)
    (hd : (x == ("__debug__" : Str)) = false := by decide) : wpAny (model X.prog X.w) X.A (eval (.Name x pos) X.env) Q E s :=
  Calls.Name_function_global I.ok.kind hg (Calls.loadGlobal_global (by rw [I.ok.glob]; exact I.mod.glob.keeps I.bk) hm h) hd
theorem ld_blt {E : Value -> Shared -> Prop} {pins : List (Addr × Obj)} {s : Shared} {σ : St} {H : Hp} {x : Str} {u : Value} {pos : Pos} {Q : Value -> Shared -> Prop} (I : Inv X pins σ H s) (hg : Gl X x) (hm : X.mg x = none) (hv : bootBuiltins x = some u) (h : Q u s)
    (hn : x ≠ "__name__" := by decide) (hd : (x == ("__debug__" : Str)) = false := by decide) : wpAny (model X.prog X.w) X.A (eval (.Name x pos) X.env) Q E s := by
  obtain ⟨mb, h1, h2⟩ := I.mod.blt
  exact Calls.Name_function_global I.ok.kind hg (Calls.loadGlobal_builtin (by rw [I.ok.glob]; exact I.mod.glob.keeps I.bk) hm (by rw [I.ok.blt]; exact h1.keeps I.bk) ((h2 x hn).trans hv) h) hd
theorem pe_glob {x : Str} {v : V} {u : Value} {pos : Pos} (hg : Gl X x) (hm : X.mg x = some u) (r : RelV v u) (hd : (x == ("__debug__" : Str)) = false := by decide) : PE X (.Name x pos) (tC v) :=
  fun _ _ _ H _ I h => ld_glob I hg hm ⟨v, H, I, r, h⟩ hd
theorem pe_bltn {x : Str} {v : V} {u : Value} {pos : Pos} (hg : Gl X x) (hm : X.mg x = none) (hv : bootBuiltins x = some u) (r : RelV v u) (hn : x ≠ "__name__" := by decide) (hd : (x == ("__debug__" : Str)) = false := by decide) : PE X (.Name x pos) (tC v) :=
  fun _ _ _ H _ I h => ld_blt I hg hm hv ⟨v, H, I, r, h⟩ hn hd
variable {a b : Expr} {ta tb : TE} {pos : Pos}
noncomputable def PC (X : Cx) (op : CmpOp) (a b : Expr) (t : TE) : Prop :=
  ∀ (pins : List (Addr × Obj)) (s : Shared) (σ : St) (H : Hp) (Q : VK), Inv X pins σ H s -> t σ H Q ->
    wpAny (model X.prog X.w) X.A (eval a X.env) (fun v s₁ => wpAny (model X.prog X.w) X.A (eval b X.env) (fun u s₂ => wpAny (model X.prog X.w) X.A (compareOp op v u) (EP X pins σ Q) X.xe s₂) X.xe s₁) X.xe s
noncomputable def tB (t : TE) : TT := fun σ H Q => t σ H fun x H1 => ∃ c, x = .bl c /\ Q c H1
theorem pt_cmp {op : CmpOp} {t : TE} (h : PC X op a b t) (h1 : behindInMarks op b = false := by first | exact nobehind _ (by decide) (by decide) | rfl) : PT X (.Compare a [op] [b] pos) (tB t) := by
  intro pins s σ H Q I hw
  refine wpAny_isTrue_Compare1 (thn (h pins s σ H _ I hw) fun v s1 h1 => thn h1 fun u s2 h2 => thn h2 fun c s3 ⟨x, H1, I1, r1, q1⟩ => ?_) h1
  obtain ⟨d, rfl, q⟩ := q1
  cases r1
  exact wpAny_truthy_bool ⟨H1, I1, q⟩
variable {tA tB' : TT} {rest : List Expr}
noncomputable def tAnd (t u : TT) : TT := fun σ H Q => t σ H fun c H1 => if c = true then u σ H1 Q else Q false H1
theorem pw_and1 (ha : PT X a tA) : PW X (.BoolOp .And [a] pos) tA := by
  intro wh pins s σ H Q I h
  refine isTrue_and (thn (ha pins s σ H Q I h) fun c s1 e => ?_)
  cases c with
  | true => exact isTrue_and_nil e
  | false => exact e
theorem pw_and (ha : PT X a tA) (hb : PW X (.BoolOp .And (b :: rest) pos) tB') : PW X (.BoolOp .And (a :: b :: rest) pos) (tAnd tA tB') := by
  intro wh pins s σ H Q I h
  refine isTrue_and (thn (ha pins s σ H _ I h) fun c s1 ⟨H1, I1, q1⟩ => ?_)
  cases c with
  | true => exact hb wh pins s1 σ H1 Q I1 q1
  | false => exact ⟨H1, I1, q1⟩
noncomputable def tIf (t : TT) (ta tb : TE) : TE := fun σ H Q => t σ H fun c H1 => if c = true then ta σ H1 Q else tb σ H1 Q
theorem pe_ifExp {c : Expr} (hc : PT X c tA) (ha : PE X a ta) (hb : PE X b tb) : PE X (.IfExp c a b pos) (tIf tA ta tb) := by
  intro pins s σ H Q I h
  refine wpAny_IfExp (thn (hc pins s σ H _ I h) fun d s1 ⟨H1, I1, q1⟩ => ?_)
  cases d with
  | true => exact ha pins s1 σ H1 Q I1 q1
  | false => exact hb pins s1 σ H1 Q I1 q1
end
end L2
namespace L2
open PySem PySem.Spec PyProof.Rows
noncomputable def SqL (K : Fg) (H : Hp) (a : Addr) (xs : List V) : Prop :=
  Rd H a (.lst xs) \/
    ∃ (o : Obj) (its : Array Value) (n : Nat), K.lookup a = some o /\ o.cls = .type "list" /\ o.dict = none /\ o.data = .seq its n /\ its.size <= sizeLine /\ yD xs its.toList
noncomputable def SqT (K : Fg) (H : Hp) (a : Addr) (xs : List V) : Prop :=
  Rd H a (.tup xs) \/
    ∃ (o : Obj) (its : Array Value) (n : Nat), K.lookup a = some o /\ o.cls = .type "tuple" /\ o.data = .seq its n /\ its.size <= sizeLine /\ yD xs its.toList
noncomputable def absV : Value -> Option V
  | .none => some .non
  | .bool b => some (.bl b)
  | .int i _ => some (.int i)
  | .str x _ => some (.str x)
  | .bytes b _ => some (.byt b)
  | .float b _ => some (.flt b)
  | .ref a => some (.ref a)
  | .type n => some (.ty n)
  | _ => none
theorem RelV.abs {x : V} {u : Value} (r : RelV x u) : absV u = some x := by
  cases x with
  | non => cases r; rfl
  | bl _ => cases r; rfl
  | int _ => obtain ⟨t, rfl⟩ := r; rfl
  | str _ => obtain ⟨t, rfl⟩ := r; rfl
  | byt _ => obtain ⟨t, rfl⟩ := r; rfl
  | flt _ => obtain ⟨t, rfl⟩ := r; rfl
  | ref _ => cases r; rfl
  | ty _ => cases r; rfl
theorem RelV.inj {x y : V} {u : Value} (r : RelV x u) (q : RelV y u) : x = y := Option.some.inj (r.abs.symm.trans q.abs)
theorem yD.inj : ∀ {xs ys : List V} {us : List Value}, yD xs us -> yD ys us -> xs = ys
  | _, _, _, .nil, .nil => rfl
  | _, _, _, .cons r t, .cons r' t' => by rw [r.inj r', yD.inj t t']
section
variable {X : Cx} {pins : List (Addr × Obj)} {σ : St} {H : Hp} {s : Shared} {a : Addr} {xs ys : List V}
theorem SqL.of {K : Fg} (h : H a = some (.lst xs)) : SqL K H a xs := .inl (.inl h)
theorem SqT.of {K : Fg} (h : H a = some (.tup xs)) : SqT K H a xs := .inl (.inl h)
theorem Inv.list (I : Inv X pins σ H s) (h : SqL X.K H a xs) : ∃ its : List Value, yD xs its /\ PlainL s.heap a its.toArray /\ xs.length <= sizeLine := by
  rcases h with h | ⟨o, its, n, hk, hc, hd, hs, hz, r⟩
  · obtain ⟨z, its, n, r, e⟩ := h.ok I.hok
    exact ⟨its, r, ⟨_, n, e, rfl, rfl, rfl⟩, z⟩
  · refine ⟨its.toList, r, ⟨o, n, I.kIn a o hk, hc, hd, by simpa using hs⟩, ?_⟩
    have e := r.length
    simp only [Array.length_toList] at e
    omega
theorem Inv.tuple (I : Inv X pins σ H s) (h : SqT X.K H a xs) : ∃ its : List Value, yD xs its /\ IsTup s.heap a its.toArray /\ xs.length <= sizeLine := by
  rcases h with h | ⟨o, its, n, hk, hc, hs, hz, r⟩
  · obtain ⟨z, its, r, p⟩ := h.ok I.hok
    exact ⟨its, r, p, z⟩
  · refine ⟨its.toList, r, ⟨o, I.kIn a o hk, hc, n, by simpa using hs⟩, ?_⟩
    have e := r.length
    simp only [Array.length_toList] at e
    omega
theorem Inv.list_inj (I : Inv X pins σ H s) (h : SqL X.K H a xs) (h' : SqL X.K H a ys) : xs = ys := by
  obtain ⟨its, r, ⟨o, n, e, _, _, d⟩, _⟩ := I.list h
  obtain ⟨its', r', ⟨o', n', e', _, _, d'⟩, _⟩ := I.list h'
  rw [e] at e'; cases e'
  rw [d] at d'
  injection d' with d1 _
  have : its = its' := by simpa using congrArg Array.toList d1
  subst this
  exact r.inj r'
theorem Inv.tuple_inj (I : Inv X pins σ H s) (h : SqT X.K H a xs) (h' : SqT X.K H a ys) : xs = ys := by
  obtain ⟨its, r, ⟨o, e, _, n, d⟩, _⟩ := I.tuple h
  obtain ⟨its', r', ⟨o', e', _, n', d'⟩, _⟩ := I.tuple h'
  rw [e] at e'; cases e'
  rw [d] at d'
  injection d' with d1 _
  have : its = its' := by simpa using congrArg Array.toList d1
  subst this
  exact r.inj r'
end
noncomputable abbrev Cx.wish (X : Cx) (E : Value -> Shared -> Prop) : Cx := { X with xe := E }
noncomputable abbrev Cx.nox (X : Cx) : Cx := X.wish fun _ _ => False
theorem Cx.Ok.wish {X : Cx} (ok : X.Ok) (E : Value -> Shared -> Prop) : (X.wish E).Ok :=
  ⟨ok.mod, ok.kind, ok.glob, ok.blt, ok.above, ok.inj, ok.has, ok.cab, ok.hd, ok.frames, ok.stk, ok.exf, ok.bs, ok.bsz, ok.noex, ok.exfs, ok.funs, ok.frf⟩
theorem Cx.Ok.unwish {X : Cx} {E : Value -> Shared -> Prop} (ok : (X.wish E).Ok) : X.Ok :=
  ⟨ok.mod, ok.kind, ok.glob, ok.blt, ok.above, ok.inj, ok.has, ok.cab, ok.hd, ok.frames, ok.stk, ok.exf, ok.bs, ok.bsz, ok.noex, ok.exfs, ok.funs, ok.frf⟩
section
variable {X : Cx} {pins : List (Addr × Obj)} {σ : St} {H : Hp} {s : Shared} {E : Value -> Shared -> Prop}
theorem Inv.wish (I : Inv X pins σ H s) (E : Value -> Shared -> Prop) : Inv (X.wish E) pins σ H s := ⟨I.ok.wish E, I.os, I.bare, I.base, I.loc, I.cell, I.free, I.freeC, I.pin, I.hok, I.len⟩
theorem Inv.unwish (I : Inv (X.wish E) pins σ H s) : Inv X pins σ H s := ⟨I.ok.unwish, I.os, I.bare, I.base, I.loc, I.cell, I.free, I.freeC, I.pin, I.hok, I.len⟩
theorem SP.unwish {D : Ends} {f : Flow} {s' : Shared} (h : SP (X.wish E) pins D f s') : SP X pins D f s' := by
  cases f with
  | next => obtain ⟨σ', H', I, q⟩ := h; exact ⟨σ', H', I.unwish, q⟩
  | brk => obtain ⟨σ', H', I, q⟩ := h; exact ⟨σ', H', I.unwish, q⟩
  | cont => obtain ⟨σ', H', I, q⟩ := h; exact ⟨σ', H', I.unwish, q⟩
  | ret u => obtain ⟨v, σ', H', I, r, q⟩ := h; exact ⟨v, σ', H', I.unwish, r, q⟩
theorem PSs.nox {st : List Stmt} {t : TS} (h : PSs X.nox st t) : PSs X st t := fun pins s σ H D I hw =>
  wpAny_mono (h pins s σ H D (I.wish _) hw) (fun _ _ q => q.unwish) fun _ _ z => False.elim z
end
section
variable {X : Cx} {st : Stmt} {rest : List Stmt} {t u : TS} {e : Expr} {te : TE} {pos : Pos}
noncomputable def tNext : TS := fun D σ H => D.nx σ H
noncomputable def tSeq (t u : TS) : TS := fun D σ H => t { D with nx := u D } σ H
theorem pss_nil : PSs X [] tNext := fun _ _ σ H _ I h => wpAny_execs_nil ⟨σ, H, I, h⟩
theorem pss_cons (h1 : PS X st t) (h2 : PSs X rest u) : PSs X (st :: rest) (tSeq t u) := by
  intro pins s σ H D I h
  refine wpAny_execs_cons (thn (h1 pins s σ H { D with nx := u D } I h) fun f s1 q => ?_)
  cases f with
  | next =>
    obtain ⟨σ', H', I', q⟩ := q
    exact h2 pins s1 σ' H' D I' q
  | ret v => exact q
  | brk => exact q
  | cont => exact q
theorem pss_one (h1 : PS X st t) : PSs X [st] t := by
  intro pins s σ H D I h
  refine wpAny_execs_cons (thn (h1 pins s σ H D I h) fun f s1 q => ?_)
  cases f with
  | next => exact wpAny_execs_nil q
  | ret v => exact q
  | brk => exact q
  | cont => exact q
theorem Inv.quiet {pins : List (Addr × Obj)} {σ : St} {H : Hp} {s : Shared} (I : Inv X pins σ H s) : interactive X.env = false := by simp [interactive, I.ok.kind]
noncomputable def tDrop (te : TE) : TS := fun D σ H => te σ H fun _ H1 => D.nx σ H1
theorem ps_expr (he : PE X e te) (hs : swapsWith e none pos.line X.env = pure false := by rfl) : PS X (.Expr e pos) (tDrop te) := by
  intro pins s σ H D I h
  exact wpAny_Expr_any (thn (he pins s σ H _ I h) fun v s1 ⟨x, H1, I1, r1, q1⟩ => ⟨σ, H1, I1, q1⟩) I.quiet hs
noncomputable def tRet (te : TE) : TS := fun D σ H => te σ H D.rt
theorem ps_ret (he : PE X e te) : PS X (.Return (some e) pos) (tRet te) := by
  intro pins s σ H D I h
  exact wpAny_Return_some (thn (he pins s σ H _ I h) fun v s1 ⟨x, H1, I1, r1, q1⟩ => ⟨x, σ, H1, I1, r1, q1⟩)
noncomputable def tIfS (c : TT) (t u : TS) : TS := fun D σ H => c σ H fun b H1 => if b = true then t D σ H1 else u D σ H1
theorem ps_if {c : Expr} {a b : List Stmt} {tc : TT} (hc : PT X c tc) (ha : PSs X a t) (hb : PSs X b u) : PS X (.If c a b pos) (tIfS tc t u) := by
  intro pins s σ H D I h
  refine wpAny_If (thn (hc pins s σ H _ I h) fun d s1 ⟨H1, I1, q1⟩ => ?_)
  cases d with
  | true => exact ha pins s1 σ H1 D I1 q1
  | false => exact hb pins s1 σ H1 D I1 q1
end
noncomputable abbrev TG := V -> St -> Hp -> (St -> Hp -> Prop) -> Prop
noncomputable abbrev TGs := List V -> St -> Hp -> (St -> Hp -> Prop) -> Prop
noncomputable def PG (X : Cx) (target : Expr) (t : TG) : Prop :=
  ∀ (pins : List (Addr × Obj)) (s : Shared) (σ : St) (H : Hp) (v : V) (u : Value) (Q : St -> Hp -> Prop), Inv X pins σ H s -> RelV v u -> t v σ H Q ->
    wpAny (model X.prog X.w) X.A (assign target X.env u) (fun _ s' => ∃ σ' H', Inv X pins σ' H' s' /\ Q σ' H') X.xe s
noncomputable def PGs (X : Cx) (ts : List Expr) (t : TGs) : Prop :=
  ∀ (pins : List (Addr × Obj)) (s : Shared) (σ : St) (H : Hp) (vs : List V) (us : List Value) (Q : St -> Hp -> Prop), Inv X pins σ H s -> yD vs us -> t vs σ H Q ->
    wpAny (model X.prog X.w) X.A (assignInOrder ((assignEach ts X.env).map (·.2)) us) (fun _ s' => ∃ σ' H', Inv X pins σ' H' s' /\ Q σ' H') X.xe s
section
variable {X : Cx} {pos : Pos}
noncomputable def gName (i : Nat) : TG := fun v σ H Q => Q (σ.set i (some v)) H
theorem pg_name {i : Nat} {x : Str} (hN : X.N.Nodup) (hi : X.N[i]? = some x) (hx : Loc X.env.scope x) (hf : X.fn x = true \/ X.env.scope.names.lookup x = some .local := by first | exact .inl rfl | exact .inr rfl | assumption) : PG X (.Name x pos) (gName i) := by
  intro pins s σ H v u Q I r h
  exact wpAny_assign_Name (store_ok I hN hi hx r (fun s' I' => ⟨_, H, I', h⟩) hf)
noncomputable def gNil : TGs := fun vs σ H Q => vs = [] /\ Q σ H
noncomputable def gCons (t : TG) (u : TGs) : TGs := fun vs σ H Q => ∃ v r, vs = v :: r /\ t v σ H fun σ' H' => u r σ' H' Q
theorem pgs_nil : PGs X [] gNil := by
  intro pins s σ H vs us Q I r h
  obtain ⟨e, h⟩ := h
  subst e
  cases r
  exact assignInOrder_nil ⟨σ, H, I, h⟩
theorem pgs_cons {e : Expr} {es : List Expr} {t : TG} {u : TGs} (h1 : PG X e t) (h2 : PGs X es u)
    (hs : (assignEach (e :: es) X.env).map (·.2) = assign e X.env :: (assignEach es X.env).map (·.2) := by rfl) : PGs X (e :: es) (gCons t u) := by
  intro pins s σ H vs us Q I r h
  obtain ⟨v, vr, e1, h⟩ := h
  subst e1
  cases r with
  | cons r rr =>
    rw [hs]
    refine assignInOrder_cons (thn (h1 pins s σ H _ _ _ I r h) fun _ s1 ⟨σ1, H1, I1, q1⟩ => ?_)
    exact h2 pins s1 σ1 H1 _ _ Q I1 rr q1
noncomputable def gTup (K : Fg) (n : Nat) (t : TGs) : TG := fun v σ H Q => ∃ a xs, v = .ref a /\ SqT K H a xs /\ xs.length = n /\ t xs σ H Q
theorem pg_tup {es : List Expr} {k : Nat} {t : TGs} {n : Nat} (hc : X.calm = true) (h : PGs X es t)
    (hn : (assignEach es X.env).length = n := by rfl) (hst : (assignEach es X.env).findIdx? (·.1) = none := by rfl) : PG X (.Tuple es k pos) (gTup X.K n t) := by
  intro pins s σ H v u Q I r hw
  obtain ⟨a, xs, e1, hq, hl, hw⟩ := hw
  subst e1
  cases r
  obtain ⟨its, rv, ht, hz⟩ := I.tuple hq
  refine assign_Tuple_tuple (I.ok.hd hc) ht (by simp [hn, <- hl, rv.length]) hst fun h' hx => ?_
  have I1 : Inv X pins σ H { s with heap := h' } := I.kept (t' := s.toks) fun b o e => hx b o (Nat.ne_of_lt (Heap.lt_size e)) e
  exact h pins _ σ H xs _ Q I1 (by simpa using rv) hw
noncomputable def tAsg (te : TE) (g : TG) : TS := fun D σ H => te σ H fun x H1 => g x σ H1 D.nx
theorem ps_set {i : Nat} {x : Str} {e : Expr} {te : TE} {pos' : Pos} (hN : X.N.Nodup) (hi : X.N[i]? = some x) (hx : Loc X.env.scope x) (he : PE X e te) (hs : swapsWith e (some (.Name x pos')) pos.line X.env = pure false := by rfl) (hf : X.fn x = true \/ X.env.scope.names.lookup x = some .local := by first | exact .inl rfl | exact .inr rfl | assumption) :
    PS X (.Assign [.Name x pos'] e pos) (tAsg te (gName i)) := by
  intro pins s σ H D I h
  refine wpAny_Assign_Name (thn (he pins s σ H _ I h) fun v s1 ⟨y, H1, I1, r1, q1⟩ => ?_) hs
  exact store_ok I1 hN hi hx r1 (fun s2 I2 => ⟨_, H1, I2, q1⟩) hf
end
section
variable {X : Cx} {pos : Pos}
noncomputable def tWhile (c : TT) (tb : TS) : TS := fun D σ H => ∃ W : Nat -> St -> Hp -> Prop, (∃ m, W m σ H) /\ ∀ m σ H, W m σ H ->
  c σ H fun b H1 => if b = true then ∃ N : St -> Hp -> Prop, (∀ σ' H', N σ' H' -> ∃ m', m' < m /\ W m' σ' H') /\ tb { D with nx := N, ct := N, bk := D.nx } σ H1 else D.nx σ H1
theorem ps_while {c : Expr} {body : List Stmt} {tc : TT} {tb : TS} (hp : PassesOwn (model X.prog X.w) X.A X.env X.xe) (hc : PT X c tc) (hb : PSs X body tb) : PS X (.While c body [] pos) (tWhile tc tb) := by
  intro pins s σ H D I h
  obtain ⟨W, ⟨m0, w0⟩, turn⟩ := h
  refine wpAny_While (codeAny_whileLoop (fun n s' => ∃ σ' H', Inv X pins σ' H' s' /\ W n σ' H') ?_ m0 ⟨σ, H, I, w0⟩)
  rintro n s1 ⟨σ1, H1, I1, w1⟩
  refine wpAny_passesOwn hp (thn (hc pins s1 σ1 H1 _ I1 (turn n σ1 H1 w1)) fun b s2 ⟨H2, I2, q2⟩ => ?_)
  cases b with
  | true =>
    obtain ⟨N, hN, q2⟩ := q2
    rw [if_pos rfl]
    refine wpAny_passesOwn hp (thn (hb pins s2 σ1 H2 _ I2 q2) fun f s3 q3 => ?_)
    cases f with
    | next =>
      obtain ⟨σ3, H3, I3, n3⟩ := q3
      obtain ⟨m', hm, w3⟩ := hN σ3 H3 n3
      exact ⟨m', hm, σ3, H3, I3, w3⟩
    | cont =>
      obtain ⟨σ3, H3, I3, n3⟩ := q3
      obtain ⟨m', hm, w3⟩ := hN σ3 H3 n3
      exact ⟨m', hm, σ3, H3, I3, w3⟩
    | brk => exact q3
    | ret v => exact q3
  | false =>
    rw [if_neg Bool.false_ne_true]
    exact wpAny_execs_nil ⟨σ1, H2, I2, q2⟩
end
structure It where
  go : Nat -> Hp -> Prop
  yld : Nat -> Hp -> V -> Hp -> Prop
  stop : Nat -> Hp -> Prop
noncomputable def FpOk (X : Cx) (pins : List (Addr × Obj)) (H : Hp) (b : Addr) : Prop :=
  H b = none /\ b ≠ X.env.locals /\ b ∉ X.fs /\ (b ∈ X.ex \/ X.s₀.heap.objs.size <= b) /\ (∀ x c, X.env.cells.lookup x = some c -> c ≠ b) /\ ∀ p ∈ X.pn ++ pins, p.1 ≠ b
theorem Inv.fpOk {X : Cx} {pins : List (Addr × Obj)} {σ : St} {H H' : Hp} {s : Shared} {b : Addr} (I : Inv X pins σ H s) (hb : s.heap.objs.size <= b) (hn : H' b = none) : FpOk X pins H' b := by
  refine ⟨hn, Nat.ne_of_gt (Nat.lt_of_lt_of_le I.lt hb), I.nofs hb, .inr (Nat.le_trans I.sz hb), fun x c e z => ?_, fun p hp z => ?_⟩
  · obtain ⟨v, q⟩ := I.cell x c e
    exact absurd (Nat.lt_of_lt_of_le q.lt (by rw [z]; exact hb)) (Nat.lt_irrefl _)
  · exact absurd (Nat.lt_of_lt_of_le (Heap.lt_size (I.pin p hp).1) (by rw [z]; exact hb)) (Nat.lt_irrefl _)
structure Turn (P : Program) (w : World) (K : Fg) (tg : Expr) (J : It) (fp : List Addr) (it : Addr) (tn : Nat -> Heap -> Prop) : Prop where
  mem : it ∈ fp
  obj : ∀ i h, tn i h -> ∀ b ∈ fp, ∃ o, h.get? b = some o /\ ∀ v, o.data ≠ .cell v
  keep : ∀ i h h', tn i h -> (∀ b ∈ fp, ∀ o, h.get? b = some o -> h'.get? b = some o) -> tn i h'
  item : ∀ (X : Cx), X.prog = P -> X.w = w -> X.K = K -> X.calm = true -> ∀ (i : Nat) (pins : List (Addr × Obj)) (s : Shared) (σ : St) (H : Hp) (E : Value -> Shared -> Prop), Inv X pins σ H s -> (∀ b ∈ fp, FpOk X pins H b) -> tn i s.heap -> J.go i H ->
    wpAny (model P w) X.A (pyNext (.ref it)) (fun r s1 => ∃ u, r = some u /\
      wpAny (model P w) X.A (letOwnedTupleGo tg (.ref it) u) (fun _ s2 => ∃ x H', Inv X pins σ H' s2 /\ RelV x u /\ J.yld i H x H' /\ tn (i + 1) s2.heap /\ ∀ b ∈ fp, H' b = none) E s1) E s
  done : ∀ (X : Cx), X.prog = P -> X.w = w -> X.K = K -> X.calm = true -> ∀ (i : Nat) (pins : List (Addr × Obj)) (s : Shared) (σ : St) (H : Hp) (E : Value -> Shared -> Prop), Inv X pins σ H s -> (∀ b ∈ fp, FpOk X pins H b) -> tn i s.heap -> J.stop i H ->
    wpAny (model P w) X.A (pyNext (.ref it)) (fun r s1 => r = none /\ Inv X pins σ H s1) E s
  self : ∀ (A : Around) (i : Nat) (s : Shared) (Q : Value -> Shared -> Prop) (E : Value -> Shared -> Prop), tn i s.heap -> Q (.ref it) s -> wpAny (model P w) A (pyIter (.ref it)) Q E s
noncomputable abbrev TI := St -> Hp -> (It -> Hp -> Prop) -> Prop
noncomputable def PIE (X : Cx) (pins : List (Addr × Obj)) (σ : St) (tg : Expr) (R : It -> Hp -> Prop) (itv : Value) (s2 : Shared) : Prop :=
  ∃ (it : Addr) (fp : List Addr) (tn : Nat -> Heap -> Prop) (J : It) (H' : Hp), itv = .ref it /\ Inv X pins σ H' s2 /\ Turn X.prog X.w X.K tg J fp it tn /\ tn 0 s2.heap /\ (∀ b ∈ fp, FpOk X pins H' b) /\ R J H'
noncomputable def PI (X : Cx) (tg iter : Expr) (wi : TI) : Prop :=
  ∀ (pins : List (Addr × Obj)) (s : Shared) (σ : St) (H : Hp) (R : It -> Hp -> Prop), Inv X pins σ H s -> wi σ H R ->
    wpAny (model X.prog X.w) X.A (eval iter X.env) (fun v s1 => wpAny (model X.prog X.w) X.A (pyIter v) (PIE X pins σ tg R) X.xe s1) X.xe s
theorem go_of {M : Model} {A : Around} {E : Value -> Shared -> Prop} {s : Shared} {tg : Expr} {it : Addr} {u : Value} {o : Obj} {n : String} {vs : Array Value} {Q : Unit -> Shared -> Prop} (ho : s.heap.get? it = some o) (hc : o.cls = .type n) (hd : o.data = .fields vs)
    (hn : ["enumerate", "zip", "dict_itemiterator", "dict_reverseitemiterator", "odict_iterator", "itertools.zip_longest", "itertools.pairwise"].contains n = false) (hQ : Q () s) : wpAny M A (letOwnedTupleGo tg (.ref it) u) Q E s := by
  unfold letOwnedTupleGo
  cases tg <;> first
    | exact wpAny_pure hQ
    | (cases u <;> first
        | exact wpAny_pure hQ
        | (refine wpAny_bind (wpAny_load ho ?_)
           rw [hc, hd]
           show wpAny M A (if (["enumerate", "zip", "dict_itemiterator", "dict_reverseitemiterator", "odict_iterator", "itertools.zip_longest", "itertools.pairwise"].contains n && vs[0]? == some (rawInt _)) = true then _ else _) Q E s
           rw [if_neg (by intro h; rw [hn, Bool.false_and] at h; cases h)]
           exact wpAny_pure hQ))
noncomputable def Itl (K : Fg) (a : Addr) : It :=
  ⟨fun i H => ∃ xs x, SqL K H a xs /\ xs[i]? = some x, fun i H x H' => H' = H /\ ∀ xs, SqL K H a xs -> xs[i]? = some x, fun i H => ∃ xs, SqL K H a xs /\ xs.length <= i⟩
noncomputable def Itt (K : Fg) (a : Addr) : It :=
  ⟨fun i H => ∃ xs x, SqT K H a xs /\ xs[i]? = some x, fun i H x H' => H' = H /\ ∀ xs, SqT K H a xs -> xs[i]? = some x, fun i H => ∃ xs, SqT K H a xs /\ xs.length <= i⟩
noncomputable def Itr (lo : Int) (n : Nat) : It := ⟨fun i _ => i < n, fun i H x H' => H' = H /\ x = .int (lo + i), fun i _ => n <= i⟩
theorem turn_list {P : Program} {w : World} {K : Fg} {tg : Expr} (a it : Addr) : Turn P w K tg (Itl K a) [it] it (fun i h => h.IsListIter it a i) where
  mem := by simp
  obj := fun i h st b hb => by
    have e : b = it := by simpa using hb
    subst e
    obtain ⟨o, e, c, d⟩ := st
    exact ⟨o, e, fun v z => by rw [d] at z; cases z⟩
  keep := fun i h h' st k => st.at fun o e => k it (by simp) o e
  item := by
    intro X hP hw hK hc i pins s σ H E I hf st hg
    subst hP hw hK
    obtain ⟨xs, x, hq, hx⟩ := hg
    obtain ⟨its, rv, p, hz⟩ := I.list hq
    obtain ⟨u, hu, ru⟩ := rv.get hx
    obtain ⟨f0, f1, f2, f3, f4, f5⟩ := hf it (by simp)
    refine wpAny_pyNext_list_item st p.isList (x := u) (by simpa using hu) fun h' st' sb => ?_
    have I1 : Inv X pins σ H { s with heap := h' } := I.turned (t' := s.toks) (fun b o hb e => (sb.2 b hb).trans e) f0 f1 f3 f4 f5
    obtain ⟨o, e, c, d⟩ := id st'
    exact ⟨u, rfl, go_of (s := { s with heap := h' }) e c d (by decide) ⟨x, H, I1, ru, ⟨rfl, fun ys hy => by rw [I.list_inj hy hq]; exact hx⟩, st', fun b hb => (hf b hb).1⟩⟩
  done := by
    intro X hP hw hK hc i pins s σ H E I hf st hg
    subst hP hw hK
    obtain ⟨xs, hq, hx⟩ := hg
    obtain ⟨its, rv, p, hz⟩ := I.list hq
    obtain ⟨f0, f1, f2, f3, f4, f5⟩ := hf it (by simp)
    have hl := rv.length
    exact wpAny_pyNext_list_end (I.ok.hd hc) st p.isList (by simp; omega) fun h' eb => ⟨rfl, I.turned (t' := s.toks) (fun b o hb e => eb b o hb e) f0 f1 f3 f4 f5⟩
  self := fun _ _ _ _ _ st h => wpAny_pyIter_listiter st h
theorem turn_tuple {P : Program} {w : World} {K : Fg} {tg : Expr} (a it : Addr) : Turn P w K tg (Itt K a) [it] it (fun i h => h.IsTupleIter it a i) where
  mem := by simp
  obj := fun i h st b hb => by
    have e : b = it := by simpa using hb
    subst e
    obtain ⟨o, e, c, d⟩ := st
    exact ⟨o, e, fun v z => by rw [d] at z; cases z⟩
  keep := fun i h h' st k => st.at fun o e => k it (by simp) o e
  item := by
    intro X hP hw hK hc i pins s σ H E I hf st hg
    subst hP hw hK
    obtain ⟨xs, x, hq, hx⟩ := hg
    obtain ⟨its, rv, p, hz⟩ := I.tuple hq
    obtain ⟨u, hu, ru⟩ := rv.get hx
    obtain ⟨f0, f1, f2, f3, f4, f5⟩ := hf it (by simp)
    refine wpAny_pyNext_tuple_item st (show s.heap.IsTuple a its.toArray from p) (x := u) (by simpa using hu) fun h' st' sb => ?_
    have I1 : Inv X pins σ H { s with heap := h' } := I.turned (t' := s.toks) (fun b o hb e => (sb.2 b hb).trans e) f0 f1 f3 f4 f5
    obtain ⟨o, e, c, d⟩ := id st'
    exact ⟨u, rfl, go_of (s := { s with heap := h' }) e c d (by decide) ⟨x, H, I1, ru, ⟨rfl, fun ys hy => by rw [I.tuple_inj hy hq]; exact hx⟩, st', fun b hb => (hf b hb).1⟩⟩
  done := by
    intro X hP hw hK hc i pins s σ H E I hf st hg
    subst hP hw hK
    obtain ⟨xs, hq, hx⟩ := hg
    obtain ⟨its, rv, p, hz⟩ := I.tuple hq
    obtain ⟨f0, f1, f2, f3, f4, f5⟩ := hf it (by simp)
    have hl := rv.length
    exact wpAny_pyNext_tuple_end (I.ok.hd hc) st (show s.heap.IsTuple a its.toArray from p) (by simp; omega) fun h' eb => ⟨rfl, I.turned (t' := s.toks) (fun b o hb e => eb b o hb e) f0 f1 f3 f4 f5⟩
  self := fun _ _ _ _ _ st h => wpAny_pyIter_tupleiter st h
theorem turn_range {P : Program} {w : World} {K : Fg} {tg : Expr} (it : Addr) (lo : Int) (n : Nat) : Turn P w K tg (Itr lo n) [it] it (fun i h => IsRangeIter h it (lo + (i : Nat) * 1) ((n : Int) - (i : Nat)) 1) where
  mem := by simp
  obj := fun i h st b hb => by
    have e : b = it := by simpa using hb
    subst e
    exact ⟨_, st, fun v z => by
      have z' : Data.fields _ = Data.cell v := z
      cases z'⟩
  keep := fun i h h' st k => k it (by simp) _ st
  item := by
    intro X hP hw hK hc i pins s σ H E I hf st hg
    subst hP hw hK
    obtain ⟨f0, f1, f2, f3, f4, f5⟩ := hf it (by simp)
    have W := Walks.range (prog := X.prog) (w := X.w) (I.ok.hd hc) it lo 1 n
    refine W.item i s _ _ hg st fun v h' tk hv st' kk => ?_
    obtain ⟨t, rfl⟩ := hv
    have I1 : Inv X pins σ H { s with heap := h', toks := tk } := I.turned (fun b o hb e => kk b o (by simpa using hb) e) f0 f1 f3 f4 f5
    refine ⟨_, rfl, go_of (s := { s with heap := h', toks := tk }) (n := "range_iterator") st' rfl rfl (by decide) ⟨.int (lo + i), H, I1, ⟨t, ?_⟩, ⟨rfl, rfl⟩, st', fun b hb => (hf b hb).1⟩⟩
    rw [Int.mul_one]
  done := by
    intro X hP hw hK hc i pins s σ H E I hf st hg
    subst hP hw hK
    obtain ⟨f0, f1, f2, f3, f4, f5⟩ := hf it (by simp)
    exact wpAny_pyNext_range_end (I.ok.hd hc) st (by have : n <= i := hg; omega) fun h' eb => ⟨rfl, I.turned (t' := s.toks) (fun b o hb e => eb b o hb e) f0 f1 f3 f4 f5⟩
  self := fun _ _ _ _ _ st h => wpAny_pyIter_rangeiter st h
end L2
namespace L2
open PySem PySem.Spec PyProof.Rows
section
variable {X : Cx} {tg : Expr}
theorem range_it {pins : List (Addr × Obj)} {σ : St} {H : Hp} {s : Shared} {R : It -> Hp -> Prop} {E : Value -> Shared -> Prop} {lo hi : Int} {t u v : Tok} {tk : Nat} (I : Inv X pins σ H s) (h1 : -(2 ^ 62) <= lo) (h2 : lo < 2 ^ 62) (h3 : -(2 ^ 62) <= hi) (h4 : hi < 2 ^ 62)
    (q : R (Itr lo (hi - lo).toNat) H) : wpAny (model X.prog X.w) X.A (pyIter (.ref s.heap.objs.size)) (PIE X pins σ tg R) E { s with heap := s.heap.push { cls := .type "range", data := .fields #[.int lo t, .int hi u, .int 1 v] }, toks := tk } := by
  refine wpAny_pyIter_range (IsRange.new ..) (small_one h1 h2 h3 h4) ?_
  have I1 : Inv X pins σ H { s with heap := s.heap.push { cls := .type "range", data := .fields #[.int lo t, .int hi u, .int 1 v] }, toks := tk } := I.kept fun b o e => Heap.get?_push_of_some _ e
  refine ⟨(s.heap.push { cls := .type "range", data := .fields #[.int lo t, .int hi u, .int 1 v] }).objs.size, [(s.heap.push { cls := .type "range", data := .fields #[.int lo t, .int hi u, .int 1 v] }).objs.size], _, _, H, rfl,
    I1.kept (t' := tk) fun b o e => Heap.get?_push_of_some _ e, turn_range _ lo (hi - lo).toNat, ?_, fun b hb => ?_, q⟩
  · have e1 : lo + ((0 : Nat) : Int) * 1 = lo := by simp
    have e2 : (((hi - lo).toNat : Nat) : Int) - ((0 : Nat) : Int) = Builtin.Range.rangeSize lo hi 1 := by rw [rangeSize_one]; split <;> omega
    show IsRangeIter _ _ (lo + ((0 : Nat) : Int) * 1) ((((hi - lo).toNat : Nat) : Int) - ((0 : Nat) : Int)) 1
    rw [e1, e2]
    exact Heap.get?_push_size _ rfl
  · have e : b = (s.heap.push { cls := .type "range", data := .fields #[.int lo t, .int hi u, .int 1 v] }).objs.size := by simpa using hb
    subst e
    exact I1.fpOk (Nat.le_refl _) (I1.hok.fresh (Nat.le_refl _))
noncomputable def iRng1 (ta : TA) : TI := fun σ H R => ta σ H fun vs H1 => ∃ j : Int, vs = [.int j] /\ -(2 ^ 62) <= j /\ j < 2 ^ 62 /\ R (Itr 0 j.toNat) H1
theorem pi_range1 {a : Expr} {ta : TA} {p pos : Pos} (hg : Gl X "range") (hm : X.mg "range" = none) (ha : PA X [a] ta) (hs : starEach [a] X.env = [(false, eval a X.env)] := by rfl) : PI X tg (.Call (.Name "range" p) [a] [] pos) (iRng1 ta) := by
  intro pins s σ H R I h
  refine Call_ (ld_blt I hg hm boot_range (PyProof.Rows.callWith_type1 (thn (ha pos pins s σ H _ I h) fun us s1 ⟨vs, H1, I1, r1, q1⟩ => ?_) hs rfl))
  obtain ⟨j, e, q1, q2, q⟩ := q1
  subst e
  cases r1 with
  | cons r rr =>
    cases rr
    obtain ⟨t, rfl⟩ := r
    exact call_range_1 (range_it I1 (by omega) (by omega) q1 q2 (by simpa using q))
noncomputable def tFor (wi : TI) (g : TG) (tb : TS) : TS := fun D σ H => wi σ H fun J H1 => ∃ W : Nat -> Nat -> St -> Hp -> Prop, (∃ m, W 0 m σ H1) /\ ∀ i m σ H, W i m σ H ->
  (J.stop i H /\ D.nx σ H) \/ (J.go i H /\ ∃ N : St -> Hp -> Prop, (∀ σ' H', N σ' H' -> ∃ m', m' < m /\ W (i + 1) m' σ' H') /\ ∀ x H', J.yld i H x H' -> g x σ H' fun σ2 H2 => tb { D with nx := N, ct := N, bk := D.nx } σ2 H2)
noncomputable def pinsAt (fp : List Addr) (h : Heap) : List (Addr × Obj) := fp.filterMap fun b => (h.get? b).map fun o => (b, o)
theorem mem_pinsAt {fp : List Addr} {h : Heap} {b : Addr} {o : Obj} (hb : b ∈ fp) (e : h.get? b = some o) : (b, o) ∈ pinsAt fp h := List.mem_filterMap.mpr ⟨b, hb, by rw [e]; rfl⟩
theorem of_pinsAt {fp : List Addr} {h : Heap} {p : Addr × Obj} (hp : p ∈ pinsAt fp h) : p.1 ∈ fp /\ h.get? p.1 = some p.2 := by
  obtain ⟨b, hb, e⟩ := List.mem_filterMap.mp hp
  cases q : h.get? b with
  | none => rw [q] at e; cases e
  | some o =>
    rw [q] at e
    have e' : (b, o) = p := Option.some.inj e
    subst e'
    exact ⟨hb, q⟩
theorem Inv.pinned {pins : List (Addr × Obj)} {σ : St} {H : Hp} {s : Shared} {fp : List Addr} (I : Inv X pins σ H s) (hf : ∀ b ∈ fp, FpOk X pins H b) (ho : ∀ b ∈ fp, ∃ o, s.heap.get? b = some o /\ ∀ v, o.data ≠ .cell v) : Inv X (pins ++ pinsAt fp s.heap) σ H s :=
  I.pins_of fun p hp => (List.mem_append.mp hp).elim (fun z => I.pin p (List.mem_append_right _ z)) fun z => by
    obtain ⟨hb, e⟩ := of_pinsAt z
    obtain ⟨f0, f1, f2, _⟩ := hf p.1 hb
    obtain ⟨o, e', d⟩ := ho p.1 hb
    rw [e] at e'; cases e'
    exact ⟨e, f0, f1, f2, d⟩
theorem Inv.unpinned {pins pl : List (Addr × Obj)} {σ : St} {H : Hp} {s : Shared} (I : Inv X (pins ++ pl) σ H s) : Inv X pins σ H s := I.pins_of fun p hp => I.pin p (List.mem_append_right _ (List.mem_append_left _ hp))
theorem ps_for {iter : Expr} {body : List Stmt} {wi : TI} {g : TG} {tb : TS} {pos : Pos} (hp : PassesOwn (model X.prog X.w) X.A X.env X.xe) (hc : X.calm = true) (hi : PI X tg iter wi) (hg : PG X tg g) (hb : PSs X body tb)
    (hs : ∀ x, foldedSetIterable iter X.env x = pure x := by intro _; rfl) : PS X (.For tg iter body [] pos) (tFor wi g tb) := by
  intro pins s σ H D I h
  refine wpAny_For (thn (hi pins s σ H _ I h) fun v s1 h1 => thn h1 fun itv s2 h2 => ?_) hs
  obtain ⟨it, fp, tn, J, H2, e, I2, T, st2, f2, W, ⟨m0, w0⟩, turn⟩ := h2
  subst e
  have stat : ∀ {H' : Hp}, (∀ b ∈ fp, H' b = none) -> ∀ b ∈ fp, FpOk X pins H' b := fun hn b hb => ⟨hn b hb, (f2 b hb).2⟩
  refine codeAny_forLoop_any (fun n s' => ∃ i σ' H', Inv X pins σ' H' s' /\ tn i s'.heap /\ (∀ b ∈ fp, H' b = none) /\ W i n σ' H') ?_ m0 ⟨0, σ, H2, I2, st2, fun b hb => (f2 b hb).1, w0⟩
  rintro n s3 ⟨i, σ3, H3, I3, st3, fr3, w3⟩
  rcases turn i n σ3 H3 w3 with ⟨stop, qn⟩ | ⟨go, N, hN, step⟩
  · refine wpAny_passesOwn hp (thn (T.done X rfl rfl rfl hc i pins s3 σ3 H3 X.xe I3 (stat fr3) st3 stop) fun r s4 ⟨hr, I4⟩ => ?_)
    subst hr
    exact wpAny_execs_nil ⟨σ3, H3, I4, qn⟩
  · refine wpAny_passesOwn hp (thn (T.item X rfl rfl rfl hc i pins s3 σ3 H3 X.xe I3 (stat fr3) st3 go) fun r s4 ⟨u, hr, h4⟩ => ?_)
    subst hr
    refine wpAny_passesOwn hp (thn h4 fun _ s5 ⟨x, H5, I5, r5, y5, st5, fr5⟩ => ?_)
    have I5' := I5.pinned (stat fr5) (T.obj _ _ st5)
    refine wpAny_passesOwn hp (thn (hg _ s5 σ3 H5 x u _ I5' r5 (step x H5 y5)) fun _ s6 ⟨σ6, H6, I6, q6⟩ => ?_)
    refine wpAny_passesOwn hp (thn (hb _ s6 σ6 H6 _ I6 q6) fun f s7 q7 => ?_)
    have again : ∀ {σ7 : St} {H7 : Hp}, Inv X (pins ++ pinsAt fp s5.heap) σ7 H7 s7 -> N σ7 H7 -> ∃ m, m < n /\ ∃ i σ' H', Inv X pins σ' H' s7 /\ tn i s7.heap /\ (∀ b ∈ fp, H' b = none) /\ W i m σ' H' := fun {σ7 H7} I7 n7 => by
      obtain ⟨m', hm, w7⟩ := hN σ7 H7 n7
      refine ⟨m', hm, i + 1, σ7, H7, I7.unpinned, T.keep _ _ _ st5 fun b hb o e => (I7.pin (b, o) (List.mem_append_right _ (List.mem_append_right _ (mem_pinsAt hb e)))).1, fun b hb => ?_, w7⟩
      obtain ⟨o, e, d⟩ := T.obj _ _ st5 b hb
      exact (I7.pin (b, o) (List.mem_append_right _ (List.mem_append_right _ (mem_pinsAt hb e)))).2.1
    cases f with
    | next => obtain ⟨σ7, H7, I7, n7⟩ := q7; exact again I7 n7
    | cont => obtain ⟨σ7, H7, I7, n7⟩ := q7; exact again I7 n7
    | brk => obtain ⟨σ7, H7, I7, q7⟩ := q7; exact ⟨σ7, H7, I7.unpinned, q7⟩
    | ret v => obtain ⟨x7, σ7, H7, I7, r7, q7⟩ := q7; exact ⟨x7, σ7, H7, I7.unpinned, r7, q7⟩
end
end L2
namespace L2
open PySem PySem.Spec PyProof.Rows
noncomputable abbrev R2 := V -> V -> Hp -> VK -> Prop
noncomputable def OpR (X : Cx) (f : Value -> Value -> Sem Value) (r : R2) : Prop :=
  ∀ (pins : List (Addr × Obj)) (s : Shared) (σ : St) (H : Hp) (x y : V) (v u : Value) (Q : VK), Inv X pins σ H s -> RelV x v -> RelV y u -> r x y H Q ->
    wpAny (model X.prog X.w) X.A (f v u) (EP X pins σ Q) X.xe s
noncomputable def UnR (X : Cx) (f : Value -> Sem Value) (r : V -> Hp -> VK -> Prop) : Prop :=
  ∀ (pins : List (Addr × Obj)) (s : Shared) (σ : St) (H : Hp) (x : V) (v : Value) (Q : VK), Inv X pins σ H s -> RelV x v -> r x H Q ->
    wpAny (model X.prog X.w) X.A (f v) (EP X pins σ Q) X.xe s
noncomputable def CallR (X : Cx) (f : Value) (r : List V -> Hp -> VK -> Prop) : Prop :=
  ∀ (pins : List (Addr × Obj)) (s : Shared) (σ : St) (H : Hp) (xs : List V) (us : List Value) (Q : VK), Inv X pins σ H s -> yD xs us -> r xs H Q ->
    wpAny (model X.prog X.w) X.A (call f us) (EP X pins σ Q) X.xe s
noncomputable def TruR (X : Cx) (r : V -> Hp -> (Bool -> Hp -> Prop) -> Prop) : Prop :=
  ∀ (pins : List (Addr × Obj)) (s : Shared) (σ : St) (H : Hp) (x : V) (v : Value) (Q : Bool -> Hp -> Prop), Inv X pins σ H s -> RelV x v -> r x H Q ->
    wpAny (model X.prog X.w) X.A (truthy v) (TP X pins σ Q) X.xe s
noncomputable def tOp (r : R2) (ta tb : TE) : TE := fun σ H Q => ta σ H fun x H1 => tb σ H1 fun y H2 => r x y H2 Q
noncomputable def tUn (r : V -> Hp -> VK -> Prop) (ta : TE) : TE := fun σ H Q => ta σ H fun x H1 => r x H1 Q
noncomputable def rI (C : Int -> Int -> Prop) (g : Int -> Int -> V) : R2 := fun x y H Q => ∃ i j, x = .int i /\ y = .int j /\ C i j /\ Q (g i j) H
noncomputable def rI0 (g : Int -> Int -> V) : R2 := fun x y H Q => ∃ i j, x = .int i /\ y = .int j /\ Q (g i j) H
noncomputable def rU (g : Int -> V) : V -> Hp -> VK -> Prop := fun x H Q => ∃ i, x = .int i /\ Q (g i) H
section
variable {X : Cx} {a b c : Expr} {ta tb tc : TE} {pos : Pos}
theorem binT (ha : PE X a ta) (hb : PE X b tb) {pins : List (Addr × Obj)} {s : Shared} {σ : St} {H : Hp} {R : V -> V -> Hp -> Prop} (I : Inv X pins σ H s)
    (h : ta σ H fun x H1 => tb σ H1 fun y H2 => R x y H2) {Q : Value -> Shared -> Prop} {f : Value -> Value -> Sem Value}
    (hf : ∀ v u s2 x y H2, Inv X pins σ H2 s2 -> RelV x v -> RelV y u -> R x y H2 -> wpAny (model X.prog X.w) X.A (f v u) Q X.xe s2) :
    wpAny (model X.prog X.w) X.A (eval a X.env) (fun v s₁ => wpAny (model X.prog X.w) X.A (eval b X.env) (fun u s₂ => wpAny (model X.prog X.w) X.A (f v u) Q X.xe s₂) X.xe s₁) X.xe s := by
  refine thn (ha pins s σ H _ I h) fun v s1 ⟨x, H1, I1, r1, q1⟩ => ?_
  refine thn (hb pins s1 σ H1 _ I1 q1) fun u s2 ⟨y, H2, I2, r2, q2⟩ => ?_
  exact hf v u s2 x y H2 I2 r1 r2 q2
theorem pe_op {op : Operator} {r : R2} (ho : OpR X (binaryOp op) r) (ha : PE X a ta) (hb : PE X b tb) : PE X (.BinOp a op b pos) (tOp r ta tb) := by
  intro pins s σ H Q I h
  exact wpAny_BinOp (binT ha hb I h fun v u s2 x y H2 I2 rx ry q => ho pins s2 σ H2 x y v u Q I2 rx ry q)
theorem pe_un {op : UnaryOp} {r : V -> Hp -> VK -> Prop} (ho : UnR X (unaryOp op) r) (ha : PE X a ta) : PE X (.UnaryOp op a pos) (tUn r ta) := by
  intro pins s σ H Q I h
  exact UnaryOp_ (thn (ha pins s σ H _ I h) fun v s1 ⟨x, H1, I1, r1, q1⟩ => ho pins s1 σ H1 x v Q I1 r1 q1)
theorem opI {f : Value -> Value -> Sem Value} {C : Int -> Int -> Prop} {g : Int -> Int -> Int}
    (rule : ∀ (i j : Int) (t u : Tok) (s : Shared) (Q : Value -> Shared -> Prop) (E : Value -> Shared -> Prop), C i j -> Q (.int (g i j) s.toks) { s with toks := s.toks + 1 } -> wpAny (model X.prog X.w) X.A (f (.int i t) (.int j u)) Q E s) :
    OpR X f (rI C fun i j => .int (g i j)) := by
  intro pins s σ H x y v u Q I rx ry h
  obtain ⟨i, j, rfl, rfl, hc, q⟩ := h
  obtain ⟨t, rfl⟩ := rx
  obtain ⟨t', rfl⟩ := ry
  exact rule i j t t' s _ _ hc ⟨.int (g i j), H, I.tok _, ⟨_, rfl⟩, q⟩
theorem opI0 {f : Value -> Value -> Sem Value} {g : Int -> Int -> Int}
    (rule : ∀ (i j : Int) (t u : Tok) (s : Shared) (Q : Value -> Shared -> Prop) (E : Value -> Shared -> Prop), Q (.int (g i j) s.toks) { s with toks := s.toks + 1 } -> wpAny (model X.prog X.w) X.A (f (.int i t) (.int j u)) Q E s) :
    OpR X f (rI0 fun i j => .int (g i j)) := by
  intro pins s σ H x y v u Q I rx ry h
  obtain ⟨i, j, rfl, rfl, q⟩ := h
  obtain ⟨t, rfl⟩ := rx
  obtain ⟨t', rfl⟩ := ry
  exact rule i j t t' s _ _ ⟨.int (g i j), H, I.tok _, ⟨_, rfl⟩, q⟩
theorem opB0 {f : Value -> Value -> Sem Value} {g : Int -> Int -> Bool}
    (rule : ∀ (i j : Int) (t u : Tok) (s : Shared) (Q : Value -> Shared -> Prop) (E : Value -> Shared -> Prop), Q (.bool (g i j)) s -> wpAny (model X.prog X.w) X.A (f (.int i t) (.int j u)) Q E s) :
    OpR X f (rI0 fun i j => .bl (g i j)) := by
  intro pins s σ H x y v u Q I rx ry h
  obtain ⟨i, j, rfl, rfl, q⟩ := h
  obtain ⟨t, rfl⟩ := rx
  obtain ⟨t', rfl⟩ := ry
  exact rule i j t t' s _ _ ⟨.bl (g i j), H, I, rfl, q⟩
noncomputable def CDiv (i j : Int) : Prop := 0 < j /\ j < 1073741824
noncomputable def CPow (i j : Int) : Prop := 0 <= j /\ j <= 1000000 /\ i.natAbs < 2 ^ 64
noncomputable def CMul (i j : Int) : Prop := (-(2 ^ 64) < i /\ i < 2 ^ 64) \/ (-(2 ^ 64) < j /\ j < 2 ^ 64)
theorem CMul.ok {i j : Int} (h : CMul i j) : IntMulOk i j := by
  rcases h with ⟨h1, h2⟩ | ⟨h1, h2⟩
  · exact .of_left (intBits_le_64 h1 h2)
  · exact .of_right (intBits_le_64 h1 h2)
theorem op_add : OpR X (binaryOp .Add) (rI0 fun i j => .int (i + j)) := opI0 fun _ _ _ _ _ _ _ q => add_int q
theorem op_sub : OpR X (binaryOp .Sub) (rI0 fun i j => .int (i - j)) := opI0 fun _ _ _ _ _ _ _ q => sub_int q
theorem op_mul : OpR X (binaryOp .Mult) (rI CMul fun i j => .int (i * j)) := opI fun _ _ _ _ _ _ _ hc q => mul_int q hc.ok
theorem op_fdiv : OpR X (binaryOp .FloorDiv) (rI CDiv fun i j => .int (i / j)) := opI fun i j _ _ _ _ _ hc q => by
  have h1 : (0 : Int) < j := hc.1
  have h2 : j < 1073741824 := hc.2
  exact floordiv_int (by omega) (by rw [Int.fdiv_eq_ediv_of_nonneg i (by omega)]; exact q) (.inl (PyProof.noPylong_small (by omega)))
theorem op_mod : OpR X (binaryOp .Mod) (rI (fun _ j => 0 < j) fun i j => .int (i % j)) := opI fun i j _ _ _ _ _ hc q => by
  have h1 : (0 : Int) < j := hc
  exact mod_int' (by omega) (by rw [Int.fmod_eq_emod_of_nonneg i (by omega)]; exact q)
theorem op_pow : OpR X (binaryOp .Pow) (rI CPow fun i j => .int (i ^ j.toNat)) := opI fun _ _ _ _ _ _ _ hc q => pow_int_small hc.1 hc.2.1 hc.2.2 q
theorem unI {f : Value -> Sem Value} {g : Int -> Int}
    (rule : ∀ (i : Int) (t : Tok) (s : Shared) (Q : Value -> Shared -> Prop) (E : Value -> Shared -> Prop), Q (.int (g i) s.toks) { s with toks := s.toks + 1 } -> wpAny (model X.prog X.w) X.A (f (.int i t)) Q E s) :
    UnR X f (rU fun i => .int (g i)) := by
  intro pins s σ H x v Q I rx h
  obtain ⟨i, rfl, q⟩ := h
  obtain ⟨t, rfl⟩ := rx
  exact rule i t s _ _ ⟨.int (g i), H, I.tok _, ⟨_, rfl⟩, q⟩
theorem un_neg : UnR X (unaryOp .USub) (rU fun i => .int (-i)) := unI fun _ _ _ _ _ q => neg_int q
end
noncomputable def scal : V -> V -> Bool
  | .non, .non => true | .non, .int _ => true | .int _, .non => true | .non, .bl _ => true | .bl _, .non => true | .non, .str _ => true | .str _, .non => true
  | .int _, .int _ => true | .bl _, .bl _ => true | .str _, .str _ => true | .byt _, .byt _ => true
  | .int _, .str _ => true | .str _, .int _ => true | .bl _, .str _ => true | .str _, .bl _ => true
  | _, _ => false
noncomputable def rEq : R2 := fun x y H Q => scal x y = true /\ Q (.bl (decide (x = y))) H
theorem dec_int {i j : Int} : decide (V.int i = V.int j) = (i == j) := by
  rw [Bool.eq_iff_iff]
  simp
theorem dec_bl {i j : Bool} : decide (V.bl i = V.bl j) = (i == j) := by
  rw [Bool.eq_iff_iff]
  simp
theorem dec_str {i j : Str} : decide (V.str i = V.str j) = (i == j) := by
  rw [Bool.eq_iff_iff]
  simp
theorem dec_byt {i j : Array UInt8} : decide (V.byt i = V.byt j) = (i.toList == j.toList) := by
  rw [Bool.eq_iff_iff]
  cases i
  cases j
  simp
section
variable {X : Cx} {a b c : Expr} {ta tb tc : TE} {pos : Pos}
theorem fin_bl {pins : List (Addr × Obj)} {σ : St} {H : Hp} {s : Shared} {Q : VK} {k k' : Bool} (I : Inv X pins σ H s) (q : Q (.bl k) H) (e : k = k') : EP X pins σ Q (.bool k') s := by
  subst e
  exact ⟨.bl k, H, I, rfl, q⟩
theorem op_eq : OpR X (compareOp .Eq) rEq := by
  intro pins s σ H x y v u Q I rx ry h
  obtain ⟨hs, q⟩ := h
  cases x with
  | non =>
    cases rx
    cases y with
    | non => cases ry; exact PySem.EqNone.eq_none_none (fin_bl I q (by simp))
    | bl j => cases ry; exact PySem.EqNone.eq_none_bool (fin_bl I q (by simp))
    | int j => obtain ⟨t', rfl⟩ := ry; exact PySem.EqNone.eq_none_int (fin_bl I q (by simp))
    | str j => obtain ⟨t', rfl⟩ := ry; exact PySem.EqNone.eq_none_str (fin_bl I q (by simp))
    | _ => exact absurd (show false = true from hs) Bool.false_ne_true
  | bl i =>
    cases rx
    cases y with
    | non => cases ry; exact PySem.EqNone.eq_bool_none (fin_bl I q (by simp))
    | bl j => cases ry; exact eq_bool (fin_bl I q dec_bl)
    | str j => obtain ⟨t', rfl⟩ := ry; exact PySem.EqMixed.eq_bool_str (fin_bl I q (by simp))
    | _ => exact absurd (show false = true from hs) Bool.false_ne_true
  | int i =>
    obtain ⟨t, rfl⟩ := rx
    cases y with
    | non => cases ry; exact PySem.EqNone.eq_int_none (fin_bl I q (by simp))
    | int j => obtain ⟨t', rfl⟩ := ry; exact eq_int (fin_bl I q dec_int)
    | str j => obtain ⟨t', rfl⟩ := ry; exact PySem.EqMixed.eq_int_str (fin_bl I q (by simp))
    | _ => exact absurd (show false = true from hs) Bool.false_ne_true
  | str i =>
    obtain ⟨t, rfl⟩ := rx
    cases y with
    | non => cases ry; exact PySem.EqNone.eq_str_none (fin_bl I q (by simp))
    | bl j => cases ry; exact PySem.EqMixed.eq_str_bool (fin_bl I q (by simp))
    | int j => obtain ⟨t', rfl⟩ := ry; exact PySem.EqMixed.eq_str_int (fin_bl I q (by simp))
    | str j => obtain ⟨t', rfl⟩ := ry; exact eq_str (fin_bl I q dec_str)
    | _ => exact absurd (show false = true from hs) Bool.false_ne_true
  | byt i =>
    obtain ⟨t, rfl⟩ := rx
    cases y with
    | byt j => obtain ⟨t', rfl⟩ := ry; exact PySem.W.eq_bytes (fin_bl I q dec_byt)
    | _ => exact absurd (show false = true from hs) Bool.false_ne_true
  | _ => cases y <;> exact absurd (show false = true from hs) Bool.false_ne_true
theorem op_lt : OpR X (compareOp .Lt) (rI0 fun i j => .bl (decide (i < j))) := opB0 fun _ _ _ _ _ _ _ q => lt_int q
theorem op_gt : OpR X (compareOp .Gt) (rI0 fun i j => .bl (decide (j < i))) := opB0 fun _ _ _ _ _ _ _ q => gt_int q
theorem op_notN : OpR X (compareOp .IsNot) (fun x y H Q => y = .non /\ Q (.bl (!decide (x = .non))) H) := by
  intro pins s σ H x y v u Q I rx ry h
  obtain ⟨rfl, q⟩ := h
  cases ry
  refine isnot_none_gen (fin_bl I q ?_)
  cases x <;> first
    | (cases rx; rfl)
    | (obtain ⟨t, rfl⟩ := rx; rfl)
theorem OpR.or {f : Value -> Value -> Sem Value} {r r' : R2} (h : OpR X f r) (h' : OpR X f r') : OpR X f (fun x y H Q => r x y H Q \/ r' x y H Q) := by
  intro pins s σ H x y v u Q I rx ry q
  rcases q with q | q
  · exact h pins s σ H x y v u Q I rx ry q
  · exact h' pins s σ H x y v u Q I rx ry q
theorem nomark (b : Expr) {op : CmpOp} (h : op ≠ .In := by decide) (h2 : op ≠ .NotIn := by decide) : behindInMarks op b = false := by
  have e1 : (op == CmpOp.In) = false := by cases op <;> first | rfl | exact absurd rfl h
  have e2 : (op == CmpOp.NotIn) = false := by cases op <;> first | rfl | exact absurd rfl h2
  cases b <;> simp [behindInMarks, e1, e2]
theorem pe_cmpR {op : CmpOp} {r : R2} (ho : OpR X (compareOp op) r) (ha : PE X a ta) (hb : PE X b tb) (hm : behindInMarks op b = false) : PE X (.Compare a [op] [b] pos) (tOp r ta tb) := by
  intro pins s σ H Q I h
  exact wpAny_Compare1 (binT ha hb I h fun v u s2 x y H2 I2 rx ry q => ho pins s2 σ H2 x y v u Q I2 rx ry q) hm
noncomputable def tTest (t : TE) : TT := fun σ H Q => t σ H fun x H' => ∃ k, x = .bl k /\ Q k H'
theorem pt_cmpR {op : CmpOp} {r : R2} (ho : OpR X (compareOp op) r) (ha : PE X a ta) (hb : PE X b tb) (hm : behindInMarks op b = false) : PT X (.Compare a [op] [b] pos) (tTest (tOp r ta tb)) := by
  intro pins s σ H Q I h
  refine wpAny_isTrue_Compare1 (thn (ha pins s σ H _ I h) fun v s1 ⟨x, H1, I1, r1, q1⟩ => thn (hb pins s1 σ H1 _ I1 q1) fun u s2 ⟨y, H2, I2, r2, q2⟩ =>
    thn (ho pins s2 σ H2 x y v u _ I2 r1 r2 q2) fun c s3 ⟨z, H3, I3, r3, k, e, q3⟩ => ?_) hm
  subst e
  cases r3
  exact wpAny_truthy_bool ⟨H3, I3, q3⟩
noncomputable def TruV (K : Fg) (x : V) (H : Hp) (k : Bool) : Prop :=
  match x with
  | .non => k = false
  | .bl b => k = b
  | .int i => k = (i != 0)
  | .str y => y.length <= sizeLine /\ k = ((y.length : Int) != 0)
  | .byt y => y.size <= sizeLine /\ k = ((y.size : Int) != 0)
  | .ref p => (∃ xs, SqL K H p xs /\ k = !xs.isEmpty) \/ (∃ xs, SqT K H p xs /\ k = !xs.isEmpty) \/ ∃ kvs, H p = some (.dK kvs) /\ k = !kvs.isEmpty
  | _ => False
theorem isEmpty_kv {κ : Type} {kvs : List (κ × V)} {vs : List (κ × Value)} (r : KV kvs vs) : (!vs.isEmpty) = !kvs.isEmpty := by
  cases r <;> rfl
theorem isEmpty_of {xs : List V} {its : List Value} (r : yD xs its) : (!its.toArray.isEmpty) = !xs.isEmpty := by
  cases r <;> simp
theorem line63 : (sizeLine : Nat) < 2 ^ 63 := by rw [sizeLine_eq]; decide
theorem tru_ok : TruR X (fun x H Q => ∃ k, TruV X.K x H k /\ Q k H) := by
  intro pins s σ H x v Q I rx h
  obtain ⟨k, e, q⟩ := h
  have hl := line63
  have hs : sizeLine = 16777216 := sizeLine_eq
  cases x with
  | non =>
    cases rx
    have e' : k = false := e
    subst e'
    exact truthy_none ⟨H, I, q⟩
  | bl b =>
    cases rx
    have e' : k = b := e
    subst e'
    exact wpAny_truthy_bool ⟨H, I, q⟩
  | int i =>
    obtain ⟨t, rfl⟩ := rx
    have e' : k = (i != 0) := e
    subst e'
    exact PySem.P.truthy_int ⟨H, I, q⟩
  | str y =>
    obtain ⟨t, rfl⟩ := rx
    obtain ⟨hy, e'⟩ : y.length <= sizeLine /\ k = ((y.length : Int) != 0) := e
    subst e'
    exact PySem.P.truthy_str (by omega) ⟨H, I.tok _, q⟩
  | byt y =>
    obtain ⟨t, rfl⟩ := rx
    obtain ⟨hy, e'⟩ : y.size <= sizeLine /\ k = ((y.size : Int) != 0) := e
    subst e'
    exact PySem.W.truthy_bytes (by omega) ⟨H, I.tok _, q⟩
  | ref p =>
    cases rx
    have e' : (∃ xs, SqL X.K H p xs /\ k = !xs.isEmpty) \/ (∃ xs, SqT X.K H p xs /\ k = !xs.isEmpty) \/ ∃ kvs, H p = some (.dK kvs) /\ k = !kvs.isEmpty := e
    rcases e' with ⟨xs, hx, e'⟩ | ⟨xs, hx, e'⟩ | ⟨kvs, hx, e'⟩
    · subst e'
      obtain ⟨its, r, pl, hz⟩ := I.list hx
      have hlen := r.length
      exact wpAny_truthy_list pl.isList (by simp only [List.size_toArray]; omega) ⟨H, I.tok _, by rw [isEmpty_of r]; exact q⟩
    · subst e'
      obtain ⟨its, r, pl, hz⟩ := I.tuple hx
      have hlen := r.length
      exact truthy_tuple pl (by simp only [List.size_toArray]; omega) ⟨H, I.tok _, by rw [isEmpty_of r]; exact q⟩
    · subst e'
      obtain ⟨hz, hS, vs, r, m⟩ : kvs.length <= sizeLine /\ (p == sysModules) = false /\ ∃ vs, KV kvs vs /\ s.heap.DictOf (mixKind X.prog X.w) p vs := I.hok p _ hx
      have hlen : kvs.length = vs.length := Paired.length r
      exact wpAny_truthy_dict hS m (by omega) ⟨H, I.tok _, by rw [isEmpty_kv r]; exact q⟩
  | _ => exact (show False from e).elim
theorem pt_truth (ha : PE X a ta) (he : ∀ whole, isTrue a X.env whole = (do let v <- whole; standAt a.pos; holding [v] (truthy v))) :
    PT X a (fun σ H Q => ta σ H fun x H' => ∃ k, TruV X.K x H' k /\ Q k H') := by
  intro pins s σ H Q I h
  exact isTrue_plain (thn (ha pins s σ H _ I h) fun v s1 ⟨x, H1, I1, r1, q1⟩ => tru_ok pins s1 σ H1 x v Q I1 r1 q1) (he _)
theorem op_add_str : OpR X (binaryOp .Add) (fun x y H Q => ∃ i j, x = .str i /\ y = .str j /\ i.length + j.length <= sizeLine /\ Q (.str (i ++ j)) H) := by
  intro pins s σ H x y v u Q I rx ry h
  obtain ⟨i, j, rfl, rfl, hz, q⟩ := h
  obtain ⟨t, rfl⟩ := rx
  obtain ⟨t', rfl⟩ := ry
  exact add_str (fun t' tk => ⟨.str (i ++ j), H, I.tok _, ⟨_, rfl⟩, q⟩) hz
theorem vals1 {x : V} {us : List Value} (r : yD [x] us) : ∃ u, us = [u] /\ RelV x u := by
  cases r with
  | cons r1 r2 => cases r2; exact ⟨_, rfl, r1⟩
end
end L2
namespace L2
open PySem PySem.Spec PyProof.Rows
structure ObjM (h : Heap) (x dx C : Addr) (mA : Str -> Option Value) : Prop where
  obj : h.get? x = some (PySem.W.instObj C dx)
  ns : h.Ns1 dx mA
  ne : dx ≠ x
theorem lookIn_ns {h : Heap} {dx : Addr} {mA : Str -> Option Value} (n : h.Ns1 dx mA) : ∃ od, h.get? dx = some od /\ ∀ name, PySem.W.lookIn name od = some (mA name) := by
  obtain ⟨o, es, ep, ho, hd, hk, _, hm⟩ := n
  refine ⟨o, ho, fun name => ?_⟩
  have e := hm name
  unfold nsFind findBy at e
  rw [<- Array.find?_toList] at e
  unfold PySem.W.lookIn
  rw [hd]
  dsimp only
  split
  · rename_i y q
    rw [q] at e
    exact congrArg some e
  · rename_i q
    rw [q] at e
    have a : es.toList.any (·.refKey) = false := by
      rw [List.any_eq_false]
      intro y hy
      obtain ⟨z, t, hkey⟩ := hk y (Array.mem_toList_iff.mp hy)
      simp [DictEntry.refKey, hkey]
    have a' : ¬ es.toList.any (·.refKey) = true := by rw [a]; exact Bool.false_ne_true
    rw [if_neg a']
    exact congrArg some e
theorem ObjM.look {h : Heap} {x dx C : Addr} {mA : Str -> Option Value} (I : ObjM h x dx C mA) : ∃ od, PySem.W.InstAt h x (PySem.W.instObj C dx) C (some od) /\ ∀ name, PySem.W.lookIn name od = some (mA name) :=
  let ⟨od, ho, hl⟩ := lookIn_ns I.ns
  ⟨od, ⟨I.obj, rfl, rfl, ho⟩, hl⟩
section
variable {P : Program} {w : World} {H H' : Hp} {h h' : Heap} {a C dx : Addr} {fs fs' : List (Str × V)}
theorem ins_get (hok : HOk P w H h) (e : H a = some (.ins C dx fs)) : ∃ mA, ObjM h a dx C mA /\ (∀ f, RelO (fs.lookup f) (mA f)) /\ PySem.Within mA (fs.map (·.1)) /\ fs.length <= 1000 /\ H dx = some (.own a) := by
  obtain ⟨d, z, ne, ob, mA, n, r, q⟩ := (show ObjOk P w H h a (.ins C dx fs) from hok a _ e)
  exact ⟨mA, ⟨ob, n, ne⟩, r, q, z, d⟩
end
structure Cls (K : Fg) (C : Addr) : Prop where
  pg : PySem.W.plainGet K C Str.empty = true
  hd : PySem.W.hasDictIn K C = true
  po : PySem.W.plainOver K C = true
  sa : PySem.W.findIn K (.ref C) "__setattr__" = some (some (.builtin "object.__setattr__"))
theorem Cls.get {K : Fg} {C : Addr} (c : Cls K C) (f : Str) : PySem.W.plainGet K C f = true := c.pg
section
variable {X : Cx} {pins : List (Addr × Obj)} {σ : St} {H : Hp} {s : Shared} {A : Around} {E : Value -> Shared -> Prop} {Q : Value -> Shared -> Prop} {c : Value} {b : Bool}
inductive TyOf (K : Fg) (H : Hp) : V -> Value -> Prop where
  | non : TyOf K H .non (.type "NoneType")
  | bl (x : Bool) : TyOf K H (.bl x) (.type "bool")
  | int (i : Int) : TyOf K H (.int i) (.type "int")
  | str (x : Str) : TyOf K H (.str x) (.type "str")
  | flt (x : UInt64) : TyOf K H (.flt x) (.type "float")
  | lst {a : Addr} {xs : List V} (e : H a = some (.lst xs)) : TyOf K H (.ref a) (.type "list")
  | frz {a : Addr} {o : Obj} {xs : List V} (e : H a = some (.frz o (.lst xs))) : TyOf K H (.ref a) (.type "list")
  | tup {a : Addr} {xs : List V} (e : H a = some (.tup xs)) : TyOf K H (.ref a) (.type "tuple")
  | dK {a : Addr} {kvs : List (Key × V)} (e : H a = some (.dK kvs)) : TyOf K H (.ref a) (.type "dict")
  | dT {a : Addr} {kvs : List (List Key × V)} (e : H a = some (.dT kvs)) : TyOf K H (.ref a) (.type "dict")
  | ins {a C dx : Addr} {fs : List (Str × V)} (e : H a = some (.ins C dx fs)) (cl : Cls K C) (ha : PySem.W.findIn K (.ref C) "__class__" = some (some (.builtin "object.__class__")))
      (hn : PySem.W.specialIn K (.builtin "object.__class__") "__get__" = some (some (.builtin "getset_descriptor.__get__"))) (htk : PySem.W.takesIn K (.builtin "object.__class__") = some true)
      (hm : PySem.W.mroIn K C (.type "object") = some true) : TyOf K H (.ref a) (.ref C)
theorem isinst_ok {x : V} {u t : Value} (I : Inv X pins σ H s) (rx : RelV x u) (ty : TyOf X.K H x t) (e : PySem.W.kitOne X.K t c = some b) (h : ∀ tk, Q (.bool b) { s with toks := tk }) :
    wpAny (model X.prog X.w) A (call (.builtin "isinstance") [u, c]) Q E s := by
  cases ty with
  | non => cases (show u = Value.none from rx); exact PySem.W.kia_one PySem.W.kitx_none I.kIn True.intro e (fun z => nomatch z) h
  | bl y => cases (show u = Value.bool y from rx); exact PySem.W.kia_one PySem.W.kitx_bool I.kIn True.intro e (fun z => nomatch z) h
  | int i => obtain ⟨t, q⟩ := (show ∃ t, u = Value.int i t from rx); cases q; exact PySem.W.kia_one PySem.W.kitx_int I.kIn True.intro e (fun z => nomatch z) h
  | str y => obtain ⟨t, q⟩ := (show ∃ t, u = Value.str y t from rx); cases q; exact PySem.W.kia_one PySem.W.kitx_str I.kIn True.intro e (fun z => nomatch z) h
  | flt y => obtain ⟨t, q⟩ := (show ∃ t, u = Value.float y t from rx); cases q; exact PySem.W.kia_one PySem.W.kitx_float I.kIn True.intro e (fun z => nomatch z) h
  | @lst a xs ea =>
    cases (show u = Value.ref a from rx)
    obtain ⟨_, _, n, _, h1⟩ := (show ObjOk X.prog X.w H s.heap a (.lst xs) from I.hok a _ ea)
    exact PySem.W.kia_one PySem.W.kitx_list I.kIn ⟨_, h1, rfl⟩ e (fun z => nomatch z) h
  | @frz a ob xs ea =>
    cases (show u = Value.ref a from rx)
    obtain ⟨_, _, _, n, _, h1⟩ := (show ObjOk X.prog X.w H s.heap a (.frz ob (.lst xs)) from I.hok a _ ea)
    exact PySem.W.kia_one PySem.W.kitx_list I.kIn ⟨_, h1, rfl⟩ e (fun z => nomatch z) h
  | @tup a xs ea =>
    cases (show u = Value.ref a from rx)
    obtain ⟨_, _, _, p⟩ := (show ObjOk X.prog X.w H s.heap a (.tup xs) from I.hok a _ ea)
    obtain ⟨o, h1, h2, _⟩ := p
    exact PySem.W.kia_one PySem.W.kitx_tuple I.kIn ⟨o, h1, h2⟩ e (fun z => nomatch z) h
  | @dK a kvs ea =>
    cases (show u = Value.ref a from rx)
    obtain ⟨_, _, vs, _, p⟩ := (show ObjOk X.prog X.w H s.heap a (.dK kvs) from I.hok a _ ea)
    obtain ⟨o, es, ep, h1, h2, _⟩ := p
    exact PySem.W.kia_one PySem.W.kitx_dict I.kIn ⟨o, h1, h2.1⟩ e (fun z => nomatch z) h
  | @dT a kvs ea =>
    cases (show u = Value.ref a from rx)
    obtain ⟨_, _, xs, _, o, es, ep, h1, h2, _⟩ := (show ObjOk X.prog X.w H s.heap a (.dT kvs) from I.hok a _ ea)
    exact PySem.W.kia_one PySem.W.kitx_dict I.kIn ⟨o, h1, h2.1⟩ e (fun z => nomatch z) h
  | @ins a C dx fs ea cl ha hn htk hm =>
    cases (show u = Value.ref a from rx)
    obtain ⟨mA, O, _⟩ := ins_get I.hok ea
    obtain ⟨od, J, _⟩ := O.look
    exact PySem.W.kia_one (PySem.W.kitx_own (cl.get _) cl.hd ha hn htk hm) I.kIn J e (fun z => nomatch z) h
end
end L2
namespace L2
open PySem PySem.Spec PyProof.Rows
structure Room (k : Nat) (A : Around) : Prop where
  hd : A.handled = none
  dp : A.depth + 3 * k + 5 < recursionLimit
  un : A.units + 16 * k + 200 < cLine
theorem Room.mono {j k : Nat} {A : Around} (r : Room k A) (h : j <= k) : Room j A := ⟨r.hd, by have := r.dp; omega, by have := r.un; omega⟩
theorem Room.deeper {k : Nat} {A : Around} (r : Room (k + 1) A) (env : Env) : Room k (A.deeper env) :=
  ⟨r.hd, by have := r.dp; show A.depth + 1 + 3 * k + 5 < _; omega, by have := r.un; show A.units + 3 + 16 * k + 200 < _; omega⟩
theorem Room.in1 {k : Nat} {A : Around} (r : Room (k + 1) A) : Room k A.in1 :=
  ⟨r.hd, by have := r.dp; show A.depth + 3 * k + 5 < _; omega, by have := r.un; show A.units + 1 + 16 * k + 200 < _; omega⟩
theorem Room.depth {k : Nat} {A : Around} (r : Room k A) : A.depth < recursionLimit := by have := r.dp; omega
theorem Room.units0 {k : Nat} {A : Around} (r : Room k A) : A.units < cLine := by have := r.un; omega
noncomputable def tNil : TA := fun _ H Q => Q [] H
noncomputable def tCons (ta : TE) (tr : TA) : TA := fun σ H Q => ta σ H fun x H1 => tr σ H1 fun xs H2 => Q (x :: xs) H2
section
variable {X : Cx} {e : Expr} {es : List Expr} {te : TE} {t : TA} {pos : Pos}
theorem pa_nil : PA X [] tNil := fun _ _ _ _ H Q I h => Calls.spliced_nil ⟨[], H, I, .nil, h⟩
theorem pa_cons (ha : PE X e te) (hr : PA X es t) (hs : starEach (e :: es) X.env = (false, eval e X.env) :: starEach es X.env := by rfl) : PA X (e :: es) (tCons te t) := by
  intro pos pins s σ H Q I h
  rw [hs]
  show wpAny _ _ (spliced ((false, eval e X.env) :: backTo pos (starEach es X.env))) _ _ s
  refine Calls.spliced_cons (thn (ha pins s σ H _ I h) fun u s1 ⟨x, H1, I1, r1, q1⟩ => ?_)
  exact thn (hr pos pins s1 σ H1 _ I1 q1) fun us s2 ⟨xs, H2, I2, r2, q2⟩ => ⟨x :: xs, H2, I2, .cons r1 r2, q2⟩
noncomputable def tTup (t : TA) : TE := fun σ H Q => t σ H fun xs H1 => xs.length <= sizeLine /\ ∀ p, H1 p = none -> Q (.ref p) (upd H1 p (.tup xs))
noncomputable def tLst (t : TA) : TE := fun σ H Q => t σ H fun xs H1 => xs.length <= sizeLine /\ ∀ p, H1 p = none -> Q (.ref p) (upd H1 p (.lst xs))
theorem pe_tup {x1} (h : PA X es t) : PE X (.Tuple es x1 pos) (tTup t) := by
  intro pins s σ H Q I hq
  refine wpAny_Tuple_spliced (thn (h pos pins s σ H _ I hq) fun us s1 ⟨xs, H1, I1, r, z, q⟩ => ⟨by rw [<- r.length]; exact z, ?_⟩)
  have hf : H1 s1.heap.objs.size = none := I1.hok.fresh (Nat.le_refl _)
  refine ⟨.ref s1.heap.objs.size, upd H1 s1.heap.objs.size (.tup xs), I1.laid (t' := s1.toks) (fun b u e => Heap.get?_push_of_some _ e) (Nat.le_refl _) ?_, rfl, q _ hf⟩
  exact ⟨z, us, r, ⟨_, Heap.get?_push_size _ rfl, rfl, _, rfl⟩⟩
theorem pe_lst (h : PA X es t) : PE X (.List es pos) (tLst t) := by
  intro pins s σ H Q I hq
  refine wpAny_List_spliced (thn (h pos pins s σ H _ I hq) fun us s1 ⟨xs, H1, I1, r, z, q⟩ => ⟨by rw [<- r.length]; exact z, ?_⟩)
  have hf : H1 s1.heap.objs.size = none := I1.hok.fresh (Nat.le_refl _)
  refine ⟨.ref s1.heap.objs.size, upd H1 s1.heap.objs.size (.lst xs), I1.laid (t' := s1.toks) (fun b u e => Heap.get?_push_of_some _ e) (Nat.le_refl _) ?_, rfl, q _ hf⟩
  exact ⟨z, us, 0, r, Heap.get?_push_size _ rfl⟩
end
noncomputable abbrev Sp := List V -> Hp -> VK -> XK -> Prop
noncomputable abbrev CXT := List Env -> Hp -> Shared -> XK -> Value -> Shared -> Prop
structure Env0 (P : Program) (w : World) (K : Fg) (mg : Str -> Option Value) (base : Heap) (A : Around) (outer : List Env) (s : Shared) (H : Hp) : Prop where
  frames : A.frames = some outer
  mod : Mod K mg base
  bs : ∀ b o, base.get? b = some o -> s.heap.get? b = some o /\ H b = none
  bsz : base.objs.size <= s.heap.objs.size
  funs : s.heap.FunFrames base outer
  frf : ∀ b ∈ frs outer, H b = none
  hok : HOk P w H s.heap
  bare : AllBare s.gens
noncomputable def CE (outer : List Env) (P : Program) (w : World) (H : Hp) (s : Shared) (Q : VK) (u : Value) (s' : Shared) : Prop :=
  ∃ v H', s'.os = s.os /\ AllBare s'.gens /\ Un (frs outer) [] H H' s.heap s'.heap /\ HOk P w H' s'.heap /\ RelV v u /\ Q v H'
noncomputable def CR (CX : CXT) (outer : List Env) (P : Program) (w : World) (H : Hp) (s : Shared) (Q : VK) (E : XK) (r : Result) (s' : Shared) : Prop :=
  match r with
  | .ok (.ret u) => CE outer P w H s Q u s'
  | .ok _ => False
  | .error e => CX outer H s E e s'
structure FnOk (P : Program) (w : World) (K : Fg) (mg : Str -> Option Value) (base : Heap) (CX : CXT) (k : Nat) (f : Addr) (fd : FuncData) (ps : List Str) (sp : Sp) : Prop where
  len : ∀ vs H Q E, sp vs H Q E -> vs.length = ps.length
  run : ∀ (A : Around) (outer : List Env) (s : Shared) (H : Hp) (args : Args) (us : List Value) (vs : List V) (Q : VK) (E : XK), Room k A -> Env0 P w K mg base A outer s H -> BindsTo s fd args (ps.zip us) -> yD vs us -> sp vs H Q E ->
    codeAny (model P w) A (.call (.ref f) args) (CR CX outer P w H s Q E) s
section
variable {X : Cx} {pins : List (Addr × Obj)} {σ : St} {H : Hp} {s s' : Shared}
theorem Inv.env0 (I : Inv X pins σ H s) : Env0 X.prog X.w X.K X.mg X.base X.A X.stack s H :=
  ⟨I.ok.frames, I.ok.mod, I.bs, Nat.le_trans I.ok.bsz I.sz, I.stack, I.stkFree, I.hok, I.bare⟩
theorem Inv.after {Q : VK} {u : Value} (I : Inv X pins σ H s) (h : CE X.stack X.prog X.w H s Q u s') : EP X pins σ Q u s' := by
  obtain ⟨v, H', os, bare, un, hok, r, q⟩ := h
  obtain ⟨hh, g, d, t, os'⟩ := s'
  obtain rfl : os' = s.os := os
  exact ⟨v, H', I.call (h' := hh) (g' := g) (d' := d) (t' := t) (ch := []) un hok bare (fun b z => absurd z (by simp)), r, q⟩
end
noncomputable def tCall (sp : Sp) (dvs : List V) (E : XK) (t : TA) : TE := fun σ H Q => t σ H fun vs H1 => sp (vs ++ dvs) H1 Q E
noncomputable def Binds (K : Fg) (fd : FuncData) (ps : List Str) (ds : List Value) : Prop :=
  ∀ (s : Shared) (us : List Value), K.In s.heap -> (us ++ ds).length = ps.length -> BindsTo s fd ⟨us, []⟩ (ps.zip (us ++ ds))
theorem Binds.all {K : Fg} {fd : FuncData} {ps : List Str} (h : ∀ us : List Value, us.length = ps.length -> bindArgs fd ⟨us, []⟩ = pure (ps.zip us)) : Binds K fd ps [] := fun s us _ hl => by
  rw [List.append_nil] at hl ⊢
  exact .of_eq (h us hl)
noncomputable def Passes (CX : CXT) (X : Cx) (E : XK) : Prop := ∀ (pins : List (Addr × Obj)) (σ : St) (H : Hp) (s : Shared) (e : Value) (s' : Shared), Inv X pins σ H s -> CX X.stack H s E e s' -> X.xe e s'
section
variable {X : Cx} {CX : CXT} {k : Nat} {f C : Addr} {fd : FuncData} {ps : List Str} {sp : Sp} {dvs : List V} {ds : List Value} {E : XK} {x m : Str} {p pos apos : Pos} {e o : Expr} {es : List Expr} {ta : TE} {t : TA}
theorem run_fn {pins : List (Addr × Obj)} {σ : St} {H : Hp} {s : Shared} {Q : VK} {us : List Value} {vs : List V} (F : FnOk X.prog X.w X.K X.mg X.base CX k f fd ps sp) (hr : Room k X.A) (hb : Binds X.K fd ps ds) (hd : yD dvs ds) (hx : Passes CX X E)
    (I : Inv X pins σ H s) (r : yD vs us) (h : sp (vs ++ dvs) H Q E) : wpAny (model X.prog X.w) X.A (call (.ref f) us) (EP X pins σ Q) X.xe s := by
  have r2 : yD (vs ++ dvs) (us ++ ds) := r.append hd
  have hl : (us ++ ds).length = ps.length := by rw [<- r2.length]; exact F.len _ _ _ _ h
  refine wpAny_call (codeAny_mono (F.run X.A X.stack s H ⟨us, []⟩ (us ++ ds) (vs ++ dvs) Q E hr I.env0 (hb s us I.kIn hl) r2 h) fun r s' hq => ?_)
  cases r with
  | error e => exact hx pins σ H s e s' I hq
  | ok fl =>
    cases fl with
    | ret u => exact I.after hq
    | next => exact False.elim hq
    | brk => exact False.elim hq
    | cont => exact False.elim hq
theorem pe_call (F : FnOk X.prog X.w X.K X.mg X.base CX k f fd ps sp) (hr : Room k X.A) (hg : Gl X x) (hm : X.mg x = some (.ref f)) (hk : PySem.W.keepIn X.K (.ref f) = true) (hb : Binds X.K fd ps ds) (hd : yD dvs ds) (hx : Passes CX X E)
    (ha : PA X (e :: es) t) (hdb : (x == ("__debug__" : Str)) = false := by decide) (he : starEach (e :: es) X.env = (false, eval e X.env) :: starEach es X.env := by rfl) (hpl : (backTo pos (starEach es X.env)).any (·.1) = false := by rfl) :
    PE X (.Call (.Name x p) (e :: es) [] pos) (tCall sp dvs E t) := by
  intro pins s σ H Q I h
  refine wpAny_Call_Name_kw (ld_glob I hg hm ?_ hdb)
  refine PySem.W.callWith_K (h₀ := X.base) I.ok.mod.kin hk (thn (ha pos pins s σ H _ I h) fun us s1 ⟨vs, H1, I1, r, q⟩ => ⟨I1.kIn, ?_⟩) he hpl
  exact run_fn F hr hb hd hx I1 r q
end
noncomputable def PK (X : Cx) (kws : List Keyword) (t : TA) : Prop :=
  ∀ (pos : Pos) (pins : List (Addr × Obj)) (s : Shared) (σ : St) (H : Hp) (Q : List V -> Hp -> Prop), Inv X pins σ H s -> t σ H Q -> wpAny (model X.prog X.w) X.A (evalAll ((backToKw pos (keywordEach kws X.env)).map (·.2))) (AP X pins σ Q) X.xe s
section
variable {X : Cx} {CX : CXT} {k : Nat} {f C : Addr} {fd : FuncData} {ps ks : List Str} {sp : Sp} {E : XK} {x m : Str} {p pos apos kpos : Pos} {e o : Expr} {es : List Expr} {kws : List Keyword} {te ta : TE} {t tk : TA} {nm : Option Str}
theorem pk_nil : PK X [] tNil := fun _ _ _ _ H Q I h => wpAny_evalAll_nil ⟨[], H, I, .nil, h⟩
theorem pk_cons (ha : PE X e te) (hr : PK X kws t) : PK X (⟨nm, e, kpos⟩ :: kws) (tCons te t) := by
  intro pos pins s σ H Q I h
  show wpAny _ _ (evalAll ((do let v <- eval e X.env; standAt pos; pure v) :: (backToKw pos (keywordEach kws X.env)).map (·.2))) _ _ s
  refine wpAny_evalAll_cons (wpAny_bind (thn (ha pins s σ H _ I h) fun u s1 ⟨x, H1, I1, r1, q1⟩ => wpAny_bind (wpAny_standAt (wpAny_pure ?_))))
  exact thn (hr pos pins s1 σ H1 _ I1 q1) fun us s2 ⟨xs, H2, I2, r2, q2⟩ => ⟨x :: xs, H2, I2, .cons r1 r2, q2⟩
variable {g : List Value -> List Value -> List Value} {gV : List V -> List V -> List V}
end
structure FnScope (N P : List Str) (sc : Scope) : Prop where
  kind : sc.kind = .function
  co : sc.isCoroutine = false
  gen : sc.isGenerator = false
  nd : N.Nodup
  pre : N.take P.length = P
  par : ∀ x ∈ P, sc.names.lookup x = some .local \/ sc.names.lookup x = some .cell
  nofree : ∀ y ∈ sc.names, y.2 ≠ .free
theorem bindL_out {kindOf : Str -> Option NameKind} {x : Str} : ∀ {binds : List (Str × Value)} {m : Str -> Option Value}, (∀ v, (x, v) ∉ binds) -> bindL kindOf binds m x = m x
  | [], _, _ => rfl
  | (n, v) :: r, m, h => by
    unfold bindL
    rw [bindL_out fun w hw => h w (List.mem_cons_of_mem _ hw)]
    split
    · have : x ≠ n := by rintro rfl; exact h v List.mem_cons_self
      simp [this]
    · rfl
theorem bindC_out {kindOf : Str -> Option NameKind} {x : Str} : ∀ {binds : List (Str × Value)} {m : Str -> Option Value}, (∀ v, (x, v) ∉ binds) -> bindC kindOf binds m x = m x
  | [], _, _ => rfl
  | (n, v) :: r, m, h => by
    unfold bindC
    rw [bindC_out fun w hw => h w (List.mem_cons_of_mem _ hw)]
    split
    · rfl
    · have : x ≠ n := by rintro rfl; exact h v List.mem_cons_self
      simp [this]
theorem bindL_get {kindOf : Str -> Option NameKind} {x : Str} {v : Value} : ∀ {P : List Str} {vs : List Value} {i : Nat} {m : Str -> Option Value}, P.Nodup -> P[i]? = some x -> vs[i]? = some v -> kindOf x = some .local ->
    bindL kindOf (P.zip vs) m x = some v
  | [], _, _, _, _, h, _, _ => by simp at h
  | _ :: _, [], _, _, _, _, h, _ => by simp at h
  | p :: P, w :: vs, 0, m, nd, h1, h2, hk => by
    simp at h1 h2; subst h1; subst h2
    show bindL kindOf ((p, w) :: P.zip vs) m p = _
    unfold bindL
    rw [bindL_out fun v hv => (List.nodup_cons.mp nd).1 (List.of_mem_zip hv).1, if_pos hk]
    simp
  | p :: P, w :: vs, i + 1, m, nd, h1, h2, hk => by
    show bindL kindOf ((p, w) :: P.zip vs) m x = _
    unfold bindL
    exact bindL_get (i := i) (List.nodup_cons.mp nd).2 (by simpa using h1) (by simpa using h2) hk
theorem bindC_get {kindOf : Str -> Option NameKind} {x : Str} {v : Value} : ∀ {P : List Str} {vs : List Value} {i : Nat} {m : Str -> Option Value}, P.Nodup -> P[i]? = some x -> vs[i]? = some v -> kindOf x ≠ some .local ->
    bindC kindOf (P.zip vs) m x = some v
  | [], _, _, _, _, h, _, _ => by simp at h
  | _ :: _, [], _, _, _, _, h, _ => by simp at h
  | p :: P, w :: vs, 0, m, nd, h1, h2, hk => by
    simp at h1 h2; subst h1; subst h2
    show bindC kindOf ((p, w) :: P.zip vs) m p = _
    unfold bindC
    rw [bindC_out fun v hv => (List.nodup_cons.mp nd).1 (List.of_mem_zip hv).1, if_neg hk]
    simp
  | p :: P, w :: vs, i + 1, m, nd, h1, h2, hk => by
    show bindC kindOf ((p, w) :: P.zip vs) m x = _
    unfold bindC
    exact bindC_get (i := i) (List.nodup_cons.mp nd).2 (by simpa using h1) (by simpa using h2) hk
noncomputable def start (N : List Str) (vs : List V) : St := vs.map some ++ List.replicate (N.length - vs.length) none
noncomputable def cxOf (CX : CXT) (P : Program) (w : World) (K : Fg) (mg : Str -> Option Value) (base : Heap) (N : List Str) (qual : Str) (scope : Scope) (f : Addr) (cd : Value) (A : Around) (outer : List Env) (s : Shared) (H : Hp) (E : XK) : Cx where
  prog := P
  w := w
  K := K
  mg := mg
  base := base
  A := A.deeper (envOfC qual scope s.heap.objs.size f cd)
  N := N
  s₀ := s
  H₀ := H
  env := envOfC qual scope s.heap.objs.size f cd
  outer := outer
  stack := envOfC qual scope s.heap.objs.size f cd :: outer
  ex := []
  calm := true
  fn := fun _ => true
  pn := []
  xe := fun e s' => wpAny (model P w) (A.deeper (envOfC qual scope s.heap.objs.size f cd)) (leaving (envOfC qual scope s.heap.objs.size f cd) e) (fun _ s'' => CX outer H s E e s'') (fun e' s'' => CX outer H s E e' s'') s'
theorem cell_has {sc : Scope} {n : Nat} {x : Str} (h : sc.names.lookup x = some .cell) : ∃ c, (cellsFrom n sc.names []).lookup x = some c := by
  have q := PySem.W.cellsFrom_some sc.names n [] (.inl h)
  exact Option.isSome_iff_exists.mp q
theorem inv_start {CX : CXT} {P : Program} {w : World} {K : Fg} {mg : Str -> Option Value} {base : Heap} {N ps : List Str} {qual : Str} {scope : Scope} {f : Addr} {cd : Value} {A : Around} {outer : List Env} {s s1 : Shared} {H : Hp} {E : XK} {us : List Value} {vs : List V}
    (S : FnScope N ps scope) (hd : A.handled = none) (e0 : Env0 P w K mg base A outer s H) (hl : vs.length = ps.length) (r : yD vs us)
    (x : InCallC s s.heap.objs.size (bindL (envOfC qual scope s.heap.objs.size f cd).kindOf (ps.zip us) fun _ => none) (cellsFrom (s.heap.objs.size + 1) scope.names []) (bindC (envOfC qual scope s.heap.objs.size f cd).kindOf (ps.zip us) fun _ => none) s1) :
    Inv (cxOf CX P w K mg base N qual scope f cd A outer s H E) [] (start N vs) H s1 := by
  have hpl : ps.length <= N.length := by have := congrArg List.length S.pre; rw [List.length_take] at this; omega
  obtain ⟨h1, tk, rfl, hk⟩ := x.done
  have noA : ∀ b : Addr, b ∉ (cxOf CX P w K mg base N qual scope f cd A outer s H E).ex := fun b z => absurd (show b ∈ ([] : List Addr) from z) (by simp)
  refine ⟨⟨e0.mod, S.kind, rfl, rfl, Nat.le_refl _, fun y z c h1 h2 => ?_, fun y hy => ?_, fun y c _ h => ?_, fun _ => hd, Around.frames_deeper e0.frames, .inr ⟨rfl, rfl⟩, fun b z => absurd z (noA b), e0.bs, e0.bsz, fun b _ _ => noA b, fun b z => absurd z (noA b), e0.funs, e0.frf⟩,
    rfl, e0.bare, Un.kept hk, ⟨_, x.toInCall.ns, fun i y v h1 h2 h3 => ?_⟩, fun y c h => ⟨_, x.cell y c h⟩, e0.hok.fresh (Nat.le_refl _), fun y c h => ?_, fun p hp => absurd (show p ∈ ([] : List (Addr × Obj)) from hp) (by simp), e0.hok.kept hk, ?_⟩
  · exact name_of_addr x.apart (PySem.mem_of_lookup h1) (PySem.mem_of_lookup h2)
  · have hy : scope.names.lookup y = some .cell \/ scope.names.lookup y = some .free := hy
    rcases hy with hy | hy
    · exact cell_has hy
    · exact absurd rfl (S.nofree _ (PySem.mem_of_lookup hy))
  · exact Nat.le_of_lt (x.above y c (PySem.mem_of_lookup h))
  · have hi : i < vs.length := by
      unfold start at h2
      by_cases hi : i < vs.length
      · exact hi
      · rw [List.getElem?_append_right (by simpa using hi)] at h2
        rw [List.getElem?_replicate] at h2
        split at h2 <;> cases h2
    have ha : vs[i]? = some v := by
      unfold start at h2
      rw [List.getElem?_append_left (by simpa using hi), List.getElem?_map] at h2
      cases e : vs[i]? with
      | none => rw [e] at h2; cases h2
      | some a => rw [e] at h2; cases h2; rfl
    obtain ⟨u, hu, rv⟩ := r.get ha
    have hp : ps[i]? = some y := by
      rw [<- S.pre, List.getElem?_take_of_lt (by omega)]; exact h1
    have ndP : ps.Nodup := by rw [<- S.pre]; exact S.nd.sublist (List.take_sublist _ _)
    refine ⟨u, rv, ?_⟩
    rcases S.par y (List.mem_of_getElem? hp) with k | k
    · exact .inl ⟨k, bindL_get ndP hp hu k⟩
    · obtain ⟨c, e⟩ := cell_has (n := s.heap.objs.size + 1) k
      refine .inr ⟨.inl k, c, e, ?_⟩
      have q := x.cell y c e
      rw [bindC_get ndP hp hu (by show scope.names.lookup y ≠ _; rw [k]; decide)] at q
      exact q
  · exact e0.hok.fresh (Nat.le_of_lt (x.above y c (PySem.mem_of_lookup h)))
  · unfold start
    show _ = N.length
    rw [List.length_append, List.length_map, List.length_replicate]
    omega
theorem fn_of {CX : CXT} {P : Program} {w : World} {K : Fg} {mg : Str -> Option Value} {base : Heap} {k : Nat} {f : Addr} {name qual : Str} {params : Arguments} {body : List Stmt} {scope : Scope} {dV kV doc pm cdv ct oc : Value} {an od : Option Addr}
    {osl : Array (Option Value)} {N ps : List Str} {sp : Sp} (lk : K.lookup f = some ⟨oc, od, .func (PySem.W.fnOf name qual params body scope dV kV doc pm an cdv ct), osl⟩) (hcd : PySem.W.codeIn K cdv qual = true) (S : FnScope N ps scope)
    (len : ∀ vs H Q E, sp vs H Q E -> vs.length = ps.length)
    (hbody : ∀ (A : Around) (outer : List Env) (s : Shared) (H : Hp) (vs : List V) (Q : VK) (E : XK), Room k (A.deeper (envOfC qual scope s.heap.objs.size f cdv)) -> sp vs H Q E ->
      ∃ t, PSs (cxOf CX P w K mg base N qual scope f cdv A outer s H E) body t /\ t { nx := fun _ H' => Q .non H', rt := Q } (start N vs) H) :
    FnOk P w K mg base CX (k + 1) f (PySem.W.fnOf name qual params body scope dV kV doc pm an cdv ct) ps sp := by
  refine ⟨len, fun A outer s H args us vs Q E hr e0 hb r hsp => ?_⟩
  have hl := len _ _ _ _ hsp
  have KX : K.In s.heap := e0.mod.kin.keeps fun b o e => (e0.bs b o e).1
  have lim : s.heap.NoLimit := e0.mod.nolimit.keeps fun b o e => (e0.bs b o e).1
  have hkind : ∀ y ∈ ps.zip us, scope.names.lookup y.1 = some .local \/ (scope.names.lookup y.1 = some .cell /\ ((cellsFrom (s.heap.objs.size + 1) scope.names []).lookup y.1).isSome = true) := fun ⟨n, v⟩ hy => by
    rcases S.par n (List.of_mem_zip hy).1 with q | q
    · exact .inl q
    · exact .inr ⟨q, PySem.W.cellsFrom_some _ _ _ (.inl q)⟩
  refine codeAny_call_function hr.depth (KX _ _ lk) rfl S.co S.gen rfl (PySem.W.codeRec_of KX hcd) (hb _ _ _ _ ?_)
  refine wpAny_newFunctionEnv_cells S.kind hkind fun env he s1 x => ?_
  subst he
  refine ⟨lim.keeps x.toInCall.keep, codeAny_func ?_⟩
  obtain ⟨t, ht, hq⟩ := hbody A outer s H vs Q E (hr.deeper _) hsp
  have I : Inv (cxOf CX P w K mg base N qual scope f cdv A outer s H E) [] (start N vs) H s1 := inv_start S hr.hd e0 hl r x
  refine wpAny_mono (ht [] s1 (start N vs) H _ I hq) (fun fl s' hs => ?_) fun e s' hs => hs
  have fin : ∀ {σ' : St} {H' : Hp} {v : V} {u : Value}, Inv (cxOf CX P w K mg base N qual scope f cdv A outer s H E) [] σ' H' s' -> RelV v u -> Q v H' -> CE outer P w H s Q u s' :=
    fun {σ' H' v u} J rv q => ⟨v, H', J.os, J.bare, J.base, J.hok, rv, q⟩
  cases fl with
  | ret u =>
    obtain ⟨v, σ', H', J, rv, q⟩ := hs
    exact fin J rv q
  | next =>
    obtain ⟨σ', H', J, q⟩ := hs
    exact fin (v := V.non) (u := Value.none) J rfl q
  | brk =>
    obtain ⟨_, _, _, q⟩ := hs
    exact False.elim q
  | cont =>
    obtain ⟨_, _, _, q⟩ := hs
    exact False.elim q
end L2
namespace L2
open PySem PySem.Spec PyProof.Rows
section
variable {X : Cx} {x : Str} {p pos : Pos} {e : Expr} {es : List Expr} {t : TA} {id T : String} {r : List V -> Hp -> VK -> Prop}
noncomputable def tCB (r : List V -> Hp -> VK -> Prop) (t : TA) : TE := fun σ H Q => t σ H fun vs H1 => r vs H1 Q
theorem pe_callB (hc : CallR X (.builtin id) r) (hg : Gl X x) (hm : X.mg x = none) (hv : bootBuiltins x = some (.builtin id)) (ha : PA X (e :: es) t) (hn : x ≠ "__name__" := by decide) (hdb : (x == ("__debug__" : Str)) = false := by decide)
    (he : starEach (e :: es) X.env = (false, eval e X.env) :: starEach es X.env := by rfl) (hpl : (backTo pos (starEach es X.env)).any (·.1) = false := by rfl) : PE X (.Call (.Name x p) (e :: es) [] pos) (tCB r t) := by
  intro pins s σ H Q I h
  refine wpAny_Call_Name_kw (ld_blt I hg hm hv ?_ hn hdb)
  exact PyProof.Rows.callWith_builtin1 (thn (ha pos pins s σ H _ I h) fun us s1 ⟨vs, H1, I1, r1, q1⟩ => hc pins s1 σ H1 vs us Q I1 r1 q1) he hpl
theorem pe_callTy (hc : CallR X (.type T) r) (hg : Gl X x) (hm : X.mg x = none) (hv : bootBuiltins x = some (.type T)) (ha : PA X (e :: es) t) (hn : x ≠ "__name__" := by decide) (hdb : (x == ("__debug__" : Str)) = false := by decide)
    (he : starEach (e :: es) X.env = (false, eval e X.env) :: starEach es X.env := by rfl) (hpl : (backTo pos (starEach es X.env)).any (·.1) = false := by rfl) : PE X (.Call (.Name x p) (e :: es) [] pos) (tCB r t) := by
  intro pins s σ H Q I h
  refine wpAny_Call_Name_kw (ld_blt I hg hm hv ?_ hn hdb)
  exact PyProof.Rows.callWith_type1 (thn (ha pos pins s σ H _ I h) fun us s1 ⟨vs, H1, I1, r1, q1⟩ => hc pins s1 σ H1 vs us Q I1 r1 q1) he hpl
end
end L2
namespace HT
open PySem PyProof.Rows
section
open PySem.SeqAt
open PySem.AutoSeq1 (wpAny_loadPart')
open PySem.MeetsSeq PySem.MeetsSeq2 PySem.MeetsSeq3
end
section
variable {prog : Program} {w : World} {A : Around} {E : Value -> Shared -> Prop} {s : Shared}
theorem cat_tup {t b : Addr} {vs ws : List Value} {Q : Value -> Shared -> Prop} (ht : IsTup s.heap t vs.toArray) (hb : IsTup s.heap b ws.toArray) (hv : vs ≠ [])
    (h1 : ws = [] -> Q (.ref t) s) (h2 : ws ≠ [] -> Q (.ref s.heap.objs.size) { s with heap := s.heap.push { cls := .type "tuple", data := .seq (vs ++ ws).toArray } })
    (hsz : vs.length + ws.length <= sizeLine) : wpAny (model prog w) A (binaryOp .Add (.ref t) (.ref b)) Q E s := by
  obtain ⟨⟨cls, dd, data, sl⟩, ho, hc, n, hd⟩ := id ht
  obtain ⟨⟨cls2, dd2, data2, sl2⟩, ho2, hc2, n2, hd2⟩ := id hb
  simp only at hc hd hc2 hd2
  subst hc hd hc2 hd2
  have e : vs.toArray ++ ws.toArray = (vs ++ ws).toArray := by simp
  by_cases hw : ws = []
  · exact concat_meets ⟨_, ho, rfl⟩ ⟨_, ho2, rfl⟩ noFill_tuple_add seq_tuple_add PySem.F.slot_tuple_add PySem.F.entry_tuple_add (PySem.F.args_tuple_add_2 _ _)
      (tuple_addW1 t b vs.toArray ws.toArray n n2 dd dd2 sl sl2 (by simpa using hv) (by simp [hw])) ⟨ho, ho2, h1 hw⟩
  · refine concat_meets ⟨_, ho, rfl⟩ ⟨_, ho2, rfl⟩ noFill_tuple_add seq_tuple_add PySem.F.slot_tuple_add PySem.F.entry_tuple_add (PySem.F.args_tuple_add_2 _ _)
      (tuple_addW2 t b vs.toArray ws.toArray n n2 dd dd2 sl sl2 (by simpa using hv) (by simpa using hw) (by rw [List.size_toArray, List.size_toArray]; exact hsz)) ⟨ho, ho2, ?_⟩
    rw [e]
    exact h2 hw
noncomputable def sIx (n d : Nat) : Option Int -> Nat
  | none => d
  | some v => if v < 0 then (v + (n : Int)).toNat else min v.toNat n
theorem sIx_none (n d : Nat) : sIx n d none = d := rfl
theorem sIx_nat (n d k : Nat) : sIx n d (some (k : Int)) = min k n := by
  show (if (k : Int) < 0 then ((k : Int) + (n : Int)).toNat else min (k : Int).toNat n) = min k n
  rw [if_neg (by omega), Int.toNat_natCast]
theorem sIx_le (n d : Nat) (hd : d <= n) (o : Option Int) : sIx n d o <= n := by
  cases o with
  | none => exact hd
  | some v =>
    show (if v < 0 then (v + (n : Int)).toNat else min v.toNat n) <= n
    by_cases hv : v < 0
    · rw [if_pos hv]; omega
    · rw [if_neg hv]; exact Nat.min_le_right _ _
theorem clip_eq (v : Int) (n d : Nat) : (if v < 0 then max (v + (n : Int)) 0 else min v (n : Int)) = ((sIx n d (some v) : Nat) : Int) := by
  show (if v < 0 then max (v + (n : Int)) 0 else min v (n : Int)) = (((if v < 0 then (v + (n : Int)).toNat else min v.toNat n) : Nat) : Int)
  by_cases hv : v < 0
  · simp only [if_pos hv]; omega
  · simp only [if_neg hv]; omega
theorem adjust_gen (lo hi : Option Int) (n : Nat) : Builtin.Slice.sliceAdjust lo hi 1 (n : Int) = (((sIx n 0 lo : Nat) : Int), ((sIx n n hi : Nat) : Int)) := by
  have h1 : ¬ ((1 : Int) < 0) := by omega
  unfold Builtin.Slice.sliceAdjust
  simp only [h1, if_false]
  refine Prod.ext ?_ ?_
  · cases lo with
    | none => rfl
    | some v => exact clip_eq v n 0
  · cases hi with
    | none => rfl
    | some v => exact clip_eq v n n
theorem places_gen (i j : Nat) : Builtin.Slice.slicePlaces (i : Int) (j : Int) 1 = j - i := by
  unfold Builtin.Slice.slicePlaces
  have h1 : (1 : Int) > 0 := by omega
  simp only [h1, if_true, Int.ediv_one]
  split <;> omega
theorem slicePart_ {v : Value} {o : Option Int} {Q : Option Int -> Shared -> Prop} (p : IsPart v o) (h : Q o s) : wpAny (model prog w) A (Builtin.Slice.slicePartIndex v) Q E s := by
  cases p with
  | none => exact slicePart_none h
  | int i t => exact slicePart_int h
theorem sliceApplied_gen {sl : Addr} {vl vu : Value} {lo hi : Option Int} {n : Nat} {Q : Int × Int × Nat -> Shared -> Prop} (hs : s.heap.IsSliceOf sl vl vu .none) (pl : IsPart vl lo) (pu : IsPart vu hi)
    (h : Q (((sIx n 0 lo : Nat) : Int), 1, sIx n n hi - sIx n 0 lo) s) : wpAny (model prog w) A (Builtin.Slice.sliceApplied (.ref sl) (pure (n : Int))) Q E s := by
  obtain ⟨os, hos, hcs, hds⟩ := id hs
  unfold Builtin.Slice.sliceApplied Builtin.Slice.sliceFields
  refine wpAny_bind (wpAny_bind (wpAny_field hos hds (x := vl) rfl (wpAny_bind (wpAny_field hos hds (x := vu) rfl (wpAny_bind (wpAny_field hos hds (x := .none) rfl (wpAny_pure ?_)))))))
  refine wpAny_bind (slicePart_none ?_)
  show wpAny _ _ (if ((1 : Int) == 0) = true then _ else _) _ _ s
  rw [if_neg (by decide)]
  refine wpAny_bind (slicePart_ pl (wpAny_bind (slicePart_ pu (wpAny_bind (wpAny_pure ?_)))))
  show wpAny _ _ (match Builtin.Slice.sliceAdjust lo hi 1 (n : Int) with | (lo, hi) => pure (lo, (1 : Int), Builtin.Slice.slicePlaces lo hi 1)) _ _ s
  rw [adjust_gen lo hi n]
  show wpAny _ _ (pure (((sIx n 0 lo : Nat) : Int), (1 : Int), Builtin.Slice.slicePlaces ((sIx n 0 lo : Nat) : Int) ((sIx n n hi : Nat) : Int) 1)) _ _ s
  rw [places_gen]
  exact wpAny_pure h
theorem pick_gen (xs : Array Value) (i k : Nat) : ((List.range k).filterMap fun (m : Nat) => xs[((i : Int) + (m : Int) * 1).toNat]?).toArray = ((xs.toList.drop i).take k).toArray := by
  have e : (fun (m : Nat) => xs[((i : Int) + (m : Int) * 1).toNat]?) = fun m => xs[i + m]? := by
    funext m
    have : ((i : Int) + (m : Int) * 1).toNat = i + m := by omega
    rw [this]
  rw [e]
  have := pick_run xs i k
  rw [List.filterMap_map] at this
  have e2 : ((fun x => xs[x]?) ∘ fun x => i + x) = fun m => xs[i + m]? := rfl
  rw [e2] at this
  rw [this]
theorem getItem_tuple_cut {t sl : Addr} {items : Array Value} {vl vu : Value} {lo hi : Option Int} {Q : Value -> Shared -> Prop} (ht : IsTup s.heap t items) (hs : s.heap.IsSliceOf sl vl vu .none) (pl : IsPart vl lo) (pu : IsPart vu hi)
    (hw : ¬ (sIx items.size 0 lo = 0 /\ sIx items.size items.size hi = items.size))
    (h : Q (.ref s.heap.objs.size) { s with heap := s.heap.push { cls := .type "tuple", data := .seq ((items.toList.drop (sIx items.size 0 lo)).take (sIx items.size items.size hi - sIx items.size 0 lo)).toArray } })
    (hsz : items.size <= sizeLine) : wpAny (model prog w) A (getItem (.ref t) (.ref sl)) Q E s := by
  have htake : sizeOk (.seq ((items.toList.drop (sIx items.size 0 lo)).take (sIx items.size items.size hi - sIx items.size 0 lo)).toArray) := by
    show ((items.toList.drop (sIx items.size 0 lo)).take (sIx items.size items.size hi - sIx items.size 0 lo)).toArray.size <= sizeLine
    rw [List.size_toArray, List.length_take, List.length_drop, Array.length_toList]
    omega
  have hj : sIx items.size items.size hi <= items.size := sIx_le _ _ (Nat.le_refl _) hi
  obtain ⟨os, hos, hcs, hds⟩ := id hs
  have hTs : s.TypeIs (.ref sl) "slice" := ⟨os, hos, hcs⟩
  unfold getItem
  try with_reducible refine wpAny_holding ?_
  first | refine wpAny_bind (wpAny_pure ?_) | skip
  refine wpAny_bind (wpAny_sequenceKey ht.typeIs (by decide) ?_)
  refine wpAny_bind (wpAny_callSpecial?_slot (name := Str.ofString "__getitem__") ht.typeIs PyProof.Rows.slot_tuple_getitem
    (wpAny_call_entry PyProof.Rows.slot_tuple_getitem ht.typeIs entry_tuple_getitem ?_ (args_tuple_getitem _ _)))
  show wpAny _ _ (Builtin.Tuple.tupleItemsOf (.ref t) >>= _) _ _ s
  refine wpAny_bind (tupleItemsOf_ ht ?_)
  refine wpAny_bind (wpAny_typeOf hTs ?_)
  rw [if_pos (by decide)]
  refine wpAny_bind (sliceApplied_gen hs pl pu ?_)
  have hno : ¬ ((((sIx items.size 0 lo : Nat) : Int) == 0 && (1 : Int) == 1 && (sIx items.size items.size hi - sIx items.size 0 lo) == items.size) = true) := by
    intro q
    rw [Bool.and_eq_true, Bool.and_eq_true] at q
    have q1 : ((sIx items.size 0 lo : Nat) : Int) = 0 := eq_of_beq q.1.1
    have q2 : sIx items.size items.size hi - sIx items.size 0 lo = items.size := eq_of_beq q.2
    exact hw ⟨by omega, by omega⟩
  show wpAny _ _ (if (((sIx items.size 0 lo : Nat) : Int) == 0 && (1 : Int) == 1 && (sIx items.size items.size hi - sIx items.size 0 lo) == items.size) = true then _ else _) _ _ s
  rw [if_neg hno, pick_gen]
  first
    | exact wpAny_bind (m := Builtin.Tuple.tupleExact _) (wpAny_newObj_type (wpAny_pure ⟨_, rfl, wpAny_pure h⟩) htake)
    | exact wpAny_bind (m := Builtin.Tuple.tupleExact _) (wpAny_newObj_type (wpAny_bind (wpAny_pure (wpAny_pure ⟨_, rfl, wpAny_pure h⟩))) htake)
    | exact wpAny_bind (wpAny_bind (m := Builtin.Tuple.tupleExact _) (wpAny_newObj_type (wpAny_pure (wpAny_pure ⟨_, rfl, wpAny_pure h⟩)) htake))
    | exact wpAny_bind (wpAny_bind (m := Builtin.Tuple.tupleExact _) (wpAny_newObj_type (wpAny_pure ⟨_, rfl, wpAny_pure h⟩) htake))
end
end HT
namespace L2
open PySem PySem.Spec PyProof.Rows
noncomputable abbrev TO := St -> Hp -> (Option Int -> Hp -> Prop) -> Prop
noncomputable def PO (X : Cx) (e : Option Expr) (t : TO) : Prop :=
  ∀ (pins : List (Addr × Obj)) (s : Shared) (σ : St) (H : Hp) (Q : Option Int -> Hp -> Prop), Inv X pins σ H s -> t σ H Q ->
    wpAny (model X.prog X.w) X.A (evalPart e X.env) (fun u s' => ∃ o H', Inv X pins σ H' s' /\ IsPart u o /\ Q o H') X.xe s
noncomputable def tNoPart : TO := fun _ H Q => Q none H
noncomputable def tPart (t : TE) : TO := fun σ H Q => t σ H fun x H1 => ∃ i, x = .int i /\ Q (some i) H1
section
variable {X : Cx} {e : Expr} {te : TE} {lo hi : Option Expr} {tl th : TO} {pos p2 : Pos}
theorem po_none : PO X none tNoPart := by
  intro pins s σ H Q I h
  rw [evalPart_none]
  exact wpAny_pure ⟨none, H, I, .none, h⟩
theorem po_some (h : PE X e te) : PO X (some e) (tPart te) := by
  intro pins s σ H Q I hw
  rw [evalPart_some]
  refine thn (h pins s σ H _ I hw) fun u s1 ⟨x, H1, I1, r1, q1⟩ => ?_
  obtain ⟨i, rfl, q⟩ := q1
  obtain ⟨t, rfl⟩ := r1
  exact ⟨some i, H1, I1, .int i t, q⟩
noncomputable def SlR (X : Cx) (r : V -> Option Int -> Option Int -> Hp -> VK -> Prop) : Prop :=
  ∀ (pins : List (Addr × Obj)) (s : Shared) (σ : St) (H : Hp) (x : V) (v vl vu : Value) (lo hi : Option Int) (sl : Addr) (Q : VK), Inv X pins σ H s -> RelV x v -> s.heap.IsSliceOf sl vl vu .none -> IsPart vl lo -> IsPart vu hi -> r x lo hi H Q ->
    ∃ T id, typeLookup (.type T) "__getitem__" = pure (some (.builtin id)) /\ s.TypeIs v T /\ wpAny (model X.prog X.w) X.A (getItem v (.ref sl)) (EP X pins σ Q) X.xe s
theorem SlR.or {r r' : V -> Option Int -> Option Int -> Hp -> VK -> Prop} (h : SlR X r) (h' : SlR X r') : SlR X (fun x lo hi H Q => r x lo hi H Q \/ r' x lo hi H Q) := by
  intro pins s σ H x v vl vu lo hi sl Q I rx hs pl pu q
  rcases q with q | q
  · exact h pins s σ H x v vl vu lo hi sl Q I rx hs pl pu q
  · exact h' pins s σ H x v vl vu lo hi sl Q I rx hs pl pu q
noncomputable def tSl (r : V -> Option Int -> Option Int -> Hp -> VK -> Prop) (te : TE) (tl th : TO) : TE := fun σ H Q => te σ H fun x H1 => tl σ H1 fun l H2 => th σ H2 fun u H3 => r x l u H3 Q
theorem pe_slice {r : V -> Option Int -> Option Int -> Hp -> VK -> Prop} (hr : SlR X r) (he : PE X e te) (hl : PO X lo tl) (hu : PO X hi th) : PE X (.Subscript e (.Slice lo hi none p2) pos) (tSl r te tl th) := by
  intro pins s σ H Q I h
  refine Subscript_ (thn (he pins s σ H _ I h) fun v s1 ⟨x, H1, I1, r1, q1⟩ => ?_)
  refine wpAny_Slice (thn (hl pins s1 σ H1 _ I1 q1) fun vl s2 ⟨l, H2, I2, pl, q2⟩ => thn (hu pins s2 σ H2 _ I2 q2) fun vu s3 ⟨u, H3, I3, pu, q3⟩ => ?_)
  rw [evalPart_none]
  refine wpAny_pure ?_
  have I4 : Inv X pins σ H3 { s3 with heap := s3.heap.push { cls := .type "slice", data := .fields #[vl, vu, .none] } } := I3.kept (t' := s3.toks) fun b ob q => Heap.get?_push_of_some _ q
  obtain ⟨T, id, hT, ht, hg⟩ := hr pins { s3 with heap := s3.heap.push { cls := .type "slice", data := .fields #[vl, vu, .none] } } σ H3 x v vl vu l u s3.heap.objs.size Q I4 r1 (Heap.IsSliceOf.new ..) pl pu q3
  show wpAny (model X.prog X.w) X.A (subscriptTail e (.Slice lo hi none p2) v (.ref s3.heap.objs.size)) (EP X pins σ Q) X.xe { s3 with heap := s3.heap.push { cls := .type "slice", data := .fields #[vl, vu, .none] } }
  exact tail_any (ops := [.ref s3.heap.objs.size, v]) ht hT hg (by with_unfolding_all rfl)
noncomputable def cutV (xs : List V) (lo hi : Option Int) : List V := (xs.drop (HT.sIx xs.length 0 lo)).take (HT.sIx xs.length xs.length hi - HT.sIx xs.length 0 lo)
theorem cutV_length (xs : List V) (lo hi : Option Int) : (cutV xs lo hi).length <= xs.length := by
  unfold cutV
  rw [List.length_take, List.length_drop]
  omega
noncomputable def rSlT (K : Fg) : V -> Option Int -> Option Int -> Hp -> VK -> Prop := fun x lo hi H Q => ∃ a xs, x = .ref a /\ SqT K H a xs /\
  ¬ (HT.sIx xs.length 0 lo = 0 /\ HT.sIx xs.length xs.length hi = xs.length) /\ ∀ p, H p = none -> Q (.ref p) (upd H p (.tup (cutV xs lo hi)))
theorem sl_tup : SlR X (rSlT X.K) := by
  intro pins s σ H x v vl vu lo hi sl Q I rx hs pl pu h
  obtain ⟨a, xs, rfl, hx, hw, q⟩ := h
  cases rx
  obtain ⟨its, r, ht, hz⟩ := I.tuple hx
  have hlen : its.toArray.size = xs.length := by rw [List.size_toArray]; exact r.length.symm
  refine ⟨"tuple", _, PyProof.Rows.slot_tuple_getitem.lookup, ht.typeIs, ?_⟩
  refine HT.getItem_tuple_cut ht hs pl pu (by rw [hlen]; exact hw) ?_ (by rw [hlen]; exact hz)
  rw [hlen]
  refine ⟨.ref s.heap.objs.size, _, I.laid (t' := s.toks) (o := .tup (cutV xs lo hi)) (fun b ob q => Heap.get?_push_of_some _ q) (Nat.le_refl _) ?_, rfl, q _ (I.hok.fresh (Nat.le_refl _))⟩
  exact ⟨Nat.le_trans (cutV_length xs lo hi) hz, _, (r.drop (HT.sIx xs.length 0 lo)).take (HT.sIx xs.length xs.length hi - HT.sIx xs.length 0 lo), IsTup.new _ _⟩
noncomputable def rCatT (K : Fg) : R2 := fun x y H Q => ∃ a b xs ys, x = .ref a /\ y = .ref b /\ SqT K H a xs /\ SqT K H b ys /\ xs ≠ [] /\ xs.length + ys.length <= sizeLine /\
  (ys = [] -> Q (.ref a) H) /\ (ys ≠ [] -> ∀ p, H p = none -> Q (.ref p) (upd H p (.tup (xs ++ ys))))
theorem yD.nil_iff {xs : List V} {us : List Value} (r : yD xs us) : us = [] ↔ xs = [] := by
  cases r with
  | nil => simp
  | cons _ _ => simp
theorem op_catT : OpR X (binaryOp .Add) (rCatT X.K) := by
  intro pins s σ H x y v u Q I rx ry h
  obtain ⟨a, b, xs, ys, rfl, rfl, ha, hb, hx, hz, q1, q2⟩ := h
  cases rx
  cases ry
  obtain ⟨its, r1, p1, _⟩ := I.tuple ha
  obtain ⟨its2, r2, p2, _⟩ := I.tuple hb
  refine HT.cat_tup p1 p2 (fun z => hx (r1.nil_iff.mp z)) (fun z => ⟨.ref a, H, I, rfl, q1 (r2.nil_iff.mp z)⟩) (fun z => ?_) (by rw [<- r1.length, <- r2.length]; exact hz)
  refine ⟨.ref s.heap.objs.size, _, I.laid (t' := s.toks) (o := .tup (xs ++ ys)) (fun b ob q => Heap.get?_push_of_some _ q) (Nat.le_refl _) ?_, rfl, q2 (fun w => z (r2.nil_iff.mpr w)) _ (I.hok.fresh (Nat.le_refl _))⟩
  exact ⟨by rw [List.length_append]; exact hz, _, r1.append r2, IsTup.new _ _⟩
end
end L2
namespace L2
open PySem PySem.Spec PyProof.Rows
noncomputable def ixN (n : Nat) (i : Int) : Option Nat := if 0 <= i then (if i < n then some i.toNat else none) else if -(n : Int) <= i then some (i + n).toNat else none
noncomputable def atI {α : Type} (xs : List α) (i : Int) : Option α := (ixN xs.length i).bind fun j => xs[j]?
theorem ixN_seq {n : Nat} {i : Int} {j : Nat} (h : ixN n i = some j) : seqIndex? i n = some j /\ j < n /\ -(n : Int) <= i /\ i < n := by
  unfold ixN at h
  by_cases h0 : 0 <= i
  · rw [if_pos h0] at h
    by_cases h1 : i < n
    · rw [if_pos h1] at h
      have e : i.toNat = j := Option.some.inj h
      exact ⟨by rw [seqIndex_of h0 h1, e], by omega, by omega, h1⟩
    · rw [if_neg h1] at h; cases h
  · rw [if_neg h0] at h
    by_cases h1 : -(n : Int) <= i
    · rw [if_pos h1] at h
      have e : (i + n).toNat = j := Option.some.inj h
      exact ⟨by rw [seqIndex_neg (by omega) h1, e], by omega, h1, by omega⟩
    · rw [if_neg h1] at h; cases h
theorem atI_get {α : Type} {xs : List α} {i : Int} {v : α} (h : atI xs i = some v) : ∃ j, seqIndex? i xs.length = some j /\ xs[j]? = some v /\ j < xs.length /\ -(xs.length : Int) <= i /\ i < xs.length := by
  unfold atI at h
  cases e : ixN xs.length i with
  | none => rw [e] at h; cases h
  | some j =>
    rw [e] at h
    obtain ⟨h1, h2, h3, h4⟩ := ixN_seq e
    exact ⟨j, h1, h, h2, h3, h4⟩
theorem yC {α : Type} {xs : List α} {j : Nat} {v : α} (h : xs[j]? = some v) : atI xs (j : Int) = some v := by
  have hj : j < xs.length := (List.getElem?_eq_some_iff.mp h).1
  have e : ixN xs.length (j : Int) = some j := by
    unfold ixN
    rw [if_pos (by omega), if_pos (by omega)]; simp
  unfold atI; rw [e]; exact h
noncomputable def PlainIx (b : Expr) : Prop := ∀ o i, subscripted b false o i = operate [o, i] (getItem o i)
noncomputable def IxR (X : Cx) (r : R2) : Prop :=
  ∀ (value slice : Expr) (pins : List (Addr × Obj)) (s : Shared) (σ : St) (H : Hp) (x y : V) (v u : Value) (Q : VK), Inv X pins σ H s -> RelV x v -> RelV y u -> r x y H Q ->
    subscripted slice false v u = operate [v, u] (getItem v u) -> wpAny (model X.prog X.w) X.A (subscriptTail value slice v u) (EP X pins σ Q) X.xe s
noncomputable def MtR (X : Cx) (id : String) (r : V -> List V -> Hp -> VK -> Prop) : Prop :=
  ∀ (pins : List (Addr × Obj)) (s : Shared) (σ : St) (H : Hp) (x : V) (xs : List V) (v : Value) (us : List Value) (Q : VK), Inv X pins σ H s -> RelV x v -> yD xs us -> r x xs H Q ->
    wpAny (model X.prog X.w) X.A (call (.builtin id) (v :: us)) (EP X pins σ Q) X.xe s
section
variable {X : Cx} {a b : Expr} {ta tb : TE} {pos : Pos}
theorem IxR.or {r r' : R2} (h : IxR X r) (h' : IxR X r') : IxR X (fun x y H Q => r x y H Q \/ r' x y H Q) := by
  intro value slice pins s σ H x y v u Q I rx ry q hs
  rcases q with q | q
  · exact h value slice pins s σ H x y v u Q I rx ry q hs
  · exact h' value slice pins s σ H x y v u Q I rx ry q hs
theorem pe_ix {r : R2} (hr : IxR X r) (ha : PE X a ta) (hb : PE X b tb) (hs : PlainIx b) : PE X (.Subscript a b pos) (tOp r ta tb) := by
  intro pins s σ H Q I h
  exact Subscript_ (binT ha hb I h fun v u s2 x y H2 I2 rx ry q => hr a b pins s2 σ H2 x y v u Q I2 rx ry q (hs _ _))
noncomputable def rIxL (K : Fg) : R2 := fun x y H Q => ∃ p xs i v, x = .ref p /\ y = .int i /\ SqL K H p xs /\ atI xs i = some v /\ Q v H
noncomputable def rIxT (K : Fg) : R2 := fun x y H Q => ∃ p xs i v, x = .ref p /\ y = .int i /\ SqT K H p xs /\ atI xs i = some v /\ Q v H
noncomputable def rIxS : R2 := fun x y H Q => ∃ z i c, x = .str z /\ y = .int i /\ z.length <= sizeLine /\ atI z.cps.toList i = some c /\ Q (.str ⟨#[c]⟩) H
theorem ix_list : IxR X (rIxL X.K) := by
  intro value slice pins s σ H x y v u Q I rx ry h hs
  obtain ⟨p, xs, i, z, rfl, rfl, hq, he, q⟩ := h
  cases rx
  obtain ⟨t, rfl⟩ := ry
  obtain ⟨its, r, pl, hz⟩ := I.list hq
  obtain ⟨j, h1, h2, h3, h4, h5⟩ := atI_get he
  obtain ⟨w, ew, rw'⟩ := r.get h2
  have hl := r.length
  have hn := line63
  have fin : EP X pins σ Q w s := ⟨z, H, I, rw', q⟩
  by_cases h0 : 0 <= i
  · have hj : i.toNat = j := by
      rw [seqIndex_of h0 h5] at h1
      exact Option.some.inj h1
    exact item_listR pl.isList h0 (by omega) (by rw [hj]; simpa using ew) fin hs
  · have hj : (i + (its.toArray.size : Int)).toNat = j := by
      rw [seqIndex_neg (by omega) h4] at h1
      rw [List.size_toArray, <- hl]
      exact Option.some.inj h1
    exact subscriptTail_builtinR (x := w) pl.isList.typeIs slot_list_getitem.lookup
      (wpAny_getItem_list_neg (Q := fun r s' => r = w /\ EP X pins σ Q r s') pl.isList (by omega) (by rw [List.size_toArray] <;> omega) (by omega) (by rw [hj]; simpa using ew) ⟨rfl, fin⟩) hs
theorem ix_tup : IxR X (rIxT X.K) := by
  intro value slice pins s σ H x y v u Q I rx ry h hs
  obtain ⟨p, xs, i, z, rfl, rfl, hq, he, q⟩ := h
  cases rx
  obtain ⟨t, rfl⟩ := ry
  obtain ⟨its, r, pl, hz⟩ := I.tuple hq
  obtain ⟨j, h1, h2, h3, h4, h5⟩ := atI_get he
  obtain ⟨w, ew, rw'⟩ := r.get h2
  have hl := r.length
  have hn := line63
  have fin : EP X pins σ Q w s := ⟨z, H, I, rw', q⟩
  exact subscriptTail_builtinR (x := w) pl.typeIs slot_tuple_getitem.lookup
    (getItem_tuple (j := j) (Q := fun r s' => r = w /\ EP X pins σ Q r s') pl (by omega) (by omega) (by rw [List.size_toArray, <- hl]; exact h1) (by simpa using ew) ⟨rfl, fin⟩) hs
theorem ix_str : IxR X rIxS := by
  intro value slice pins s σ H x y v u Q I rx ry h hs
  obtain ⟨z, i, c, rfl, rfl, hz, he, q⟩ := h
  obtain ⟨t, rfl⟩ := rx
  obtain ⟨t', rfl⟩ := ry
  obtain ⟨j, h1, h2, h3, h4, h5⟩ := atI_get he
  have hl : z.cps.toList.length = z.length := by simp [Str.length]
  rw [hl] at h1 h4 h5
  have hn := line63
  exact tail_any (typeIs_str s z t) slot_str_getitem.lookup (getItem_str (c := c) (by
    have e1 : decide (i < -(2 ^ 63 : Int)) = false := decide_eq_false (by omega)
    have e2 : decide (i ≥ 2 ^ 63) = false := decide_eq_false (by omega)
    rw [e1, e2, Bool.or_false]) (by rw [h1]; simpa using h2) ⟨.str ⟨#[c]⟩, H, I.tok _, ⟨_, rfl⟩, q⟩) hs
noncomputable def rIx (K : Fg) : R2 := fun x y H Q => rIxL K x y H Q \/ rIxT K x y H Q \/ rIxS x y H Q
theorem ix_seq : IxR X (rIx X.K) := ix_list.or (ix_tup.or ix_str)
theorem slice_bounds (lo hi : Option Int) (n : Nat) : (sliceBounds lo hi none n).1 = ((HT.sIx n 0 lo : Nat) : Int) /\ (sliceBounds lo hi none n).2.1 = ((HT.sIx n n hi : Nat) : Int) /\ (sliceBounds lo hi none n).2.2 = 1 := by
  refine ⟨?_, ?_, rfl⟩
  · cases lo with
    | none => simp [sliceBounds, HT.sIx]
    | some i =>
      simp only [sliceBounds, HT.sIx, Option.getD_none, show (1 : Int) > 0 by decide, if_true]
      by_cases h : i < 0
      · simp only [h, if_true] <;> omega
      · simp only [h, if_false] <;> omega
  · cases hi with
    | none => simp [sliceBounds, HT.sIx]
    | some i =>
      simp only [sliceBounds, HT.sIx, Option.getD_none, show (1 : Int) > 0 by decide, if_true]
      by_cases h : i < 0
      · simp only [h, if_true] <;> omega
      · simp only [h, if_false] <;> omega
theorem slicePick_cut (its : List Value) (lo hi : Option Int) : slicePick its.toArray lo hi none = ((its.drop (HT.sIx its.length 0 lo)).take (HT.sIx its.length its.length hi - HT.sIx its.length 0 lo)).toArray := by
  obtain ⟨h1, h2, h3⟩ := slice_bounds lo hi its.toArray.size
  unfold slicePick
  rw [h1, h2, h3]
  simp only [sliceRange_one, pick_run, List.size_toArray] <;> rfl
noncomputable def rSlL (K : Fg) : V -> Option Int -> Option Int -> Hp -> VK -> Prop := fun x lo hi H Q => ∃ a xs, x = .ref a /\ SqL K H a xs /\ ∀ p, H p = none -> Q (.ref p) (upd H p (.lst (cutV xs lo hi)))
theorem sl_list : SlR X (rSlL X.K) := by
  intro pins s σ H x v vl vu lo hi sl Q I rx hs pl pu h
  obtain ⟨a, xs, rfl, hx, q⟩ := h
  cases rx
  obtain ⟨its, r, ht, hz⟩ := I.list hx
  have hlen := r.length
  refine ⟨"list", _, slot_list_getitem.lookup, ht.isList.typeIs, ?_⟩
  refine wpAny_getItem_list_slice ht.isList hs pl pu .none (by simp) ?_ (by rw [List.size_toArray] <;> omega)
  rw [slicePick_cut, <- hlen]
  refine ⟨.ref s.heap.objs.size, _, I.laid (t' := s.toks) (o := .lst (cutV xs lo hi)) (fun b ob q => Heap.get?_push_of_some _ q) (Nat.le_refl _) ?_, rfl, q _ (I.hok.fresh (Nat.le_refl _))⟩
  exact ⟨Nat.le_trans (cutV_length xs lo hi) hz, _, 0, (r.drop (HT.sIx xs.length 0 lo)).take (HT.sIx xs.length xs.length hi - HT.sIx xs.length 0 lo), Heap.get?_push_size _ rfl⟩
noncomputable def flatV : V -> Bool
  | .non => true
  | .bl _ => true
  | .int _ => true
  | .str _ => true
  | _ => false
noncomputable def eqV : V -> V -> Bool
  | .non, .non => true
  | .bl a, .bl b => a == b
  | .bl a, .int b => (if a then 1 else 0) == b
  | .int a, .bl b => a == (if b then 1 else 0)
  | .int a, .int b => a == b
  | .str a, .str b => a == b
  | _, _ => false
theorem eqAt_V {A : Around} {s : Shared} {y x : V} {u v : Value} (ry : RelV y u) (rx : RelV x v) (fy : flatV y = true) (fx : flatV x = true) : SeqAt.EqAt A s u v (eqV y x) := by
  cases y with
  | non =>
    cases ry
    cases x with
    | non => cases rx; exact SeqAt.EqAt.same _
    | bl b => cases rx; exact SeqAt.EqAt.none_bool b
    | int b => obtain ⟨t, rfl⟩ := rx; exact SeqAt.EqAt.none_int b t
    | str b => obtain ⟨t, rfl⟩ := rx; exact SeqAt.EqAt.none_str b t
    | _ => exact absurd (show false = true from fx) Bool.false_ne_true
  | bl a =>
    cases ry
    cases x with
    | non => cases rx; exact SeqAt.EqAt.bool_none a
    | bl b => cases rx; exact SeqAt.EqAt.bool_bool a b
    | int b => obtain ⟨t, rfl⟩ := rx; exact SeqAt.EqAt.bool_int a b t
    | str b => obtain ⟨t, rfl⟩ := rx; exact SeqAt.EqAt.bool_str a b t
    | _ => exact absurd (show false = true from fx) Bool.false_ne_true
  | int a =>
    obtain ⟨t', rfl⟩ := ry
    cases x with
    | non => cases rx; exact SeqAt.EqAt.int_none a t'
    | bl b => cases rx; exact SeqAt.EqAt.int_bool a t' b
    | int b => obtain ⟨t, rfl⟩ := rx; exact SeqAt.EqAt.int_int a t' b t
    | str b => obtain ⟨t, rfl⟩ := rx; exact SeqAt.EqAt.int_str a t' b t
    | _ => exact absurd (show false = true from fx) Bool.false_ne_true
  | str a =>
    obtain ⟨t', rfl⟩ := ry
    cases x with
    | non => cases rx; exact SeqAt.EqAt.str_none a t'
    | bl b => cases rx; exact SeqAt.EqAt.str_bool a t' b
    | int b => obtain ⟨t, rfl⟩ := rx; exact SeqAt.EqAt.str_int a t' b t
    | str b => obtain ⟨t, rfl⟩ := rx; exact SeqAt.EqAt.str_str a t' b t
    | _ => exact absurd (show false = true from fx) Bool.false_ne_true
  | _ => exact absurd (show false = true from fy) Bool.false_ne_true
noncomputable def eqU (x : V) (u : Value) : Bool := match u with
  | .none => eqV .non x
  | .bool b => eqV (.bl b) x
  | .int i _ => eqV (.int i) x
  | .str z _ => eqV (.str z) x
  | _ => false
theorem eqU_of {x y : V} {u : Value} (r : RelV y u) (f : flatV y = true) : eqU x u = eqV y x := by
  cases y with
  | non => cases r; rfl
  | bl b => cases r; rfl
  | int i => obtain ⟨t, rfl⟩ := r; rfl
  | str z => obtain ⟨t, rfl⟩ := r; rfl
  | _ => exact absurd (show false = true from f) Bool.false_ne_true
theorem any_eqU {x : V} : ∀ {xs : List V} {us : List Value}, yD xs us -> xs.all flatV = true -> us.any (eqU x) = xs.any fun y => eqV y x
  | _, _, .nil, _ => rfl
  | y :: xs, u :: us, .cons r t, f => by
    rw [List.all_cons, Bool.and_eq_true] at f
    rw [List.any_cons, List.any_cons, eqU_of r f.1, any_eqU t f.2]
theorem mem_eqAt {A : Around} {s : Shared} {x : V} {v : Value} (rx : RelV x v) (fx : flatV x = true) : ∀ {xs : List V} {us : List Value}, yD xs us -> xs.all flatV = true -> ∀ u ∈ us, SeqAt.EqAt A s u v (eqU x u)
  | _, _, .nil, _ => fun u hu => by cases hu
  | y :: xs, u :: us, .cons r t, f => fun u' hu => by
    rw [List.all_cons, Bool.and_eq_true] at f
    rcases List.mem_cons.mp hu with rfl | hu
    · rw [eqU_of r f.1]; exact eqAt_V r rx f.1 fx
    · exact mem_eqAt rx fx t f.2 u' hu
noncomputable def inV (x : V) (xs : List V) : Bool := xs.any fun y => eqV y x
noncomputable def rIn (K : Fg) (neg : Bool) : R2 := fun x y H Q => ∃ p xs, y = .ref p /\ (SqL K H p xs \/ SqT K H p xs) /\ flatV x = true /\ xs.all flatV = true /\ Q (.bl (if neg then !inV x xs else inV x xs)) H
theorem op_in_seq : OpR X (compareOp .In) (rIn X.K false) := by
  intro pins s σ H x y v u Q I rx ry h
  obtain ⟨p, xs, rfl, hq, fx, fs, q⟩ := h
  cases ry
  rcases hq with hq | hq
  · obtain ⟨its, r, pl, hz⟩ := I.list hq
    refine SeqAt.in_listAt (eqU x) pl.isList (fun w hw => mem_eqAt rx fx r fs w (by simpa using hw)) ⟨.bl _, H, I, rfl, ?_⟩
    rw [show its.toArray.any (eqU x) = its.any (eqU x) by simp, any_eqU r fs]
    exact q
  · obtain ⟨its, r, pl, hz⟩ := I.tuple hq
    refine SeqAt.in_tupleAt (eqU x) pl (fun w hw => mem_eqAt rx fx r fs w (by simpa using hw)) ⟨.bl _, H, I, rfl, ?_⟩
    rw [show its.toArray.any (eqU x) = its.any (eqU x) by simp, any_eqU r fs]
    exact q
theorem call_len_seq : CallR X (.builtin "len") (fun xs H Q => ∃ p ys, xs = [.ref p] /\ (SqL X.K H p ys \/ SqT X.K H p ys) /\ Q (.int ys.length) H) := by
  intro pins s σ H xs us Q I r h
  obtain ⟨p, ys, rfl, hq, q⟩ := h
  obtain ⟨u, rfl, rx⟩ := vals1 r
  cases rx
  have hn := line63
  rcases hq with hq | hq
  · obtain ⟨its, r', pl, hz⟩ := I.list hq
    have hlen := r'.length
    exact Calls.call_len_list pl.isList (by simp only [List.size_toArray] <;> omega) ⟨.int ys.length, H, I.tok _, ⟨s.toks + 1, by rw [List.size_toArray, hlen]⟩, q⟩
  · obtain ⟨its, r', pl, hz⟩ := I.tuple hq
    have hlen := r'.length
    exact len_tuple pl (by simp only [List.size_toArray] <;> omega) ⟨.int ys.length, H, I.tok _, ⟨s.toks + 1, by rw [List.size_toArray, hlen]⟩, q⟩
theorem call_len_str : CallR X (.builtin "len") (fun xs H Q => ∃ z, xs = [.str z] /\ z.length <= sizeLine /\ Q (.int z.length) H) := by
  intro pins s σ H xs us Q I r h
  obtain ⟨z, rfl, hz, q⟩ := h
  obtain ⟨u, rfl, t, rfl⟩ := vals1 r
  have hn := line63
  exact len_str (by omega) ⟨.int z.length, H, I.tok _, ⟨_, rfl⟩, q⟩
theorem CallR.or {f : Value} {r r' : List V -> Hp -> VK -> Prop} (h : CallR X f r) (h' : CallR X f r') : CallR X f (fun xs H Q => r xs H Q \/ r' xs H Q) := by
  intro pins s σ H xs us Q I rs q
  rcases q with q | q
  · exact h pins s σ H xs us Q I rs q
  · exact h' pins s σ H xs us Q I rs q
theorem call_list_of : CallR X (.type "list") (fun xs H Q => ∃ p ys, xs = [.ref p] /\ (SqL X.K H p ys \/ SqT X.K H p ys) /\ ∀ l, H l = none -> Q (.ref l) (upd H l (.lst ys))) := by
  intro pins s σ H xs us Q I r h
  obtain ⟨p, ys, rfl, hq, q⟩ := h
  obtain ⟨u, rfl, rx⟩ := vals1 r
  cases rx
  have fin : ∀ (its : List Value), yD ys its -> ys.length <= sizeLine -> ∀ (h' : Heap) (c' : Nat), (∀ b o', s.heap.get? b = some o' -> h'.get? b = some o') ->
      h'.get? s.heap.objs.size = some { cls := .type "list", dict := none, data := .seq its.toArray c', slots := #[] } -> EP X pins σ Q (.ref s.heap.objs.size) { s with heap := h' } := fun its r' hz h' c' kp e =>
    ⟨.ref s.heap.objs.size, _, I.laid (t' := s.toks) kp (Nat.le_refl _) (show ObjOk X.prog X.w _ h' _ (.lst ys) from ⟨hz, its, c', r', e⟩), rfl, q _ (I.hok.fresh (Nat.le_refl _))⟩
  rcases hq with hq | hq
  · obtain ⟨its, r', pl, hz⟩ := I.list hq
    have hlen := r'.length
    obtain ⟨o, ho, hc, n, hd⟩ := pl.isList
    exact call_list_seq p (.inl rfl) ho hc hd (fun h' c' kp e => fin its r' hz h' c' kp e) (by simp only [List.size_toArray] <;> omega)
  · obtain ⟨its, r', pl, hz⟩ := I.tuple hq
    have hlen := r'.length
    obtain ⟨o, ho, hc, n, hd⟩ := pl
    exact call_list_seq p (.inr rfl) ho hc hd (fun h' c' kp e => fin its r' hz h' c' kp e) (by simp only [List.size_toArray] <;> omega)
theorem call_tuple_of : CallR X (.type "tuple") (fun xs H Q => ∃ p ys, xs = [.ref p] /\ ((SqL X.K H p ys /\ ∀ l, H l = none -> Q (.ref l) (upd H l (.tup ys))) \/ (SqT X.K H p ys /\ Q (.ref p) H))) := by
  intro pins s σ H xs us Q I r h
  obtain ⟨p, ys, rfl, h⟩ := h
  obtain ⟨u, rfl, rx⟩ := vals1 r
  cases rx
  rcases h with ⟨hq, q⟩ | ⟨hq, q⟩
  · obtain ⟨its, r', pl, hz⟩ := I.list hq
    have hlen := r'.length
    refine call_tuple_list pl.isList (fun h' kp => ?_) (by simp only [List.size_toArray] <;> omega)
    have I1 : Inv X pins σ H { s with heap := h' } := I.kept (t' := s.toks) kp
    have I2 : Inv X pins σ (upd H h'.objs.size (.tup ys)) { s with heap := h'.push { cls := .type "tuple", data := .seq its.toArray } } :=
      I1.laid (t' := s.toks) (fun b o e => Heap.get?_push_of_some _ e) (Nat.le_refl _) (show ObjOk X.prog X.w _ _ _ (.tup ys) from ⟨hz, its, r', IsTup.new _ _⟩)
    exact ⟨.ref h'.objs.size, _, I2, rfl, q _ (I1.hok.fresh (Nat.le_refl _))⟩
  · obtain ⟨its, r', pl, hz⟩ := I.tuple hq
    exact call_tuple_same pl ⟨.ref p, H, I, rfl, q⟩
noncomputable def tyV (K : Fg) (T : String) (x : V) (H : Hp) : Prop := match x with
  | .str _ => T = "str"
  | .int _ => T = "int"
  | .ref p => (T = "list" /\ ∃ xs, SqL K H p xs) \/ (T = "tuple" /\ ∃ o, K.lookup p = some o /\ o.cls = .type "tuple" /\ o.dict = none) \/
      (T = "dict" /\ ((∃ kvs, H p = some (.dK kvs)) \/ ∃ kvs, H p = some (.dT kvs))) \/ (T = "set" /\ ∃ S n, H p = some (.set S n))
  | _ => False
theorem tyV_is {pins : List (Addr × Obj)} {σ : St} {H : Hp} {s : Shared} {T : String} {x : V} {v : Value} (I : Inv X pins σ H s) (r : RelV x v) (ty : tyV X.K T x H) :
    s.TypeIs v T /\ ∀ a, v = .ref a -> ∃ ob, s.heap.get? a = some ob /\ ob.dict = none := by
  cases x with
  | str z =>
    obtain ⟨t, rfl⟩ := r
    cases (show T = "str" from ty)
    exact ⟨typeIs_str s z t, fun _ e => nomatch e⟩
  | int i =>
    obtain ⟨t, rfl⟩ := r
    cases (show T = "int" from ty)
    exact ⟨typeIs_int s i t, fun _ e => nomatch e⟩
  | ref p =>
    cases r
    rcases ty with ⟨rfl, xs, hq⟩ | ⟨rfl, o, hk, hc, hd⟩ | ⟨rfl, hk⟩ | ⟨rfl, S, n, hk⟩
    · obtain ⟨its, _, pl, _⟩ := I.list hq
      refine ⟨pl.isList.typeIs, fun a e => ?_⟩
      cases e
      obtain ⟨o, n, e, c, hd, _⟩ := pl
      exact ⟨o, e, hd⟩
    · refine ⟨⟨o, I.kIn p o hk, hc⟩, fun a e => ?_⟩
      cases e
      exact ⟨o, I.kIn _ o hk, hd⟩
    · have z : ∃ o, s.heap.get? p = some o /\ o.ExactDict := by
        rcases hk with ⟨kvs, hk⟩ | ⟨kvs, hk⟩
        · obtain ⟨_, _, _, _, o, _, _, e, ex, _⟩ := I.hok p _ hk
          exact ⟨o, e, ex⟩
        · obtain ⟨_, _, _, _, o, _, _, e, ex, _⟩ := I.hok p _ hk
          exact ⟨o, e, ex⟩
      obtain ⟨o, e, ex⟩ := z
      refine ⟨⟨o, e, ex.1⟩, fun a e2 => ?_⟩
      cases e2
      exact ⟨o, e, ex.2.1⟩
    · obtain ⟨o, _, _, _, e, ex, _⟩ := I.hok p _ hk
      refine ⟨⟨o, e, ex.1⟩, fun a e2 => ?_⟩
      cases e2
      exact ⟨o, e, ex.2.1⟩
  | _ => exact False.elim ty
noncomputable def tBM0 (K : Fg) (T : String) (r : V -> List V -> Hp -> VK -> Prop) (to : TE) : TE := fun σ H Q => to σ H fun x H1 => tyV K T x H1 /\ r x [] H1 Q
noncomputable def tBM (K : Fg) (T : String) (r : V -> List V -> Hp -> VK -> Prop) (to : TE) (t : TA) : TE := fun σ H Q => to σ H fun x H1 => tyV K T x H1 /\ t σ H1 fun xs H2 => r x xs H2 Q
variable {o e : Expr} {es : List Expr} {to : TE} {t : TA} {name : Str} {apos cpos : Pos} {T id : String} {r : V -> List V -> Hp -> VK -> Prop}
theorem pe_bm0 (pa : PlainAttrs T) (slot : Slot T name id) (hty : typeOf (.builtin id) = pure (.type "method_descriptor")) (hm : MtR X id r) (ho : PE X o to)
    (hbase : attributeBase o name X.env (eval o X.env) = eval o X.env := by rfl) (hline : (apos.endLine == cpos.line) = true := by rfl) : PE X (.Call (.Attribute o name apos) [] [] cpos) (tBM0 X.K T r to) := by
  intro pins s σ H Q I h
  refine wpAny_Call_method0_late hbase hline (thn (ho pins s σ H _ I h) fun v s1 ⟨x, H1, I1, r1, ty, q1⟩ => ?_)
  obtain ⟨h1, h2⟩ := tyV_is I1 r1 ty
  exact ⟨T, id, pa, slot, hty, h1, h2, Calls.callWith_builtin rfl (PySem.evalArgs_none (hm pins s1 σ H1 x [] v [] Q I1 r1 .nil q1))⟩
theorem pe_bm (pa : PlainAttrs T) (slot : Slot T name id) (hty : typeOf (.builtin id) = pure (.type "method_descriptor")) (hm : MtR X id r) (ho : PE X o to) (ha : PA X (e :: es) t)
    (hbase : attributeBase o name X.env (eval o X.env) = eval o X.env := by rfl)
    (hfew : ((backTo cpos (starEach (e :: es) X.env)).all (fun x => !x.1) && (backToKw cpos (keywordEach [] X.env)).all (fun x => x.1.isSome)
      && decide ((e :: es).length + ([] : List Keyword).length + (if ([] : List Keyword).isEmpty then 0 else 1) < 30)) = true := by rfl)
    (hline : (apos.endLine == cpos.line) = true := by rfl) (hs : starEach (e :: es) X.env = (false, eval e X.env) :: starEach es X.env := by rfl) (hplain : (backTo cpos (starEach es X.env)).any (·.1) = false := by rfl) :
    PE X (.Call (.Attribute o name apos) (e :: es) [] cpos) (tBM X.K T r to t) := by
  intro pins s σ H Q I h
  refine wpAny_Call_method_late hbase hfew hline rfl (thn (ho pins s σ H _ I h) fun v s1 ⟨x, H1, I1, r1, ty, q1⟩ => ?_)
  obtain ⟨h1, h2⟩ := tyV_is I1 r1 ty
  refine ⟨T, id, pa, slot, hty, h1, h2, ?_⟩
  have hA := ha cpos pins s1 σ H1 _ I1 q1
  rw [hs] at hA ⊢
  refine Calls.callWith_builtin (by show (false || (backTo cpos (starEach es X.env)).any (·.1)) = false; rw [hplain] <;> rfl) (Calls.evalArgs_plain ?_)
  exact thn hA fun us s2 ⟨vs, H2, I2, r2, q2⟩ => hm pins s2 σ H2 x vs v us Q I2 r1 r2 q2
end
end L2
namespace L2
open PySem PySem.Spec PyProof.Rows
noncomputable def MtM (X : Cx) (id : String) (r : V -> List V -> Hp -> VK -> Prop) : Prop :=
  ∀ (pins : List (Addr × Obj)) (s : Shared) (σ : St) (H : Hp) (x : V) (xs : List V) (v : Value) (us : List Value) (Q : VK), Inv X pins σ H s -> RelV x v -> yD xs us -> r x xs H Q ->
    wpAny (model X.prog X.w) X.A (call (.builtin id) (v :: us)) (EP X pins σ Q) X.xe s
theorem yD.one : ∀ {x : V} {us : List Value}, yD [x] us -> ∃ u, us = [u] /\ RelV x u
  | _, _, .cons r .nil => ⟨_, rfl, r⟩
theorem yD.two : ∀ {x y : V} {us : List Value}, yD [x, y] us -> ∃ u v, us = [u, v] /\ RelV x u /\ RelV y v
  | _, _, _, .cons r (.cons q .nil) => ⟨_, _, rfl, r, q⟩
theorem yD.zero : ∀ {us : List Value}, yD [] us -> us = []
  | _, .nil => rfl
theorem yD.dropLast {xs : List V} {us : List Value} (h : yD xs us) : yD xs.dropLast us.dropLast := by
  induction h with
  | nil => exact .nil
  | cons r t ih =>
    cases t with
    | nil => exact .nil
    | cons q t' => exact .cons r ih
theorem yD.reverse {xs : List V} {us : List Value} (h : yD xs us) : yD xs.reverse us.reverse := by
  induction h with
  | nil => exact .nil
  | cons r t ih => rw [List.reverse_cons, List.reverse_cons]; exact yD.append ih (.cons r .nil)
theorem erase_last {α : Type} (l : List α) : l.eraseIdx (l.length - 1) = l.dropLast := by
  induction l with
  | nil => rfl
  | cons a r ih =>
    cases r with
    | nil => rfl
    | cons b r =>
      have e : (a :: b :: r).length - 1 = ((b :: r).length - 1) + 1 := by
        have h1 : (a :: b :: r).length = r.length + 2 := rfl
        have h2 : (b :: r).length = r.length + 1 := rfl
        omega
      rw [e, List.eraseIdx_cons_succ, ih]
      all_goals rfl
section
variable {X : Cx} {pins : List (Addr × Obj)} {σ : St} {H : Hp} {s : Shared} {l b : Addr} {xs ys zs : List V}
theorem Inv.lset {its its' : List Value} {n : Nat} {f : Array Value -> Array Value} {t' : Nat} (I : Inv X pins σ H s) (hH : H l = some (.lst xs))
    (e : s.heap.get? l = some { cls := .type "list", data := .seq its.toArray n }) (hf : f its.toArray = its'.toArray) (hv : yD ys its') (hz : ys.length <= sizeLine) :
    Inv X pins σ (upd H l (.lst ys)) { s with heap := s.heap.update l (Obj.mapSeq f), toks := t' } := by
  have q := PySem.IsL.update e f
  rw [hf] at q
  refine I.write (x := l) (e := l) (by rw [hH]; exact trivial) (.inl rfl) (fun b' u hb hu => (Heap.get?_update_other s.heap (Obj.mapSeq f) (Ne.symm hb)).trans hu) ⟨_, q⟩ ?_
  exact ⟨hz, its', _, hv, q⟩
theorem Inv.lnew {its : List Value} {t' : Nat} (I : Inv X pins σ H s) (hv : yD ys its) (hz : ys.length <= sizeLine) :
    Inv X pins σ (upd H s.heap.objs.size (.lst ys)) { s with heap := s.heap.push { cls := .type "list", data := .seq its.toArray }, toks := t' } :=
  I.laid (fun _ _ q => Heap.get?_push_of_some _ q) (Nat.le_refl _) ⟨hz, its, 0, hv, Heap.get?_push_size _ rfl⟩
theorem Inv.fresh (I : Inv X pins σ H s) : H s.heap.objs.size = none := I.hok.fresh (Nat.le_refl _)
theorem Inv.lstM (I : Inv X pins σ H s) (hH : H l = some (.lst xs)) : xs.length <= sizeLine /\ ∃ (its : List Value) (n : Nat), yD xs its /\ xs.length = its.length /\ s.heap.get? l = some { cls := .type "list", data := .seq its.toArray n } := by
  obtain ⟨z, its, n, r, e⟩ := I.hok l _ hH
  exact ⟨z, its, n, r, r.length, e⟩
theorem notLongL {n : Nat} (h : n <= sizeLine) : Builtin.List.listTooLong n = false := by
  unfold Builtin.List.listTooLong
  exact decide_eq_false (by omega)
end
section
variable {X : Cx}
noncomputable def rAppend : V -> List V -> Hp -> VK -> Prop := fun x vs H Q => ∃ l xs y, x = .ref l /\ vs = [y] /\ H l = some (.lst xs) /\ xs.length < sizeLine /\ Q .non (upd H l (.lst (xs ++ [y])))
theorem mt_append : MtM X "list.append" rAppend := by
  intro pins s σ H x vs v us Q I rx rv h
  obtain ⟨l, xs, y, rfl, rfl, hH, hz, q⟩ := h
  cases rx
  obtain ⟨u, rfl, ru⟩ := rv.one
  obtain ⟨z, its, n, r, hl, e⟩ := I.lstM hH
  refine call_meets F.slot_list_append ⟨_, e, rfl⟩ F.entry_list_append (F.args_list_append_2 _ _) (PySem.list_append l its.toArray n u (by rw [List.size_toArray]; omega)) ⟨e, ?_⟩
  refine ⟨.non, _, I.lset (its' := its ++ [u]) hH e (by simp) (r.append (.cons ru .nil)) ?_, rfl, q⟩
  rw [List.length_append, List.length_singleton]
  omega
noncomputable def rPop : V -> List V -> Hp -> VK -> Prop := fun x vs H Q => ∃ l xs y, x = .ref l /\ vs = [] /\ H l = some (.lst xs) /\ xs[xs.length - 1]? = some y /\ Q y (upd H l (.lst xs.dropLast))
theorem mt_pop : MtM X "list.pop" rPop := by
  intro pins s σ H x vs v us Q I rx rv h
  obtain ⟨l, xs, y, rfl, rfl, hH, hy, q⟩ := h
  cases rx
  have hus := rv.zero
  subst hus
  obtain ⟨z, its, n, r, hl, e⟩ := I.lstM hH
  obtain ⟨u, hu, ru⟩ := r.get hy
  have hy' : its.toArray[its.toArray.size - 1]? = some u := by
    show its.toArray[its.length - 1]? = some u
    rw [<- Array.getElem?_toList, <- hl]
    exact hu
  refine call_meets F.slot_list_pop ⟨_, e, rfl⟩ F.entry_list_pop (F.args_list_pop_1 _) (MeetsSeq.list_pop_last l its.toArray n u hy' (by rw [List.size_toArray]; omega)) ⟨e, ?_⟩
  refine ⟨y, _, I.lset (its' := its.dropLast) hH e ?_ r.dropLast ?_, ru, q⟩
  · show its.toArray.eraseIdxIfInBounds (its.toArray.size - 1) = its.dropLast.toArray
    rw [List.size_toArray, List.eraseIdxIfInBounds_toArray, erase_last]
  · rw [List.length_dropLast]
    omega
end
end L2
namespace Att
open PySem PySem.W PySem.Calls PyProof.Rows
theorem ints_of_wellAll {P : Params} {h : Heap} : ∀ (ns : List Int) (vs : List Value), WellAll P h vs (ns.map WData.int) -> IntsAre vs ns := by
  intro ns
  induction ns with
  | nil =>
    intro vs w
    rw [List.map_nil] at w
    cases w
    exact .nil
  | cons n ns ih =>
    intro vs w
    rw [List.map_cons] at w
    cases w with
    | cons a b =>
      cases a
      exact .cons _ _ (ih _ b)
theorem script_of {l : OpenLaw} {n : Nat} (hn : l.most = some n) {P : Params} {h : Heap} {args : List WData} {vals : List Value}
    (hpre : l.row.toRowW.claim.pre args = true) (hwl : WellAll P h vals args) :
    ∃ a vs ns, vals = [Value.ref a] /\ args = [WData.list (ns.map WData.int)] /\ h.get? a = some { cls := .type "list", data := .seq vs.toArray } /\ IntsAre vs ns /\ ns.length <= n := by
  have hsh : WShape.hasAll [] args [.list .int] = true := (pre_splitW hpre).1
  have hc : l.pre.holds [] { args := args } = true := (pre_splitW hpre).2
  obtain ⟨d, r, rfl, h1, h2⟩ := hasAllW_cons hsh
  obtain rfl := hasAllW_nil h2
  obtain ⟨xs, rfl, h3⟩ := hasW_list h1
  obtain ⟨ns, rfl⟩ := items_int h3
  have hlen : ns.length <= n := by
    unfold OpenLaw.pre at hc
    have h4 : (WTm.not (.lt (.lit (.int (n : Int))) (.len (.arg 0)))).holds [] { args := [.list (ns.map .int)] } = true := by
      have h4 := (holds_andW hc).1
      rw [hn] at h4
      exact h4
    have h5 := condW_of h4 (w_not (w_lt w_lit (w_len_list (w_arg rfl))))
    rw [List.length_map] at h5
    refine Nat.le_of_not_lt fun q => ?_
    have q' : (n : Int) < ((ns.length : Nat) : Int) := by omega
    first
      | (rw [decide_eq_true q'] at h5; exact absurd h5 (by decide))
      | (simp at h5; omega)
  cases hwl with
  | cons w1 w2 =>
    cases w2
    cases w1 with
    | list ho hall => exact ⟨_, _, ns, rfl, rfl, ho, ints_of_wellAll ns _ hall, hlen⟩
theorem post_true (l : OpenLaw) (args : List WData) : l.row.toRowW.claim.post args (.bool true) args = true :=
  postW_of (r := l.row.toRowW) (X := (true == true))
    (show WShape.has [] (.bool true) .bool = true by first | rfl | decide | simp [WShape.has, WShape.arms, WShape.armsAll])
    (show (WTm.eq .res (.lit (.bool true))).value [] { args := args, res := some (.bool true), after := args } = some (.bool (true == true)) from w_eq_bool (w_res rfl) w_lit) rfl
theorem attach_call {l : OpenLaw} {n : Nat} {q : Program} {loose : List Str} {XP : (Str -> Option Value) -> Heap -> Prop} {YP : World -> Heap -> Prop} {d : DefRec}
    (hn : l.most = some n) (hdf : d.params.defaults = [])
    (call : ∀ (w : World) (s₀ s₁ : Shared) (mg mb : Str -> Option Value) (fa : Addr) (o : Obj) (pm cd doc : Value) (a : Addr) (vs : List Value) (ns : List Int),
      Ground q loose [] XP w s₀ mg mb s₁.heap -> YP w s₁.heap ->
      s₁.heap.get? fa = some o -> o.data = .func (docDef d.name d.params d.body d.scope pm cd doc) -> s₁.heap.CodeRec cd d.name -> mg d.name = some (.ref fa) ->
      s₁.heap.get? a = some { cls := .type "list", data := .seq vs.toArray } -> IntsAre vs ns -> ns.length <= n -> s₁.gens = #[] ->
      codeAny (model l.prog w) callerA (.call (.ref fa) ⟨[.ref a], []⟩) (fun r s' => r = .ok (.ret (.bool true)) /\ OldK s₁.heap s'.heap /\ s'.os = s₁.os /\ AllBare s'.gens) s₁) :
    WalkO q loose XP YP l.row.toRowW d [] (fun f vs => PySem.call f vs) := by
  intro w s₀ s₁ mg mb G Y fa o pm cd doc dV kV ho hd hcd hD hmg hg args vals as hpre hlay hrd hwl hlo
  obtain rfl : dV = .none := Dflts.none hD hdf
  obtain rfl : kV = .none := Dflts.noKw hD
  obtain ⟨a, vs, ns, rfl, rfl, hobj, hints, hlen⟩ := script_of hn hpre hwl
  refine enter_call (codeAny_mono (call w s₀ s₁ mg mb fa o pm cd doc a vs ns G Y ho (fd_plain hd) hcd hmg hobj hints hlen hg) fun r s' hq => ?_)
  obtain ⟨rfl, h2, h3, h4⟩ := hq
  exact ⟨.inl ⟨.bool true, .bool true, [], rfl, fun _ => rfl, .bool true, post_true l _, fun _ => ⟨List.Pairwise.nil, fun _ hm => (nomatch hm)⟩⟩, h2, h3, h4⟩
end Att
namespace L2
open PySem PySem.Spec PyProof.Rows
theorem vals_ints : ∀ {vs : List Value} {ns : List Int}, IntsAre vs ns -> yD (ns.map V.int) vs
  | _, _, .nil => .nil
  | _, _, .cons n t h => .cons ⟨t, rfl⟩ (vals_ints h)
noncomputable def Only (H : Hp) : Prop := ∀ b, H b = none \/ ∃ o xs, H b = some (.frz o (.lst xs))
theorem law_call {P : Program} {w : World} {K : Fg} {mg mb : Str -> Option Value} {CX : CXT} {k : Nat} {fa a : Addr} {fd : FuncData} {x : Str} {sp : Sp} {s₁ : Shared} {vs : List Value} {ns : List Int}
    (KX : K.In s₁.heap) (hns : s₁.heap.Ns mainGlobals mg) (hb : s₁.heap.Ns builtinsNs mb) (hbb : ∀ x : Str, x ≠ "__name__" -> mb x = bootBuiltins x) (hlim : s₁.heap.NoLimit) (hg : s₁.gens = #[])
    (ha : s₁.heap.get? a = some { cls := .type "list", data := .seq vs.toArray }) (hi : IntsAre vs ns) (hl : ns.length <= sizeLine) (hr : Room k callerA)
    (F : ∀ base : Heap, K.In base -> base.Ns mainGlobals mg -> FnOk P w K mg base CX k fa fd [x] sp) (hbind : ∀ (s : Shared) (u : Value), BindsTo s fd ⟨[u], []⟩ [(x, u)])
    (hsp : ∀ H : Hp, Only H -> SqL K H a (ns.map V.int) -> sp [.ref a] H (fun v _ => v = .bl true) fun _ _ _ => False)
    (hCX : ∀ H e s', CX [] H s₁ (fun _ _ _ => False) e s' -> False) :
    codeAny (model P w) callerA (.call (.ref fa) ⟨[.ref a], []⟩) (fun r s' => r = .ok (.ret (.bool true)) /\ OldK s₁.heap s'.heap /\ s'.os = s₁.os /\ AllBare s'.gens) s₁ := by
  have rv := vals_ints hi
  have lenV := hi.length
  have core : ∀ H : Hp, Only H -> SqL K H a (ns.map V.int) -> HOk P w H s₁.heap -> (∀ b, H b ≠ none -> b = a) -> (H a ≠ none -> K.lookup a = none) ->
      codeAny (model P w) callerA (.call (.ref fa) ⟨[.ref a], []⟩) (fun r s' => r = .ok (.ret (.bool true)) /\ OldK s₁.heap s'.heap /\ s'.os = s₁.os /\ AllBare s'.gens) s₁ := by
    intro H hO hS hok hA hK
    have base_of : ∀ {b : Addr} {o : Obj}, s₁.heap.get? b = some o -> H b = none -> (hidT s₁.heap H).get? b = some o := fun e n => hidT_get e n
    have noA : ∀ {b : Addr} {o : Obj} {es : Array DictEntry} {ep : Nat}, s₁.heap.get? b = some o -> o.data = .dict es ep -> H b = none := fun {b o es ep} e d => by
      cases q : H b with
      | none => rfl
      | some u =>
        have e' : b = a := hA b (by rw [q]; simp)
        subst e'
        rw [ha] at e; cases e
        have d' : Data.seq vs.toArray _ = Data.dict es ep := d
        cases d'
    have nsK : ∀ {b : Addr} {m : Str -> Option Value}, s₁.heap.Ns b m -> (hidT s₁.heap H).Ns b m := fun {b m} ⟨o, es, ep, e, d, r⟩ => ⟨o, es, ep, base_of e (noA e d), d, r⟩
    have hKb : K.In (hidT s₁.heap H) := fun b o e => base_of (KX b o e) (by
      cases q : H b with
      | none => rfl
      | some u =>
        have e' : b = a := hA b (by rw [q]; simp)
        subst e'
        rw [hK (by rw [q]; simp)] at e; cases e)
    have hM : Mod K mg (hidT s₁.heap H) := ⟨hKb, nsK hns, ⟨mb, nsK hb, hbb⟩, let ⟨mc, h1, h2⟩ := hlim; ⟨mc, nsK h1, h2⟩⟩
    have e0 : Env0 P w K mg (hidT s₁.heap H) callerA [] s₁ H := ⟨rfl, hM, fun b o e => of_hidT e, Nat.le_of_eq (hidT_size _ _), trivial, fun b hb => absurd (show b ∈ ([] : List Addr) from hb) (by simp), hok, .of_eq hg⟩
    refine codeAny_mono ((F _ hKb (nsK hns)).run callerA [] s₁ H ⟨[.ref a], []⟩ [.ref a] [.ref a] _ _ hr e0 (hbind s₁ (.ref a)) (.cons rfl .nil) (hsp H hO hS)) fun r s' h => ?_
    cases r with
    | error e => exact (hCX H e s' h).elim
    | ok fl =>
      cases fl with
      | next => exact False.elim h
      | brk => exact False.elim h
      | cont => exact False.elim h
      | ret u =>
        obtain ⟨v, H', os, bare, un, hok', r', q⟩ := h
        have q' : v = .bl true := q
        subst q'
        obtain rfl : u = Value.bool true := r'
        refine ⟨rfl, OldK.of_keep fun b o e => ?_, os, bare⟩
        cases q : H b with
        | none => exact un.keep b o e q (by intro z; exact absurd (show b ∈ ([] : List Addr) from z) (by simp)) (by simp)
        | some u =>
          rcases hO b with z | ⟨ob, xs, z⟩
          · rw [q] at z; cases z
          · have z2 := un.frzs b ob _ z
            obtain ⟨e1, _⟩ := hok b _ z
            obtain ⟨e2, _⟩ := hok' b _ z2
            rw [e] at e1; cases e1
            exact e2
  cases hk : K.lookup a with
  | some o =>
    have e := KX a o hk
    rw [ha] at e
    cases e
    refine core (fun _ => none) (fun _ => .inl rfl) (.inr ⟨_, vs.toArray, _, hk, rfl, rfl, rfl, by rw [List.size_toArray, lenV]; exact hl, by simpa using rv⟩) (fun b u z => by have z' : (none : Option HO) = some u := z; cases z') (fun b z => absurd rfl z) fun z => absurd rfl z
  | none =>
    refine core (fun b => if b = a then some (.frz { cls := .type "list", data := .seq vs.toArray } (.lst (ns.map V.int))) else none) (fun b => ?_) (.inl (.inr ⟨{ cls := .type "list", data := .seq vs.toArray }, if_pos rfl⟩)) (fun b u z => ?_) (fun b z => ?_) fun _ => hk
    · by_cases hb : b = a
      · exact .inr ⟨_, _, if_pos hb⟩
      · exact .inl (if_neg hb)
    · by_cases hb : b = a
      · have z' := (if_pos hb).symm.trans z
        cases z'
        subst hb
        exact ⟨ha, by rw [List.length_map]; exact hl, vs, _, rv, ha⟩
      · have z' := (if_neg hb).symm.trans z
        cases z'
    · by_cases hb : b = a
      · exact hb
      · exact absurd (if_neg hb) z
end L2
namespace L2
open PySem PySem.Spec PyProof.Rows
theorem walk_of {l : PySem.W.OpenLaw} {n k : Nat} {q : Program} {loose : List Str} {XP : (Str -> Option Value) -> Heap -> Prop} {YP : World -> Heap -> Prop} {d : DefRec} {K : Params -> Fg} {CX : World -> CXT} {sp : World -> Sp} {x : Str}
    (hn : l.most = some n) (hn2 : n <= sizeLine) (hdf : d.params.defaults = []) (hr : Room k callerA)
    (hY : ∀ (w : World) (h : Heap), YP w h -> (K w.params).In h)
    (F : ∀ (w : World) (mg : Str -> Option Value) (fa : Addr) (h : Heap), (K w.params).In h -> h.Ns mainGlobals mg -> mg d.name = some (.ref fa) ->
      ∃ fd : FuncData, (∀ (s : Shared) (u : Value), BindsTo s fd ⟨[u], []⟩ [(x, u)]) /\
        ∀ base : Heap, (K w.params).In base -> base.Ns mainGlobals mg -> FnOk l.prog w (K w.params) mg base (CX w) k fa fd [x] (sp w))
    (hsp : ∀ (w : World) (H : Hp) (a : Addr) (ns : List Int), ns.length <= n -> Only H -> SqL (K w.params) H a (ns.map V.int) -> sp w [.ref a] H (fun v _ => v = .bl true) fun _ _ _ => False)
    (hCX : ∀ (w : World) (H : Hp) (s : Shared) (e : Value) (s' : Shared), CX w [] H s (fun _ _ _ => False) e s' -> False) :
    PySem.W.WalkO q loose XP YP l.row.toRowW d [] (fun f vs => PySem.call f vs) := by
  refine Att.attach_call hn hdf fun w s₀ s₁ mg mb fa o pm cd doc a vs ns G Y ho hd hcd hmg hobj hints hlen hg => ?_
  have KX := hY w _ Y
  obtain ⟨fd, hb, hF⟩ := F w mg fa _ KX G.T.g hmg
  exact law_call KX G.T.g G.T.b G.T.builtins G.T.nolimit hg hobj hints (Nat.le_trans hlen hn2) hr hF hb (fun H hO hS => hsp w H a ns hlen hO hS) fun H e s' => hCX w H s₁ e s'
theorem walk_ofK {l : PySem.W.OpenLaw} {n k : Nat} {q : Program} {loose : List Str} {XP : (Str -> Option Value) -> Heap -> Prop} {YP : World -> Heap -> Prop} {d : DefRec} {K : Params -> Fg} {CX : CXT} {sp : Fg -> Sp} {x : Str}
    (hn : l.most = some n) (hn2 : n <= sizeLine) (hdf : d.params.defaults = []) (hr : Room k callerA)
    (hY : ∀ (w : World) (h : Heap), YP w h -> (K w.params).In h)
    (F : ∀ (w : World) (mg : Str -> Option Value) (fa : Addr) (h : Heap), (K w.params).In h -> h.Ns mainGlobals mg -> mg d.name = some (.ref fa) ->
      ∃ fd : FuncData, (∀ (s : Shared) (u : Value), BindsTo s fd ⟨[u], []⟩ [(x, u)]) /\
        ∀ base : Heap, (K w.params).In base -> base.Ns mainGlobals mg -> FnOk l.prog w (K w.params) mg base CX k fa fd [x] (sp (K w.params)))
    (hsp : ∀ (K : Fg) (H : Hp) (a : Addr) (ns : List Int), ns.length <= n -> Only H -> SqL K H a (ns.map V.int) -> sp K [.ref a] H (fun v _ => v = .bl true) fun _ _ _ => False)
    (hCX : ∀ (H : Hp) (s : Shared) (e : Value) (s' : Shared), CX [] H s (fun _ _ _ => False) e s' -> False) :
    PySem.W.WalkO q loose XP YP l.row.toRowW d [] (fun f vs => PySem.call f vs) :=
  walk_of (K := K) (CX := fun _ => CX) (sp := fun w => sp (K w.params)) hn hn2 hdf hr hY F (fun w H a ns h1 h2 h3 => hsp (K w.params) H a ns h1 h2 h3) fun _ H s e s' => hCX H s e s'
end L2
namespace L2
open PySem PySem.Spec PyProof.Rows
noncomputable def defArgs (s : Stmt) : Arguments := match s with
  | .FunctionDef _ a _ _ _ _ _ _ _ _ => a
  | _ => { posonlyargs := [], args := [], vararg := none, kwonlyargs := [], kw_defaults := [], kwarg := none, defaults := [] }
noncomputable def defBody (s : Stmt) : List Stmt := match s with
  | .FunctionDef _ _ b _ _ _ _ _ _ _ => b
  | _ => []
noncomputable def zZ (s : Stmt) : Scope := match s with
  | .FunctionDef _ _ _ _ _ _ sc _ _ _ => sc
  | _ => { kind := .function, names := [], isGenerator := false, isCoroutine := false }
noncomputable abbrev CX0 : CXT := fun _ _ _ _ _ _ => False
noncomputable abbrev E0 : XK := fun _ _ _ => False
theorem pass0 {X : Cx} : Passes CX0 X E0 := fun _ _ _ _ _ _ _ h => h.elim
structure Fun (K : Fg) (x qual : Str) (st : Stmt) (f : Addr) (fd : FuncData) : Prop where
  ex : ∃ (oc : Value) (od : Option Addr) (kV doc pm : Value) (an : Option Addr) (cdv ct : Value) (osl : Array (Option Value)),
    fd = PySem.W.fnOf x qual (defArgs st) (defBody st) (zZ st) .none kV doc pm an cdv ct /\ K.lookup f = some ⟨oc, od, .func fd, osl⟩ /\ PySem.W.codeIn K cdv qual = true
  kp : PySem.W.keepIn K (.ref f) = true
section
variable {P : Program} {w : World} {K : Fg} {mg : Str -> Option Value} {base : Heap}
theorem Fun.ok {x qual : Str} {st : Stmt} {f : Addr} {fd : FuncData} {N ps : List Str} {k : Nat} {sp : Sp} (F : Fun K x qual st f fd) (S : FnScope N ps (zZ st)) (len : ∀ vs H Q E, sp vs H Q E -> vs.length = ps.length)
    (hbody : ∀ (cdv : Value) (A : Around) (outer : List Env) (s : Shared) (H : Hp) (vs : List V) (Q : VK) (E : XK), Room k (A.deeper (envOfC qual (zZ st) s.heap.objs.size f cdv)) -> sp vs H Q E ->
      ∃ t, PSs (cxOf CX0 P w K mg base N qual (zZ st) f cdv A outer s H E).nox (defBody st) t /\ t { nx := fun _ H' => Q .non H', rt := Q } (start N vs) H) : FnOk P w K mg base CX0 (k + 1) f fd ps sp := by
  obtain ⟨oc, od, kV, doc, pm, an, cdv, ct, osl, rfl, lk, hcd⟩ := F.ex
  refine fn_of lk hcd S len fun A outer s H vs Q E hr hsp => ?_
  obtain ⟨t, h, q⟩ := hbody cdv A outer s H vs Q E hr hsp
  exact ⟨t, h.nox, q⟩
theorem Fun.binds {x qual : Str} {st : Stmt} {f : Addr} {fd : FuncData} {ps : List Str} (F : Fun K x qual st f fd)
    (h : ∀ (kV doc pm : Value) (an : Option Addr) (cdv ct : Value) (us : List Value), us.length = ps.length -> bindArgs (PySem.W.fnOf x qual (defArgs st) (defBody st) (zZ st) .none kV doc pm an cdv ct) ⟨us, []⟩ = pure (ps.zip us)) : Binds K fd ps [] := by
  obtain ⟨oc, od, kV, doc, pm, an, cdv, ct, osl, rfl, lk, hcd⟩ := F.ex
  exact .all (h kV doc pm an cdv ct)
theorem fun_mk {x qual : Str} {st : Stmt} {f : Addr} {oc : Value} {od an : Option Addr} {osl : Array (Option Value)} {kV doc pm cdv ct : Value} (l : K.lookup f = some ⟨oc, od, .func (PySem.W.fnOf x qual (defArgs st) (defBody st) (zZ st) .none kV doc pm an cdv ct), osl⟩)
    (c : PySem.W.codeIn K cdv qual = true) (k : PySem.W.keepIn K (.ref f) = true) : Fun K x qual st f (PySem.W.fnOf x qual (defArgs st) (defBody st) (zZ st) .none kV doc pm an cdv ct) := ⟨⟨oc, od, kV, doc, pm, an, cdv, ct, osl, rfl, l, c⟩, k⟩
end
section
variable {X : Cx}
theorem pv (i : Nat) {x : Str} {pos : Pos} (hN : X.N[i]? = some x := by rfl) (hv : Vis X.env.scope x := by first | exact Or.inl rfl | exact Or.inr (Or.inl rfl) | exact Or.inr (Or.inr rfl)) (hd : (x == ("__debug__" : Str)) = false := by decide)
    (hcd : (x == ("__classdict__" : Str)) = false := by decide) : PE X (.Name x pos) (tVar i) := pe_var hN hv hd hcd
end
theorem iteF {A B : Prop} (h : B) : if false = true then A else B := by
  rw [if_neg Bool.false_ne_true]
  exact h
theorem iteT {A B : Prop} (h : A) : if true = true then A else B := by
  rw [if_pos rfl]
  exact h
noncomputable def zR (H H' : Hp) : Prop := ∀ b o, H b = some o -> H' b = some o
theorem zR.refl (H : Hp) : zR H H := fun _ _ h => h
theorem zR.trans {H H1 H2 : Hp} (a : zR H H1) (b : zR H1 H2) : zR H H2 := fun c o h => b c o (a c o h)
theorem zR.free {H H' : Hp} (e : zR H H') {l : Addr} (h : H' l = Option.none) : H l = Option.none := by
  cases q : H l with
  | none => rfl
  | some o =>
    rw [e l o q] at h
    cases h
theorem zR.seq {K : Fg} {H H' : Hp} {a : Addr} {xs : List V} (e : zR H H') (h : SqL K H a xs) : SqL K H' a xs := by
  rcases h with (h | ⟨o, h⟩) | h
  · exact .inl (.inl (e _ _ h))
  · exact .inl (.inr ⟨o, e _ _ h⟩)
  · exact .inr h
end L2
namespace DD
open PySem PySem.Spec PyProof.Rows L2
noncomputable abbrev St := L2.St
inductive D where
  | non | bl (b : Bool) | int (i : Int) | str (s : List Nat) | tup (l : List D) | lst (l : List D) | ty (n : String) | ref (a : Addr) | dct (ks : List Key) (l : List D)
noncomputable def LsAt (K : Fg) (O : Addr -> Prop) (H : Hp) (a : Addr) (xs : List V) : Prop :=
  (¬ O a /\ Rd H a (.lst xs)) \/ ∃ (o : Obj) (its : Array Value) (n : Nat), K.lookup a = some o /\ o.cls = .type "list" /\ o.dict = none /\ o.data = .seq its n /\ its.size <= sizeLine /\ yD xs its.toList
theorem LsAt.sq {K : Fg} {O : Addr -> Prop} {H : Hp} {a : Addr} {xs : List V} (h : LsAt K O H a xs) : SqL K H a xs := h.imp (·.2) id
mutual
noncomputable def Is (K : Fg) (O : Addr -> Prop) (H : Hp) : D -> V -> Prop
  | .non, v => v = .non
  | .bl b, v => v = .bl b
  | .int i, v => v = .int i
  | .str s, v => v = .str ⟨s.toArray⟩
  | .ty n, v => v = .ty n
  | .ref a, v => v = .ref a
  | .tup l, v => ∃ a xs, v = .ref a /\ SqT K H a xs /\ IsL K O H l xs
  | .lst l, v => ∃ a xs, v = .ref a /\ LsAt K O H a xs /\ IsL K O H l xs
  | .dct ks l, v => ∃ a kvs, v = .ref a /\ ¬ O a /\ Rd H a (.dK kvs) /\ kvs.map (·.1) = ks /\ IsL K O H l (kvs.map (·.2))
noncomputable def IsL (K : Fg) (O : Addr -> Prop) (H : Hp) : List D -> List V -> Prop
  | [], vs => vs = []
  | d :: l, vs => ∃ v r, vs = v :: r /\ Is K O H d v /\ IsL K O H l r
end
noncomputable def Mb : HO -> Prop
  | .lst _ => True
  | .dK _ => True
  | .frz _ (.dK _) => True
  | _ => False
noncomputable def OLst (O : Addr -> Prop) (H : Hp) : Prop := ∀ a, O a -> ∃ o, H a = some o /\ Mb o
noncomputable def Keep (O : Addr -> Prop) (H H' : Hp) : Prop := ∀ b o, H b = some o -> ¬ O b -> H' b = some o
theorem Rd.some {H : Hp} {a : Addr} {u : HO} (h : Rd H a u) : ∃ o, H a = some o := by
  rcases h with h | ⟨o, h⟩
  · exact ⟨_, h⟩
  · exact ⟨_, h⟩
theorem SqT.keep {K : Fg} {O : Addr -> Prop} {H H' : Hp} {a : Addr} {xs : List V} (k : Keep O H H') (o : OLst O H) (h : SqT K H a xs) : SqT K H' a xs := by
  rcases h with (h | ⟨ob, h⟩) | h
  · exact .inl (.inl (k _ _ h fun z => by obtain ⟨ys, q, m⟩ := o a z; rw [h] at q; cases q; exact m))
  · exact .inl (.inr ⟨ob, k _ _ h fun z => by obtain ⟨ys, q, m⟩ := o a z; rw [h] at q; cases q; exact m⟩)
  · exact .inr h
theorem Rd.keep {O : Addr -> Prop} {H H' : Hp} {a : Addr} {u : HO} (k : Keep O H H') (n : ¬ O a) (h : Rd H a u) : Rd H' a u := by
  rcases h with h | ⟨ob, h⟩
  · exact .inl (k _ _ h n)
  · exact .inr ⟨ob, k _ _ h n⟩
mutual
theorem Is.mono {K : Fg} {O O' : Addr -> Prop} {H H' : Hp} (k : Keep O H H') (ol : OLst O H) (oo : ∀ a, O' a -> H a ≠ none -> O a) : ∀ (d : D) (v : V), Is K O H d v -> Is K O' H' d v
  | .non, v, h => by unfold Is at h ⊢; exact h
  | .bl b, v, h => by unfold Is at h ⊢; exact h
  | .int i, v, h => by unfold Is at h ⊢; exact h
  | .str s, v, h => by unfold Is at h ⊢; exact h
  | .ty n, v, h => by unfold Is at h ⊢; exact h
  | .ref a, v, h => by unfold Is at h ⊢; exact h
  | .tup l, v, h => by
    unfold Is at h ⊢
    obtain ⟨a, xs, e, q, r⟩ := h
    exact ⟨a, xs, e, SqT.keep k ol q, IsL.mono k ol oo l xs r⟩
  | .lst l, v, h => by
    unfold Is at h ⊢
    obtain ⟨a, xs, e, nq, r⟩ := h
    refine ⟨a, xs, e, ?_, IsL.mono k ol oo l xs r⟩
    rcases nq with ⟨n, q⟩ | q
    · exact .inl ⟨fun z => n (oo a z (by obtain ⟨o, q⟩ := Rd.some q; rw [q]; simp)), Rd.keep k n q⟩
    · exact .inr q
  | .dct ks l, v, h => by
    unfold Is at h ⊢
    obtain ⟨a, kvs, e, n, q, e2, r⟩ := h
    exact ⟨a, kvs, e, fun z => n (oo a z (by obtain ⟨o, q⟩ := Rd.some q; rw [q]; simp)), Rd.keep k n q, e2, IsL.mono k ol oo l _ r⟩
theorem IsL.mono {K : Fg} {O O' : Addr -> Prop} {H H' : Hp} (k : Keep O H H') (ol : OLst O H) (oo : ∀ a, O' a -> H a ≠ none -> O a) : ∀ (l : List D) (vs : List V), IsL K O H l vs -> IsL K O' H' l vs
  | [], vs, h => by unfold IsL at h ⊢; exact h
  | d :: l, vs, h => by
    unfold IsL at h ⊢
    obtain ⟨v, r, e, h1, h2⟩ := h
    exact ⟨v, r, e, Is.mono k ol oo d v h1, IsL.mono k ol oo l r h2⟩
end
theorem zR.kp {H H' : Hp} (s : zR H H') (O : Addr -> Prop) : Keep O H H' := fun b o e _ => s b o e
theorem Is.same {K : Fg} {O : Addr -> Prop} {H H' : Hp} {d : D} {v : V} (s : zR H H') (ol : OLst O H) (h : Is K O H d v) : Is K O H' d v := Is.mono (zR.kp s O) ol (fun _ z _ => z) d v h
theorem IsL.same {K : Fg} {O : Addr -> Prop} {H H' : Hp} {l : List D} {vs : List V} (s : zR H H') (ol : OLst O H) (h : IsL K O H l vs) : IsL K O H' l vs := IsL.mono (zR.kp s O) ol (fun _ z _ => z) l vs h
section
variable {K : Fg} {O : Addr -> Prop} {H : Hp}
theorem IsL.length : ∀ {l : List D} {vs : List V}, IsL K O H l vs -> l.length = vs.length
  | [], vs, h => by unfold IsL at h; subst h; rfl
  | d :: l, vs, h => by unfold IsL at h; obtain ⟨v, r, rfl, _, h2⟩ := h; simp [IsL.length h2]
theorem IsL.get : ∀ {l : List D} {vs : List V} {i : Nat} {d : D}, IsL K O H l vs -> l[i]? = some d -> ∃ v, vs[i]? = some v /\ Is K O H d v
  | [], _, _, _, _, e => by simp at e
  | d :: l, vs, 0, d', h, e => by
    unfold IsL at h; obtain ⟨v, r, rfl, h1, h2⟩ := h
    simp at e; subst e; exact ⟨v, rfl, h1⟩
  | d :: l, vs, i + 1, d', h, e => by
    unfold IsL at h; obtain ⟨v, r, rfl, h1, h2⟩ := h
    obtain ⟨u, q1, q2⟩ := IsL.get (i := i) h2 (by simpa using e)
    exact ⟨u, by simpa using q1, q2⟩
theorem IsL.nil : IsL K O H [] [] := by unfold IsL; rfl
theorem IsL.cons {d : D} {v : V} {l : List D} {vs : List V} (h : Is K O H d v) (t : IsL K O H l vs) : IsL K O H (d :: l) (v :: vs) := by unfold IsL; exact ⟨v, vs, rfl, h, t⟩
theorem IsL.append : ∀ {l m : List D} {vs us : List V}, IsL K O H l vs -> IsL K O H m us -> IsL K O H (l ++ m) (vs ++ us)
  | [], _, _, _, h, t => by unfold IsL at h; subst h; exact t
  | d :: l, m, vs, us, h, t => by unfold IsL at h; obtain ⟨v, r, rfl, h1, h2⟩ := h; exact .cons h1 (IsL.append h2 t)
theorem IsL.take : ∀ {l : List D} {vs : List V} (n : Nat), IsL K O H l vs -> IsL K O H (l.take n) (vs.take n)
  | _, _, 0, _ => by simpa using IsL.nil
  | [], _, _ + 1, h => by unfold IsL at h; subst h; simpa using IsL.nil
  | d :: l, vs, n + 1, h => by unfold IsL at h; obtain ⟨v, r, rfl, h1, h2⟩ := h; exact .cons h1 (IsL.take n h2)
theorem IsL.drop : ∀ {l : List D} {vs : List V} (n : Nat), IsL K O H l vs -> IsL K O H (l.drop n) (vs.drop n)
  | _, _, 0, h => h
  | [], _, _ + 1, h => by unfold IsL at h; subst h; simpa using IsL.nil
  | d :: l, vs, n + 1, h => by unfold IsL at h; obtain ⟨v, r, rfl, h1, h2⟩ := h; exact IsL.drop n h2
theorem IsL.reverse : ∀ {l : List D} {vs : List V}, IsL K O H l vs -> IsL K O H l.reverse vs.reverse
  | [], _, h => by unfold IsL at h; subst h; exact IsL.nil
  | d :: l, vs, h => by
    unfold IsL at h; obtain ⟨v, r, rfl, h1, h2⟩ := h
    rw [List.reverse_cons, List.reverse_cons]; exact (IsL.reverse h2).append (.cons h1 .nil)
theorem IsL.inv1 {d : D} {vs : List V} (h : IsL K O H [d] vs) : ∃ v, vs = [v] /\ Is K O H d v := by
  unfold IsL at h
  obtain ⟨v, r, rfl, h1, h2⟩ := h
  unfold IsL at h2; subst h2
  exact ⟨v, rfl, h1⟩
theorem IsL.inv2 {d e : D} {vs : List V} (h : IsL K O H [d, e] vs) : ∃ v u, vs = [v, u] /\ Is K O H d v /\ Is K O H e u := by
  unfold IsL at h
  obtain ⟨v, r, rfl, h1, h2⟩ := h
  obtain ⟨u, rfl, h3⟩ := h2.inv1
  exact ⟨v, u, rfl, h1, h3⟩
theorem Is.int_iff {i : Int} {v : V} : Is K O H (.int i) v ↔ v = .int i := by unfold Is; exact Iff.rfl
theorem Is.bl_iff {b : Bool} {v : V} : Is K O H (.bl b) v ↔ v = .bl b := by unfold Is; exact Iff.rfl
theorem Is.str_iff {s : List Nat} {v : V} : Is K O H (.str s) v ↔ v = .str ⟨s.toArray⟩ := by unfold Is; exact Iff.rfl
theorem Is.non_iff {v : V} : Is K O H .non v ↔ v = .non := by unfold Is; exact Iff.rfl
theorem Is.ty_iff {n : String} {v : V} : Is K O H (.ty n) v ↔ v = .ty n := by unfold Is; exact Iff.rfl
theorem Is.ref_iff {a : Addr} {v : V} : Is K O H (.ref a) v ↔ v = .ref a := by unfold Is; exact Iff.rfl
theorem Is.tup_iff {l : List D} {v : V} : Is K O H (.tup l) v ↔ ∃ a xs, v = .ref a /\ SqT K H a xs /\ IsL K O H l xs := by unfold Is; exact Iff.rfl
theorem Is.lst_iff {l : List D} {v : V} : Is K O H (.lst l) v ↔ ∃ a xs, v = .ref a /\ LsAt K O H a xs /\ IsL K O H l xs := by unfold Is; exact Iff.rfl
theorem Is.dct_iff {ks : List Key} {l : List D} {v : V} : Is K O H (.dct ks l) v ↔ ∃ a kvs, v = .ref a /\ ¬ O a /\ Rd H a (.dK kvs) /\ kvs.map (·.1) = ks /\ IsL K O H l (kvs.map (·.2)) := by unfold Is; exact Iff.rfl
end
inductive Sl where
  | un | v (d : D) | o (l : List D) | p (l : List D) | z (l : List D) | d (ks : List Key) (l : List D)
noncomputable abbrev En := List Sl
noncomputable def Sl.own : Sl -> Option (List D)
  | .o l => some l
  | .p l => some l
  | .z l => some l
  | .d _ l => some l
  | _ => none
noncomputable def Sl.mt : Sl -> Option (List D)
  | .o l => some l
  | .p l => some l
  | .d _ l => some l
  | _ => none
noncomputable def Sl.ls : Sl -> Option (List D)
  | .o l => some l
  | .p l => some l
  | .z l => some l
  | _ => none
noncomputable def Sl.ml : Sl -> Option (List D)
  | .o l => some l
  | .p l => some l
  | _ => none
theorem ml_mt {x : Sl} {l : List D} (h : x.ml = some l) : x.mt = some l /\ x.ls = some l := by
  cases x <;> first | (cases h; exact ⟨rfl, rfl⟩) | cases h
theorem ml_mt' {x : Option Sl} {l : List D} (h : x.bind Sl.ml = some l) : x.bind Sl.mt = some l := by
  cases x with
  | none => cases h
  | some x => exact (ml_mt (x := x) h).1
theorem ls_own {x : Sl} {l : List D} (h : x.ls = some l) : x.own = some l := by
  cases x <;> first | (cases h; rfl) | cases h
theorem ls_own' {x : Option Sl} {l : List D} (h : x.bind Sl.ls = some l) : x.bind Sl.own = some l := by
  cases x with
  | none => cases h
  | some x => exact ls_own (x := x) h
theorem own_ls {x : Option Sl} {l : List D} (h : x.bind Sl.own = some l) : x.bind Sl.ls = some l \/ ∃ ks, x = some (.d ks l) := by
  cases x with
  | none => cases h
  | some x => cases x <;> first | (cases h; exact .inl rfl) | (cases h; exact .inr ⟨_, rfl⟩) | cases h
noncomputable def AtS (q : Sl -> Option (List D)) (r : En) (σ : St) (a : Addr) : Prop := ∃ (i : Nat) (l : List D), (r[i]?).bind q = some l /\ σ[i]? = some (some (.ref a))
noncomputable abbrev OwnAt := AtS Sl.own
noncomputable abbrev MutAt := AtS Sl.mt
theorem mt_own {x : Sl} {l : List D} (h : x.mt = some l) : x.own = some l := by
  cases x <;> first | (cases h; rfl) | cases h
theorem MutAt.own {r : En} {σ : St} {a : Addr} (h : MutAt r σ a) : OwnAt r σ a := by
  obtain ⟨i, l, e, q⟩ := h
  obtain ⟨x, e1, e2⟩ := Option.bind_eq_some_iff.mp e
  exact ⟨i, l, by rw [e1]; exact mt_own e2, q⟩
noncomputable def Ow (O0 : Addr -> Prop) (r : En) (σ : St) : Addr -> Prop := fun a => O0 a \/ OwnAt r σ a
structure R (K : Fg) (O0 : Addr -> Prop) (H : Hp) (r : En) (σ : St) : Prop where
  len : r.length = σ.length
  val : ∀ (i : Nat) (d : D), r[i]? = some (.v d) -> ∃ v, σ[i]? = some (some v) /\ Is K (Ow O0 r σ) H d v
  own : ∀ (i : Nat) (l : List D), (r[i]?).bind Sl.ls = some l -> ∃ a xs, σ[i]? = some (some (.ref a)) /\ H a = some (.lst xs) /\ IsL K (Ow O0 r σ) H l xs
  apart : ∀ (i j : Nat) (a : Addr) (l m : List D), (r[i]?).bind Sl.own = some l -> (r[j]?).bind Sl.own = some m -> σ[i]? = some (some (.ref a)) -> σ[j]? = some (some (.ref a)) -> i = j
  o0 : OLst O0 H
  loc : ∀ (i : Nat) (l : List D) (a : Addr), (r[i]? = some (.o l) \/ r[i]? = some (.z l) \/ ∃ ks, r[i]? = some (.d ks l)) -> σ[i]? = some (some (.ref a)) -> ¬ O0 a
  par : ∀ (i : Nat) (l : List D) (a : Addr), r[i]? = some (.p l) -> σ[i]? = some (some (.ref a)) -> O0 a
  dct : ∀ (i : Nat) (ks : List Key) (l : List D), r[i]? = some (.d ks l) -> ∃ a kvs, σ[i]? = some (some (.ref a)) /\ H a = some (.dK kvs) /\ kvs.map (·.1) = ks /\ IsL K (Ow O0 r σ) H l (kvs.map (·.2))
theorem R.obj {K : Fg} {O0 : Addr -> Prop} {H : Hp} {r : En} {σ : St} (h : R K O0 H r σ) {j : Nat} {m : List D} (e : (r[j]?).bind Sl.own = some m) : ∃ a o, σ[j]? = some (some (.ref a)) /\ H a = some o /\ Mb o := by
  rcases own_ls e with e | ⟨ks, e⟩
  · obtain ⟨a, xs, e1, e2, _⟩ := h.own j m e
    exact ⟨a, _, e1, e2, trivial⟩
  · obtain ⟨a, kvs, e1, e2, _⟩ := h.dct j ks m e
    exact ⟨a, _, e1, e2, trivial⟩
theorem R.ol {K : Fg} {O0 : Addr -> Prop} {H : Hp} {r : En} {σ : St} (h : R K O0 H r σ) : OLst (Ow O0 r σ) H := fun a z => by
  rcases z with z | ⟨i, l, e, q⟩
  · exact h.o0 a z
  · rcases own_ls e with e | ⟨ks, e⟩
    · obtain ⟨b, xs, e1, e2, _⟩ := h.own i l e
      rw [q] at e1; cases e1
      exact ⟨.lst xs, e2, trivial⟩
    · obtain ⟨b, kvs, e1, e2, _⟩ := h.dct i ks l e
      rw [q] at e1; cases e1
      exact ⟨.dK kvs, e2, trivial⟩
theorem R.nofresh {K : Fg} {O0 : Addr -> Prop} {H : Hp} {r : En} {σ : St} (h : R K O0 H r σ) {a : Addr} (n : H a = none) : ¬ Ow O0 r σ a := fun z => by
  obtain ⟨o, e, _⟩ := h.ol a z
  rw [n] at e; cases e
theorem R.same {K : Fg} {O0 : Addr -> Prop} {H H' : Hp} {r : En} {σ : St} (h : R K O0 H r σ) (s : zR H H') : R K O0 H' r σ where
  len := h.len
  val := fun i d e => by obtain ⟨v, e1, q⟩ := h.val i d e; exact ⟨v, e1, q.same s h.ol⟩
  own := fun i l e => by obtain ⟨a, xs, e1, e2, q⟩ := h.own i l e; exact ⟨a, xs, e1, s _ _ e2, q.same s h.ol⟩
  dct := fun i ks l e => by obtain ⟨a, kvs, e1, e2, e3, q⟩ := h.dct i ks l e; exact ⟨a, kvs, e1, s _ _ e2, e3, q.same s h.ol⟩
  apart := h.apart
  o0 := fun a z => by obtain ⟨xs, e, m⟩ := h.o0 a z; exact ⟨xs, s _ _ e, m⟩
  loc := h.loc
  par := h.par
structure Kp (H : Hp) (r : En) (σ : St) (H' : Hp) (r' : En) (σ' : St) : Prop where
  keep : Keep (MutAt r σ) H H'
  live : ∀ b, H' b = none -> H b = none
  lst : ∀ b o, H b = some o -> Mb o -> ∃ o', H' b = some o' /\ Mb o'
  new : ∀ b, OwnAt r' σ' b -> OwnAt r σ b \/ H b = none
  mnew : ∀ b, MutAt r' σ' b -> MutAt r σ b \/ H b = none
  par : ∀ (i : Nat) (l : List D), r[i]? = some (.p l) -> (∃ l', r'[i]? = some (.p l')) /\ σ'[i]? = σ[i]?
  fz : ∀ (i : Nat) (l : List D), r[i]? = some (.z l) -> r'[i]? = some (.z l) /\ σ'[i]? = σ[i]?
theorem Kp.of_same {H H' : Hp} (r : En) (σ : St) (s : zR H H') : Kp H r σ H' r σ :=
  ⟨fun b o e _ => s b o e, fun b e => s.free e, fun b o e m => ⟨o, s _ _ e, m⟩, fun b z => .inl z, fun b z => .inl z, fun i l e => ⟨⟨l, e⟩, rfl⟩, fun i l e => ⟨e, rfl⟩⟩
theorem Kp.refl (H : Hp) (r : En) (σ : St) : Kp H r σ H r σ := .of_same r σ (zR.refl H)
theorem Kp.trans {H H1 H2 : Hp} {r r1 r2 : En} {σ σ1 σ2 : St} (a : Kp H r σ H1 r1 σ1) (b : Kp H1 r1 σ1 H2 r2 σ2) : Kp H r σ H2 r2 σ2 where
  keep := fun c o e n => b.keep c o (a.keep c o e n) fun z => (a.mnew c z).elim n fun q => by rw [e] at q; cases q
  live := fun c e => a.live c (b.live c e)
  lst := fun c o e m => by obtain ⟨o1, q, m1⟩ := a.lst c o e m; exact b.lst c o1 q m1
  new := fun c z => (b.new c z).elim (a.new c) fun q => .inr (a.live c q)
  mnew := fun c z => (b.mnew c z).elim (a.mnew c) fun q => .inr (a.live c q)
  par := fun i l e => by
    obtain ⟨⟨l1, e1⟩, q1⟩ := a.par i l e
    obtain ⟨⟨l2, e2⟩, q2⟩ := b.par i l1 e1
    exact ⟨⟨l2, e2⟩, q2.trans q1⟩
  fz := fun i l e => by
    obtain ⟨e1, q1⟩ := a.fz i l e
    obtain ⟨e2, q2⟩ := b.fz i l e1
    exact ⟨e2, q2.trans q1⟩
theorem PE.conseq {X : Cx} {e : Expr} {t t' : TE} (h : PE X e t) (i : ∀ σ H Q, t' σ H Q -> t σ H Q) : PE X e t' := fun pins s σ H Q I q => h pins s σ H Q I (i σ H Q q)
theorem PT.conseq {X : Cx} {e : Expr} {t t' : TT} (h : PT X e t) (i : ∀ σ H Q, t' σ H Q -> t σ H Q) : PT X e t' := fun pins s σ H Q I q => h pins s σ H Q I (i σ H Q q)
theorem PA.conseq {X : Cx} {e : List Expr} {t t' : TA} (h : PA X e t) (i : ∀ σ H Q, t' σ H Q -> t σ H Q) : PA X e t' := fun pos pins s σ H Q I q => h pos pins s σ H Q I (i σ H Q q)
theorem PS.conseq {X : Cx} {st : Stmt} {t t' : TS} (h : PS X st t) (i : ∀ D σ H, t' D σ H -> t D σ H) : PS X st t' := fun pins s σ H D I q => h pins s σ H D I (i D σ H q)
theorem PSs.conseq {X : Cx} {st : List Stmt} {t t' : TS} (h : PSs X st t) (i : ∀ D σ H, t' D σ H -> t D σ H) : PSs X st t' := fun pins s σ H D I q => h pins s σ H D I (i D σ H q)
noncomputable abbrev ME := En -> Option D
noncomputable abbrev ML := En -> Option (List D)
noncomputable abbrev MB := En -> Option Bool
noncomputable def lE (K : Fg) (f : ME) : TE := fun σ H Q => ∃ O0 r d, R K O0 H r σ /\ f r = some d /\ ∀ v H', zR H H' -> Is K (Ow O0 r σ) H' d v -> Q v H'
noncomputable def lT (K : Fg) (f : MB) : TT := fun σ H Q => ∃ O0 r b, R K O0 H r σ /\ f r = some b /\ ∀ H', zR H H' -> Q b H'
noncomputable def lA (K : Fg) (f : ML) : TA := fun σ H Q => ∃ O0 r l, R K O0 H r σ /\ f r = some l /\ ∀ vs H', zR H H' -> IsL K (Ow O0 r σ) H' l vs -> Q vs H'
noncomputable def lF (K : Fg) (f : ML) : TE := fun σ H Q => ∃ O0 r l, R K O0 H r σ /\ f r = some l /\ ∀ a xs H', zR H H' -> H a = none -> H' a = some (.lst xs) -> IsL K (fun b => Ow O0 r σ b \/ b = a) H' l xs -> Q (.ref a) H'
noncomputable def lB (K : Fg) (f : ML) : TE := fun σ H Q => ∃ O0 r l, R K O0 H r σ /\ f r = some l /\ ∀ a xs H', zR H H' -> SqL K H' a xs -> IsL K (Ow O0 r σ) H' l xs -> Q (.ref a) H'
noncomputable def lX (K : Fg) (f : En -> Option (D × En)) : TE := fun σ H Q => ∃ O0 r d r', R K O0 H r σ /\ f r = some (d, r') /\ ∀ v H', R K O0 H' r' σ -> Kp H r σ H' r' σ -> Is K (Ow O0 r' σ) H' d v -> Q v H'
noncomputable def DE (X : Cx) (e : Expr) (f : ME) : Prop := PE X e (lE X.K f)
noncomputable def DT (X : Cx) (e : Expr) (f : MB) : Prop := PT X e (lT X.K f)
noncomputable def DA (X : Cx) (es : List Expr) (f : ML) : Prop := PA X es (lA X.K f)
noncomputable def DF (X : Cx) (e : Expr) (f : ML) : Prop := PE X e (lF X.K f)
noncomputable def DB (X : Cx) (e : Expr) (f : ML) : Prop := PE X e (lB X.K f)
noncomputable def DX (X : Cx) (e : Expr) (f : En -> Option (D × En)) : Prop := PE X e (lX X.K f)
inductive Fl where
  | nx (r : En) | bk (r : En) | ct (r : En) | rt (d : D) (r : En) | rf (l : List D) (r : En) | rg (ks : List Key) (l : List D) (r : En)
noncomputable abbrev MS := En -> Option Fl
noncomputable def FrA (H : Hp) (r : En) (σ : St) (a : Addr) : Prop := H a = none \/ ∃ (i : Nat) (l : List D), (r[i]? = some (.o l) \/ ∃ ks, r[i]? = some (.d ks l)) /\ σ[i]? = some (some (.ref a))
noncomputable def PostS (K : Fg) (O0 : Addr -> Prop) (H : Hp) (r : En) (σ : St) (Dn : Ends) : Fl -> Prop
  | .nx r' => ∀ σ' H', R K O0 H' r' σ' -> Kp H r σ H' r' σ' -> Dn.nx σ' H'
  | .bk r' => ∀ σ' H', R K O0 H' r' σ' -> Kp H r σ H' r' σ' -> Dn.bk σ' H'
  | .ct r' => ∀ σ' H', R K O0 H' r' σ' -> Kp H r σ H' r' σ' -> Dn.ct σ' H'
  | .rt d r' => ∀ v σ' H', R K O0 H' r' σ' -> Kp H r σ H' r' σ' -> Is K O0 H' d v -> Dn.rt v H'
  | .rf l r' => ∀ a xs σ' H', R K O0 H' r' σ' -> Kp H r σ H' r' σ' -> FrA H r σ a -> ¬ O0 a -> H' a = some (.lst xs) -> IsL K (fun b => O0 b \/ b = a) H' l xs -> Dn.rt (.ref a) H'
  | .rg ks l r' => ∀ a kvs σ' H', R K O0 H' r' σ' -> Kp H r σ H' r' σ' -> FrA H r σ a -> ¬ O0 a -> H' a = some (.dK kvs) -> kvs.map (·.1) = ks -> IsL K (fun b => O0 b \/ b = a) H' l (kvs.map (·.2)) -> Dn.rt (.ref a) H'
noncomputable def lS (K : Fg) (g : MS) : TS := fun Dn σ H => ∃ O0 r fl, R K O0 H r σ /\ g r = some fl /\ PostS K O0 H r σ Dn fl
noncomputable def DS (X : Cx) (st : Stmt) (g : MS) : Prop := PS X st (lS X.K g)
noncomputable def DSs (X : Cx) (st : List Stmt) (g : MS) : Prop := PSs X st (lS X.K g)
theorem PostS.before {K : Fg} {O0 : Addr -> Prop} {H H1 : Hp} {r r1 : En} {σ σ1 : St} {Dn : Ends} {fl : Fl} (R1 : R K O0 H1 r1 σ1) (k : Kp H r σ H1 r1 σ1) (h : PostS K O0 H r σ Dn fl) : PostS K O0 H1 r1 σ1 Dn fl := by
  have fra : ∀ a, FrA H1 r1 σ1 a -> FrA H r σ a := fun a z => by
    rcases z with z | ⟨i, l, e, q⟩
    · exact .inl (k.live a z)
    · have eo : (r1[i]?).bind Sl.own = some l := by rcases e with e | ⟨ks, e⟩ <;> rw [e] <;> rfl
      have np : ∀ l2, r1[i]? ≠ some (.p l2) := fun l2 z => by rcases e with e | ⟨ks, e⟩ <;> rw [e] at z <;> cases z
      have nz : ∀ l2, r1[i]? ≠ some (.z l2) := fun l2 z => by rcases e with e | ⟨ks, e⟩ <;> rw [e] at z <;> cases z
      rcases k.new a ⟨i, l, eo, q⟩ with ⟨j, m, e2, q2⟩ | z
      · cases ej : r[j]? with
        | none => rw [ej] at e2; cases e2
        | some x =>
          rw [ej] at e2
          cases x with
          | un => cases e2
          | v d => cases e2
          | o l' => exact .inr ⟨j, l', .inl ej, q2⟩
          | p l' =>
            obtain ⟨⟨l2, e3⟩, q3⟩ := k.par j l' ej
            have := R1.apart i j a l l2 eo (by rw [e3]; rfl) q (q3.trans q2)
            subst this
            exact absurd e3 (np _)
          | z l' =>
            obtain ⟨e3, q3⟩ := k.fz j l' ej
            have := R1.apart i j a l l' eo (by rw [e3]; rfl) q (q3.trans q2)
            subst this
            exact absurd e3 (nz _)
          | d ks l' => exact .inr ⟨j, l', .inr ⟨ks, ej⟩, q2⟩
      · exact .inl z
  cases fl with
  | nx r' => exact fun σ' H' h1 h2 => h σ' H' h1 (k.trans h2)
  | bk r' => exact fun σ' H' h1 h2 => h σ' H' h1 (k.trans h2)
  | ct r' => exact fun σ' H' h1 h2 => h σ' H' h1 (k.trans h2)
  | rt d r' => exact fun v σ' H' h1 h2 h3 => h v σ' H' h1 (k.trans h2) h3
  | rf l r' => exact fun a xs σ' H' h1 h2 h3 h4 h5 h6 => h a xs σ' H' h1 (k.trans h2) (fra a h3) h4 h5 h6
  | rg ks l r' => exact fun a xs σ' H' h1 h2 h3 h4 h5 h6 h7 => h a xs σ' H' h1 (k.trans h2) (fra a h3) h4 h5 h6 h7
noncomputable def mC (d : D) : ME := fun _ => some d
noncomputable def zB (i : Nat) : ME := fun r => match r[i]? with
  | some (.v d) => some d
  | _ => none
noncomputable def mOwn (i : Nat) : ML := fun r => (r[i]?).bind Sl.ls
noncomputable def zD (m : D -> D -> Option D) (f g : ME) : ME := fun r => (f r).bind fun x => (g r).bind fun y => m x y
noncomputable def mUn (m : D -> Option D) (f : ME) : ME := fun r => (f r).bind m
noncomputable def zK : ML := fun _ => some []
noncomputable def zA (f : ME) (g : ML) : ML := fun r => (f r).bind fun x => (g r).bind fun l => some (x :: l)
noncomputable def mTup (f : ML) : ME := fun r => (f r).bind fun l => if l.length <= sizeLine then some (.tup l) else none
noncomputable def yR (f : ML) : ML := fun r => (f r).bind fun l => if l.length <= sizeLine then some l else none
noncomputable def mOfF (f : ML) : ME := fun r => (f r).map .lst
noncomputable def mAsL (f : ME) : ML := fun r => (f r).bind fun d => match d with
  | .lst l => some l
  | _ => none
noncomputable def notD : D -> Option D
  | .bl b => some (.bl !b)
  | _ => none
noncomputable def mAndT (f g : MB) : MB := fun r => (f r).bind fun b => if b = true then g r else some false
noncomputable def mIf (c : MB) (f g : ME) : ME := fun r => (c r).bind fun b => if b = true then f r else g r
noncomputable def blD : D -> Option Bool
  | .bl b => some b
  | _ => none
noncomputable def mBl (f : ME) : MB := fun r => (f r).bind blD
noncomputable def truD : D -> Option Bool
  | .non => some false
  | .bl b => some b
  | .int i => some (i != 0)
  | .str s => if s.length <= sizeLine then some (!s.isEmpty) else none
  | .tup l => some (!l.isEmpty)
  | .lst l => some (!l.isEmpty)
  | _ => none
noncomputable def mTruB (fl : ML) : MB := fun r => (fl r).map fun l => !l.isEmpty
noncomputable def mTru (f : ME) : MB := fun r => (f r).bind truD
section
variable {X : Cx} {pos : Pos} {a b c : Expr} {f g : ME}
theorem bind_some {α β : Type} {o : Option α} {h : α -> Option β} {y : β} (e : o.bind h = some y) : ∃ x, o = some x /\ h x = some y := by
  cases o with
  | none => cases e
  | some x => exact ⟨x, rfl, e⟩
theorem de_of {t : TE} (h : PE X a t) (i : ∀ O0 σ H r d Q, R X.K O0 H r σ -> f r = some d -> (∀ v H', zR H H' -> Is X.K (Ow O0 r σ) H' d v -> Q v H') -> t σ H Q) : DE X a f :=
  PE.conseq h fun σ H Q ⟨O0, r, d, hR, e, q⟩ => i O0 σ H r d Q hR e q
theorem zC (i : Nat) {x : Str} (h : PE X (.Name x pos) (tVar i)) : DE X (.Name x pos) (zB i) :=
  de_of h fun O0 σ H r d Q hR e q => by
    unfold zB at e
    have e' : r[i]? = some (.v d) := by
      split at e
      · rename_i d' h; cases e; exact h
      · cases e
    obtain ⟨v, e1, q1⟩ := hR.val i d e'
    exact ⟨v, e1, q v H (zR.refl H) q1⟩
theorem db_own (i : Nat) {x : Str} (h : PE X (.Name x pos) (tVar i)) : DB X (.Name x pos) (mOwn i) :=
  PE.conseq h fun σ H Q ⟨O0, r, l, hR, e, q⟩ => by
    obtain ⟨a, xs, e1, e2, q1⟩ := hR.own i l e
    exact ⟨.ref a, e1, q a xs H (zR.refl H) (SqL.of e2) q1⟩
theorem de_con {v : V} {d : D} (h : PE X a (tC v)) (hd : ∀ O H, Is X.K O H d v) : DE X a (mC d) :=
  de_of h fun O0 σ H r d' Q hR e q => by
    unfold mC at e
    cases e
    exact q v H (zR.refl H) (hd _ _)
theorem zJ {i j} : DE X (.Constant (.int i) j pos) (mC (.int i)) := de_con pe_int fun O H => by unfold Is; rfl
theorem de_bl {i j} : DE X (.Constant (.bool i) j pos) (mC (.bl i)) := de_con pe_bl fun O H => by unfold Is; rfl
theorem de_non {j} : DE X (.Constant .none j pos) (mC .non) := de_con pe_non fun O H => by unfold Is; rfl
theorem de_str {x : Str} {s : List Nat} {j} (e : x.cps.toList = s := by rfl) : DE X (.Constant (.str x) j pos) (mC (.str s)) := de_con pe_str fun O H => by
  unfold Is; subst e; simp
noncomputable def OpD (K : Fg) (r2 : R2) (m : D -> D -> Option D) : Prop := ∀ (O : Addr -> Prop) (H : Hp) (dx dy d : D) (vx vy : V) (Q : VK), OLst O H -> Is K O H dx vx -> Is K O H dy vy -> m dx dy = some d -> (∀ v H', zR H H' -> Is K O H' d v -> Q v H') -> r2 vx vy H Q
theorem two {ta tb : TE} {r2 : R2} {m : D -> D -> Option D} (hd : OpD X.K r2 m) {σ : St} {H : Hp} {Q : VK} (h : lE X.K (zD m f g) σ H Q) : tOp r2 (lE X.K f) (lE X.K g) σ H Q := by
  obtain ⟨O0, r, d, hR, e, q⟩ := h
  obtain ⟨x, e1, e⟩ := bind_some e
  obtain ⟨y, e2, e⟩ := bind_some e
  refine ⟨O0, r, x, hR, e1, fun v1 H1 s1 i1 => ⟨O0, r, y, hR.same s1, e2, fun v2 H2 s2 i2 => ?_⟩⟩
  exact hd (Ow O0 r σ) H2 x y d v1 v2 Q (hR.same (s1.trans s2)).ol (i1.same s2 (hR.same s1).ol) i2 e fun v H' s' i' => q v H' ((s1.trans s2).trans s') i'
theorem zL {op : Operator} {r2 : R2} {m : D -> D -> Option D} (ho : OpR X (binaryOp op) r2) (hd : OpD X.K r2 m) (ha : DE X a f) (hb : DE X b g) : DE X (.BinOp a op b pos) (zD m f g) :=
  PE.conseq (pe_op ho ha hb) fun σ H Q h => two (ta := lE X.K f) (tb := lE X.K g) hd h
theorem de_cmp {op : CmpOp} {r2 : R2} {m : D -> D -> Option D} (ho : OpR X (compareOp op) r2) (hd : OpD X.K r2 m) (ha : DE X a f) (hb : DE X b g) (hm : behindInMarks op b = false) : DE X (.Compare a [op] [b] pos) (zD m f g) :=
  PE.conseq (pe_cmpR ho ha hb hm) fun σ H Q h => two (ta := lE X.K f) (tb := lE X.K g) hd h
theorem dt_cmp {op : CmpOp} {r2 : R2} {m : D -> D -> Option D} (ho : OpR X (compareOp op) r2) (hd : OpD X.K r2 m) (ha : DE X a f) (hb : DE X b g) (hm : behindInMarks op b = false) : DT X (.Compare a [op] [b] pos) (mBl (zD m f g)) := by
  refine PT.conseq (pt_cmpR ho ha hb hm) fun σ H Q h => ?_
  obtain ⟨O0, r, k, hR, e, q⟩ := h
  obtain ⟨d, e1, e⟩ := bind_some e
  refine two (ta := lE X.K f) (tb := lE X.K g) (m := m) hd ⟨O0, r, d, hR, e1, fun v H' s' i' => ?_⟩
  cases d <;> first | cases e | skip
  rw [Is.bl_iff] at i'
  exact ⟨_, i', q H' s'⟩
section
variable {tf tg : MB}
theorem dw_and1 (ha : DT X a tf) : PW X (.BoolOp .And [a] pos) (lT X.K tf) := pw_and1 ha
theorem PW.conseq {e : Expr} {t t' : TT} (h : PW X e t) (i : ∀ σ H Q, t' σ H Q -> t σ H Q) : PW X e t' := fun wh pins s σ H Q I q => h wh pins s σ H Q I (i σ H Q q)
theorem dw_and {rest : List Expr} (ha : DT X a tf) (hb : PW X (.BoolOp .And (b :: rest) pos) (lT X.K tg)) : PW X (.BoolOp .And (a :: b :: rest) pos) (lT X.K (mAndT tf tg)) := by
  refine PW.conseq (pw_and ha hb) fun σ H Q h => ?_
  obtain ⟨O0, r, d, hR, e, q⟩ := h
  obtain ⟨x, e1, e⟩ := bind_some e
  refine ⟨O0, r, x, hR, e1, fun H1 s1 => ?_⟩
  cases x with
  | true =>
    rw [if_pos rfl]
    exact ⟨O0, r, d, hR.same s1, e, fun H' s' => q H' (s1.trans s')⟩
  | false =>
    rw [if_neg Bool.false_ne_true]
    cases e
    exact q H1 s1
theorem dt_w (h : PW X a (lT X.K tf)) : DT X a tf := h.pt
theorem truD_ok {K : Fg} {O : Addr -> Prop} {H : Hp} {d : D} {v : V} {k : Bool} (h : Is K O H d v) (e : truD d = some k) : TruV K v H k := by
  cases d with
  | dct ks l => cases e
  | non => rw [Is.non_iff] at h; subst h; cases e; rfl
  | bl b => rw [Is.bl_iff] at h; subst h; cases e; rfl
  | int i => rw [Is.int_iff] at h; subst h; cases e; rfl
  | str s =>
    rw [Is.str_iff] at h; subst h
    simp only [truD] at e
    split at e
    · rename_i hl
      cases e
      refine ⟨by simpa [Str.length] using hl, ?_⟩
      cases s with
      | nil => rfl
      | cons c r =>
        have : ((r.length : Int) + 1) ≠ 0 := by omega
        simpa [Str.length] using this
    · cases e
  | tup l =>
    rw [Is.tup_iff] at h; obtain ⟨a, xs, rfl, hs, hl⟩ := h; cases e
    refine .inr (.inl ⟨xs, hs, ?_⟩)
    have := hl.length
    cases l <;> cases xs <;> simp_all
  | lst l =>
    rw [Is.lst_iff] at h; obtain ⟨a, xs, rfl, hs, hl⟩ := h; cases e
    refine .inl ⟨xs, hs.sq, ?_⟩
    have := hl.length
    cases l <;> cases xs <;> simp_all
  | ty n => cases e
  | ref a => cases e
theorem dt_tru (ha : DE X a f) (he : ∀ whole, isTrue a X.env whole = (do let v <- whole; standAt a.pos; holding [v] (truthy v)) := by intro _; rfl) : DT X a (mTru f) := by
  refine PT.conseq (pt_truth ha he) fun σ H Q h => ?_
  obtain ⟨O0, r, d, hR, e, q⟩ := h
  obtain ⟨x, e1, e⟩ := bind_some e
  exact ⟨O0, r, x, hR, e1, fun v1 H1 s1 i1 => ⟨d, truD_ok i1 e, q H1 s1⟩⟩
theorem dt_truB {fl : ML} (ha : DB X a fl) (he : ∀ whole, isTrue a X.env whole = (do let v <- whole; standAt a.pos; holding [v] (truthy v)) := by intro _; rfl) : DT X a (mTruB fl) := by
  refine PT.conseq (pt_truth ha he) fun σ H Q h => ?_
  obtain ⟨O0, r, d, hR, e, q⟩ := h
  unfold mTruB at e
  cases e1 : fl r with
  | none => rw [e1] at e; cases e
  | some l =>
    rw [e1] at e; cases e
    refine ⟨O0, r, l, hR, e1, fun a xs H1 s1 i1 i2 => ⟨_, .inl ⟨xs, i1, ?_⟩, q H1 s1⟩⟩
    have := i2.length
    cases l <;> cases xs <;> simp_all
theorem de_if (hc : DT X c tf) (ha : DE X a f) (hb : DE X b g) : DE X (.IfExp c a b pos) (mIf tf f g) := by
  refine PE.conseq (pe_ifExp hc ha hb) fun σ H Q h => ?_
  obtain ⟨O0, r, d, hR, e, q⟩ := h
  obtain ⟨x, e1, e⟩ := bind_some e
  refine ⟨O0, r, x, hR, e1, fun H1 s1 => ?_⟩
  cases x with
  | true => rw [if_pos rfl]; exact ⟨O0, r, d, hR.same s1, e, fun v H' s' i' => q v H' (s1.trans s') i'⟩
  | false => rw [if_neg Bool.false_ne_true]; exact ⟨O0, r, d, hR.same s1, e, fun v H' s' i' => q v H' (s1.trans s') i'⟩
end
section
variable {es : List Expr} {fs : ML}
theorem zN : DA X [] zK := PA.conseq pa_nil fun σ H Q ⟨O0, r, l, hR, e, q⟩ => by
  unfold zK at e; cases e
  exact q [] H (zR.refl H) .nil
theorem zE (ha : DE X a f) (hr : DA X es fs) (hs : starEach (a :: es) X.env = (false, eval a X.env) :: starEach es X.env := by rfl) : DA X (a :: es) (zA f fs) := by
  refine PA.conseq (pa_cons ha hr hs) fun σ H Q h => ?_
  obtain ⟨O0, r, d, hR, e, q⟩ := h
  obtain ⟨x, e1, e⟩ := bind_some e
  obtain ⟨l, e2, e⟩ := bind_some e
  cases e
  exact ⟨O0, r, x, hR, e1, fun v1 H1 s1 i1 => ⟨O0, r, l, hR.same s1, e2, fun vs H2 s2 i2 => q _ H2 (s1.trans s2) (.cons (i1.same s2 (hR.same s1).ol) i2)⟩⟩
theorem zW {H : Hp} {p : Addr} {o : HO} (n : H p = none) : zR H (upd H p o) := fun b u e => by rw [zU (ne_of_none e n)]; exact e
theorem de_tup {x1} (h : DA X es fs) : DE X (.Tuple es x1 pos) (mTup fs) := by
  refine PE.conseq (pe_tup h) fun σ H Q h => ?_
  obtain ⟨O0, r, d, hR, e, q⟩ := h
  obtain ⟨l, e1, e⟩ := bind_some e
  split at e
  · rename_i hl
    cases e
    refine ⟨O0, r, l, hR, e1, fun vs H1 s1 i1 => ⟨by rw [<- i1.length]; exact hl, fun p hp => q _ _ (s1.trans (zW hp)) ?_⟩⟩
    rw [Is.tup_iff]
    exact ⟨p, vs, rfl, SqT.of zT, i1.same (zW hp) (hR.same s1).ol⟩
  · cases e
theorem df_lst (h : DA X es fs) : DF X (.List es pos) (yR fs) := by
  refine PE.conseq (pe_lst h) fun σ H Q h => ?_
  obtain ⟨O0, r, l', hR, e, q⟩ := h
  obtain ⟨l, e1, e⟩ := bind_some e
  split at e
  · rename_i hl
    have e' : l = l' := Option.some.inj e
    subst e'
    refine ⟨O0, r, l, hR, e1, fun vs H1 s1 i1 => ⟨by rw [<- i1.length]; exact hl, fun p hp => q _ _ _ (s1.trans (zW hp)) (s1.free hp) zT ?_⟩⟩
    refine IsL.mono (zR.kp (zW hp) _) (hR.same s1).ol (fun a z n => ?_) _ vs i1
    rcases z with z | z
    · exact z
    · subst z; exact absurd hp n
  · cases e
theorem de_f {fl : ML} (h : DF X a fl) : DE X a (mOfF fl) := by
  refine PE.conseq h fun σ H Q h => ?_
  obtain ⟨O0, r, d, hR, e, q⟩ := h
  unfold mOfF at e
  cases e1 : fl r with
  | none => rw [e1] at e; cases e
  | some l =>
    rw [e1] at e; cases e
    refine ⟨O0, r, l, hR, e1, fun p xs H1 s1 n1 e2 i1 => q _ H1 s1 ?_⟩
    rw [Is.lst_iff]
    have ol : OLst (fun b => Ow O0 r σ b \/ b = p) H1 := fun b z => z.elim (fun z => (hR.same s1).ol b z) fun z => by subst z; exact ⟨.lst xs, e2, trivial⟩
    exact ⟨p, xs, rfl, .inl ⟨hR.nofresh n1, .inl e2⟩, IsL.mono (zR.kp (zR.refl H1) _) ol (fun a z _ => .inl z) l xs i1⟩
theorem db_e (h : DE X a f) : DB X a (mAsL f) := by
  refine PE.conseq h fun σ H Q h => ?_
  obtain ⟨O0, r, l, hR, e, q⟩ := h
  obtain ⟨d, e1, e⟩ := bind_some e
  refine ⟨O0, r, d, hR, e1, fun v H1 s1 i1 => ?_⟩
  cases d with
  | lst l' =>
    cases e
    rw [Is.lst_iff] at i1
    obtain ⟨p, xs, rfl, rd, il⟩ := i1
    exact q p xs H1 s1 rd.sq il
  | _ => cases e
end
end
noncomputable def sSkip : MS := fun r => some (.nx r)
noncomputable def yB (g h : MS) : MS := fun r => (g r).bind fun fl => match fl with
  | .nx r' => h r'
  | x => some x
noncomputable def yJ (i : Nat) (d : D) (r : En) : Option En := match r[i]? with
  | some (.p _) => none
  | some (.z _) => none
  | some _ => some (r.set i (.v d))
  | none => none
noncomputable def setO (i : Nat) (l : List D) (r : En) : Option En := match r[i]? with
  | some (.p _) => none
  | some (.z _) => none
  | some _ => some (r.set i (.o l))
  | none => none
noncomputable def sSet (i : Nat) (f : ME) : MS := fun r => (f r).bind fun d => (yJ i d r).map .nx
noncomputable def sOwn (i : Nat) (f : ML) : MS := fun r => (f r).bind fun l => (setO i l r).map .nx
noncomputable def sRet (f : ME) : MS := fun r => (f r).map fun d => .rt d r
noncomputable def sRetOwn (i : Nat) : MS := fun r => match r[i]? with
  | some (.o l) => some (.rf l r)
  | _ => none
noncomputable def sIf (c : MB) (g h : MS) : MS := fun r => (c r).bind fun b => if b = true then g r else h r
noncomputable def sX (f : En -> Option (D × En)) : MS := fun r => (f r).map fun p => .nx p.2
noncomputable def sSetX (i : Nat) (f : En -> Option (D × En)) : MS := fun r => (f r).bind fun p => (yJ i p.1 p.2).map .nx
noncomputable def sWhile : Nat -> MB -> MS -> MS
  | 0, _, _ => fun _ => none
  | n + 1, c, g => fun r => (c r).bind fun b => if b = true then (g r).bind fun fl => match fl with
      | .nx r' => sWhile n c g r'
      | .ct r' => sWhile n c g r'
      | .bk r' => some (.nx r')
      | x => some x
    else some (.nx r)
noncomputable def forL (bd : D -> En -> Option En) (g : MS) : List D -> MS
  | [], r => some (.nx r)
  | d :: l, r => (bd d r).bind fun r1 => (g r1).bind fun fl => match fl with
      | .nx r' => forL bd g l r'
      | .ct r' => forL bd g l r'
      | .bk r' => some (.nx r')
      | x => some x
noncomputable def sFor (bd : D -> En -> Option En) (it : ML) (g : MS) : MS := fun r => (it r).bind fun l => forL bd g l r
theorem zG {α : Type} {l : List α} {i j : Nat} {x : α} (h : i ≠ j) : (l.set i x)[j]? = l[j]? := by rw [List.getElem?_set]; simp [h]
theorem zQ {α : Type} {l : List α} {i : Nat} {x : α} (h : i < l.length) : (l.set i x)[i]? = some x := by rw [List.getElem?_set]; simp [h]
section
variable {K : Fg} {O0 : Addr -> Prop} {H H1 : Hp} {r : En} {σ : St} {i : Nat} {d : D} {v : V}
theorem own_setv {q : Sl -> Option (List D)} (hq : ∀ d, q (.v d) = none) {a : Addr} {x : Option V} (h : AtS q (r.set i (.v d)) (σ.set i x) a) : AtS q r σ a := by
  obtain ⟨j, l, e, q'⟩ := h
  by_cases hj : i = j
  · subst hj
    by_cases hl : i < r.length
    · rw [zQ hl] at e
      have e' : q (.v d) = some l := e
      rw [hq] at e'; cases e'
    · rw [List.getElem?_eq_none (by simpa using hl)] at e; cases e
  · rw [zG hj] at e q'
    exact ⟨j, l, e, q'⟩
theorem R.setv (h : R K O0 H r σ) (hi : i < r.length) (np : ∀ l, r[i]? ≠ some (.p l) /\ r[i]? ≠ some (.z l)) (hv : Is K (Ow O0 r σ) H d v) : R K O0 H (r.set i (.v d)) (σ.set i (some v)) /\ Kp H r σ H (r.set i (.v d)) (σ.set i (some v)) := by
  have his : i < σ.length := by rw [<- h.len]; exact hi
  have sub : ∀ a, Ow O0 (r.set i (.v d)) (σ.set i (some v)) a -> H a ≠ none -> Ow O0 r σ a := fun a z _ => z.elim .inl fun z => .inr (own_setv (fun _ => rfl) z)
  have ne : ∀ (j : Nat) (l : List D), ((r.set i (.v d))[j]?).bind Sl.own = some l -> i ≠ j := fun j l e z => by subst z; rw [zQ hi] at e; cases e
  refine ⟨⟨by simp [h.len], fun j d' e => ?_, fun j l e => ?_, fun j k a l m e1 e2 q1 q2 => ?_, h.o0, fun j l a e q => ?_, fun j l a e q => ?_, fun j ks l e => ?_⟩, ⟨fun b o e _ => e, fun b e => e, fun b o e m => ⟨o, e, m⟩, fun b z => .inl (own_setv (fun _ => rfl) z), fun b z => .inl (own_setv (fun _ => rfl) z), fun j l e => ?_, fun j l e => ?_⟩⟩
  · by_cases hj : i = j
    · subst hj
      rw [zQ hi] at e; cases e
      exact ⟨v, zQ his, Is.mono (zR.kp (zR.refl H) _) h.ol sub _ _ hv⟩
    · rw [zG hj] at e
      obtain ⟨u, e1, q⟩ := h.val j d' e
      exact ⟨u, by rw [zG hj]; exact e1, Is.mono (zR.kp (zR.refl H) _) h.ol sub _ _ q⟩
  · have hj := ne j l (ls_own' e)
    rw [zG hj] at e
    obtain ⟨a, xs, e1, e2, q⟩ := h.own j l e
    exact ⟨a, xs, by rw [zG hj]; exact e1, e2, IsL.mono (zR.kp (zR.refl H) _) h.ol sub _ _ q⟩
  · have hj := ne j l e1
    have hk := ne k m e2
    rw [zG hj] at e1 q1
    rw [zG hk] at e2 q2
    exact h.apart j k a l m e1 e2 q1 q2
  · have hj : i ≠ j := ne j l (by rcases e with e | e | ⟨ks, e⟩ <;> rw [e] <;> rfl)
    rw [zG hj] at e q
    exact h.loc j l a e q
  · have hj : i ≠ j := ne j l (by rw [e]; rfl)
    rw [zG hj] at e q
    exact h.par j l a e q
  · have hj := ne j l (by rw [e]; rfl)
    rw [zG hj] at e
    obtain ⟨a, kvs, e1, e2, e3, q⟩ := h.dct j ks l e
    exact ⟨a, kvs, by rw [zG hj]; exact e1, e2, e3, IsL.mono (zR.kp (zR.refl H) _) h.ol sub _ _ q⟩
  · have hj : i ≠ j := fun z => by subst z; exact (np l).1 e
    exact ⟨⟨l, by rw [zG hj]; exact e⟩, zG hj⟩
  · have hj : i ≠ j := fun z => by subst z; exact (np l).2 e
    exact ⟨by rw [zG hj]; exact e, zG hj⟩
theorem R.seto {l : List D} {xs : List V} {p : Addr} (h : R K O0 H r σ) (s : zR H H1) (n : H p = none) (e : H1 p = some (.lst xs)) (hl : IsL K (fun b => Ow O0 r σ b \/ b = p) H1 l xs) (hi : i < r.length) (np : ∀ l, r[i]? ≠ some (.p l) /\ r[i]? ≠ some (.z l)) :
    R K O0 H1 (r.set i (.o l)) (σ.set i (some (.ref p))) /\ Kp H r σ H1 (r.set i (.o l)) (σ.set i (some (.ref p))) := by
  have his : i < σ.length := by rw [<- h.len]; exact hi
  have ow : ∀ {q : Sl -> Option (List D)} a, AtS q (r.set i (.o l)) (σ.set i (some (.ref p))) a -> AtS q r σ a \/ a = p := fun {q} a z => by
    obtain ⟨j, m, e1, q1⟩ := z
    by_cases hj : i = j
    · subst hj
      rw [zQ his] at q1; cases q1; exact .inr rfl
    · rw [zG hj] at e1 q1
      exact .inl ⟨j, m, e1, q1⟩
  have sub : ∀ a, Ow O0 (r.set i (.o l)) (σ.set i (some (.ref p))) a -> H a ≠ none -> Ow O0 r σ a := fun a z nn => z.elim .inl fun z => (ow a z).elim .inr fun z => by subst z; exact absurd n nn
  have olp : OLst (fun b => Ow O0 r σ b \/ b = p) H1 := fun b z => z.elim (fun z => (h.same s).ol b z) fun z => by subst z; exact ⟨.lst xs, e, trivial⟩
  refine ⟨⟨by simp [h.len], fun j d' e1 => ?_, fun j m e1 => ?_, fun j k a l1 m e1 e2 q1 q2 => ?_, (h.same s).o0, fun j m a e1 q => ?_, fun j m a e1 q => ?_, fun j ks m e1 => ?_⟩, ⟨fun b o e1 _ => s b o e1, fun b e1 => s.free e1, fun b o e1 mb => ⟨o, s _ _ e1, mb⟩, fun b z => (ow b z).imp id fun z => by subst z; exact n, fun b z => (ow b z).imp id fun z => by subst z; exact n, fun j m e1 => ?_, fun j m e1 => ?_⟩⟩
  · have hj : i ≠ j := fun z => by subst z; rw [zQ hi] at e1; cases e1
    rw [zG hj] at e1
    obtain ⟨u, e2, q⟩ := h.val j d' e1
    exact ⟨u, by rw [zG hj]; exact e2, Is.mono (zR.kp s _) h.ol sub _ _ q⟩
  · by_cases hj : i = j
    · subst hj
      rw [zQ hi] at e1; cases e1
      refine ⟨p, xs, zQ his, e, IsL.mono (zR.kp (zR.refl H1) _) olp (fun a z _ => z.elim (fun z => .inl (.inl z)) fun z => (ow a z).imp .inr id) _ _ hl⟩
    · rw [zG hj] at e1
      obtain ⟨a, ys, e2, e3, q⟩ := h.own j m e1
      exact ⟨a, ys, by rw [zG hj]; exact e2, s _ _ e3, IsL.mono (zR.kp s _) h.ol sub _ _ q⟩
  · have out : ∀ (j : Nat) (m : List D) (a : Addr), i ≠ j -> ((r.set i (.o l))[j]?).bind Sl.own = some m -> (σ.set i (some (.ref p)))[j]? = some (some (.ref a)) -> a ≠ p := fun j m a hj e1 q1 z => by
      rw [zG hj] at e1 q1
      obtain ⟨b, ys, e2, e3, _⟩ := h.obj e1
      rw [q1] at e2; cases e2
      subst z
      rw [n] at e3; cases e3
    by_cases hj : i = j
    · by_cases hk : i = k
      · exact hj.symm.trans hk
      · subst hj
        rw [zQ his] at q1; cases q1
        exact absurd rfl (out k m p hk e2 q2)
    · by_cases hk : i = k
      · subst hk
        rw [zQ his] at q2; cases q2
        exact absurd rfl (out j l1 p hj e1 q1)
      · rw [zG hj] at e1 q1
        rw [zG hk] at e2 q2
        exact h.apart j k a l1 m e1 e2 q1 q2
  · by_cases hj : i = j
    · subst hj
      rw [zQ his] at q; cases q
      exact fun z => by obtain ⟨ys, e3, _⟩ := h.o0 p z; rw [n] at e3; cases e3
    · rw [zG hj] at e1 q
      exact h.loc j m a e1 q
  · have hj : i ≠ j := fun z => by subst z; rw [zQ hi] at e1; cases e1
    rw [zG hj] at e1 q
    exact h.par j m a e1 q
  · have hj : i ≠ j := fun z => by subst z; rw [zQ hi] at e1; cases e1
    rw [zG hj] at e1
    obtain ⟨a, kvs, e2, e3, e4, q⟩ := h.dct j ks m e1
    exact ⟨a, kvs, by rw [zG hj]; exact e2, s _ _ e3, e4, IsL.mono (zR.kp s _) h.ol sub _ _ q⟩
  · have hj : i ≠ j := fun z => by subst z; exact (np m).1 e1
    exact ⟨⟨m, by rw [zG hj]; exact e1⟩, zG hj⟩
  · have hj : i ≠ j := fun z => by subst z; exact (np m).2 e1
    exact ⟨by rw [zG hj]; exact e1, zG hj⟩
theorem setV_some {r' : En} (e : yJ i d r = some r') : i < r.length /\ (∀ l, r[i]? ≠ some (.p l) /\ r[i]? ≠ some (.z l)) /\ r' = r.set i (.v d) := by
  unfold yJ at e
  cases e1 : r[i]? with
  | none => rw [e1] at e; cases e
  | some x =>
    have hi : i < r.length := (List.getElem?_eq_some_iff.mp e1).1
    rw [e1] at e
    cases x with
    | p l => cases e
    | z l => cases e
    | _ => cases e; exact ⟨hi, fun l => ⟨(fun z => by cases z), (fun z => by cases z)⟩, rfl⟩
theorem setO_some {r' : En} {l : List D} (e : setO i l r = some r') : i < r.length /\ (∀ l, r[i]? ≠ some (.p l) /\ r[i]? ≠ some (.z l)) /\ r' = r.set i (.o l) := by
  unfold setO at e
  cases e1 : r[i]? with
  | none => rw [e1] at e; cases e
  | some x =>
    have hi : i < r.length := (List.getElem?_eq_some_iff.mp e1).1
    rw [e1] at e
    cases x with
    | p l => cases e
    | z l => cases e
    | _ => cases e; exact ⟨hi, fun l => ⟨(fun z => by cases z), (fun z => by cases z)⟩, rfl⟩
theorem map_some {α β : Type} {o : Option α} {h : α -> β} {y : β} (e : o.map h = some y) : ∃ x, o = some x /\ h x = y := by
  cases o with
  | none => cases e
  | some x => exact ⟨x, rfl, Option.some.inj e⟩
theorem Is.less {O : Addr -> Prop} (h : R K O0 H r σ) (hi : Is K (Ow O0 r σ) H1 d v) (s : zR H H1) : Is K O0 H1 d v := Is.mono (zR.kp (zR.refl H1) _) (h.same s).ol (fun _ z _ => .inl z) _ _ hi
end
section
variable {X : Cx} {pos : Pos} {e : Expr} {f : ME} {fl : ML} {g h : MS} {st : Stmt} {rest : List Stmt}
theorem ds_nil : DSs X [] sSkip := PSs.conseq pss_nil fun Dn σ H ⟨O0, r, f', hR, e, q⟩ => by
  unfold sSkip at e; cases e
  exact q σ H hR (Kp.refl H r σ)
theorem zM (h1 : DS X st g) (h2 : DSs X rest h) : DSs X (st :: rest) (yB g h) := by
  refine PSs.conseq (pss_cons h1 h2) fun Dn σ H hq => ?_
  obtain ⟨O0, r, fl, hR, e, q⟩ := hq
  obtain ⟨f1, e1, e2⟩ := bind_some e
  cases f1 with
  | nx r1 => exact ⟨O0, r, .nx r1, hR, e1, fun σ' H' R' k => ⟨O0, r1, fl, R', e2, q.before R' k⟩⟩
  | bk r1 => cases e2; exact ⟨O0, r, _, hR, e1, q⟩
  | ct r1 => cases e2; exact ⟨O0, r, _, hR, e1, q⟩
  | rt d r1 => cases e2; exact ⟨O0, r, _, hR, e1, q⟩
  | rf l r1 => cases e2; exact ⟨O0, r, _, hR, e1, q⟩
  | rg ks l r1 => cases e2; exact ⟨O0, r, _, hR, e1, q⟩
theorem zV (h1 : DS X st g) : DSs X [st] g := pss_one h1
theorem ds_set (i : Nat) {x : Str} {pos' : Pos} (he : DE X e f) (hN : X.N.Nodup) (hi : X.N[i]? = some x := by rfl) (hx : Loc X.env.scope x := by first | exact Or.inl rfl | exact Or.inr rfl) (hs : swapsWith e (some (.Name x pos')) pos.line X.env = pure false := by rfl) (hf : X.fn x = true \/ X.env.scope.names.lookup x = some .local := by first | exact .inl rfl | exact .inr rfl) :
    DS X (.Assign [.Name x pos'] e pos) (sSet i f) := by
  refine PS.conseq (ps_set hN hi hx he hs hf) fun Dn σ H hq => ?_
  obtain ⟨O0, r, fl, hR, e, q⟩ := hq
  obtain ⟨d, e1, e2⟩ := bind_some e
  obtain ⟨r', e3, rfl⟩ := map_some e2
  obtain ⟨hl, np, rfl⟩ := setV_some e3
  refine ⟨O0, r, d, hR, e1, fun v H1 s1 i1 => ?_⟩
  obtain ⟨R1, k1⟩ := (hR.same s1).setv hl np i1
  exact q _ H1 R1 ((Kp.of_same r σ s1).trans k1)
theorem ds_own (i : Nat) {x : Str} {pos' : Pos} (he : DF X e fl) (hN : X.N.Nodup) (hi : X.N[i]? = some x := by rfl) (hx : Loc X.env.scope x := by first | exact Or.inl rfl | exact Or.inr rfl) (hs : swapsWith e (some (.Name x pos')) pos.line X.env = pure false := by rfl) (hf : X.fn x = true \/ X.env.scope.names.lookup x = some .local := by first | exact .inl rfl | exact .inr rfl) :
    DS X (.Assign [.Name x pos'] e pos) (sOwn i fl) := by
  refine PS.conseq (ps_set hN hi hx he hs hf) fun Dn σ H hq => ?_
  obtain ⟨O0, r, fl', hR, e, q⟩ := hq
  obtain ⟨l, e1, e2⟩ := bind_some e
  obtain ⟨r', e4, rfl⟩ := map_some e2
  obtain ⟨hl, np, rfl⟩ := setO_some e4
  refine ⟨O0, r, l, hR, e1, fun p xs H1 s1 n1 e3 i1 => ?_⟩
  obtain ⟨R1, k1⟩ := hR.seto s1 n1 e3 i1 hl np
  exact q _ H1 R1 k1
theorem ds_ret (he : DE X e f) : DS X (.Return (some e) pos) (sRet f) := by
  refine PS.conseq (ps_ret he) fun Dn σ H hq => ?_
  obtain ⟨O0, r, fl, hR, e, q⟩ := hq
  obtain ⟨d, e1, rfl⟩ := map_some e
  exact ⟨O0, r, d, hR, e1, fun v H1 s1 i1 => q v σ H1 (hR.same s1) (Kp.of_same r σ s1) (Is.less (O := O0) hR i1 s1)⟩
theorem ds_retOwn (i : Nat) {x : Str} {pos' : Pos} (h : PE X (.Name x pos') (tVar i)) : DS X (.Return (some (.Name x pos')) pos) (sRetOwn i) := by
  refine PS.conseq (ps_ret h) fun Dn σ H hq => ?_
  obtain ⟨O0, r, fl', hR, e, q⟩ := hq
  unfold sRetOwn at e
  have ⟨l, e1, e2⟩ : ∃ l, r[i]? = some (.o l) /\ fl' = .rf l r := by
    split at e
    · rename_i l h; cases e; exact ⟨l, h, rfl⟩
    · cases e
  subst e2
  obtain ⟨a, xs, q1, q2, q3⟩ := hR.own i l (by rw [e1]; rfl)
  refine ⟨.ref a, q1, q a xs σ H hR (Kp.refl H r σ) (.inr ⟨i, l, .inl e1, q1⟩) (hR.loc i l a (.inl e1) q1) q2 ?_⟩
  exact IsL.mono (zR.kp (zR.refl H) _) hR.ol (fun b z _ => z.elim .inl fun z => by subst z; exact .inr ⟨i, l, by rw [e1]; rfl, q1⟩) _ _ q3
theorem ds_if {c : Expr} {sa sb : List Stmt} {tc : MB} (hc : DT X c tc) (ha : DSs X sa g) (hb : DSs X sb h) : DS X (.If c sa sb pos) (sIf tc g h) := by
  refine PS.conseq (ps_if hc ha hb) fun Dn σ H hq => ?_
  obtain ⟨O0, r, fl', hR, e, q⟩ := hq
  obtain ⟨k, e1, e2⟩ := bind_some e
  refine ⟨O0, r, k, hR, e1, fun H1 s1 => ?_⟩
  have R1 := hR.same s1
  have q1 := PostS.before R1 (Kp.of_same r σ s1) q
  cases k with
  | true => rw [if_pos rfl] at e2; exact iteT ⟨O0, r, fl', R1, e2, q1⟩
  | false => rw [if_neg Bool.false_ne_true] at e2; exact iteF ⟨O0, r, fl', R1, e2, q1⟩
theorem ds_x {fx : En -> Option (D × En)} (he : DX X e fx) (hs : swapsWith e none pos.line X.env = pure false := by rfl) : DS X (.Expr e pos) (sX fx) := by
  refine PS.conseq (ps_expr he hs) fun Dn σ H hq => ?_
  obtain ⟨O0, r, fl', hR, e, q⟩ := hq
  obtain ⟨⟨d, r'⟩, e1, rfl⟩ := map_some e
  exact ⟨O0, r, d, r', hR, e1, fun v H1 R1 k1 i1 => q σ H1 R1 k1⟩
theorem ds_setX (i : Nat) {x : Str} {pos' : Pos} {fx : En -> Option (D × En)} (he : DX X e fx) (hN : X.N.Nodup) (hi : X.N[i]? = some x := by rfl) (hx : Loc X.env.scope x := by first | exact Or.inl rfl | exact Or.inr rfl) (hs : swapsWith e (some (.Name x pos')) pos.line X.env = pure false := by rfl) (hf : X.fn x = true \/ X.env.scope.names.lookup x = some .local := by first | exact .inl rfl | exact .inr rfl) :
    DS X (.Assign [.Name x pos'] e pos) (sSetX i fx) := by
  refine PS.conseq (ps_set hN hi hx he hs hf) fun Dn σ H hq => ?_
  obtain ⟨O0, r, fl, hR, e, q⟩ := hq
  obtain ⟨⟨d, r1⟩, e1, e2⟩ := bind_some e
  obtain ⟨r', e3, rfl⟩ := map_some e2
  obtain ⟨hl, np, rfl⟩ := setV_some e3
  refine ⟨O0, r, d, r1, hR, e1, fun v H1 R1 k1 i1 => ?_⟩
  obtain ⟨R2, k2⟩ := R1.setv hl np i1
  exact q _ H1 R2 (k1.trans k2)
theorem ds_while (n : Nat) {c : Expr} {body : List Stmt} {tc : MB} (hp : PassesOwn (model X.prog X.w) X.A X.env X.xe) (hc : DT X c tc) (hb : DSs X body g) : DS X (.While c body [] pos) (sWhile n tc g) := by
  refine PS.conseq (ps_while hp hc hb) fun Dn σ H hq => ?_
  obtain ⟨O0, r, fl, hR, e, q⟩ := hq
  refine ⟨fun m σ1 H1 => ∃ r1, R X.K O0 H1 r1 σ1 /\ Kp H r σ H1 r1 σ1 /\ sWhile m tc g r1 = some fl, ⟨n, r, hR, Kp.refl H r σ, e⟩, ?_⟩
  rintro m σ1 H1 ⟨r1, R1, k1, e1⟩
  cases m with
  | zero => cases e1
  | succ m =>
    obtain ⟨b, e2, e3⟩ := bind_some e1
    refine ⟨O0, r1, b, R1, e2, fun H2 s2 => ?_⟩
    have R2 := R1.same s2
    have k2 := k1.trans (Kp.of_same r1 σ1 s2)
    cases b with
    | false =>
      rw [if_neg Bool.false_ne_true] at e3
      cases e3
      exact iteF (q σ1 H2 R2 k2)
    | true =>
      rw [if_pos rfl] at e3
      obtain ⟨f1, e4, e5⟩ := bind_some e3
      refine iteT ⟨fun σ3 H3 => ∃ r3, R X.K O0 H3 r3 σ3 /\ Kp H r σ H3 r3 σ3 /\ sWhile m tc g r3 = some fl, fun σ3 H3 z => ⟨m, Nat.lt_succ_self m, z⟩, O0, r1, f1, R2, e4, ?_⟩
      cases f1 with
      | nx r3 => exact fun σ3 H3 R3 k3 => ⟨r3, R3, k2.trans k3, e5⟩
      | ct r3 => exact fun σ3 H3 R3 k3 => ⟨r3, R3, k2.trans k3, e5⟩
      | bk r3 => cases e5; exact fun σ3 H3 R3 k3 => q σ3 H3 R3 (k2.trans k3)
      | rt d r3 => cases e5; exact PostS.before R2 k2 q
      | rf l r3 => cases e5; exact PostS.before R2 k2 q
      | rg ks l r3 => cases e5; exact PostS.before R2 k2 q
end
noncomputable def lG (K : Fg) (bd : D -> En -> Option En) : TG := fun v σ H Q => ∃ O0 r d r', R K O0 H r σ /\ Is K (Ow O0 r σ) H d v /\ bd d r = some r' /\ ∀ σ', R K O0 H r' σ' -> Kp H r σ H r' σ' -> Q σ' H
noncomputable def DG (X : Cx) (tg : Expr) (bd : D -> En -> Option En) : Prop := PG X tg (lG X.K bd)
noncomputable def Ylds (K : Fg) (O M : Addr -> Prop) (H0 : Hp) (J : It) (l : List D) : Prop := ∀ (i : Nat) (H : Hp) (O' : Addr -> Prop), Keep M H0 H -> (∀ a, O' a -> H0 a ≠ none -> O a) ->
  (i < l.length -> J.go i H /\ ∀ x H', J.yld i H x H' -> zR H H' /\ ∀ d, l[i]? = some d -> Is K O' H' d x) /\ (i = l.length -> J.stop i H)
noncomputable def lI (K : Fg) (it : ML) : TI := fun σ H Rr => ∃ O0 r l, R K O0 H r σ /\ it r = some l /\ ∀ J H', zR H H' -> Ylds K (Ow O0 r σ) (MutAt r σ) H' J l -> Rr J H'
noncomputable def DI (X : Cx) (tg iter : Expr) (it : ML) : Prop := PI X tg iter (lI X.K it)
theorem PG.conseq {X : Cx} {e : Expr} {t t' : TG} (h : PG X e t) (i : ∀ v σ H Q, t' v σ H Q -> t v σ H Q) : PG X e t' := fun pins s σ H v u Q I r q => h pins s σ H v u Q I r (i v σ H Q q)
theorem PI.conseq {X : Cx} {tg e : Expr} {t t' : TI} (h : PI X tg e t) (i : ∀ σ H Q, t' σ H Q -> t σ H Q) : PI X tg e t' := fun pins s σ H Q I q => h pins s σ H Q I (i σ H Q q)
theorem drop_cons {α : Type} {l : List α} {i : Nat} {d : α} (h : l[i]? = some d) : l.drop i = d :: l.drop (i + 1) := by
  obtain ⟨lt, eq⟩ := List.getElem?_eq_some_iff.mp h
  rw [<- eq, List.drop_eq_getElem_cons lt]
section
variable {X : Cx} {pos : Pos} {tg iter : Expr} {bd : D -> En -> Option En} {it : ML} {g : MS} {body : List Stmt}
theorem ds_for (hp : PassesOwn (model X.prog X.w) X.A X.env X.xe) (hc : X.calm = true) (hi : DI X tg iter it) (hg : DG X tg bd) (hb : DSs X body g) (hs : ∀ x, foldedSetIterable iter X.env x = pure x := by intro _; rfl) :
    DS X (.For tg iter body [] pos) (sFor bd it g) := by
  refine PS.conseq (ps_for hp hc hi hg hb hs) fun Dn σ H hq => ?_
  obtain ⟨O0, r, fl, hR, e, q⟩ := hq
  obtain ⟨l, e1, e2⟩ := bind_some e
  refine ⟨O0, r, l, hR, e1, fun J H0 s0 yl => ?_⟩
  have R0 := hR.same s0
  refine ⟨fun i m σ1 H1 => m = l.length - i /\ i <= l.length /\ ∃ r1, R X.K O0 H1 r1 σ1 /\ Kp H0 r σ H1 r1 σ1 /\ forL bd g (l.drop i) r1 = some fl, ⟨l.length, by simp, Nat.zero_le _, r, R0, Kp.refl H0 r σ, by simpa using e2⟩, ?_⟩
  rintro i m σ1 H1 ⟨rfl, hil, r1, R1, k1, e3⟩
  have k0 := (Kp.of_same r σ s0).trans k1
  obtain ⟨y1, y2⟩ := yl i H1 (Ow O0 r1 σ1) k1.keep fun a z n => z.elim .inl fun z => (k1.new a z).elim .inr fun z => absurd z n
  by_cases hlt : i < l.length
  · obtain ⟨go, yd⟩ := y1 hlt
    have hd : l[i]? = some l[i] := by simp [hlt]
    rw [drop_cons hd] at e3
    obtain ⟨r2, e4, e5⟩ := bind_some e3
    obtain ⟨f1, e6, e7⟩ := bind_some e5
    refine .inr ⟨go, fun σ3 H3 => ∃ r3, R X.K O0 H3 r3 σ3 /\ Kp H0 r σ H3 r3 σ3 /\ forL bd g (l.drop (i + 1)) r3 = some fl, fun σ3 H3 z => ⟨l.length - (i + 1), by omega, rfl, hlt, z⟩, fun x H2 yx => ?_⟩
    obtain ⟨s2, ix⟩ := yd x H2 yx
    have R2 := R1.same s2
    refine ⟨O0, r1, l[i], r2, R2, ix _ hd, e4, fun σ2 R2' k2 => ⟨O0, r2, f1, R2', e6, ?_⟩⟩
    have k3 := (k1.trans (Kp.of_same r1 σ1 s2)).trans k2
    have k4 := (k0.trans (Kp.of_same r1 σ1 s2)).trans k2
    cases f1 with
    | nx r3 => exact fun σ3 H3 R3 kk => ⟨r3, R3, k3.trans kk, e7⟩
    | ct r3 => exact fun σ3 H3 R3 kk => ⟨r3, R3, k3.trans kk, e7⟩
    | bk r3 => cases e7; exact fun σ3 H3 R3 kk => q σ3 H3 R3 (k4.trans kk)
    | rt d r3 => cases e7; exact PostS.before R2' k4 q
    | rf l' r3 => cases e7; exact PostS.before R2' k4 q
    | rg ks l' r3 => cases e7; exact PostS.before R2' k4 q
  · have hl : l.drop i = [] := List.drop_eq_nil_of_le (by omega)
    rw [hl] at e3
    cases e3
    exact .inl ⟨y2 (by omega), q σ1 H1 R1 k0⟩
theorem dg_name (i : Nat) {x : Str} (hN : X.N.Nodup) (hi : X.N[i]? = some x := by rfl) (hx : Loc X.env.scope x := by first | exact Or.inl rfl | exact Or.inr rfl) (hf : X.fn x = true \/ X.env.scope.names.lookup x = some .local := by first | exact .inl rfl | exact .inr rfl) : DG X (.Name x pos) (yJ i) := by
  refine PG.conseq (pg_name hN hi hx hf) fun v σ H Q h => ?_
  obtain ⟨O0, r, d, r', hR, iv, e, q⟩ := h
  obtain ⟨hl, np, rfl⟩ := setV_some e
  obtain ⟨R1, k1⟩ := hR.setv hl np iv
  exact q _ R1 k1
noncomputable def bdNil : List D -> En -> Option En := fun l r => if l.isEmpty then some r else none
noncomputable def bdCons (b : D -> En -> Option En) (bs : List D -> En -> Option En) : List D -> En -> Option En := fun l r => match l with
  | [] => none
  | d :: t => (b d r).bind fun r1 => bs t r1
noncomputable def lGs (K : Fg) (bs : List D -> En -> Option En) : TGs := fun vs σ H Q => ∃ O0 r l r', R K O0 H r σ /\ IsL K (Ow O0 r σ) H l vs /\ bs l r = some r' /\ ∀ σ', R K O0 H r' σ' -> Kp H r σ H r' σ' -> Q σ' H
noncomputable def DGs (X : Cx) (ts : List Expr) (bs : List D -> En -> Option En) : Prop := PGs X ts (lGs X.K bs)
theorem PGs.conseq {e : List Expr} {t t' : TGs} (h : PGs X e t) (i : ∀ v σ H Q, t' v σ H Q -> t v σ H Q) : PGs X e t' := fun pins s σ H v u Q I r q => h pins s σ H v u Q I r (i v σ H Q q)
theorem dgs_nil : DGs X [] bdNil := by
  refine PGs.conseq pgs_nil fun vs σ H Q h => ?_
  obtain ⟨O0, r, l, r', hR, il, e, q⟩ := h
  unfold bdNil at e
  cases l with
  | nil =>
    unfold IsL at il
    cases e
    exact ⟨il, q σ hR (Kp.refl H r σ)⟩
  | cons d l => cases e
theorem dgs_cons {e : Expr} {es : List Expr} {bs : List D -> En -> Option En} (h1 : DG X e bd) (h2 : DGs X es bs) (hs : (assignEach (e :: es) X.env).map (·.2) = assign e X.env :: (assignEach es X.env).map (·.2) := by rfl) : DGs X (e :: es) (bdCons bd bs) := by
  refine PGs.conseq (pgs_cons h1 h2 hs) fun vs σ H Q h => ?_
  obtain ⟨O0, r, l, r', hR, il, e, q⟩ := h
  cases l with
  | nil => cases e
  | cons d t =>
    unfold IsL at il
    obtain ⟨v, us, rfl, i1, i2⟩ := il
    obtain ⟨r1, e1, e2⟩ := bind_some e
    refine ⟨v, us, rfl, O0, r, d, r1, hR, i1, e1, fun σ1 R1 k1 => ⟨O0, r1, t, r', R1, ?_, e2, fun σ2 R2 k2 => q σ2 R2 (k1.trans k2)⟩⟩
    exact IsL.mono (zR.kp (zR.refl H) _) hR.ol (fun a z n => z.elim .inl fun z => (k1.new a z).elim .inr fun z => absurd z n) _ _ i2
end
inductive Rs where
  | v (d : D) | f (l : List D) | g (ks : List Key) (l : List D)
noncomputable abbrev MF := List Sl -> Option (Rs × List Sl)
structure PostF (K : Fg) (O0 : Addr -> Prop) (H : Hp) (as : List Sl) (vs : List V) (H' : Hp) (as' : List Sl) : Prop where
  keep : Keep (MutAt as (vs.map some)) H H'
  live : ∀ b, H' b = none -> H b = none
  lst : ∀ b o, H b = some o -> Mb o -> ∃ o', H' b = some o' /\ Mb o'
  par : ∀ (i : Nat) (l : List D), as[i]? = some (.p l) -> ∃ l' a xs, as'[i]? = some (.p l') /\ vs[i]? = some (.ref a) /\ H' a = some (.lst xs) /\ IsL K O0 H' l' xs
noncomputable def RsP (K : Fg) (O0 : Addr -> Prop) (H : Hp) (as : List Sl) (vs : List V) (as' : List Sl) (Q : VK) : Rs -> Prop
  | .v d => ∀ v H', PostF K O0 H as vs H' as' -> Is K O0 H' d v -> Q v H'
  | .f l => ∀ a xs H', PostF K O0 H as vs H' as' -> H a = none -> H' a = some (.lst xs) -> IsL K (fun b => O0 b \/ b = a) H' l xs -> Q (.ref a) H'
  | .g ks l => ∀ a kvs H', PostF K O0 H as vs H' as' -> H a = none -> H' a = some (.dK kvs) -> kvs.map (·.1) = ks -> IsL K (fun b => O0 b \/ b = a) H' l (kvs.map (·.2)) -> Q (.ref a) H'
noncomputable def spD (K : Fg) (n : Nat) (m : MF) : Sp := fun vs H Q _ => ∃ O0 as rs as', as.length = n /\ R K O0 H as (vs.map some) /\ (∀ (i : Nat) (l : List D), as[i]? ≠ some (.o l) /\ as[i]? ≠ some (.z l) /\ ∀ ks, as[i]? ≠ some (.d ks l)) /\ m as = some (rs, as') /\ RsP K O0 H as vs as' Q rs
noncomputable def mkF (n N : Nat) (g : MS) : MF := fun as => (g (as ++ List.replicate (N - n) .un)).bind fun fl => match fl with
  | .rt d r' => some (.v d, r'.take n)
  | .rf l r' => some (.f l, r'.take n)
  | .rg ks l r' => some (.g ks l, r'.take n)
  | .nx r' => some (.v .non, r'.take n)
  | _ => none
section
variable {P : Program} {w : World} {K : Fg} {mg : Str -> Option Value} {base : Heap}
theorem own_start {q : Sl -> Option (List D)} (hq : q .un = none) {as : List Sl} {vs : List V} {k n : Nat} {a : Addr} (hl : as.length = vs.length) : AtS q (as ++ List.replicate k .un) (vs.map some ++ List.replicate n none) a ↔ AtS q as (vs.map some) a := by
  constructor
  · rintro ⟨i, l, e, q'⟩
    by_cases hi : i < as.length
    · rw [List.getElem?_append_left hi] at e
      rw [List.getElem?_append_left (by simp; omega)] at q'
      exact ⟨i, l, e, q'⟩
    · rw [List.getElem?_append_right (by omega), List.getElem?_replicate] at e
      split at e
      · have e' : q .un = some l := e
        rw [hq] at e'; cases e'
      · cases e
  · rintro ⟨i, l, e, q'⟩
    have hi : i < as.length := by
      cases e1 : as[i]? with
      | none => rw [e1] at e; cases e
      | some x => exact (List.getElem?_eq_some_iff.mp e1).1
    exact ⟨i, l, by rw [List.getElem?_append_left hi]; exact e, by rw [List.getElem?_append_left (by simp; omega)]; exact q'⟩
theorem R.start {O0 : Addr -> Prop} {H : Hp} {as : List Sl} {vs : List V} {k : Nat} (h : R K O0 H as (vs.map some)) : R K O0 H (as ++ List.replicate k .un) (vs.map some ++ List.replicate k none) := by
  have hl : as.length = vs.length := by simpa using h.len
  have own : ∀ a, Ow O0 (as ++ List.replicate k .un) (vs.map some ++ List.replicate k none) a -> H a ≠ none -> Ow O0 as (vs.map some) a := fun a z _ => z.imp id (own_start rfl hl).mp
  have pre : ∀ (i : Nat) (x : Sl), (as ++ List.replicate k .un)[i]? = some x -> x ≠ .un -> as[i]? = some x /\ (vs.map some ++ List.replicate k none)[i]? = (vs.map some)[i]? := fun i x e n => by
    by_cases hi : i < as.length
    · rw [List.getElem?_append_left hi] at e
      exact ⟨e, List.getElem?_append_left (by simp; omega)⟩
    · rw [List.getElem?_append_right (by omega), List.getElem?_replicate] at e
      split at e
      · cases e; exact absurd rfl n
      · cases e
  have preO : ∀ {q : Sl -> Option (List D)} (hq : q .un = none) (i : Nat) (l : List D), ((as ++ List.replicate k .un)[i]?).bind q = some l -> (as[i]?).bind q = some l /\ (vs.map some ++ List.replicate k none)[i]? = (vs.map some)[i]? := fun {q} hq i l e => by
    cases e1 : (as ++ List.replicate k .un)[i]? with
    | none => rw [e1] at e; cases e
    | some x =>
      obtain ⟨q1, q2⟩ := pre i x e1 (by rintro rfl; rw [e1] at e; have e' : q .un = some l := e; rw [hq] at e'; cases e')
      rw [e1] at e
      exact ⟨by rw [q1]; exact e, q2⟩
  refine ⟨by simp [hl], fun i d e => ?_, fun i l e => ?_, fun i j a l m e1 e2 q1 q2 => ?_, h.o0, fun i l a e q => ?_, fun i l a e q => ?_, fun i ks l e => ?_⟩
  · obtain ⟨q1, q2⟩ := pre i _ e (by intro z; cases z)
    obtain ⟨v, e3, q3⟩ := h.val i d q1
    exact ⟨v, q2.trans e3, Is.mono (zR.kp (zR.refl H) _) h.ol own _ _ q3⟩
  · obtain ⟨q1, q2⟩ := preO (q := Sl.ls) rfl i l e
    obtain ⟨a, xs, e3, e4, q3⟩ := h.own i l q1
    exact ⟨a, xs, q2.trans e3, e4, IsL.mono (zR.kp (zR.refl H) _) h.ol own _ _ q3⟩
  · obtain ⟨p1, p2⟩ := preO (q := Sl.own) rfl i l e1
    obtain ⟨p3, p4⟩ := preO (q := Sl.own) rfl j m e2
    exact h.apart i j a l m p1 p3 (p2 ▸ q1) (p4 ▸ q2)
  · rcases e with e | e | ⟨ks, e⟩
    · obtain ⟨p1, p2⟩ := pre i _ e (by intro z; cases z)
      exact h.loc i l a (.inl p1) (p2 ▸ q)
    · obtain ⟨p1, p2⟩ := pre i _ e (by intro z; cases z)
      exact h.loc i l a (.inr (.inl p1)) (p2 ▸ q)
    · obtain ⟨p1, p2⟩ := pre i _ e (by intro z; cases z)
      exact h.loc i l a (.inr (.inr ⟨ks, p1⟩)) (p2 ▸ q)
  · obtain ⟨p1, p2⟩ := pre i _ e (by intro z; cases z)
    exact h.par i l a p1 (p2 ▸ q)
  · obtain ⟨p1, p2⟩ := pre i _ e (by intro z; cases z)
    obtain ⟨a, kvs, e3, e4, e5, q3⟩ := h.dct i ks l p1
    exact ⟨a, kvs, p2.trans e3, e4, e5, IsL.mono (zR.kp (zR.refl H) _) h.ol own _ _ q3⟩
theorem fn_d {x qual : Str} {st : Stmt} {f : Addr} {fd : FuncData} {N ps : List Str} {k : Nat} {g : MS} (F : Fun K x qual st f fd) (S : FnScope N ps (zZ st)) (n : Nat) (nN : Nat) (hn : ps.length = n := by rfl) (hN : N.length = nN := by rfl)
    (hb : ∀ (cdv : Value) (A : Around) (outer : List Env) (s : Shared) (H : Hp) (E : XK), Room k (A.deeper (envOfC qual (zZ st) s.heap.objs.size f cdv)) ->
      DSs (cxOf CX0 P w K mg base N qual (zZ st) f cdv A outer s H E).nox (defBody st) g) : FnOk P w K mg base CX0 (k + 1) f fd ps (spD K n (mkF n nN g)) := by
  subst hn hN
  refine F.ok S (fun vs H Q E h => ?_) (fun cdv A outer s H vs Q E hr h => ?_)
  · obtain ⟨O0, as, rs, as', hl, hR, _⟩ := h
    have := hR.len
    simp at this; omega
  · obtain ⟨O0, as, rs, as', hl, hR, no, e, q⟩ := h
    have hlv : as.length = vs.length := by simpa using hR.len
    refine ⟨_, hb cdv A outer s H E hr, ?_⟩
    obtain ⟨fl, e1, e2⟩ := bind_some e
    have hst : L2.start N vs = vs.map some ++ List.replicate (N.length - ps.length) none := by unfold L2.start; rw [<- hlv, hl]
    rw [hst]
    have R0 := R.start (k := N.length - ps.length) hR
    have fin : ∀ (σ' : St) (H' : Hp) (r' : En), R K O0 H' r' σ' -> Kp H (as ++ List.replicate (N.length - ps.length) .un) (vs.map some ++ List.replicate (N.length - ps.length) none) H' r' σ' -> PostF K O0 H as vs H' (r'.take ps.length) := fun σ' H' r' R' k' => by
      refine ⟨fun b o eb nb => k'.keep b o eb fun z => nb ((own_start rfl hlv).mp z), k'.live, k'.lst, fun i l ei => ?_⟩
      have hi : i < as.length := (List.getElem?_eq_some_iff.mp ei).1
      obtain ⟨⟨l', e3⟩, e4⟩ := k'.par i l (by rw [List.getElem?_append_left hi]; exact ei)
      rw [List.getElem?_append_left (by simp; omega)] at e4
      obtain ⟨a, xs, e5, e6, e7⟩ := R'.own i l' (by rw [e3]; rfl)
      rw [e4] at e5
      have ev : vs[i]? = some (.ref a) := by
        rw [List.getElem?_map] at e5
        cases e8 : vs[i]? with
        | none => rw [e8] at e5; cases e5
        | some y => rw [e8] at e5; cases e5; rfl
      exact ⟨l', a, xs, by rw [List.getElem?_take_of_lt (by omega)]; exact e3, ev, e6, IsL.mono (zR.kp (zR.refl H') _) R'.ol (fun _ z _ => .inl z) _ _ e7⟩
    refine ⟨O0, _, fl, R0, e1, ?_⟩
    cases fl with
    | nx r' => cases e2; exact fun σ' H' R' k' => q .non H' (fin σ' H' r' R' k') (by rw [Is.non_iff])
    | bk r' => cases e2
    | ct r' => cases e2
    | rt d r' => cases e2; exact fun v σ' H' R' k' i' => q v H' (fin σ' H' r' R' k') i'
    | rf l r' =>
      cases e2
      refine fun a xs σ' H' R' k' fr no0 ea il => q a xs H' (fin σ' H' r' R' k') ?_ ea il
      rcases fr with z | ⟨i, m, ei, _⟩
      · exact z
      · exfalso
        by_cases hi : i < as.length
        · rw [List.getElem?_append_left hi] at ei
          rcases ei with ei | ⟨ks, ei⟩
          · exact (no i m).1 ei
          · exact (no i m).2.2 ks ei
        · rw [List.getElem?_append_right (by omega), List.getElem?_replicate] at ei
          rcases ei with ei | ⟨ks, ei⟩ <;> split at ei <;> cases ei
    | rg ks l r' =>
      cases e2
      refine fun a kvs σ' H' R' k' fr no0 ea ek il => q a kvs H' (fin σ' H' r' R' k') ?_ ea ek il
      rcases fr with z | ⟨i, m, ei, _⟩
      · exact z
      · exfalso
        by_cases hi : i < as.length
        · rw [List.getElem?_append_left hi] at ei
          rcases ei with ei | ⟨ks', ei⟩
          · exact (no i m).1 ei
          · exact (no i m).2.2 ks' ei
        · rw [List.getElem?_append_right (by omega), List.getElem?_replicate] at ei
          rcases ei with ei | ⟨ks', ei⟩ <;> split at ei <;> cases ei
end
noncomputable def rsD : Rs -> D
  | .v d => d
  | .f l => .lst l
  | .g ks l => .dct ks l
noncomputable def zX (n : Nat) (m : MF) (fs : ML) : ME := fun r => (fs r).bind fun ds => if ds.length = n then (m (ds.map .v)).map fun p => rsD p.1 else none
noncomputable def mCallF (n : Nat) (m : MF) (fs : ML) : ML := fun r => (fs r).bind fun ds => if ds.length = n then (m (ds.map .v)).bind fun p => match p.1 with
  | .f l => some l
  | _ => none
  else none
section
variable {K : Fg}
theorem R.args {O : Addr -> Prop} {H : Hp} {ds : List D} {vs : List V} (ol : OLst O H) (h : IsL K O H ds vs) : R K O H (ds.map .v) (vs.map some) := by
  have no : ∀ (i : Nat) (l : List D), ((ds.map Sl.v)[i]?).bind Sl.own ≠ some l := fun i l e => by
    rw [List.getElem?_map] at e
    cases e1 : ds[i]? with
    | none => rw [e1] at e; cases e
    | some x => rw [e1] at e; cases e
  refine ⟨by simp [h.length], fun i d e => ?_, fun i l e => absurd (ls_own' e) (no i l), fun i j a l m e1 => absurd e1 (no i l), ol, fun i l a e => absurd (show ((ds.map Sl.v)[i]?).bind Sl.own = some l by rcases e with e | e | ⟨_, e⟩ <;> rw [e] <;> rfl) (no i l), fun i l a e => absurd (show ((ds.map Sl.v)[i]?).bind Sl.own = some l by rw [e]; rfl) (no i l), fun i ks l e => absurd (show ((ds.map Sl.v)[i]?).bind Sl.own = some l by rw [e]; rfl) (no i l)⟩
  rw [List.getElem?_map] at e
  cases e1 : ds[i]? with
  | none => rw [e1] at e; cases e
  | some x =>
    rw [e1] at e; cases e
    obtain ⟨v, e2, q⟩ := h.get e1
    exact ⟨v, by rw [List.getElem?_map, e2]; rfl, Is.mono (zR.kp (zR.refl H) _) ol (fun a z _ => z.elim id fun ⟨j, l, ej, _⟩ => absurd ej (no j l)) _ _ q⟩
theorem own_none {ds : List D} {σ : St} {a : Addr} : ¬ MutAt (ds.map .v) σ a := fun ⟨i, l, e, _⟩ => by
  rw [List.getElem?_map] at e
  cases e1 : ds[i]? with
  | none => rw [e1] at e; cases e
  | some x => rw [e1] at e; cases e
theorem PostF.same {O0 : Addr -> Prop} {H H' : Hp} {ds : List D} {vs : List V} {as' : List Sl} (h : PostF K O0 H (ds.map .v) vs H' as') : zR H H' := fun b o e => h.keep b o e own_none
end
section
variable {X : Cx} {k n : Nat} {f : Addr} {fd : FuncData} {ps : List Str} {m : MF} {x : Str} {p pos : Pos} {e : Expr} {es : List Expr} {fs : ML}
theorem sp_pure {O0 : Addr -> Prop} {r : En} {σ : St} {H H1 : Hp} {ds : List D} {vs : List V} {rs : Rs} {as' : List Sl} {Q : VK} {E : XK} (hR : R X.K O0 H r σ) (s1 : zR H H1) (il : IsL X.K (Ow O0 r σ) H1 ds vs) (hl : ds.length = n) (em : m (ds.map .v) = some (rs, as'))
    (q : RsP X.K (Ow O0 r σ) H1 (ds.map .v) vs as' Q rs) : spD X.K n m (vs ++ []) H1 Q E := by
  rw [List.append_nil]
  refine ⟨Ow O0 r σ, ds.map .v, rs, as', by simpa using hl, R.args (hR.same s1).ol il, fun i l => ?_, em, q⟩
  rw [List.getElem?_map]
  cases e1 : ds[i]? with
  | none => exact ⟨(fun z => by cases z), (fun z => by cases z), (fun _ z => by cases z)⟩
  | some y => exact ⟨(fun z => by cases z), (fun z => by cases z), (fun _ z => by cases z)⟩
theorem yN (F : FnOk X.prog X.w X.K X.mg X.base CX0 k f fd ps (spD X.K n m)) (hr : Room k X.A) (hg : Gl X x) (hm : X.mg x = some (.ref f)) (hk : PySem.W.keepIn X.K (.ref f) = true) (hb : Binds X.K fd ps []) (ha : DA X (e :: es) fs)
    (hdb : (x == ("__debug__" : Str)) = false := by decide) (he : starEach (e :: es) X.env = (false, eval e X.env) :: starEach es X.env := by rfl) (hpl : (backTo pos (starEach es X.env)).any (·.1) = false := by rfl) :
    DE X (.Call (.Name x p) (e :: es) [] pos) (zX n m fs) := by
  refine PE.conseq (pe_call (E := fun _ _ _ => False) (dvs := []) F hr hg hm hk hb .nil pass0 ha hdb he hpl) fun σ H Q h => ?_
  obtain ⟨O0, r, d, hR, e, q⟩ := h
  obtain ⟨ds, e1, e2⟩ := bind_some e
  split at e2
  · rename_i hl
    obtain ⟨⟨rs, as'⟩, e3, rfl⟩ := map_some e2
    refine ⟨O0, r, ds, hR, e1, fun vs H1 s1 il => sp_pure hR s1 il hl e3 ?_⟩
    cases rs with
    | v d => exact fun v H2 pf iv => q v H2 (s1.trans pf.same) iv
    | f l =>
      refine fun a xs H2 pf na ea il2 => q _ H2 (s1.trans pf.same) ?_
      have R1 := hR.same s1
      have olp : OLst (fun b => Ow O0 r σ b \/ b = a) H2 := fun b z => z.elim (fun z => (R1.same pf.same).ol b z) fun z => by subst z; exact ⟨.lst xs, ea, trivial⟩
      show Is X.K (Ow O0 r σ) H2 (.lst l) (.ref a)
      rw [Is.lst_iff]
      exact ⟨a, xs, rfl, .inl ⟨R1.nofresh na, .inl ea⟩, IsL.mono (zR.kp (zR.refl H2) _) olp (fun _ z _ => .inl z) _ _ il2⟩
    | g ks l =>
      refine fun a kvs H2 pf na ea ek il2 => q _ H2 (s1.trans pf.same) ?_
      have olp : OLst (fun b => Ow O0 r σ b \/ b = a) H2 := fun b z => z.elim (fun z => ((hR.same s1).same pf.same).ol b z) fun z => by subst z; exact ⟨.dK kvs, ea, trivial⟩
      show Is X.K (Ow O0 r σ) H2 (.dct ks l) (.ref a)
      rw [Is.dct_iff]
      exact ⟨a, kvs, rfl, (hR.same s1).nofresh na, .inl ea, ek, IsL.mono (zR.kp (zR.refl H2) _) olp (fun _ z _ => .inl z) _ _ il2⟩
  · cases e2
theorem df_call (F : FnOk X.prog X.w X.K X.mg X.base CX0 k f fd ps (spD X.K n m)) (hr : Room k X.A) (hg : Gl X x) (hm : X.mg x = some (.ref f)) (hk : PySem.W.keepIn X.K (.ref f) = true) (hb : Binds X.K fd ps []) (ha : DA X (e :: es) fs)
    (hdb : (x == ("__debug__" : Str)) = false := by decide) (he : starEach (e :: es) X.env = (false, eval e X.env) :: starEach es X.env := by rfl) (hpl : (backTo pos (starEach es X.env)).any (·.1) = false := by rfl) :
    DF X (.Call (.Name x p) (e :: es) [] pos) (mCallF n m fs) := by
  refine PE.conseq (pe_call (E := fun _ _ _ => False) (dvs := []) F hr hg hm hk hb .nil pass0 ha hdb he hpl) fun σ H Q h => ?_
  obtain ⟨O0, r, l, hR, e, q⟩ := h
  obtain ⟨ds, e1, e2⟩ := bind_some e
  split at e2
  · rename_i hl
    obtain ⟨⟨rs, as'⟩, e3, e4⟩ := bind_some e2
    refine ⟨O0, r, ds, hR, e1, fun vs H1 s1 il => sp_pure hR s1 il hl e3 ?_⟩
    cases rs with
    | v d => cases e4
    | f l' => cases e4; exact fun a xs H2 pf na ea il2 => q a xs H2 (s1.trans pf.same) (s1.free na) ea il2
    | g ks l' => cases e4
  · cases e2
end
section
variable {X : Cx} {tg l : Expr} {f : ME} {p pos : Pos}
noncomputable def itemsD : D -> Option (List D)
  | .lst l => some l
  | .tup l => some l
  | _ => none
noncomputable def mIt (f : ME) : ML := fun r => (f r).bind itemsD
theorem get_of_lt {l : List D} {i : Nat} (h : i < l.length) : ∃ d, l[i]? = some d := ⟨l[i], by simp [h]⟩
theorem yl_list {K : Fg} {O M : Addr -> Prop} (mo : ∀ a, M a -> O a) {H : Hp} {a : Addr} {xs : List V} {ds : List D} (ol : OLst O H) (rd : ∀ H1, Keep M H H1 -> SqL K H1 a xs) (il : IsL K O H ds xs): Ylds K O M H (Itl K a) ds := by
  intro i H1 O' kp oo
  have kp' : Keep O H H1 := fun b o e n => kp b o e fun z => n (mo b z)
  have rd1 : SqL K H1 a xs := rd H1 kp
  refine ⟨fun hi => ⟨?_, fun x H' y => ?_⟩, fun hi => ⟨xs, rd1, by rw [<- il.length]; exact Nat.le_of_eq hi.symm⟩⟩
  · obtain ⟨d, e⟩ := get_of_lt hi
    obtain ⟨v, e1, _⟩ := il.get e
    exact ⟨xs, v, rd1, e1⟩
  · obtain ⟨rfl, y⟩ := y
    refine ⟨zR.refl _, fun d e => ?_⟩
    obtain ⟨v, e1, q⟩ := il.get e
    have := y xs rd1
    rw [e1] at this; cases this
    exact Is.mono kp' ol oo _ _ q
theorem yl_tup {K : Fg} {O M : Addr -> Prop} (mo : ∀ a, M a -> O a) {H : Hp} {a : Addr} {xs : List V} {ds : List D} (ol : OLst O H) (rd : SqT K H a xs) (il : IsL K O H ds xs) : Ylds K O M H (Itt K a) ds := by
  intro i H1 O' kp oo
  have kp' : Keep O H H1 := fun b o e n => kp b o e fun z => n (mo b z)
  have rd1 : SqT K H1 a xs := SqT.keep kp' ol rd
  refine ⟨fun hi => ⟨?_, fun x H' y => ?_⟩, fun hi => ⟨xs, rd1, by rw [<- il.length]; exact Nat.le_of_eq hi.symm⟩⟩
  · obtain ⟨d, e⟩ := get_of_lt hi
    obtain ⟨v, e1, _⟩ := il.get e
    exact ⟨xs, v, rd1, e1⟩
  · obtain ⟨rfl, y⟩ := y
    refine ⟨zR.refl _, fun d e => ?_⟩
    obtain ⟨v, e1, q⟩ := il.get e
    have := y xs rd1
    rw [e1] at this; cases this
    exact Is.mono kp' ol oo _ _ q
theorem pi_seq {tl : TE} (hl : PE X l tl) : PI X tg l (fun σ H Rr => tl σ H fun x H1 => ∃ a, x = .ref a /\ (((∃ xs, SqL X.K H1 a xs) /\ Rr (Itl X.K a) H1) \/ ((∃ xs, SqT X.K H1 a xs) /\ Rr (Itt X.K a) H1))) := by
  intro pins s σ H R I h
  refine thn (hl pins s σ H _ I h) fun v s1 ⟨x, H1, I1, r1, q1⟩ => ?_
  obtain ⟨a, e, q⟩ := q1
  subst e
  cases r1
  rcases q with ⟨⟨xs, hq⟩, q⟩ | ⟨⟨xs, hq⟩, q⟩
  · obtain ⟨its, rv, p, hz⟩ := I1.list hq
    refine wpAny_pyIter_list p.isList ?_
    refine ⟨s1.heap.objs.size, [s1.heap.objs.size], _, _, H1, rfl, I1.kept (t' := s1.toks) fun b o e => Heap.get?_push_of_some _ e, turn_list a _, ⟨_, Heap.get?_push_size _ rfl, rfl, rfl⟩, fun b hb => ?_, q⟩
    have e : b = s1.heap.objs.size := by simpa using hb
    subst e
    exact I1.fpOk (Nat.le_refl _) (I1.hok.fresh (Nat.le_refl _))
  · obtain ⟨its, rv, p, hz⟩ := I1.tuple hq
    refine wpAny_pyIter_tuple (show s1.heap.IsTuple a its.toArray from p) ?_
    refine ⟨s1.heap.objs.size, [s1.heap.objs.size], _, _, H1, rfl, I1.kept (t' := s1.toks) fun b o e => Heap.get?_push_of_some _ e, turn_tuple a _, ⟨_, Heap.get?_push_size _ rfl, rfl, rfl⟩, fun b hb => ?_, q⟩
    have e : b = s1.heap.objs.size := by simpa using hb
    subst e
    exact I1.fpOk (Nat.le_refl _) (I1.hok.fresh (Nat.le_refl _))
theorem di_seq (hl : DE X l f) : DI X tg l (mIt f) := by
  refine PI.conseq (pi_seq hl) fun σ H Rr h => ?_
  obtain ⟨O0, r, ds, hR, e, q⟩ := h
  obtain ⟨d, e1, e2⟩ := bind_some e
  refine ⟨O0, r, d, hR, e1, fun v H1 s1 i1 => ?_⟩
  have ol := (hR.same s1).ol
  cases d with
  | lst l' =>
    cases e2
    rw [Is.lst_iff] at i1
    obtain ⟨a, xs, rfl, rd, il⟩ := i1
    exact ⟨a, rfl, .inl ⟨⟨xs, rd.sq⟩, q _ H1 s1 (yl_list (fun a z => .inr z.own) ol (fun H2 k2 => rd.imp (fun z => Rd.keep k2 (fun y => z.1 (.inr y.own)) z.2) id) il)⟩⟩
  | tup l' =>
    cases e2
    rw [Is.tup_iff] at i1
    obtain ⟨a, xs, rfl, rd, il⟩ := i1
    exact ⟨a, rfl, .inr ⟨⟨xs, rd⟩, q _ H1 s1 (yl_tup (fun a z => .inr z.own) ol rd il)⟩⟩
  | _ => cases e2
noncomputable def rngD (lo : Int) (n : Nat) : List D := (List.range n).map fun i => .int (lo + (i : Nat))
theorem yl_rng {K : Fg} {O M : Addr -> Prop} {H : Hp} (lo : Int) (n : Nat) : Ylds K O M H (Itr lo n) (rngD lo n) := by
  intro i H1 O' kp oo
  have hl : (rngD lo n).length = n := by simp [rngD]
  refine ⟨fun hi => ⟨by rw [hl] at hi; exact hi, fun x H' y => ?_⟩, fun hi => by rw [hl] at hi; exact Nat.le_of_eq hi.symm⟩
  obtain ⟨rfl, rfl⟩ := y
  refine ⟨zR.refl _, fun d e => ?_⟩
  rw [hl] at hi
  unfold rngD at e
  rw [List.getElem?_map, List.getElem?_range hi] at e
  cases e
  rw [Is.int_iff]
noncomputable def intD : D -> Option Int
  | .int i => some i
  | _ => none
noncomputable def mRng1 (f : ME) : ML := fun r => (f r).bind fun d => (intD d).bind fun j => if -(2 ^ 62) <= j /\ j < 2 ^ 62 then some (rngD 0 j.toNat) else none
theorem intD_some {d : D} {i : Int} (e : intD d = some i) : d = .int i := by
  cases d <;> first | cases e; rfl | cases e
theorem di_rng1 (hg : Gl X "range") (hm : X.mg "range" = none) (ha : DE X l f) (hs : starEach [l] X.env = [(false, eval l X.env)] := by rfl) : DI X tg (.Call (.Name "range" p) [l] [] pos) (mRng1 f) := by
  refine PI.conseq (pi_range1 hg hm (pa_cons ha pa_nil hs) hs) fun σ H Rr h => ?_
  obtain ⟨O0, r, ds, hR, e, q⟩ := h
  obtain ⟨d, e1, e2⟩ := bind_some e
  obtain ⟨j, e3, e4⟩ := bind_some e2
  cases intD_some e3
  split at e4
  · rename_i hj
    cases e4
    refine ⟨O0, r, _, hR, e1, fun v H1 s1 i1 => ?_⟩
    rw [Is.int_iff] at i1
    exact ⟨j, by rw [i1], hj.1, hj.2, q _ H1 s1 (yl_rng 0 _)⟩
  · cases e4
end
noncomputable def clOf (env : Env) : List (Str × NameKind) -> List (Str × Addr) -> List (Str × Addr)
  | [], acc => acc
  | (n, k) :: r, acc => if k = .free then clOf env r ((n, (env.cells.lookup n).getD 0) :: acc) else clOf env r acc
theorem closure_eq {env : Env} : ∀ (names : List (Str × NameKind)) (acc : List (Str × Addr)), (∀ y ∈ names, y.2 = .free -> ∃ c, env.cells.lookup y.1 = some c) ->
    (forIn names acc (fun (x : Str × NameKind) (cs : List (Str × Addr)) => match x with
      | (name, kind) => if (kind == NameKind.free) = true then do let a <- cellOf env name; pure (ForInStep.yield ((name, a) :: cs)) else pure (ForInStep.yield cs)) : Sem (List (Str × Addr))) = pure (clOf env names acc)
  | [], acc, _ => rfl
  | (n, k) :: r, acc, h => by
    rw [List.forIn_cons]
    by_cases hk : k = .free
    · obtain ⟨c, hc⟩ := h (n, k) List.mem_cons_self hk
      have ih := closure_eq r ((n, c) :: acc) fun y hy => h y (List.mem_cons_of_mem _ hy)
      subst hk
      show ((do let a <- cellOf env n; pure (ForInStep.yield ((n, a) :: acc))) >>= _ : Sem _) = _
      unfold cellOf
      rw [hc]
      unfold clOf
      rw [if_pos rfl, hc]
      exact ih
    · have hb : (k == NameKind.free) = false := by simpa using hk
      have ih := closure_eq r acc fun y hy => h y (List.mem_cons_of_mem _ hy)
      unfold clOf
      rw [if_neg hk]
      simp only [hb]
      exact ih
theorem closureFor_eq {scope : Scope} {env : Env} (h : ∀ y ∈ scope.names, y.2 = .free -> ∃ c, env.cells.lookup y.1 = some c) : closureFor scope env = pure (clOf env scope.names []) := by
  unfold closureFor
  have := closure_eq (env := env) scope.names [] h
  first
    | exact this
    | (simp only [bind_pure]; exact this)
    | (rw [<- this]; rfl)
theorem clOf_sub {env : Env} {x : Str} {c : Addr} : ∀ (names : List (Str × NameKind)) (acc : List (Str × Addr)), (∀ y ∈ names, y.2 = .free -> ∃ c, env.cells.lookup y.1 = some c) -> (∀ c, acc.lookup x = some c -> env.cells.lookup x = some c) ->
    (clOf env names acc).lookup x = some c -> env.cells.lookup x = some c
  | [], acc, _, ha, e => ha c e
  | (n, k) :: r, acc, h, ha, e => by
    unfold clOf at e
    split at e
    · rename_i hk
      refine clOf_sub r _ (fun y hy => h y (List.mem_cons_of_mem _ hy)) (fun c' e' => ?_) e
      rw [List.lookup_cons] at e'
      split at e'
      · rename_i hx
        have hx' : x = n := by simpa using hx
        subst hx'
        obtain ⟨c2, q⟩ := h (x, k) List.mem_cons_self hk
        rw [q] at e' ⊢
        simpa using e'
      · exact ha c' e'
    · exact clOf_sub r _ (fun y hy => h y (List.mem_cons_of_mem _ hy)) ha e
theorem clOf_acc {env : Env} {x : Str} : ∀ (names : List (Str × NameKind)) (acc : List (Str × Addr)), (∃ c, acc.lookup x = some c) -> ∃ c, (clOf env names acc).lookup x = some c
  | [], acc, h => h
  | (n, k) :: r, acc, h => by
    unfold clOf
    split
    · refine clOf_acc r _ ?_
      rw [List.lookup_cons]
      split
      · exact ⟨_, rfl⟩
      · exact h
    · exact clOf_acc r _ h
theorem clOf_has {env : Env} {x : Str} : ∀ (names : List (Str × NameKind)) (acc : List (Str × Addr)), (x, NameKind.free) ∈ names -> ∃ c, (clOf env names acc).lookup x = some c
  | [], _, h => nomatch h
  | (n, k) :: r, acc, h => by
    unfold clOf
    rcases List.mem_cons.mp h with z | z
    · cases z
      rw [if_pos rfl]
      refine clOf_acc r _ ?_
      rw [List.lookup_cons]
      simp
    · split
      · exact clOf_has r _ z
      · exact clOf_has r _ z
theorem relabel_inv {env : Env} : ∀ {names : List (Str × NameKind)} {x : Str} {k : NameKind}, (names.map fun (n, k) => if (k == NameKind.free && env.scope.kind == .function && env.kindOf n == some .cell) then (n, NameKind.cell) else (n, k)).lookup x = some k ->
    ∃ k', names.lookup x = some k' /\ (k = k' \/ (k' = .free /\ k = .cell))
  | [], _, _, h => by simp at h
  | (n, k0) :: r, x, k, h => by
    have h' : List.lookup x ((if (k0 == NameKind.free && env.scope.kind == .function && env.kindOf n == some .cell) = true then (n, NameKind.cell) else (n, k0)) :: (r.map fun (n, k) => if (k == NameKind.free && env.scope.kind == .function && env.kindOf n == some .cell) then (n, NameKind.cell) else (n, k))) = some k := h
    rw [List.lookup_cons]
    by_cases hc : (k0 == NameKind.free && env.scope.kind == .function && env.kindOf n == some .cell) = true
    · rw [if_pos hc, List.lookup_cons] at h'
      split at h'
      · rename_i hx
        cases h'
        refine ⟨k0, rfl, .inr ⟨?_, rfl⟩⟩
        simp only [Bool.and_eq_true, beq_iff_eq] at hc
        exact hc.1.1
      · rename_i hx
        exact relabel_inv h'
    · rw [if_neg hc, List.lookup_cons] at h'
      split at h'
      · rename_i hx
        cases h'
        exact ⟨k0, rfl, .inl rfl⟩
      · rename_i hx
        exact relabel_inv h'
theorem relabel_free {env : Env} : ∀ {names : List (Str × NameKind)} {x : Str}, names.lookup x = some .free ->
    let l := (names.map fun (n, k) => if (k == NameKind.free && env.scope.kind == .function && env.kindOf n == some .cell) then (n, NameKind.cell) else (n, k)); l.lookup x = some .cell \/ l.lookup x = some .free
  | [], _, h => by simp at h
  | (n, k0) :: r, x, h => by
    show List.lookup x ((if (k0 == NameKind.free && env.scope.kind == .function && env.kindOf n == some .cell) = true then (n, NameKind.cell) else (n, k0)) :: _) = _ \/ List.lookup x ((if (k0 == NameKind.free && env.scope.kind == .function && env.kindOf n == some .cell) = true then (n, NameKind.cell) else (n, k0)) :: _) = _
    rw [List.lookup_cons] at h
    cases hx : x == n with
    | true =>
      rw [hx] at h
      cases h
      split
      · left; rw [List.lookup_cons, hx]
      · right; rw [List.lookup_cons, hx]
    | false =>
      rw [hx] at h
      have ih := relabel_free (env := env) h
      split
      · rw [List.lookup_cons, hx]; exact ih
      · rw [List.lookup_cons, hx]; exact ih
noncomputable def cxC (X : Cx) (N' : List Str) (scope : Scope) (C : Addr) (fp : List Addr) (s : Shared) (H : Hp) : Cx where
  prog := X.prog
  w := X.w
  K := X.K
  mg := X.mg
  base := X.base
  A := X.A
  N := N'
  s₀ := s
  H₀ := H
  env := compEnvC scope (clOf X.env scope.names []) C X.env
  outer := X.stack
  stack := X.stack
  ex := fp
  fn := fun _ => false
  calm := X.calm
  pn := []
  xe := fun _ _ => False
structure CmpOk (X : Cx) (N' : List Str) (cap : List Nat) (scope : Scope) : Prop where
  kind : scope.kind = .function
  nc : ∀ y ∈ scope.names, y.2 ≠ .cell
  nm : ∀ y ∈ scope.names, y.2 = .local -> scope.names.lookup y.1 = some .local
  fr : ∀ y ∈ scope.names, y.2 = .free -> X.env.kindOf y.1 = some .cell \/ X.env.kindOf y.1 = some .free
  capt : ∀ (i j : Nat), cap[i]? = some j -> ∃ x, N'[i]? = some x /\ X.N[j]? = some x /\ scope.names.lookup x = some .free
  len : cap.length <= N'.length
noncomputable def sigC (cap : List Nat) (n : Nat) (σ : St) : St := (cap.map fun j => (σ[j]?).getD none) ++ List.replicate (n - cap.length) none
section
variable {X : Cx} {pins : List (Addr × Obj)} {σ : St} {H : Hp} {s : Shared} {N' : List Str} {cap : List Nat} {scope : Scope} {fp : List Addr}
theorem CmpOk.hasc (o : CmpOk X N' cap scope) (ok : X.Ok) : ∀ y ∈ scope.names, y.2 = .free -> ∃ c, X.env.cells.lookup y.1 = some c := fun y hy e => ok.has y.1 (o.fr y hy e)
theorem CmpOk.sub (o : CmpOk X N' cap scope) (ok : X.Ok) {x : Str} {c : Addr} (e : (clOf X.env scope.names []).lookup x = some c) : X.env.cells.lookup x = some c := clOf_sub scope.names [] (o.hasc ok) (fun _ z => by simp at z) e
theorem inv_comp (o : CmpOk X N' cap scope) (I : Inv X pins σ H s) (hfp : ∀ b ∈ fp, FpOk X pins H b) (hlt : ∀ b ∈ fp, b < s.heap.objs.size) {h' : Heap} {t' : Nat} (ns : h'.Ns s.heap.objs.size (fun _ => none)) (kp : ∀ b u, s.heap.get? b = some u -> h'.get? b = some u) :
    Inv (cxC X N' scope s.heap.objs.size fp s H) [] (sigC cap N'.length σ) H { s with heap := h', toks := t' } := by
  have hf : H s.heap.objs.size = none := I.hok.fresh (Nat.le_refl _)
  have nofp : ∀ b ∈ fp, b ∉ frs X.stack := fun b hb z => by
    obtain ⟨f0, f1, f2, f3, f4, f5⟩ := hfp b hb
    rcases List.mem_cons.mp (I.stkSub b z) with q | q
    · exact f1 q
    · exact f2 q
  have ok' : (cxC X N' scope s.heap.objs.size fp s H).Ok := by
    refine ⟨I.ok.mod, o.kind, I.ok.glob, I.ok.blt, Nat.le_refl _, fun x y c e1 e2 => I.ok.inj x y c (o.sub I.ok e1) (o.sub I.ok e2), fun x hx => ?_, fun x c z => (by cases z), I.ok.hd, I.ok.frames, .inl rfl, fun b hb => ⟨Nat.ne_of_lt (hlt b hb), fun x c e => (hfp b hb).2.2.2.2.1 x c (o.sub I.ok e)⟩,
      fun b ob e => I.bs b ob e, Nat.le_trans I.ok.bsz I.sz, fun b ob e hb => ?_, nofp, I.stack, I.stkFree⟩
    · have key : scope.names.lookup x = some .free := by
        rcases hx with hx | hx
        · obtain ⟨k', e1, e2⟩ := relabel_inv (env := X.env) (names := scope.names) (x := x) (k := .cell) hx
          rcases e2 with e2 | e2
          · subst e2; exact absurd rfl (o.nc _ (PySem.mem_of_lookup e1))
          · rw [e2.1] at e1; exact e1
        · obtain ⟨k', e1, e2⟩ := relabel_inv (env := X.env) (names := scope.names) (x := x) (k := .free) hx
          rcases e2 with e2 | e2
          · subst e2; exact e1
          · exact absurd e2.2 (by decide)
      exact clOf_has scope.names [] (PySem.mem_of_lookup key)
    · rcases (hfp b hb).2.2.2.1 with z | z
      · exact I.ok.noex b ob e z
      · exact absurd (Nat.lt_of_lt_of_le (Nat.lt_of_lt_of_le (Heap.lt_size e) I.ok.bsz) z) (Nat.lt_irrefl _)
  refine ⟨ok', rfl, I.bare, Un.kept kp, ⟨fun _ => none, ns, fun i x v hN hs hv => ?_⟩, fun x c e => ?_, hf, fun x c e => I.freeC x c (o.sub I.ok e), fun p hp => ?_, I.hok.kept kp, ?_⟩
  · have hN : N'[i]? = some x := hN
    by_cases hi : i < cap.length
    · unfold sigC at hs
      rw [List.getElem?_append_left (by simpa using hi), List.getElem?_map] at hs
      obtain ⟨j, hj⟩ : ∃ j, cap[i]? = some j := ⟨cap[i], by simp [hi]⟩
      rw [hj] at hs
      have hs' : σ[j]? = some (some v) := by
        have hs'' : (σ[j]?).getD none = some v := Option.some.inj hs
        cases e : σ[j]? with
        | none => rw [e] at hs''; cases hs''
        | some y => rw [e] at hs''; have : y = some v := hs''; rw [this]
      obtain ⟨x', e1, e2, e3⟩ := o.capt i j hj
      rw [hN] at e1; cases e1
      have hk := o.fr (x, .free) (PySem.mem_of_lookup e3) rfl
      obtain ⟨m, hn, hl⟩ := I.loc
      have hvis : Vis X.env.scope x := hk.elim (fun z => .inr (.inl z)) fun z => .inr (.inr z)
      obtain ⟨u, r, lk⟩ := hl j x v e2 hs' hvis
      refine ⟨u, r, .inr ⟨relabel_free (env := X.env) e3, ?_⟩⟩
      rcases lk with ⟨z, _⟩ | ⟨_, c, hc, hcell⟩
      · have z' : X.env.kindOf x = some .local := z
        rw [z'] at hk
        rcases hk with hk | hk <;> cases hk
      · obtain ⟨c', hc'⟩ := clOf_has (env := X.env) scope.names [] (PySem.mem_of_lookup e3)
        have hcc := o.sub I.ok hc'
        rw [hc] at hcc; cases hcc
        obtain ⟨ob, q1, q2⟩ := hcell
        exact ⟨c, hc', ob, kp _ _ q1, q2⟩
    · unfold sigC at hs
      rw [List.getElem?_append_right (by simpa using Nat.le_of_not_lt hi), List.getElem?_replicate] at hs
      split at hs <;> cases hs
  · obtain ⟨v, ob, q1, q2⟩ := I.cell x c (o.sub I.ok e)
    exact ⟨v, ob, kp _ _ q1, q2⟩
  · exact absurd (show p ∈ ([] : List (Addr × Obj)) from hp) (by simp)
  · unfold sigC
    show _ = N'.length
    rw [List.length_append, List.length_map, List.length_replicate]
    have := o.len
    omega
theorem inv_comp_end {H2 : Hp} {σ2 : St} {s2 : Shared} {h' : Heap} (I : Inv X pins σ H s) (hfp : ∀ b ∈ fp, FpOk X pins H b) (J : Inv (cxC X N' scope s.heap.objs.size fp s H) [] σ2 H2 s2) (sb : Heap.SameBut s.heap.objs.size s2.heap h') : Inv X pins σ H2 { s2 with heap := h' } := by
  have hb : Un (frs X.stack) fp H H2 s.heap s2.heap := J.base
  have ne : ∀ b o, s.heap.get? b = some o -> b ≠ s.heap.objs.size := fun b o e => Nat.ne_of_lt (Heap.lt_size e)
  have fr : H2 s.heap.objs.size = none := J.free
  refine I.call' (s' := { s2 with heap := h' }) (ch := fp) J.os ?_ ?_ J.bare fun b hb => ⟨(hfp b hb).2.2.2.1, (hfp b hb).2.1, (hfp b hb).2.2.2.2.1, (hfp b hb).2.2.2.2.2⟩
  · refine ⟨fun b o e n h1 h2 => ?_, fun b o e n h1 h2 => ?_, fun b o e n h2 => hb.free b o e n h2, fun b o e h2 => ?_, hb.tups, hb.frzs, hb.tbls⟩
    · exact sb.extBut b o (ne b o e) (hb.keep b o e n h1 h2)
    · obtain ⟨sl, q⟩ := hb.slot b o e n h1 h2
      exact ⟨sl, sb.extBut b _ (ne b o e) q⟩
    · obtain ⟨o', q⟩ := hb.there b o e h2
      exact ⟨o', sb.extBut b _ (ne b o e) q⟩
  · intro b u e
    have nb : ∀ c w, H2 c = some w -> c ≠ s.heap.objs.size := fun c w q z => by rw [z, fr] at q; cases q
    refine (J.hok b u e).stay (fun c v hc q => sb.extBut c v ?_ q) (fun _ q => q) fun _ _ q => q
    rcases hc with z | z
    · rw [z]; exact nb b u e
    · exact nb c _ z
noncomputable def tComp1 (tc : Option TT) (te : TE) (K1 : V -> Hp -> Prop) (K0 : Hp -> Prop) : St -> Hp -> Prop := fun σ H => match tc with
  | none => te σ H K1
  | some c => c σ H fun b H1 => if b = true then te σ H1 K1 else K0 H1
noncomputable def tComp (cap : List Nat) (n : Nat) (wi : TI) (g : TG) (tc : Option TT) (te : TE) : TE := fun σ H Q => wi σ H fun J H1 => ∀ p, H1 p = none -> ∃ W : Nat -> Nat -> List V -> St -> Hp -> Prop, (∃ m, W 0 m [] (sigC cap n σ) (upd H1 p (.lst []))) /\ ∀ i m ys σ2 H2, W i m ys σ2 H2 -> H2 p = some (.lst ys) /\ ys.length < sizeLine /\
  ((J.stop i H2 /\ Q (.ref p) H2) \/ (J.go i H2 /\ ∀ x H3, J.yld i H2 x H3 -> g x σ2 H3 fun σ4 H4 => tComp1 tc te (fun y H5 => H5 p = some (.lst ys) /\ ∃ m', m' < m /\ W (i + 1) m' (ys ++ [y]) σ4 (upd H5 p (.lst (ys ++ [y])))) (fun H5 => ∃ m', m' < m /\ W (i + 1) m' ys σ4 H5) σ4 H4))
theorem compLoop_go {prog : Program} {w : World} {A : Around} {Z : Result -> Shared -> Prop} {t0 : Shared} {elt tgt src : Expr} {tests : List Expr} {scope : Scope} {pos : Pos} {it out : Value} {env : Env} (W : Nat -> Shared -> Prop)
    (each : ∀ k t, W k t -> wpAny (model prog w) A (pyNext it) (fun got t1 => match got with
      | none => Z (.ok .next) t1
      | some y => wpAny (model prog w) A (letOwnedTupleGo tgt it y) (fun _ t2 => wpAny (model prog w) A (assign tgt env y) (fun _ t3 =>
          wpAny (model prog w) A (forIn tests true fun c b => if b = true then do let ok <- isTrue c env (eval c env); pure (ForInStep.yield ok) else pure (ForInStep.yield b)) (fun good t4 =>
            if good = true then wpAny (model prog w) A (eval elt env) (fun x t5 =>
              wpAny (model prog w) A (call (.builtin "list.append") [out, x]) (fun _ t6 => ∃ j, j < k /\ W j t6) (fun _ _ => False) t5) (fun _ _ => False) t4
            else ∃ j, j < k /\ W j t4) (fun _ _ => False) t3) (fun _ _ => False) t2) (fun _ _ => False) t1) (fun _ _ => False) t)
    (k : Nat) (h0 : W k t0) : codeAny (model prog w) A (.compLoop (.ListComp elt [⟨tgt, src, tests, 0⟩] scope pos) 0 it out env) Z t0 := by
  refine codeAny_loop rfl W (fun k t hW => ?_) k h0
  show wpAny _ A ((compTurn (.ListComp elt [⟨tgt, src, tests, 0⟩] scope pos) 0 it out env).onRaise (fun x => do noteFrame x env; theTreesLotGoes x)) _ _ t
  refine wpAny_noted ?_
  rw [compTurn_list]
  refine wpAny_bind (wpAny_standAt (wpAny_bind (wpAny_mono (each k t hW) (fun got t1 g1 => ?_) fun _ _ no => no.elim)))
  cases got with
  | none => exact wpAny_pure g1
  | some y =>
    refine wpAny_bind (wpAny_mono g1 (fun _ t2 g2 => wpAny_bind (wpAny_mono g2 (fun _ t3 g3 => wpAny_bind (wpAny_mono g3 (fun good t4 g4 => ?_) fun _ _ no => no.elim)) fun _ _ no => no.elim)) fun _ _ no => no.elim)
    cases good with
    | false => exact wpAny_pure ⟨rfl, g4⟩
    | true =>
      exact wpAny_bind (wpAny_bind (wpAny_mono g4 (fun x t5 g5 => wpAny_bind (wpAny_mono g5 (fun _ t6 g6 => wpAny_pure (wpAny_pure ⟨rfl, g6⟩)) fun _ _ no => no.elim)) fun _ _ no => no.elim))
theorem comp_core {elt tg iter : Expr} {ifs : List Expr} {pos : Pos} {g : TG} {tc : Option TT} {te : TE} {J : It} {it : Addr} {tn : Nat -> Heap -> Prop} {Q : VK} {RR : Value -> Addr -> Result -> Shared -> Prop} (hc : X.calm = true) (o : CmpOk X N' cap scope)
    (hg : ∀ C fp s H, PG (cxC X N' scope C fp s H) tg g) (ht : match (generalizing := false) tc with | none => ifs = [] | some c => ∃ e, ifs = [e] /\ ∀ C fp s H, PT (cxC X N' scope C fp s H) e c) (he : ∀ C fp s H, PE (cxC X N' scope C fp s H) elt te)
    (I : Inv X pins σ H s) (T : Turn X.prog X.w X.K tg J fp it tn) (st : tn 0 s.heap) (hfp : ∀ b ∈ fp, FpOk X pins H b)
    (hw : ∀ p, H p = none -> ∃ W : Nat -> Nat -> List V -> St -> Hp -> Prop, (∃ m, W 0 m [] (sigC cap N'.length σ) (upd H p (.lst []))) /\ ∀ i m ys σ2 H2, W i m ys σ2 H2 -> H2 p = some (.lst ys) /\ ys.length < sizeLine /\
      ((J.stop i H2 /\ Q (.ref p) H2) \/ (J.go i H2 /\ ∀ x H3, J.yld i H2 x H3 -> g x σ2 H3 fun σ4 H4 => tComp1 tc te (fun y H5 => H5 p = some (.lst ys) /\ ∃ m', m' < m /\ W (i + 1) m' (ys ++ [y]) σ4 (upd H5 p (.lst (ys ++ [y])))) (fun H5 => ∃ m', m' < m /\ W (i + 1) m' ys σ4 H5) σ4 H4)))
    (hRR : ∀ (p : Addr) (s3 s' : Shared) (H3 H2 : Hp) (σ2 : St), Inv X pins σ H3 s3 -> (∀ b ∈ fp, FpOk X pins H3 b) -> Inv (cxC X N' scope s3.heap.objs.size fp s3 H3) [] σ2 H2 s' -> Q (.ref p) H2 -> RR (.ref p) s3.heap.objs.size (.ok .next) s') :
    wpAny (model X.prog X.w) X.A (newList []) (fun acc s₃ => wpAny (model X.prog X.w) X.A (newFunctionEnv scope X.env.globals (clOf X.env scope.names []) [] X.env.qual none .none (some X.env)) (fun cenv s₄ =>
      codeAny (model X.prog X.w) X.A (.compStart (.ListComp elt [⟨tg, iter, ifs, 0⟩] scope pos) 0 (.ref it) acc { cenv with scope := relabel scope X.env }) (RR acc cenv.locals) s₄) X.xe s₃) X.xe s := by
  refine wpAny_newObj_type ?_
  obtain ⟨W, ⟨m0, w0⟩, turn⟩ := hw s.heap.objs.size (I.hok.fresh (Nat.le_refl _))
  have nfp : ∀ b ∈ fp, b < s.heap.objs.size := fun b hb => by
    obtain ⟨ob, e, _⟩ := T.obj 0 _ st b hb
    exact Heap.lt_size e
  have I3 := I.lnew (its := []) (ys := []) (t' := s.toks) .nil (Nat.zero_le _)
  generalize hs3 : ({ s with heap := s.heap.push { cls := .type "list", data := .seq ([] : List Value).toArray }, toks := s.toks } : Shared) = s3 at I3
  have hs3' : ({ s with heap := s.heap.push { cls := .type "list", dict := none, data := .seq ([] : List Value).toArray } } : Shared) = s3 := hs3
  have hf3 : ∀ b ∈ fp, FpOk X pins (upd H s.heap.objs.size (.lst [])) b := fun b hb => ⟨by rw [zU (Nat.ne_of_lt (nfp b hb))]; exact (hfp b hb).1, (hfp b hb).2⟩
  have st3 : tn 0 s3.heap := T.keep 0 _ _ st fun b _ ob e => by rw [<- hs3]; exact Heap.get?_push_of_some _ e
  have nfp3 : ∀ b ∈ fp, b < s3.heap.objs.size := fun b hb => by
    obtain ⟨ob, e, _⟩ := T.obj 0 _ st3 b hb
    exact Heap.lt_size e
  refine wpAny_newFunctionEnv o.nc (by intro y hy; simp at hy) (fun h₁ hns₁ hsb₁ => ?_) o.kind
  have old : ∀ b ob, s3.heap.get? b = some ob -> h₁.get? b = some ob := fun b ob e => hsb₁.extBut b ob (Nat.ne_of_lt (Heap.lt_size e)) (Heap.get?_push_of_some _ e)
  have I4 := inv_comp (t' := s3.toks + ([] : List (Str × Value)).length) o I3 hf3 nfp3 (by simpa using hns₁) old
  have st4 : tn 0 h₁ := T.keep 0 _ _ st3 fun b _ ob e => old b ob e
  have fpC : ∀ H', (∀ b ∈ fp, H' b = none) -> ∀ b ∈ fp, FpOk (cxC X N' scope s3.heap.objs.size fp s3 (upd H s.heap.objs.size (.lst []))) [] H' b := fun H' hn b hb => by
    refine ⟨hn b hb, Nat.ne_of_lt (nfp3 b hb), I4.ok.exfs b hb, .inl hb, (I4.ok.exf b hb).2, fun p hp => absurd (show p ∈ ([] : List (Addr × Obj)) from hp) (by simp)⟩
  have loop : codeAny (model X.prog X.w) X.A (.compLoop (.ListComp elt [⟨tg, iter, ifs, 0⟩] scope pos) 0 (.ref it) (.ref s.heap.objs.size) (compEnvC scope (clOf X.env scope.names []) s3.heap.objs.size X.env)) (RR (.ref s.heap.objs.size) s3.heap.objs.size) { s3 with heap := h₁, toks := s3.toks + ([] : List (Str × Value)).length } := by
    refine compLoop_go (fun n s' => ∃ i ys σ' H', Inv (cxC X N' scope s3.heap.objs.size fp s3 (upd H s.heap.objs.size (.lst []))) [] σ' H' s' /\ tn i s'.heap /\ (∀ b ∈ fp, H' b = none) /\ W i n ys σ' H') ?_ m0 ⟨0, [], _, _, I4, st4, fun b hb => (hf3 b hb).1, w0⟩
    rintro n s5 ⟨i, ys, σ5, H5, I5, st5, fr5, w5⟩
    obtain ⟨hp5, hz5, br⟩ := turn i n ys σ5 H5 w5
    rcases br with ⟨stop, q⟩ | ⟨go, step⟩
    · refine thn (T.done (cxC X N' scope s3.heap.objs.size fp s3 (upd H s.heap.objs.size (.lst []))) rfl rfl rfl hc i [] s5 _ H5 (fun _ _ => False) I5 (fpC H5 fr5) st5 stop) fun r s6 ⟨hr, I6⟩ => ?_
      subst hr
      exact hRR _ s3 s6 _ H5 _ I3 hf3 I6 q
    · refine thn (T.item (cxC X N' scope s3.heap.objs.size fp s3 (upd H s.heap.objs.size (.lst []))) rfl rfl rfl hc i [] s5 _ H5 (fun _ _ => False) I5 (fpC H5 fr5) st5 go) fun r s6 ⟨u, hr, h6⟩ => ?_
      subst hr
      refine thn h6 fun _ s7 ⟨x, H7, I7, r7, y7, st7, fr7⟩ => ?_
      have I7' := I7.pinned (fpC H7 fr7) (T.obj _ _ st7)
      refine thn (hg _ _ _ _ _ s7 _ H7 x u _ I7' r7 (step x H7 y7)) fun _ s8 ⟨σ8, H8, I8, q8⟩ => ?_
      have again : ∀ {H9 : Hp} {σ9 : St} {s9 : Shared} {ys' : List V}, Inv (cxC X N' scope s3.heap.objs.size fp s3 (upd H s.heap.objs.size (.lst []))) ([] ++ pinsAt fp s7.heap) σ9 H9 s9 -> (∃ m', m' < n /\ W (i + 1) m' ys' σ9 H9) ->
          ∃ m, m < n /\ ∃ i ys σ' H', Inv (cxC X N' scope s3.heap.objs.size fp s3 (upd H s.heap.objs.size (.lst []))) [] σ' H' s9 /\ tn i s9.heap /\ (∀ b ∈ fp, H' b = none) /\ W i m ys σ' H' := fun {H9 σ9 s9 ys'} I9 z => by
        obtain ⟨m', hm, w9⟩ := z
        refine ⟨m', hm, i + 1, ys', σ9, H9, I9.unpinned, T.keep _ _ _ st7 fun b hb ob e => (I9.pin (b, ob) (List.mem_append_right _ (List.mem_append_right _ (mem_pinsAt hb e)))).1, fun b hb => ?_, w9⟩
        obtain ⟨ob, e, d⟩ := T.obj _ _ st7 b hb
        exact (I9.pin (b, ob) (List.mem_append_right _ (List.mem_append_right _ (mem_pinsAt hb e)))).2.1
      have app : ∀ {s9 : Shared} {H9 : Hp} {y : V} {u9 : Value}, Inv (cxC X N' scope s3.heap.objs.size fp s3 (upd H s.heap.objs.size (.lst []))) ([] ++ pinsAt fp s7.heap) σ8 H9 s9 -> RelV y u9 -> (H9 s.heap.objs.size = some (.lst ys) /\ ∃ m', m' < n /\ W (i + 1) m' (ys ++ [y]) σ8 (upd H9 s.heap.objs.size (.lst (ys ++ [y])))) ->
          wpAny (model X.prog X.w) X.A (call (.builtin "list.append") [.ref s.heap.objs.size, u9]) (fun _ s₅ => ∃ m, m < n /\ ∃ i ys σ' H', Inv (cxC X N' scope s3.heap.objs.size fp s3 (upd H s.heap.objs.size (.lst []))) [] σ' H' s₅ /\ tn i s₅.heap /\ (∀ b ∈ fp, H' b = none) /\ W i m ys σ' H') (fun _ _ => False) s9 := fun {s9 H9 y u9} I9 r9 z9 => by
        refine thn (mt_append (X := cxC X N' scope s3.heap.objs.size fp s3 (upd H s.heap.objs.size (.lst []))) _ s9 σ8 H9 (.ref s.heap.objs.size) [y] (.ref s.heap.objs.size) [u9] (fun _ H' => ∃ m', m' < n /\ W (i + 1) m' (ys ++ [y]) σ8 H') I9 rfl (.cons r9 .nil) ⟨_, ys, y, rfl, rfl, z9.1, hz5, z9.2⟩) fun _ s10 ⟨_, H10, I10, _, z10⟩ => ?_
        exact again I10 z10
      cases tc with
      | none =>
        have hi : ifs = [] := ht
        subst hi
        refine wpAny_tests_nil ?_
        rw [if_pos rfl]
        exact thn (he _ _ _ _ _ s8 σ8 H8 _ I8 q8) fun u9 s9 ⟨y, H9, I9, r9, z9⟩ => app I9 r9 z9
      | some c =>
        obtain ⟨e, he1, hce⟩ := ht
        subst he1
        refine wpAny_tests_one (thn (hce _ _ _ _ _ s8 σ8 H8 _ I8 q8) fun b s9 ⟨H9, I9, q9⟩ => ?_)
        cases b with
        | false =>
          rw [if_neg Bool.false_ne_true] at q9 ⊢
          exact again I9 q9
        | true =>
          rw [if_pos rfl] at q9 ⊢
          exact thn (he _ _ _ _ _ s9 σ8 H9 _ I9 q9) fun u10 s10 ⟨y, H10, I10, r10, z10⟩ => app I10 r10 z10
  exact codeAny_compStart_list loop (T.self X.A 0 _ _ _ st4 loop)
end
section
variable {X : Cx} {N' : List Str} {cap : List Nat} {scope : Scope} {elt tg iter : Expr} {ifs : List Expr} {pos : Pos} {wi : TI} {g : TG} {tc : Option TT} {te : TE}
theorem pe_lcomp (hc : X.calm = true) (o : CmpOk X N' cap scope) (hi : PI X tg iter wi)
    (hg : ∀ C fp s H, PG (cxC X N' scope C fp s H) tg g) (ht : match (generalizing := false) tc with | none => ifs = [] | some c => ∃ e, ifs = [e] /\ ∀ C fp s H, PT (cxC X N' scope C fp s H) e c) (he : ∀ C fp s H, PE (cxC X N' scope C fp s H) elt te)
    (hs : ∀ x, foldedSetIterable iter X.env x = pure x := by intro _; rfl) : PE X (.ListComp elt [⟨tg, iter, ifs, 0⟩] scope pos) (tComp cap N'.length wi g tc te) := by
  intro pins s σ H Q I h
  rw [eval_ListComp]
  refine wpAny_comprehension_free (use := none) rfl hs (closureFor_eq (o.hasc I.ok)) o.kind o.nm (thn (hi pins s σ H _ I h) fun xv s1 h1 => thn h1 fun itv s2 h2 => ?_)
  obtain ⟨it, fp, tn, J, H2, rfl, I2, T, st2, f2, hw⟩ := h2
  refine comp_core (Q := Q) hc o hg ht he I2 T st2 f2 hw ?_
  intro p s3 s' H3 H4 σ4 I3 f3 J4 q
  obtain ⟨m, hn, _⟩ := J4.loc
  exact ⟨m, hn, fun h' sb => ⟨.ref p, H4, inv_comp_end I3 f3 J4 sb, rfl, q⟩⟩
theorem ps_lcomp {i : Nat} {y : Str} {py spos : Pos} (hc : X.calm = true) (o : CmpOk X N' cap scope) (hi : PI X tg iter wi)
    (hg : ∀ C fp s H, PG (cxC X N' scope C fp s H) tg g) (ht : match (generalizing := false) tc with | none => ifs = [] | some c => ∃ e, ifs = [e] /\ ∀ C fp s H, PT (cxC X N' scope C fp s H) e c) (he : ∀ C fp s H, PE (cxC X N' scope C fp s H) elt te)
    (hN : X.N.Nodup) (hy : X.N[i]? = some y) (hx : Loc X.env.scope y) (hf : X.fn y = true \/ X.env.scope.names.lookup y = some .local)
    (hsw : swapsWith (.ListComp elt [⟨tg, iter, ifs, 0⟩] scope pos) (some (.Name y py)) spos.line X.env = pure true)
    (hs : ∀ x, foldedSetIterable iter X.env x = pure x := by intro _; rfl) : PS X (.Assign [.Name y py] (.ListComp elt [⟨tg, iter, ifs, 0⟩] scope pos) spos) (tAsg (tComp cap N'.length wi g tc te) (gName i)) := by
  intro pins s σ H D I h
  rw [exec_Assign_Name_used _ _ _ _ hsw]; refine wpAny_bind (wpAny_standAt (wpAny_bind ?_))
  show wpAny _ X.A (do let _ <- comprehension (.ListComp elt [⟨tg, iter, ifs, 0⟩] scope pos) scope X.env _ (newList []) false (eval iter X.env) (some (assign (.Name y py) X.env))) _ _ s
  refine wpAny_bind (wpAny_mono (wpAny_comprehension_free (use := some (assign (.Name y py) X.env)) (Q := fun _ s' => SP X pins D .next s') rfl hs (closureFor_eq (o.hasc I.ok)) o.kind o.nm
    (thn (hi pins s σ H _ I h) fun xv s1 h1 => thn h1 fun itv s2 h2 => ?_)) (fun _ s' hq => wpAny_pure (wpAny_pure hq)) fun _ _ e => e)
  obtain ⟨it, fp, tn, J, H2, rfl, I2, T, st2, f2, hw⟩ := h2
  refine comp_core (Q := fun v H1 => gName i v σ H1 D.nx) hc o hg ht he I2 T st2 f2 hw ?_
  intro p s3 s' H3 H4 σ4 I3 f3 J4 q
  obtain ⟨m, hn, _⟩ := J4.loc
  have I5 : Inv X pins σ H4 s' := inv_comp_end I3 f3 J4 (Heap.SameBut.refl _ _)
  have fc : FpOk X pins H4 s3.heap.objs.size := I3.fpOk (Nat.le_refl _) J4.free
  show wpAny _ X.A (assign (.Name y py) X.env (.ref p)) _ _ _
  refine wpAny_assign_Name (store_ok2 (v := .ref p) I5 hN hy hx rfl (fun s6 I6 ⟨a, sb, ha⟩ => ?_) hf)
  have hne : s3.heap.objs.size ≠ a := by
    rcases ha with ha | ha
    · rw [ha]; exact fc.2.1
    · exact fun z => fc.2.2.2.2.1 y a ha z.symm
  refine ⟨m, hn.sameBut sb hne, fun h' sb' => ⟨_, H4, ?_, q⟩⟩
  exact I6.turned (t' := s6.toks) (it := s3.heap.objs.size) (fun b ob hb e => sb'.extBut b ob hb e) fc.1 fc.2.1 fc.2.2.2.1 fc.2.2.2.2.1 fc.2.2.2.2.2
end
noncomputable def yQ : D -> D -> Option D
  | .int i, .int j => some (.int (i + j))
  | .str s, .str t => if s.length + t.length <= sizeLine then some (.str (s ++ t)) else none
  | .lst l, .lst m => if l.length + m.length <= sizeLine then some (.lst (l ++ m)) else none
  | .tup l, .tup m => if l.length + m.length <= sizeLine /\ l.isEmpty = false /\ m.isEmpty = false then some (.tup (l ++ m)) else none
  | _, _ => none
noncomputable def subD : D -> D -> Option D
  | .int i, .int j => some (.int (i - j))
  | _, _ => none
noncomputable def mulD : D -> D -> Option D
  | .int i, .int j => if (-(2 ^ 64) < i /\ i < 2 ^ 64) \/ (-(2 ^ 64) < j /\ j < 2 ^ 64) then some (.int (i * j)) else none
  | _, _ => none
noncomputable def yU : D -> D -> Option D
  | .int i, .int j => if 0 < j /\ j < 1073741824 then some (.int (i / j)) else none
  | _, _ => none
noncomputable def yL : D -> D -> Option D
  | .int i, .int j => if 0 < j then some (.int (i % j)) else none
  | _, _ => none
noncomputable def powD : D -> D -> Option D
  | .int i, .int j => if 0 <= j /\ j <= 1000000 /\ i.natAbs < 2 ^ 64 then some (.int (i ^ j.toNat)) else none
  | _, _ => none
noncomputable def gtD : D -> D -> Option D
  | .int i, .int j => some (.bl (decide (j < i)))
  | _, _ => none
noncomputable def eqS : D -> D -> Option Bool
  | .int i, .int j => some (decide (i = j))
  | .str s, .str t => some (decide (s = t))
  | .bl a, .bl b => some (decide (a = b))
  | .non, .non => some true
  | .non, .int _ => some false
  | .int _, .non => some false
  | .non, .str _ => some false
  | .str _, .non => some false
  | .int _, .str _ => some false
  | .str _, .int _ => some false
  | _, _ => none
noncomputable def eqD (x y : D) : Option D := (eqS x y).map .bl
noncomputable def notND (x y : D) : Option D := match y with
  | .non => match x with
    | .non => some (.bl false)
    | _ => some (.bl true)
  | _ => none
section
variable {X : Cx}
noncomputable def rCatR (K : Fg) : R2 := fun x y H Q => ∃ l b xs zs, x = .ref l /\ y = .ref b /\ SqL K H l xs /\ SqL K H b zs /\ xs.length + zs.length <= sizeLine /\ ∀ p, H p = none -> Q (.ref p) (upd H p (.lst (xs ++ zs)))
theorem op_catR : OpR X (binaryOp .Add) (rCatR X.K) := by
  intro pins s σ H x y v u Q I rx ry h
  obtain ⟨l, b, xs, zs, rfl, rfl, hH, hB, hz, q⟩ := h
  cases rx
  cases ry
  obtain ⟨its, r, ⟨⟨cls, dd, data, sl⟩, n, e, hc, hd0, hd⟩, z⟩ := I.list hH
  obtain ⟨its2, r2, ⟨⟨cls2, dd2, data2, sl2⟩, n2, e2, hc2, hd02, hd2⟩, z2⟩ := I.list hB
  have hl := r.length
  have hl2 := r2.length
  cases (show cls = _ from hc); cases (show dd = _ from hd0); cases (show data = _ from hd)
  cases (show cls2 = _ from hc2); cases (show dd2 = _ from hd02); cases (show data2 = _ from hd2)
  refine concat_meets ⟨_, e, rfl⟩ ⟨_, e2, rfl⟩ noFill_list_add seq_list_add PySem.F.slot_list_add PySem.F.entry_list_add (PySem.F.args_list_add_2 _ _) (list_addW l b its.toArray its2.toArray n n2 none none sl sl2 (by rw [List.size_toArray, List.size_toArray]; omega)) ⟨e, e2, ?_⟩
  have ea : its.toArray ++ its2.toArray = (its ++ its2).toArray := by simp
  rw [ea]
  exact ⟨.ref _, _, I.lnew (t' := s.toks) (r.append r2) (by rw [List.length_append]; omega), rfl, q _ I.fresh⟩
noncomputable def rPlus (K : Fg) : R2 := fun x y H Q => rI0 (fun i j => .int (i + j)) x y H Q \/ (∃ i j, x = .str i /\ y = .str j /\ i.length + j.length <= sizeLine /\ Q (.str (i ++ j)) H) \/ rCatR K x y H Q \/ rCatT K x y H Q
theorem yS : OpR X (binaryOp .Add) (rPlus X.K) := op_add.or (op_add_str.or (op_catR.or op_catT))
theorem str_app (s t : List Nat) : ((⟨s.toArray⟩ : Str) ++ (⟨t.toArray⟩ : Str)) = (⟨(s ++ t).toArray⟩ : Str) := by
  show (⟨s.toArray ++ t.toArray⟩ : Str) = _
  simp
theorem str_len (s : List Nat) : (⟨s.toArray⟩ : Str).length = s.length := by simp [Str.length]
theorem yT {K : Fg} : OpD K (rPlus K) yQ := by
  intro O H dx dy d vx vy Q ol ix iy e q
  cases dx <;> cases dy <;> first | (simp only [yQ, reduceCtorEq] at e; done) | skip
  · simp only [yQ, Option.some.injEq] at e
    subst e
    rw [Is.int_iff] at ix iy
    exact .inl ⟨_, _, ix, iy, q _ H (zR.refl H) (by rw [Is.int_iff])⟩
  · rename_i s t
    simp only [yQ] at e
    split at e
    · rename_i hl
      cases e
      rw [Is.str_iff] at ix iy
      refine .inr (.inl ⟨_, _, ix, iy, by rw [str_len, str_len]; exact hl, q _ H (zR.refl H) ?_⟩)
      rw [Is.str_iff, str_app]
    · cases e
  · rename_i l m
    simp only [yQ] at e
    split at e
    · rename_i hl
      cases e
      rw [Is.tup_iff] at ix iy
      obtain ⟨a, xs, rfl, hs, il⟩ := ix
      obtain ⟨b, ys, rfl, hs2, il2⟩ := iy
      have e1 := il.length
      have e2 := il2.length
      refine .inr (.inr (.inr ⟨a, b, xs, ys, rfl, rfl, hs, hs2, ?_, by omega, fun z => ?_, fun _ p hp => q _ _ (zW hp) ?_⟩))
      · rintro rfl
        have : l = [] := by simpa using e1
        subst this
        simp at hl
      · subst z
        have : m = [] := by simpa using e2
        subst this
        simp at hl
      · rw [Is.tup_iff]
        exact ⟨p, _, rfl, SqT.of zT, (il.append il2).same (zW hp) ol⟩
    · cases e
  · rename_i l m
    simp only [yQ] at e
    split at e
    · rename_i hl
      cases e
      rw [Is.lst_iff] at ix iy
      obtain ⟨a, xs, rfl, hs, il⟩ := ix
      obtain ⟨b, ys, rfl, hs2, il2⟩ := iy
      have e1 := il.length
      have e2 := il2.length
      refine .inr (.inr (.inl ⟨a, b, xs, ys, rfl, rfl, hs.sq, hs2.sq, by omega, fun p hp => q _ _ (zW hp) ?_⟩))
      rw [Is.lst_iff]
      refine ⟨p, _, rfl, .inl ⟨fun z => ?_, .inl zT⟩, (il.append il2).same (zW hp) ol⟩
      obtain ⟨zs, ez, _⟩ := ol p z
      rw [hp] at ez; cases ez
    · cases e
theorem od_I {K : Fg} {C : Int -> Int -> Prop} {g : Int -> Int -> V} {m : D -> D -> Option D} (h : ∀ dx dy d, m dx dy = some d -> ∃ i j, dx = .int i /\ dy = .int j /\ C i j /\ ∀ O H, Is K O H d (g i j)) : OpD K (rI C g) m := by
  intro O H dx dy d vx vy Q ol ix iy e q
  obtain ⟨i, j, rfl, rfl, hc, hd⟩ := h dx dy d e
  rw [Is.int_iff] at ix iy
  exact ⟨i, j, ix, iy, hc, q _ H (zR.refl H) (hd O H)⟩
theorem od_I0 {K : Fg} {g : Int -> Int -> V} {m : D -> D -> Option D} (h : ∀ dx dy d, m dx dy = some d -> ∃ i j, dx = .int i /\ dy = .int j /\ ∀ O H, Is K O H d (g i j)) : OpD K (rI0 g) m := by
  intro O H dx dy d vx vy Q ol ix iy e q
  obtain ⟨i, j, rfl, rfl, hd⟩ := h dx dy d e
  rw [Is.int_iff] at ix iy
  exact ⟨i, j, ix, iy, q _ H (zR.refl H) (hd O H)⟩
theorem od_sub {K : Fg} : OpD K (rI0 fun i j => .int (i - j)) subD := od_I0 fun dx dy d e => by
  cases dx <;> cases dy <;> first | (simp only [subD, reduceCtorEq] at e; done) | skip
  simp only [subD, Option.some.injEq] at e
  subst e
  exact ⟨_, _, rfl, rfl, fun O H => by rw [Is.int_iff]⟩
theorem od_mul {K : Fg} : OpD K (rI CMul fun i j => .int (i * j)) mulD := od_I fun dx dy d e => by
  cases dx <;> cases dy <;> first | (simp only [mulD, reduceCtorEq] at e; done) | skip
  simp only [mulD] at e
  split at e
  · rename_i hc; cases e; exact ⟨_, _, rfl, rfl, hc, fun O H => by rw [Is.int_iff]⟩
  · cases e
theorem od_fdiv {K : Fg} : OpD K (rI CDiv fun i j => .int (i / j)) yU := od_I fun dx dy d e => by
  cases dx <;> cases dy <;> first | (simp only [yU, reduceCtorEq] at e; done) | skip
  simp only [yU] at e
  split at e
  · rename_i hc; cases e; exact ⟨_, _, rfl, rfl, hc, fun O H => by rw [Is.int_iff]⟩
  · cases e
theorem od_mod {K : Fg} : OpD K (rI (fun _ j => 0 < j) fun i j => .int (i % j)) yL := od_I fun dx dy d e => by
  cases dx <;> cases dy <;> first | (simp only [yL, reduceCtorEq] at e; done) | skip
  simp only [yL] at e
  split at e
  · rename_i hc; cases e; exact ⟨_, _, rfl, rfl, hc, fun O H => by rw [Is.int_iff]⟩
  · cases e
theorem od_pow {K : Fg} : OpD K (rI CPow fun i j => .int (i ^ j.toNat)) powD := od_I fun dx dy d e => by
  cases dx <;> cases dy <;> first | (simp only [powD, reduceCtorEq] at e; done) | skip
  simp only [powD] at e
  split at e
  · rename_i hc; cases e; exact ⟨_, _, rfl, rfl, hc, fun O H => by rw [Is.int_iff]⟩
  · cases e
theorem od_gt {K : Fg} : OpD K (rI0 fun i j => .bl (decide (j < i))) gtD := od_I0 fun dx dy d e => by
  cases dx <;> cases dy <;> first | (simp only [gtD, reduceCtorEq] at e; done) | skip
  simp only [gtD, Option.some.injEq] at e
  subst e
  exact ⟨_, _, rfl, rfl, fun O H => by rw [Is.bl_iff]⟩
theorem eqS_ok {K : Fg} {O : Addr -> Prop} {H : Hp} {dx dy : D} {vx vy : V} {b : Bool} (ix : Is K O H dx vx) (iy : Is K O H dy vy) (e : eqS dx dy = some b) : scal vx vy = true /\ decide (vx = vy) = b := by
  cases dx <;> cases dy <;> first | (simp only [eqS, reduceCtorEq] at e; done) | skip
  all_goals simp only [eqS, Option.some.injEq] at e
  all_goals subst e
  all_goals first | rw [Is.int_iff] at ix | rw [Is.str_iff] at ix | rw [Is.bl_iff] at ix | rw [Is.non_iff] at ix
  all_goals first | rw [Is.int_iff] at iy | rw [Is.str_iff] at iy | rw [Is.bl_iff] at iy | rw [Is.non_iff] at iy
  all_goals subst ix iy
  all_goals refine ⟨rfl, ?_⟩
  all_goals simp
theorem od_eq {K : Fg} : OpD K rEq eqD := by
  intro O H dx dy d vx vy Q ol ix iy e q
  obtain ⟨b, e1, rfl⟩ := map_some e
  obtain ⟨h1, h2⟩ := eqS_ok ix iy e1
  exact ⟨h1, q _ H (zR.refl H) (by rw [Is.bl_iff, h2])⟩
theorem Is.non_only {K : Fg} {O : Addr -> Prop} {H : Hp} {d : D} {v : V} (h : Is K O H d v) : decide (v = .non) = (match d with | .non => true | _ => false) := by
  cases d with
  | dct ks l => rw [Is.dct_iff] at h; obtain ⟨a, kvs, rfl, _⟩ := h; rfl
  | non => rw [Is.non_iff] at h; subst h; rfl
  | bl b => rw [Is.bl_iff] at h; subst h; rfl
  | int i => rw [Is.int_iff] at h; subst h; rfl
  | str s => rw [Is.str_iff] at h; subst h; rfl
  | ty n => rw [Is.ty_iff] at h; subst h; rfl
  | ref a => rw [Is.ref_iff] at h; subst h; rfl
  | tup l => rw [Is.tup_iff] at h; obtain ⟨a, xs, rfl, _⟩ := h; rfl
  | lst l => rw [Is.lst_iff] at h; obtain ⟨a, xs, rfl, _⟩ := h; rfl
theorem od_notN {K : Fg} : OpD K (fun x y H Q => y = .non /\ Q (.bl (!decide (x = .non))) H) notND := by
  intro O H dx dy d vx vy Q ol ix iy e q
  unfold notND at e
  cases dy <;> first | (cases e; done) | skip
  rw [Is.non_iff] at iy
  refine ⟨iy, q _ H (zR.refl H) ?_⟩
  have h := ix.non_only
  cases dx <;> cases e <;> rw [Is.bl_iff, h] <;> rfl
noncomputable def flatD : D -> Bool
  | .int _ => true
  | .str _ => true
  | _ => false
noncomputable def eqF : D -> D -> Bool
  | .int i, .int j => decide (i = j)
  | .str s, .str t => decide (s = t)
  | _, _ => false
noncomputable def inD (neg : Bool) (x y : D) : Option D := match y with
  | .lst l => if flatD x = true /\ l.all flatD = true then some (.bl (if neg then !(l.any fun z => eqF z x) else l.any fun z => eqF z x)) else none
  | .tup l => if flatD x = true /\ l.all flatD = true then some (.bl (if neg then !(l.any fun z => eqF z x) else l.any fun z => eqF z x)) else none
  | _ => none
theorem flat_ok {K : Fg} {O : Addr -> Prop} {H : Hp} {d : D} {v : V} (h : Is K O H d v) (f : flatD d = true) : flatV v = true := by
  cases d <;> first | (cases f; done) | skip
  · rw [Is.int_iff] at h; subst h; rfl
  · rw [Is.str_iff] at h; subst h; rfl
theorem eqF_ok {K : Fg} {O : Addr -> Prop} {H : Hp} {d e : D} {v u : V} (h : Is K O H d v) (f : flatD d = true) (h' : Is K O H e u) (f' : flatD e = true) : eqV v u = eqF d e := by
  cases d <;> first | (cases f; done) | skip
  all_goals cases e <;> first | (cases f'; done) | skip
  all_goals first | rw [Is.int_iff] at h | rw [Is.str_iff] at h
  all_goals first | rw [Is.int_iff] at h' | rw [Is.str_iff] at h'
  all_goals subst h h'
  · simp [eqV, eqF]
    rw [Bool.beq_eq_decide_eq]
  · rfl
  · rfl
  · rename_i s t
    simp only [eqV, eqF]
    by_cases z : s = t
    · subst z; simp
    · rw [decide_eq_false z, beq_eq_false_iff_ne]
      intro z'
      have : s.toArray = t.toArray := by injection z'
      exact z (by simpa using this)
theorem in_ok {K : Fg} {O : Addr -> Prop} {H : Hp} {d : D} {v : V} (h : Is K O H d v) (f : flatD d = true) : ∀ {l : List D} {xs : List V}, IsL K O H l xs -> l.all flatD = true -> xs.all flatV = true /\ inV v xs = l.any fun z => eqF z d
  | [], xs, il, _ => by unfold IsL at il; subst il; exact ⟨rfl, rfl⟩
  | e :: l, xs, il, fa => by
    unfold IsL at il
    obtain ⟨u, r, rfl, i1, i2⟩ := il
    rw [List.all_cons, Bool.and_eq_true] at fa
    obtain ⟨q1, q2⟩ := in_ok h f i2 fa.2
    refine ⟨by rw [List.all_cons, flat_ok i1 fa.1, q1]; rfl, ?_⟩
    unfold inV at q2 ⊢
    rw [List.any_cons, List.any_cons, q2, eqF_ok i1 fa.1 h f]
theorem od_in {K : Fg} (neg : Bool) : OpD K (rIn K neg) (inD neg) := by
  intro O H dx dy d vx vy Q ol ix iy e q
  unfold inD at e
  cases dy <;> first | (cases e; done) | skip
  · rename_i l
    simp only at e
    split at e
    · rename_i hl
      cases e
      rw [Is.tup_iff] at iy
      obtain ⟨a, xs, rfl, hs, il⟩ := iy
      obtain ⟨q1, q2⟩ := in_ok ix hl.1 il hl.2
      exact ⟨a, xs, rfl, .inr hs, flat_ok ix hl.1, q1, q _ H (zR.refl H) (by rw [Is.bl_iff, q2])⟩
    · cases e
  · rename_i l
    simp only at e
    split at e
    · rename_i hl
      cases e
      rw [Is.lst_iff] at iy
      obtain ⟨a, xs, rfl, hs, il⟩ := iy
      obtain ⟨q1, q2⟩ := in_ok ix hl.1 il hl.2
      exact ⟨a, xs, rfl, .inl hs.sq, flat_ok ix hl.1, q1, q _ H (zR.refl H) (by rw [Is.bl_iff, q2])⟩
    · cases e
end
noncomputable def ixD : D -> D -> Option D
  | .lst l, .int i => atI l i
  | .tup l, .int i => atI l i
  | .str s, .int i => if s.length <= sizeLine then (atI s i).map fun c => .str [c] else none
  | _, _ => none
theorem atI_len {α β : Type} {l : List α} {m : List β} {i : Int} {x : α} (hl : l.length = m.length) (e : atI l i = some x) : ∃ j : Nat, l[j]? = some x /\ ∀ y, m[j]? = some y -> atI m i = some y := by
  unfold atI at e ⊢
  obtain ⟨j, e1, e2⟩ := bind_some e
  exact ⟨j, e2, fun y ey => by rw [<- hl, e1]; exact ey⟩
noncomputable def mIxB (fl : ML) (g : ME) : ME := fun r => (fl r).bind fun l => (g r).bind fun d => (intD d).bind fun i => atI l i
noncomputable def mLenB (fl : ML) : ME := fun r => (fl r).map fun l => .int l.length
section
variable {X : Cx} {pos : Pos} {a b : Expr} {f g : ME}
theorem od_ix {K : Fg} : OpD K (rIx K) ixD := by
  intro O H dx dy d vx vy Q ol ix iy e q
  cases dx <;> cases dy <;> first | (simp only [ixD, reduceCtorEq] at e; done) | skip
  · rename_i s i
    simp only [ixD] at e
    split at e
    · rename_i hl
      obtain ⟨c, e1, rfl⟩ := map_some e
      rw [Is.str_iff] at ix
      rw [Is.int_iff] at iy
      exact .inr (.inr ⟨_, i, c, ix, iy, by rw [str_len]; exact hl, by simpa using e1, q _ H (zR.refl H) (by rw [Is.str_iff])⟩)
    · cases e
  · rename_i l i
    simp only [ixD] at e
    rw [Is.tup_iff] at ix
    rw [Is.int_iff] at iy
    obtain ⟨p, xs, rfl, hs, il⟩ := ix
    obtain ⟨j, e1, e2⟩ := atI_len il.length e
    obtain ⟨v, e3, iv⟩ := il.get e1
    exact .inr (.inl ⟨p, xs, i, v, rfl, iy, hs, e2 v e3, q _ H (zR.refl H) iv⟩)
  · rename_i l i
    simp only [ixD] at e
    rw [Is.lst_iff] at ix
    rw [Is.int_iff] at iy
    obtain ⟨p, xs, rfl, hs, il⟩ := ix
    obtain ⟨j, e1, e2⟩ := atI_len il.length e
    obtain ⟨v, e3, iv⟩ := il.get e1
    exact .inl ⟨p, xs, i, v, rfl, iy, hs.sq, e2 v e3, q _ H (zR.refl H) iv⟩
theorem yP (ha : DE X a f) (hb : DE X b g) (hs : PlainIx b := by intro _ _; rfl) : DE X (.Subscript a b pos) (zD ixD f g) :=
  PE.conseq (pe_ix ix_seq ha hb hs) fun σ H Q h => two (ta := lE X.K f) (tb := lE X.K g) od_ix h
theorem de_ixB {fl : ML} (ha : DB X a fl) (hb : DE X b g) (hs : PlainIx b := by intro _ _; rfl) : DE X (.Subscript a b pos) (mIxB fl g) := by
  refine PE.conseq (pe_ix ix_list ha hb hs) fun σ H Q h => ?_
  obtain ⟨O0, r, d, hR, e, q⟩ := h
  obtain ⟨l, e1, e⟩ := bind_some e
  obtain ⟨d', e2, e⟩ := bind_some e
  obtain ⟨i, e3, e⟩ := bind_some e
  cases intD_some e3
  refine ⟨O0, r, l, hR, e1, fun p xs H1 s1 rd il => ⟨O0, r, _, hR.same s1, e2, fun v2 H2 s2 i2 => ?_⟩⟩
  rw [Is.int_iff] at i2
  obtain ⟨j, e4, e5⟩ := atI_len il.length e
  obtain ⟨v, e6, iv⟩ := il.get e4
  exact ⟨p, xs, i, v, rfl, i2, s2.seq rd, e5 v e6, q v H2 (s1.trans s2) (iv.same s2 (hR.same s1).ol)⟩
noncomputable def lenD : D -> Option D
  | .lst l => some (.int l.length)
  | .tup l => some (.int l.length)
  | .str s => if s.length <= sizeLine then some (.int s.length) else none
  | _ => none
theorem call_lenA : CallR X (.builtin "len") (fun xs H Q => (∃ p ys, xs = [.ref p] /\ (SqL X.K H p ys \/ SqT X.K H p ys) /\ Q (.int ys.length) H) \/ (∃ z, xs = [.str z] /\ z.length <= sizeLine /\ Q (.int z.length) H)) := call_len_seq.or call_len_str
theorem lenD_ok {K : Fg} {O : Addr -> Prop} {H : Hp} {x d : D} {v : V} {Q : VK} (i1 : Is K O H x v) (e : lenD x = some d) (q : ∀ v, Is K O H d v -> Q v H) :
    (∃ p ys, [v] = [.ref p] /\ (SqL K H p ys \/ SqT K H p ys) /\ Q (.int ys.length) H) \/ (∃ z, [v] = [.str z] /\ z.length <= sizeLine /\ Q (.int z.length) H) := by
  cases x <;> first | (simp only [lenD, reduceCtorEq] at e; done) | skip
  · simp only [lenD] at e
    split at e
    · rename_i hl
      cases e
      rw [Is.str_iff] at i1
      subst i1
      exact .inr ⟨_, rfl, by rw [str_len]; exact hl, q _ (by rw [Is.int_iff, str_len])⟩
    · cases e
  · simp only [lenD, Option.some.injEq] at e
    subst e
    rw [Is.tup_iff] at i1
    obtain ⟨p, ys, rfl, hs, il⟩ := i1
    exact .inl ⟨p, ys, rfl, .inr hs, q _ (by rw [Is.int_iff, il.length])⟩
  · simp only [lenD, Option.some.injEq] at e
    subst e
    rw [Is.lst_iff] at i1
    obtain ⟨p, ys, rfl, hs, il⟩ := i1
    exact .inl ⟨p, ys, rfl, .inl hs.sq, q _ (by rw [Is.int_iff, il.length])⟩
theorem de_len {p' : Pos} (hg : Gl X "len") (hm : X.mg "len" = none) (ha : DE X a f) (hs : starEach [a] X.env = (false, eval a X.env) :: starEach [] X.env := by rfl) : DE X (.Call (.Name "len" p') [a] [] pos) (mUn lenD f) := by
  refine PE.conseq (pe_callB call_lenA hg hm PySem.boot_len (pa_cons ha pa_nil hs) (he := hs)) fun σ H Q h => ?_
  obtain ⟨O0, r, d, hR, e, q⟩ := h
  obtain ⟨x, e1, e2⟩ := bind_some e
  exact ⟨O0, r, x, hR, e1, fun v H1 s1 i1 => lenD_ok i1 e2 fun v' iv => q v' H1 s1 iv⟩
theorem de_lenB {p' : Pos} {fl : ML} (hg : Gl X "len") (hm : X.mg "len" = none) (ha : DB X a fl) (hs : starEach [a] X.env = (false, eval a X.env) :: starEach [] X.env := by rfl) : DE X (.Call (.Name "len" p') [a] [] pos) (mLenB fl) := by
  refine PE.conseq (pe_callB call_lenA hg hm PySem.boot_len (pa_cons ha pa_nil hs) (he := hs)) fun σ H Q h => ?_
  obtain ⟨O0, r, d, hR, e, q⟩ := h
  obtain ⟨l, e1, rfl⟩ := map_some e
  exact ⟨O0, r, l, hR, e1, fun p xs H1 s1 rd il => .inl ⟨p, xs, rfl, .inl rd, q _ H1 s1 (by rw [Is.int_iff, il.length])⟩⟩
noncomputable def tyN : D -> Option String
  | .non => some "NoneType"
  | .bl _ => some "bool"
  | .int _ => some "int"
  | .str _ => some "str"
  | .tup _ => some "tuple"
  | .lst _ => some "list"
  | _ => none
noncomputable def subN : List (String × String × Bool) := [("bool", "int", true), ("NoneType", "int", false), ("NoneType", "str", false), ("NoneType", "bool", false), ("NoneType", "tuple", false), ("NoneType", "list", false),
  ("bool", "str", false), ("bool", "tuple", false), ("bool", "list", false), ("int", "bool", false), ("int", "str", false), ("int", "tuple", false), ("int", "list", false),
  ("str", "int", false), ("str", "bool", false), ("str", "tuple", false), ("str", "list", false), ("tuple", "int", false), ("tuple", "bool", false), ("tuple", "str", false), ("tuple", "list", false),
  ("list", "int", false), ("list", "bool", false), ("list", "str", false), ("list", "tuple", false)]
noncomputable def instN (t T : String) : Option Bool := if t = T then some true else (subN.find? fun x => x.1 == t && x.2.1 == T).map (·.2.2)
noncomputable def instD (T : String) (d : D) : Option D := (tyN d).bind fun t => (instN t T).map .bl
theorem kit_ok (K : Fg) {t T : String} {b : Bool} (e : instN t T = some b) : PySem.W.kitOne K (.type t) (.type T) = some b := by
  unfold instN at e
  split at e
  · rename_i h; subst h; cases e; unfold PySem.W.kitOne; rw [if_pos (by simp)]
  · obtain ⟨⟨x, y, c⟩, e1, e2⟩ := map_some e
    have hm := List.mem_of_find?_eq_some e1
    have hp := List.find?_some e1
    simp only [Bool.and_eq_true, beq_iff_eq] at hp
    obtain ⟨rfl, rfl⟩ := hp
    subst e2
    unfold subN at hm
    simp only [List.mem_cons, List.not_mem_nil, or_false, Prod.mk.injEq] at hm
    rcases hm with ⟨rfl, rfl, rfl⟩ | ⟨rfl, rfl, rfl⟩ | ⟨rfl, rfl, rfl⟩ | ⟨rfl, rfl, rfl⟩ | ⟨rfl, rfl, rfl⟩ | ⟨rfl, rfl, rfl⟩ | ⟨rfl, rfl, rfl⟩ | ⟨rfl, rfl, rfl⟩ | ⟨rfl, rfl, rfl⟩ | ⟨rfl, rfl, rfl⟩ | ⟨rfl, rfl, rfl⟩ | ⟨rfl, rfl, rfl⟩ | ⟨rfl, rfl, rfl⟩ | ⟨rfl, rfl, rfl⟩ | ⟨rfl, rfl, rfl⟩ | ⟨rfl, rfl, rfl⟩ | ⟨rfl, rfl, rfl⟩ | ⟨rfl, rfl, rfl⟩ | ⟨rfl, rfl, rfl⟩ | ⟨rfl, rfl, rfl⟩ | ⟨rfl, rfl, rfl⟩ | ⟨rfl, rfl, rfl⟩ | ⟨rfl, rfl, rfl⟩ | ⟨rfl, rfl, rfl⟩ | ⟨rfl, rfl, rfl⟩ <;> kernel_rfl
noncomputable def TyA (K : Fg) (H : Hp) (x : V) (t : String) : Prop := match x with
  | .non => t = "NoneType"
  | .bl _ => t = "bool"
  | .int _ => t = "int"
  | .str _ => t = "str"
  | .ref a => (t = "list" /\ ∃ xs, SqL K H a xs) \/ (t = "tuple" /\ ∃ xs, SqT K H a xs)
  | _ => False
theorem call_isinst : CallR X (.builtin "isinstance") (fun xs H Q => ∃ x t T b, xs = [x, .ty T] /\ TyA X.K H x t /\ instN t T = some b /\ Q (.bl b) H) := by
  intro pins s σ H xs us Q I r h
  obtain ⟨x, t, T, b, rfl, ht, e, q⟩ := h
  obtain ⟨u, v, rfl, r1, r2⟩ := yD.two r
  cases (show v = Value.type T from r2)
  have e' := kit_ok X.K e
  have fin : ∀ tk, EP X pins σ Q (.bool b) { s with toks := tk } := fun tk => ⟨.bl b, H, I.tok tk, rfl, q⟩
  cases x with
  | non => cases (show t = _ from ht); exact isinst_ok I r1 (.non) e' fin
  | bl y => cases (show t = _ from ht); exact isinst_ok I r1 (.bl y) e' fin
  | int i => cases (show t = _ from ht); exact isinst_ok I r1 (.int i) e' fin
  | str y => cases (show t = _ from ht); exact isinst_ok I r1 (.str y) e' fin
  | ref a =>
    cases (show u = Value.ref a from r1)
    rcases (show (t = "list" /\ ∃ xs, SqL X.K H a xs) \/ (t = "tuple" /\ ∃ xs, SqT X.K H a xs) from ht) with ⟨rfl, xs, hs⟩ | ⟨rfl, xs, hs⟩
    · obtain ⟨its, _, ⟨o, n, h1, h2, _⟩, _⟩ := I.list hs
      exact PySem.W.kia_one PySem.W.kitx_list I.kIn ⟨o, h1, h2⟩ e' (fun z => nomatch z) fin
    · obtain ⟨its, _, ⟨o, h1, h2, _⟩, _⟩ := I.tuple hs
      exact PySem.W.kia_one PySem.W.kitx_tuple I.kIn ⟨o, h1, h2⟩ e' (fun z => nomatch z) fin
  | _ => exact False.elim ht
theorem tyA_ok {K : Fg} {O : Addr -> Prop} {H : Hp} {d : D} {v : V} {t : String} (h : Is K O H d v) (e : tyN d = some t) : TyA K H v t := by
  cases d <;> first | (simp only [tyN, reduceCtorEq] at e; done) | skip
  all_goals simp only [tyN, Option.some.injEq] at e
  all_goals subst e
  · rw [Is.non_iff] at h; subst h; rfl
  · rw [Is.bl_iff] at h; subst h; rfl
  · rw [Is.int_iff] at h; subst h; rfl
  · rw [Is.str_iff] at h; subst h; rfl
  · rw [Is.tup_iff] at h; obtain ⟨a, xs, rfl, hs, _⟩ := h; exact .inr ⟨rfl, xs, hs⟩
  · rw [Is.lst_iff] at h; obtain ⟨a, xs, rfl, hs, _⟩ := h; exact .inl ⟨rfl, xs, hs.sq⟩
theorem de_isinst {p' pt : Pos} {x : Str} {T : String} (hg : Gl X "isinstance") (hm : X.mg "isinstance" = none) (ha : DE X a f) (hT : PE X (.Name x pt) (tC (.ty T))) (hs : starEach [a, .Name x pt] X.env = (false, eval a X.env) :: starEach [.Name x pt] X.env := by rfl) (hs2 : starEach [.Name x pt] X.env = (false, eval (.Name x pt) X.env) :: starEach [] X.env := by rfl) : DE X (.Call (.Name "isinstance" p') [a, .Name x pt] [] pos) (mUn (instD T) f) := by
  refine PE.conseq (pe_callB call_isinst hg hm PyProof.Rows.boot_isinstance (pa_cons ha (pa_cons hT pa_nil hs2) hs) (he := hs)) fun σ H Q h => ?_
  obtain ⟨O0, r, d, hR, e, q⟩ := h
  obtain ⟨x, e1, e2⟩ := bind_some e
  obtain ⟨t, e3, e4⟩ := bind_some e2
  obtain ⟨b, e5, rfl⟩ := map_some e4
  exact ⟨O0, r, x, hR, e1, fun v H1 s1 i1 => ⟨v, t, T, b, rfl, tyA_ok i1 e3, e5, q _ H1 s1 (by rw [Is.bl_iff])⟩⟩
end
noncomputable def mtOf (r : En) (i : Nat) : Option (List D) := (r[i]?).bind Sl.ml
noncomputable def putO (i : Nat) (l : List D) (r : En) : Option En := match r[i]? with
  | some (.o _) => some (r.set i (.o l))
  | some (.p _) => some (r.set i (.p l))
  | _ => none
section
variable {K : Fg} {O0 : Addr -> Prop} {H H' : Hp} {r : En} {σ : St} {i : Nat} {a : Addr} {l l' : List D}
theorem putO_some {r' : En} (e : putO i l' r = some r') : ∃ x y, r[i]? = some x /\ r' = r.set i y /\ y.own = some l' /\ y.mt = some l' /\ (∃ l, x.mt = some l) /\ (∀ m, y = .p m ↔ m = l' /\ ∃ n, x = .p n) /\ (∀ m, y = .o m ↔ m = l' /\ ∃ n, x = .o n) /\ (∀ m, y ≠ .z m) /\ y.ls = some l' /\ ∀ ks m, y ≠ .d ks m := by
  unfold putO at e
  cases e1 : r[i]? with
  | none => rw [e1] at e; cases e
  | some x =>
    rw [e1] at e
    cases x with
    | o n => cases e; exact ⟨.o n, .o l', rfl, rfl, rfl, rfl, ⟨n, rfl⟩, fun m => ⟨(fun z => by cases z), (fun ⟨_, _, z⟩ => by cases z)⟩, fun m => ⟨(fun z => by cases z; exact ⟨rfl, n, rfl⟩), (fun ⟨z, _⟩ => by subst z; rfl)⟩, (fun m z => by cases z), rfl, (fun ks m z => by cases z)⟩
    | p n => cases e; exact ⟨.p n, .p l', rfl, rfl, rfl, rfl, ⟨n, rfl⟩, fun m => ⟨(fun z => by cases z; exact ⟨rfl, n, rfl⟩), (fun ⟨z, _⟩ => by subst z; rfl)⟩, fun m => ⟨(fun z => by cases z), (fun ⟨_, _, z⟩ => by cases z)⟩, (fun m z => by cases z), rfl, (fun ks m z => by cases z)⟩
    | _ => cases e
theorem R.put {r' : En} {xs' : List V} (h : R K O0 H r σ) (e : putO i l' r = some r') (ha : σ[i]? = some (some (.ref a))) (kp : ∀ b o, b ≠ a -> H b = some o -> H' b = some o) (lv : ∀ b, b ≠ a -> H' b = none -> H b = none) (e' : H' a = some (.lst xs')) (il : IsL K (Ow O0 r σ) H' l' xs') :
    R K O0 H' r' σ /\ Kp H r σ H' r' σ := by
  obtain ⟨x, y, ex, rfl, yo, ym, ⟨l0, xm⟩, yp, yoo, yz, yl, yd⟩ := putO_some e
  have hi : i < r.length := (List.getElem?_eq_some_iff.mp ex).1
  have own_i : OwnAt r σ a := ⟨i, l0, by rw [ex]; exact mt_own xm, ha⟩
  have mut_i : MutAt r σ a := ⟨i, l0, by rw [ex]; exact xm, ha⟩
  have atO : ∀ b, OwnAt (r.set i y) σ b -> OwnAt r σ b := fun b ⟨j, m, e1, q1⟩ => by
    by_cases hj : i = j
    · subst hj; rw [ha] at q1; cases q1; exact own_i
    · rw [zG hj] at e1; exact ⟨j, m, e1, q1⟩
  have atM : ∀ b, MutAt (r.set i y) σ b -> MutAt r σ b := fun b ⟨j, m, e1, q1⟩ => by
    by_cases hj : i = j
    · subst hj; rw [ha] at q1; cases q1; exact mut_i
    · rw [zG hj] at e1; exact ⟨j, m, e1, q1⟩
  have sub : ∀ b, Ow O0 (r.set i y) σ b -> H b ≠ none -> Ow O0 r σ b := fun b z _ => z.imp id (atO b)
  have sub' : ∀ b, Ow O0 (r.set i y) σ b -> H' b ≠ none -> Ow O0 r σ b := fun b z _ => z.imp id (atO b)
  have keep : Keep (Ow O0 r σ) H H' := fun b o e1 n => kp b o (fun z => n (by subst z; exact .inr own_i)) e1
  have lst : ∀ b o, H b = some o -> Mb o -> ∃ o', H' b = some o' /\ Mb o' := fun b o e1 mb => by
    by_cases hb : b = a
    · subst hb; exact ⟨.lst xs', e', trivial⟩
    · exact ⟨o, kp b _ hb e1, mb⟩
  have ol' : OLst (Ow O0 r σ) H' := fun b z => by obtain ⟨o, q, mb⟩ := h.ol b z; exact lst b o q mb
  refine ⟨⟨by simp [h.len], fun j d e1 => ?_, fun j m e1 => ?_, fun j k b m n e1 e2 q1 q2 => ?_, fun b z => ?_, fun j m b e1 q1 => ?_, fun j m b e1 q1 => ?_, fun j ks m e1 => ?_⟩, ⟨fun b o e1 n => kp b o (fun z => n (by subst z; exact mut_i)) e1, fun b e1 => ?_, lst, fun b z => .inl (atO b z), fun b z => .inl (atM b z), fun j m e1 => ?_, fun j m e1 => ?_⟩⟩
  · have hj : i ≠ j := fun z => by subst z; rw [zQ hi] at e1; cases e1; cases yo
    rw [zG hj] at e1
    obtain ⟨v, q1, q2⟩ := h.val j d e1
    exact ⟨v, q1, Is.mono keep h.ol sub _ _ q2⟩
  · by_cases hj : i = j
    · subst hj
      rw [zQ hi] at e1
      have : l' = m := by have e1' : y.ls = some m := e1; rw [yl] at e1'; exact Option.some.inj e1'
      subst this
      exact ⟨a, xs', ha, e', IsL.mono (zR.kp (zR.refl H') _) ol' sub' _ _ il⟩
    · rw [zG hj] at e1
      obtain ⟨b, ys, q1, q2, q3⟩ := h.own j m e1
      have hb : b ≠ a := fun z => by
        subst z
        exact hj (h.apart i j b l0 m (by rw [ex]; exact mt_own xm) (ls_own' e1) ha q1)
      exact ⟨b, ys, q1, kp b _ hb q2, IsL.mono keep h.ol sub _ _ q3⟩
  · have get : ∀ (j : Nat) (m : List D), ((r.set i y)[j]?).bind Sl.own = some m -> ∃ m', (r[j]?).bind Sl.own = some m' := fun j m e1 => by
      by_cases hj : i = j
      · subst hj; exact ⟨l0, by rw [ex]; exact mt_own xm⟩
      · rw [zG hj] at e1; exact ⟨m, e1⟩
    obtain ⟨m', z1⟩ := get j m e1
    obtain ⟨n', z2⟩ := get k n e2
    exact h.apart j k b m' n' z1 z2 q1 q2
  · obtain ⟨o, q, mb⟩ := h.o0 b z; exact lst b o q mb
  · by_cases hj : i = j
    · subst hj
      rw [zQ hi] at e1
      rcases e1 with e1 | e1 | ⟨ks, e1⟩
      · obtain ⟨_, n, z⟩ := (yoo m).mp (Option.some.inj e1)
        exact h.loc i n b (.inl (by rw [ex, z])) q1
      · exact absurd (Option.some.inj e1) (yz m)
      · exact absurd (Option.some.inj e1) (yd ks m)
    · rw [zG hj] at e1
      exact h.loc j m b e1 q1
  · by_cases hj : i = j
    · subst hj
      rw [zQ hi] at e1
      obtain ⟨_, n, z⟩ := (yp m).mp (Option.some.inj e1)
      exact h.par i n b (by rw [ex, z]) q1
    · rw [zG hj] at e1
      exact h.par j m b e1 q1
  · have hj : i ≠ j := fun z => by subst z; rw [zQ hi] at e1; exact yd ks m (Option.some.inj e1)
    rw [zG hj] at e1
    obtain ⟨b, kvs, q1, q2, q4, q3⟩ := h.dct j ks m e1
    have hb : b ≠ a := fun z => by
      subst z
      exact hj (h.apart i j b l0 m (by rw [ex]; exact mt_own xm) (by rw [e1]; rfl) ha q1)
    exact ⟨b, kvs, q1, kp b _ hb q2, q4, IsL.mono keep h.ol sub _ _ q3⟩
  · by_cases hb : b = a
    · subst hb; rw [e'] at e1; cases e1
    · exact lv b hb e1
  · by_cases hj : i = j
    · subst hj
      rw [ex] at e1
      exact ⟨⟨l', by rw [zQ hi, (yp l').mpr ⟨rfl, m, Option.some.inj e1⟩]⟩, rfl⟩
    · exact ⟨⟨m, by rw [zG hj]; exact e1⟩, rfl⟩
  · have hj : i ≠ j := fun z => by subst z; rw [ex] at e1; cases e1; cases xm
    exact ⟨by rw [zG hj]; exact e1, rfl⟩
theorem R.upd {r' : En} {xs xs' : List V} (h : R K O0 H r σ) (e : putO i l' r = some r') (ha : σ[i]? = some (some (.ref a))) (hx : H a = some (.lst xs)) (il : IsL K (Ow O0 r σ) H l' xs') : R K O0 (upd H a (.lst xs')) r' σ /\ Kp H r σ (upd H a (.lst xs')) r' σ := by
  have own_a : Ow O0 r σ a := by
    obtain ⟨x, y, ex, _, _, _, ⟨l0, xm⟩, _⟩ := putO_some e
    exact .inr ⟨i, l0, by rw [ex]; exact mt_own xm, ha⟩
  refine h.put e ha (fun b o hb e1 => by rw [zU hb]; exact e1) (fun b hb e1 => by rw [zU hb] at e1; exact e1) zT ?_
  exact IsL.mono (fun b o e1 n => by rw [zU (fun z => n (by subst z; exact own_a))]; exact e1) h.ol (fun _ z _ => z) _ _ il
end
noncomputable def mApp (i : Nat) (f : ME) : En -> Option (D × En) := fun r => (f r).bind fun d => (mtOf r i).bind fun l => if l.length < sizeLine then (putO i (l ++ [d]) r).map fun r' => (.non, r') else none
noncomputable def mAppX (i : Nat) (f : En -> Option (D × En)) : En -> Option (D × En) := fun r0 => (f r0).bind fun p => (mtOf r0 i).bind fun _ => (mtOf p.2 i).bind fun l => if l.length < sizeLine then (putO i (l ++ [p.1]) p.2).map fun r' => (.non, r') else none
noncomputable def mPop (i : Nat) : En -> Option (D × En) := fun r => (mtOf r i).bind fun l => (l[l.length - 1]?).bind fun d => (putO i l.dropLast r).map fun r' => (d, r')
noncomputable def mExt (i : Nat) (f : ME) : En -> Option (D × En) := fun r => (f r).bind fun d => (itemsD d).bind fun m => (mtOf r i).bind fun l => if l.length + m.length <= sizeLine then (putO i (l ++ m) r).map fun r' => (.non, r') else none
theorem IsL.dropLast {K : Fg} {O : Addr -> Prop} {H : Hp} {l : List D} {vs : List V} (h : IsL K O H l vs) : IsL K O H l.dropLast vs.dropLast := by
  rw [List.dropLast_eq_take, List.dropLast_eq_take, h.length]
  exact h.take _
section
variable {X : Cx} {apos cpos pn : Pos} {e : Expr} {f : ME} {x : Str} {i : Nat}
theorem mt_at {K : Fg} {O0 : Addr -> Prop} {H : Hp} {r : En} {σ : St} {l : List D} (h : R K O0 H r σ) (e : mtOf r i = some l) : ∃ a xs, σ[i]? = some (some (.ref a)) /\ H a = some (.lst xs) /\ IsL K (Ow O0 r σ) H l xs := by
  obtain ⟨y, e1, e2⟩ := bind_some e
  exact h.own i l (by rw [e1]; exact (ml_mt e2).2)
theorem dx_append (i : Nat) {x : Str} (h : PE X (.Name x pn) (tVar i)) (he : DE X e f)
    (hline : (apos.endLine == cpos.line) = true := by rfl) (hbase : attributeBase (.Name x pn) "append" X.env (eval (.Name x pn) X.env) = eval (.Name x pn) X.env := by rfl)
    (hfew : ((backTo cpos (starEach [e] X.env)).all (fun x => !x.1) && (backToKw cpos (keywordEach [] X.env)).all (fun x => x.1.isSome) && decide ([e].length + ([] : List Keyword).length + (if ([] : List Keyword).isEmpty then 0 else 1) < 30)) = true := by rfl)
    (hs : starEach [e] X.env = (false, eval e X.env) :: starEach [] X.env := by rfl) :
    DX X (.Call (.Attribute (.Name x pn) "append" apos) [e] [] cpos) (mApp i f) := by
  refine PE.conseq (pe_bm PySem.F.plainAttrs_list PySem.F.slot_list_append PySem.F.type_list_append mt_append h (pa_cons he pa_nil hs) hbase hfew hline hs) fun σ H Q hq => ?_
  obtain ⟨O0, r, d', r', hR, e, q⟩ := hq
  obtain ⟨d, e1, e⟩ := bind_some e
  obtain ⟨l, e2, e⟩ := bind_some e
  split at e
  · rename_i hl
    obtain ⟨r2, e3, e4⟩ := map_some e
    cases e4
    obtain ⟨a, xs, q1, q2, q3⟩ := mt_at hR e2
    refine ⟨.ref a, q1, .inl ⟨rfl, xs, SqL.of q2⟩, O0, r, d, hR, e1, fun v H1 s1 i1 => ?_⟩
    have R1 := hR.same s1
    obtain ⟨R2, k2⟩ := R1.upd (xs' := xs ++ [v]) e3 q1 (s1 _ _ q2) ((q3.same s1 hR.ol).append (.cons i1 .nil))
    exact ⟨a, xs, v, rfl, rfl, s1 _ _ q2, by rw [<- q3.length]; exact hl, q _ _ R2 ((Kp.of_same r σ s1).trans k2) (by rw [Is.non_iff])⟩
  · cases e
theorem dx_appendX (i : Nat) {x : Str} {fx : En -> Option (D × En)} (h : PE X (.Name x pn) (tVar i)) (he : DX X e fx)
    (hline : (apos.endLine == cpos.line) = true := by rfl) (hbase : attributeBase (.Name x pn) "append" X.env (eval (.Name x pn) X.env) = eval (.Name x pn) X.env := by rfl)
    (hfew : ((backTo cpos (starEach [e] X.env)).all (fun x => !x.1) && (backToKw cpos (keywordEach [] X.env)).all (fun x => x.1.isSome) && decide ([e].length + ([] : List Keyword).length + (if ([] : List Keyword).isEmpty then 0 else 1) < 30)) = true := by rfl)
    (hs : starEach [e] X.env = (false, eval e X.env) :: starEach [] X.env := by rfl) :
    DX X (.Call (.Attribute (.Name x pn) "append" apos) [e] [] cpos) (mAppX i fx) := by
  refine PE.conseq (pe_bm PySem.F.plainAttrs_list PySem.F.slot_list_append PySem.F.type_list_append mt_append h (pa_cons he pa_nil hs) hbase hfew hline hs) fun σ H Q hq => ?_
  obtain ⟨O0, r, d', r', hR, e, q⟩ := hq
  obtain ⟨⟨d, r1⟩, e1, e⟩ := bind_some e
  obtain ⟨l0, e0, e⟩ := bind_some e
  obtain ⟨l, e2, e⟩ := bind_some e
  split at e
  · rename_i hl
    obtain ⟨r2, e3, e4⟩ := map_some e
    cases e4
    obtain ⟨a0, xs0, p1, p2, p3⟩ := mt_at hR e0
    refine ⟨.ref a0, p1, .inl ⟨rfl, xs0, SqL.of p2⟩, O0, r, d, r1, hR, e1, fun v H1 R1 k1 i1 => ?_⟩
    obtain ⟨a, xs, q1, q2, q3⟩ := mt_at R1 e2
    rw [p1] at q1; cases q1
    obtain ⟨R2, k2⟩ := R1.upd (xs' := xs ++ [v]) e3 p1 q2 (q3.append (.cons i1 .nil))
    exact ⟨_, xs, v, rfl, rfl, q2, by rw [<- q3.length]; exact hl, q _ _ R2 (k1.trans k2) (by rw [Is.non_iff])⟩
  · cases e
theorem dx_pop (i : Nat) {x : Str} (h : PE X (.Name x pn) (tVar i)) (hbase : attributeBase (.Name x pn) "pop" X.env (eval (.Name x pn) X.env) = eval (.Name x pn) X.env := by rfl) (hline : (apos.endLine == cpos.line) = true := by rfl) :
    DX X (.Call (.Attribute (.Name x pn) "pop" apos) [] [] cpos) (mPop i) := by
  refine PE.conseq (pe_bm0 PySem.F.plainAttrs_list PySem.F.slot_list_pop PySem.F.type_list_pop mt_pop h hbase hline) fun σ H Q hq => ?_
  obtain ⟨O0, r, d', r', hR, e, q⟩ := hq
  obtain ⟨l, e2, e⟩ := bind_some e
  obtain ⟨d, e1, e⟩ := bind_some e
  obtain ⟨r2, e3, e4⟩ := map_some e
  have e5 : d = d' := congrArg Prod.fst e4
  have e6 : r2 = r' := congrArg Prod.snd e4
  subst e5 e6
  obtain ⟨a, xs, q1, q2, q3⟩ := mt_at hR e2
  obtain ⟨v, ev, iv⟩ := q3.get e1
  obtain ⟨R2, k2⟩ := hR.upd (xs' := xs.dropLast) e3 q1 q2 q3.dropLast
  refine ⟨.ref a, q1, .inl ⟨rfl, xs, SqL.of q2⟩, a, xs, v, rfl, rfl, q2, by rw [<- q3.length]; exact ev, q _ _ R2 k2 ?_⟩
  have own_a : Ow O0 r σ a := by
    obtain ⟨y, z1, z2⟩ := bind_some e2
    exact .inr ⟨i, l, by rw [z1]; exact mt_own (ml_mt z2).1, q1⟩
  have ow2 : ∀ b, Ow O0 r2 σ b -> H b ≠ none -> Ow O0 r σ b := fun b z n => z.imp id fun z => (k2.new b z).elim id fun z => absurd z n
  exact Is.mono (fun b o e1 n => by rw [zU (fun z => n (by subst z; exact own_a))]; exact e1) hR.ol ow2 _ _ iv
end
noncomputable def capS : Option Sl -> Sl
  | some (.v d) => .v d
  | _ => .un
noncomputable def capR (cap : List Nat) (n : Nat) (r : En) : En := (cap.map fun j => capS r[j]?) ++ List.replicate (n - cap.length) .un
noncomputable def compL (bd : D -> En -> Option En) (c : MB) (x : ME) : List D -> En -> Option (List D)
  | [], _ => some []
  | d :: t, r => (bd d r).bind fun r1 => (c r1).bind fun b => if b = true then (x r1).bind fun y => (compL bd c x t r1).map (y :: ·) else compL bd c x t r1
noncomputable def mTrue : MB := fun _ => some true
noncomputable def mCompIf (cap : List Nat) (n : Nat) (it : ML) (bd : D -> En -> Option En) (c : MB) (x : ME) : ML := fun r => (it r).bind fun l => if l.length < sizeLine then compL bd c x l (capR cap n r) else none
noncomputable def mComp (cap : List Nat) (n : Nat) (it : ML) (bd : D -> En -> Option En) (x : ME) : ML := mCompIf cap n it bd mTrue x
theorem R.cap {K : Fg} {O0 : Addr -> Prop} {H H2 : Hp} {r : En} {σ : St} {cap : List Nat} {n : Nat} {p : Addr} {ys : List V} (h : R K O0 H r σ) (s : zR H H2) (hp : H p = none) (ep : H2 p = some (.lst ys)) :
    R K (fun b => Ow O0 r σ b \/ b = p) H2 (capR cap n r) (sigC cap n σ) := by
  have noO : ∀ (i : Nat) (l : List D), ((capR cap n r)[i]?).bind Sl.own ≠ some l := fun i l e => by
    unfold capR at e
    by_cases hi : i < cap.length
    · rw [List.getElem?_append_left (by simpa using hi), List.getElem?_map] at e
      obtain ⟨j, hj⟩ : ∃ j, cap[i]? = some j := ⟨cap[i], by simp [hi]⟩
      rw [hj] at e
      have e' : (capS r[j]?).own = some l := e
      cases ej : r[j]? with
      | none => rw [ej] at e'; cases e'
      | some y => rw [ej] at e'; cases y <;> cases e'
    · rw [List.getElem?_append_right (by simpa using Nat.le_of_not_lt hi), List.getElem?_replicate] at e
      split at e <;> cases e
  have ol : OLst (fun b => Ow O0 r σ b \/ b = p) H2 := fun b z => z.elim (fun z => (h.same s).ol b z) fun z => by subst z; exact ⟨.lst ys, ep, trivial⟩
  refine ⟨by simp [capR, sigC], fun i d e => ?_, fun i l e => absurd (ls_own' e) (noO i l), fun i j a l m e1 => absurd e1 (noO i l), ol, fun i l a e => absurd (show ((capR cap n r)[i]?).bind Sl.own = some l by rcases e with e | e | ⟨_, e⟩ <;> rw [e] <;> rfl) (noO i l), fun i l a e => absurd (show ((capR cap n r)[i]?).bind Sl.own = some l by rw [e]; rfl) (noO i l), fun i ks l e => absurd (show ((capR cap n r)[i]?).bind Sl.own = some l by rw [e]; rfl) (noO i l)⟩
  unfold capR at e
  by_cases hi : i < cap.length
  · rw [List.getElem?_append_left (by simpa using hi), List.getElem?_map] at e
    obtain ⟨j, hj⟩ : ∃ j, cap[i]? = some j := ⟨cap[i], by simp [hi]⟩
    rw [hj] at e
    have e' : capS r[j]? = .v d := Option.some.inj e
    have ej : r[j]? = some (.v d) := by
      cases ej : r[j]? with
      | none => rw [ej] at e'; cases e'
      | some y => rw [ej] at e'; cases y <;> cases e'; rfl
    obtain ⟨v, e1, q⟩ := h.val j d ej
    refine ⟨v, ?_, ?_⟩
    · unfold sigC
      rw [List.getElem?_append_left (by simpa using hi), List.getElem?_map, hj]
      show some ((σ[j]?).getD none) = _
      rw [e1]; rfl
    · refine Is.mono (zR.kp s _) h.ol (fun a z nn => ?_) _ _ q
      rcases z with (z | z) | ⟨k, l, ek, _⟩
      · exact z
      · subst z; exact absurd hp nn
      · exact absurd ek (noO k l)
  · rw [List.getElem?_append_right (by simpa using Nat.le_of_not_lt hi), List.getElem?_replicate] at e
    split at e <;> cases e
section
variable {X : Cx} {N' : List Str} {cap : List Nat} {scope : Scope} {elt tg iter : Expr} {ifs : List Expr} {pos : Pos} {it : ML} {bd : D -> En -> Option En} {c : MB} {x : ME}
theorem comp_read {tc : Option TT} (htc : ∀ {σ : St} {H : Hp} {K1 : V -> Hp -> Prop} {K0 : Hp -> Prop} {te : TE}, (lT X.K c σ H fun b H1 => if b = true then te σ H1 K1 else K0 H1) -> tComp1 tc te K1 K0 σ H)
    (n : Nat) {σ : St} {H : Hp} {Q : VK} (h : lF X.K (mCompIf cap n it bd c x) σ H Q) : tComp cap n (lI X.K it) (lG X.K bd) tc (lE X.K x) σ H Q := by
  obtain ⟨O0, r, out, hR, e, q⟩ := h
  obtain ⟨l, e1, e2⟩ := bind_some e
  split at e2
  · rename_i hlen
    refine ⟨O0, r, l, hR, e1, fun J H1 s1 yl p hp => ?_⟩
    have hpH : H p = none := s1.free hp
    refine ⟨fun i m ys σ2 H2 => m = l.length - i /\ i <= l.length /\ ys.length <= i /\ H2 p = some (.lst ys) /\ zR H1 H2 /\ ∃ r2 dn rest, R X.K (fun b => Ow O0 r σ b \/ b = p) H2 r2 σ2 /\ (∀ a, ¬ OwnAt r2 σ2 a) /\ IsL X.K (fun b => Ow O0 r σ b \/ b = p) H2 dn ys /\ compL bd c x (l.drop i) r2 = some rest /\ dn ++ rest = out,
      ⟨l.length, by simp, Nat.zero_le _, Nat.le_refl _, zT, zW hp, capR cap n r, [], out, ?_, ?_, .nil, by simpa using e2, rfl⟩, ?_⟩
    · exact R.cap hR (s1.trans (zW hp)) hpH zT
    · rintro a ⟨i, l', e', _⟩
      unfold capR at e'
      by_cases hi : i < cap.length
      · rw [List.getElem?_append_left (by simpa using hi), List.getElem?_map] at e'
        obtain ⟨j, hj⟩ : ∃ j, cap[i]? = some j := ⟨cap[i], by simp [hi]⟩
        rw [hj] at e'
        have e'' : (capS r[j]?).own = some l' := e'
        cases ej : r[j]? with
        | none => rw [ej] at e''; cases e''
        | some y => rw [ej] at e''; cases y <;> cases e''
      · rw [List.getElem?_append_right (by simpa using Nat.le_of_not_lt hi), List.getElem?_replicate] at e'
        split at e' <;> cases e'
    · rintro i m ys σ2 H2 ⟨rfl, hil, hyl, hp2, s2, r2, dn, rest, R2, no2, il2, e3, eo⟩
      refine ⟨hp2, by omega, ?_⟩
      obtain ⟨y1, y2⟩ := yl i H2 (fun b => Ow O0 r σ b \/ b = p) (zR.kp s2 _) fun a z nn => z.elim id fun z => by subst z; exact absurd hp nn
      by_cases hlt : i < l.length
      · obtain ⟨go, yd⟩ := y1 hlt
        have hd : l[i]? = some l[i] := by simp [hlt]
        rw [drop_cons hd] at e3
        obtain ⟨r3, e4, e5⟩ := bind_some e3
        obtain ⟨b, e6, e7⟩ := bind_some e5
        refine .inr ⟨go, fun v H3 yv => ?_⟩
        obtain ⟨s3, iv⟩ := yd v H3 yv
        have R3 := R2.same s3
        have ow2 : ∀ a, Ow (fun b => Ow O0 r σ b \/ b = p) r2 σ2 a -> Ow O0 r σ a \/ a = p := fun a z => z.elim id fun z => absurd z (no2 a)
        refine ⟨_, r2, l[i], r3, R3, ?_, e4, fun σ4 R4 k4 => ?_⟩
        · exact Is.mono (zR.kp (zR.refl H3) _) R3.o0 (fun a z _ => ow2 a z) _ _ (iv _ hd)
        have no4 : ∀ a, ¬ OwnAt r3 σ4 a := fun a z => by
          rcases k4.new a z with z' | z'
          · exact no2 a z'
          · obtain ⟨xs, ex, _⟩ := R4.ol a (.inr z)
            rw [z'] at ex; cases ex
        have ow4 : ∀ a, Ow (fun b => Ow O0 r σ b \/ b = p) r3 σ4 a -> Ow O0 r σ a \/ a = p := fun a z => z.elim id fun z => absurd z (no4 a)
        refine htc ⟨_, r3, b, R4, e6, fun H5 s5 => ?_⟩
        have R5 := R4.same s5
        cases b with
        | false =>
          rw [if_neg Bool.false_ne_true] at e7
          refine iteF ⟨l.length - (i + 1), by omega, rfl, hlt, by omega, (s3.trans s5) _ _ hp2, s2.trans (s3.trans s5), r3, dn, rest, R5, no4, ?_, e7, eo⟩
          exact il2.same (s3.trans s5) R2.o0
        | true =>
          rw [if_pos rfl] at e7
          obtain ⟨y, e8, e9⟩ := bind_some e7
          obtain ⟨rest', e10, e11⟩ := map_some e9
          refine iteT ⟨_, r3, y, R5, e8, fun u H6 s6 iu => ?_⟩
          have s26 := s3.trans (s5.trans s6)
          have hp6 := s26 _ _ hp2
          have R6 := R5.same s6
          have kk : Keep (fun b => Ow O0 r σ b \/ b = p) H6 (upd H6 p (.lst (ys ++ [u]))) := fun b' o e' nn => by rw [zU (fun z => nn (.inr z))]; exact e'
          refine ⟨hp6, l.length - (i + 1), by omega, rfl, hlt, by simp; omega, zT, ?_, r3, dn ++ [y], rest', ?_, no4, ?_, e10, ?_⟩
          · intro b' o e'
            have hb : b' ≠ p := fun z => by subst z; rw [hp] at e'; cases e'
            rw [zU hb]
            exact s26 _ _ (s2 _ _ e')
          · refine ⟨R6.len, fun j d ej => ?_, fun j m ej => ?_, R6.apart, fun b' z => ?_, R6.loc, R6.par, fun j ks m ej => ?_⟩
            · obtain ⟨w, q1, q2⟩ := R6.val j d ej
              exact ⟨w, q1, Is.mono (fun b' o e' nn => kk b' o e' fun z => nn (.inl z)) R6.ol (fun _ z _ => z) _ _ q2⟩
            · obtain ⟨a', xs', q1, q2, _⟩ := R6.own j m ej
              exact absurd ⟨j, m, ls_own' ej, q1⟩ (no4 a')
            · rcases z with z | z
              · by_cases hb : b' = p
                · subst hb; exact ⟨_, zT, trivial⟩
                · rw [zU hb]; exact R6.o0 b' (.inl z)
              · subst z; exact ⟨_, zT, trivial⟩
            · obtain ⟨a', kvs, q1, q2, _⟩ := R6.dct j ks m ej
              exact absurd ⟨j, m, by rw [ej]; rfl, q1⟩ (no4 a')
          · have i1 := il2.same s26 R2.o0
            have i2 : Is X.K (fun b => Ow O0 r σ b \/ b = p) H6 y u := Is.mono (zR.kp (zR.refl H6) _) R6.ol (fun a z _ => .inl z) _ _ iu
            exact IsL.mono kk R6.o0 (fun _ z _ => z) _ _ (i1.append (.cons i2 .nil))
          · rw [<- eo, <- e11]; simp
      · have hl : l.drop i = [] := List.drop_eq_nil_of_le (by omega)
        rw [hl] at e3
        have e3' : some [] = some rest := e3
        cases e3'
        rw [List.append_nil] at eo
        subst eo
        exact .inl ⟨y2 (by omega), q p ys H2 (s1.trans s2) hpH hp2 il2⟩
  · cases e2
theorem df_comp (hc : X.calm = true) (o : CmpOk X N' cap scope) (hi : DI X tg iter it) (hg : ∀ C fp s H, DG (cxC X N' scope C fp s H) tg bd) (he : ∀ C fp s H, DE (cxC X N' scope C fp s H) elt x)
    (n : Nat) (hn : N'.length = n := by rfl) (hs : ∀ x, foldedSetIterable iter X.env x = pure x := by intro _; rfl) : DF X (.ListComp elt [⟨tg, iter, [], 0⟩] scope pos) (mComp cap n it bd x) := by
  subst hn
  exact PE.conseq (pe_lcomp (g := lG X.K bd) (te := lE X.K x) (tc := none) hc o hi hg rfl he hs) fun σ H Q h => comp_read (tc := none) (fun {σ H K1 K0 te} z => by
    obtain ⟨O0, r, b, hR, e, q⟩ := z
    unfold mTrue at e; cases e
    have z1 : (if true = true then te σ H K1 else K0 H) := q H (zR.refl H)
    rw [if_pos rfl] at z1
    exact z1) N'.length h
end
noncomputable def CapOk (X : Cx) (scope : Scope) : List Nat -> List Str -> Prop
  | [], _ => True
  | j :: t, x :: r => X.N[j]? = some x /\ scope.names.lookup x = some .free /\ CapOk X scope t r
  | _ :: _, [] => False
theorem CapOk.get {X : Cx} {scope : Scope} : ∀ {cap : List Nat} {N' : List Str}, CapOk X scope cap N' -> ∀ (i j : Nat), cap[i]? = some j -> ∃ x, N'[i]? = some x /\ X.N[j]? = some x /\ scope.names.lookup x = some .free
  | [], _, _, i, j, e => by simp at e
  | k :: t, [], h, _, _, _ => False.elim h
  | k :: t, x :: r, h, 0, j, e => by
    have e' : k = j := by simpa using e
    subst e'
    exact ⟨x, rfl, h.1, h.2.1⟩
  | k :: t, x :: r, h, i + 1, j, e => by
    obtain ⟨y, q1, q2⟩ := CapOk.get h.2.2 i j (by simpa using e)
    exact ⟨y, by simpa using q1, q2⟩
theorem CapOk.len {X : Cx} {scope : Scope} : ∀ {cap : List Nat} {N' : List Str}, CapOk X scope cap N' -> cap.length <= N'.length
  | [], _, _ => Nat.zero_le _
  | k :: t, [], h => False.elim h
  | k :: t, x :: r, h => Nat.succ_le_succ (CapOk.len h.2.2)
theorem cmp_mk {X : Cx} {N' : List Str} {cap : List Nat} {scope : Scope} (kind : scope.kind = .function := by rfl) (nc : ∀ y ∈ scope.names, y.2 ≠ .cell := by decide +kernel) (nm : ∀ y ∈ scope.names, y.2 = .local -> scope.names.lookup y.1 = some .local := by decide +kernel)
    (fr : ∀ y ∈ scope.names, y.2 = .free -> X.env.kindOf y.1 = some .cell \/ X.env.kindOf y.1 = some .free := by repeat (first | exact List.forall_mem_nil _ | refine List.forall_mem_cons.mpr ⟨fun e => (by first | exact absurd e (by decide) | exact .inl rfl | exact .inr rfl), ?_⟩))
    (capt : CapOk X scope cap N' := by repeat (first | exact trivial | refine ⟨rfl, rfl, ?_⟩)) : CmpOk X N' cap scope := ⟨kind, nc, nm, fr, capt.get, capt.len⟩
end DD
namespace ZZ
open PySem
section
variable {prog : Program} {w : World} {A : Around} {E : Value -> Shared -> Prop} {s : Shared}
theorem tnext {ti tu : Addr} {k : Nat} {ys : Array Value} {y : Value} {Q : Value -> Shared -> Prop} (h1 : s.heap.IsTupleIter ti tu k) (h2 : s.heap.IsTuple tu ys) (h3 : ys[k]? = some y)
    (h4 : ∀ g, g.IsTupleIter ti tu (k + 1) -> Heap.SameBut ti s.heap g -> Q y { s with heap := g }) : wpAny (model prog w) A (Builtin.SmallTypes.nextOf (.ref ti)) Q E s := by
  obtain ⟨a, ha, ca, da⟩ := id h1
  obtain ⟨b, hb, _, nb, db⟩ := h2
  unfold Builtin.SmallTypes.nextOf; refine wpAny_bind (wpAny_callSpecial?_slot (name := Str.ofString "__next__") h1.typeIs F.slot_tuple_iterator_next (wpAny_call_entry F.slot_tuple_iterator_next h1.typeIs F.entry_tuple_iterator_next (?_) (F.args_tuple_iterator_next_1 _)))
  show wpAny _ _ (field (.ref ti) 0 >>= _) _ _ s; refine wpAny_bind (wpAny_field ha da (x := .ref tu) rfl (?_))
  show wpAny _ _ (if (Value.ref tu == Value.none) = true then _ else _) _ _ s; rw [if_neg (show ¬ ((Value.ref tu == Value.none) = true) from Bool.false_ne_true)]
  show wpAny _ _ (field (.ref ti) 1 >>= _) _ _ s; refine wpAny_bind (wpAny_field ha da (x := .int k 0) rfl (?_))
  show wpAny _ _ (seqItems? (.ref tu) >>= _) _ _ s; refine wpAny_bind (wpAny_seqItems hb db (?_)); simp only [Int.toNat_natCast, h3]
  refine wpAny_bind (wpAny_setField ha da (by simp) (wpAny_pure ⟨y, rfl, wpAny_pure (h4 _ (?_) (Heap.SameBut.update ..))⟩))
  refine ⟨_, Heap.get?_update_self _ ha (Obj.isFreed_of_fields (Obj.data_mapFields da _)), (Obj.cls_mapFields ..).trans ca, ?_⟩; rw [Obj.data_mapFields da]; simp [rawInt]
theorem tend {ti tu : Addr} {k : Nat} {ys : Array Value} {Q : Value -> Shared -> Prop} (hh : A.handled = none) (h1 : s.heap.IsTupleIter ti tu k) (h2 : s.heap.IsTuple tu ys) (h3 : ys[k]? = none)
    (h4 : ∀ g e, Heap.ExtBut ti s.heap g -> (∃ o, g.get? e = some o /\ o.cls = .type "StopIteration") -> E (.ref e) { s with heap := g }) : wpAny (model prog w) A (Builtin.SmallTypes.nextOf (.ref ti)) Q E s := by
  obtain ⟨a, ha, ca, da⟩ := id h1
  obtain ⟨b, hb, _, nb, db⟩ := h2
  unfold Builtin.SmallTypes.nextOf; refine wpAny_bind (wpAny_callSpecial?_slot (name := Str.ofString "__next__") h1.typeIs F.slot_tuple_iterator_next (wpAny_call_entry F.slot_tuple_iterator_next h1.typeIs F.entry_tuple_iterator_next (?_) (F.args_tuple_iterator_next_1 _)))
  show wpAny _ _ (field (.ref ti) 0 >>= _) _ _ s; refine wpAny_bind (wpAny_field ha da (x := .ref tu) rfl (?_))
  show wpAny _ _ (if (Value.ref tu == Value.none) = true then _ else _) _ _ s; rw [if_neg (show ¬ ((Value.ref tu == Value.none) = true) from Bool.false_ne_true)]
  show wpAny _ _ (field (.ref ti) 1 >>= _) _ _ s; refine wpAny_bind (wpAny_field ha da (x := .int k 0) rfl (?_))
  show wpAny _ _ (seqItems? (.ref tu) >>= _) _ _ s; refine wpAny_bind (wpAny_seqItems hb db (?_)); simp only [Int.toNat_natCast, h3]
  refine wpAny_bind (wpAny_rule (wpAny_bind (wpAny_setField ha da (by simp) (?_)))); show wpAny _ _ (newExc (.type "StopIteration") [] >>= _) _ _ _
  refine wpAny_bind (?_); simp only [newExc, newTuple]; refine wpAny_bind (wpAny_newObj_type (?_) (by size_fits))
  refine wpAny_bind (m := firstArgMember _ _) (wpAny_of_eq (a := Value.none) (by first | rfl | (simp only [firstArgMember]; rfl)) (?_)); refine wpAny_newObj_type (?_) (by size_fits)
  simp only [raiseNew]; refine wpAny_bind (wpAny_handled (?_)); first | rw [show A.in1.handled = none from hh] | rw [hh]
  refine wpAny_bind (wpAny_pure (wpAny_throw (?_))); exact h4 _ _ (((Heap.SameBut.update ..).extBut.push _).push _) ⟨_, Heap.get?_push_size _ rfl, rfl⟩
end
theorem drawsT {prog : Program} {w : World} {A : Around} (hh : A.handled = none) (ti tu : Addr) (ne : tu ≠ ti) (ys : Array Value) : Draws prog w A ti [ti, tu] ys.size (fun i v => ys[i]? = some v) (fun i h => h.IsTupleIter ti tu i /\ h.IsTuple tu ys) where
  live := fun _ _ st => let ⟨o, e, _⟩ := st.1; ⟨o, e⟩
  frame := fun _ _ _ st k => ⟨st.1.at fun o e => k ti (by simp) o e, st.2.at fun o e => k tu (by simp) o e⟩
  item := fun i s Q E hi st q => tnext st.1 st.2 (y := ys[i]) (by simp [hi]) fun g a b => q _ g s.toks (by simp [hi]) ⟨a, st.2.at fun o e => b.extBut _ _ ne e⟩ b
  done := fun s Q E st q => tend hh st.1 st.2 (by simp) q
structure Ap (z a b i j : Addr) (f g : List Addr) : Prop where
  az : a ≠ z
  bz : b ≠ z
  iz : i ≠ z
  jz : j ≠ z
  ab : a ≠ b
  ai : a ≠ i
  aj : a ≠ j
  bi : b ≠ i
  bj : b ≠ j
  ij : i ≠ j
  fz : z ∉ f
  fb : b ∉ f
  fj : j ∉ f
  gz : z ∉ g
  gb : b ∉ g
  gi : i ∉ g
section
variable {prog : Program} {w : World} {A : Around} {E : Value -> Shared -> Prop} {s : Shared} {z a b i j : Addr} {f g : List Addr} {n m k : Nat} {P R : Nat -> Value -> Prop} {S U : Nat -> Heap -> Prop} {p q : Value}
theorem zitem {Q : Value -> Shared -> Prop} (D : Draws prog w A i f n P S) (C : Draws prog w A j g m R U) (ap : Ap z a b i j f g) (hz : IsZip s.heap z a b .none) (ha : IsPair s.heap a (.ref i) (.ref j)) (hb : IsPair s.heap b p q) (hS : S k s.heap) (hU : U k s.heap) (hn : k < n) (hm : k < m)
    (h : ∀ x y g' tk, P k x -> R k y -> IsZip g' z a b (rawInt s.heap.objs.size) -> IsPair g' b x y -> S (k + 1) g' -> U (k + 1) g' -> IsPair g' s.heap.objs.size x y -> g'.objs.size = s.heap.objs.size + 1 ->
      (∀ c o, c ≠ z -> c ≠ b -> c ≠ i -> c ≠ j -> s.heap.get? c = some o -> g'.get? c = some o) -> Q (.ref s.heap.objs.size) { s with heap := g', toks := tk }) :
    wpAny (model prog w) A (Builtin.«zip.__next__» ⟨[.ref z], []⟩) (fun r s' => ∃ y, r = .done (.ret y) /\ Q y s') E s := by
  show wpAny _ _ (field (.ref z) 2 >>= _) _ _ _; refine wpAny_bind (wpAny_field hz rfl (x := .bool false) rfl (?_))
  show wpAny _ _ (field (.ref z) 3 >>= _) _ _ _; refine wpAny_bind (wpAny_field hz rfl (x := .ref a) rfl (wpAny_bind (wpAny_seqItems ha rfl (?_))))
  show wpAny _ _ (Builtin.SmallTypes.ownedTupleIsFree (.ref z) >>= _) _ _ _; refine wpAny_bind (?_); unfold Builtin.SmallTypes.ownedTupleIsFree
  refine wpAny_bind (wpAny_field hz rfl (x := .none) rfl (wpAny_pure (?_))); simp only [if_true]; refine wpAny_bind (wpAny_rule (wpAny_bind (wpAny_field hz rfl (x := .ref b) rfl (?_))))
  refine wpAny_bind (wpAny_setField_rec hz (by simp) fun g1 z1 t1 => ?_)
  replace z1 : IsZip g1 z a b .ellipsis := z1
  have keep1 : ∀ {c : Addr} {o : Obj}, c ≠ z -> s.heap.get? c = some o -> g1.get? c = some o := fun n e => t1.extBut _ _ n e
  refine wpAny_bind (?_); simp only [List.zipIdx_cons, List.zipIdx_nil, List.forIn_cons, List.forIn_nil]; refine wpAny_bind (wpAny_bind (wpAny_onRaise (?_)))
  show wpAny _ _ (Builtin.SmallTypes.nextOf (.ref i) >>= _) _ _ _
  refine wpAny_bind (D.item k _ _ _ hn (D.frame _ _ _ hS fun c hc o e => keep1 (fun w' => ap.fz (w' ▸ hc)) e) fun x g2 tk2 Px S2 t2 => wpAny_pure (?_))
  have b2 : IsPair g2 b p q := t2.extBut _ _ ap.bi (keep1 ap.bz hb)
  refine wpAny_bind (wpAny_seqItems b2 rfl (wpAny_bind (wpAny_updateSeq_pair b2 fun g3 b3 t3 => ?_)))
  replace b3 : IsPair g3 b x q := b3
  refine wpAny_bind (wpAny_letGo (wpAny_pure (?_))); refine wpAny_bind (wpAny_bind (wpAny_onRaise (?_)))
  show wpAny _ _ (Builtin.SmallTypes.nextOf (.ref j) >>= _) _ _ _
  have U3 : U k g3 := C.frame _ _ _ hU fun c hc o e => t3.extBut _ _ (fun w' => ap.gb (w' ▸ hc)) (t2.extBut _ _ (fun w' => ap.gi (w' ▸ hc)) (keep1 (fun w' => ap.gz (w' ▸ hc)) e))
  refine wpAny_bind (C.item k _ _ _ hm U3 fun y g4 tk4 Ry U4 t4 => wpAny_pure (?_))
  have b4 : IsPair g4 b x q := t4.extBut _ _ ap.bj b3
  refine wpAny_bind (wpAny_seqItems b4 rfl (wpAny_bind (wpAny_updateSeq_pair b4 fun g5 b5 t5 => ?_)))
  replace b5 : IsPair g5 b x y := b5
  refine wpAny_bind (wpAny_letGo (wpAny_pure (wpAny_pure (?_)))); refine wpAny_bind (wpAny_seqItems b5 rfl (wpAny_bind (wpAny_newTuple (?_))))
  have sz : g5.objs.size = s.heap.objs.size := by rw [t5.1, t4.1, t3.1, t2.1, t1.1]
  have z5 : IsZip g5 z a b .ellipsis := t5.extBut _ _ ap.bz.symm (t4.extBut _ _ ap.jz.symm (t3.extBut _ _ ap.bz.symm (t2.extBut _ _ ap.iz.symm z1)))
  have k5 : ∀ c o, c ≠ z -> c ≠ b -> c ≠ i -> c ≠ j -> s.heap.get? c = some o -> g5.get? c = some o := fun c o c1 c2 c3 c4 e => t5.extBut _ _ c2 (t4.extBut _ _ c4 (t3.extBut _ _ c2 (t2.extBut _ _ c3 (keep1 c1 e))))
  have S5 : S (k + 1) g5 := D.frame _ _ _ S2 fun c hc o e => t5.extBut _ _ (fun w' => ap.fb (w' ▸ hc)) (t4.extBut _ _ (fun w' => ap.fj (w' ▸ hc)) (t3.extBut _ _ (fun w' => ap.fb (w' ▸ hc)) e))
  have U5 : U (k + 1) g5 := C.frame _ _ _ U4 fun c hc o e => t5.extBut _ _ (fun w' => ap.gb (w' ▸ hc)) e
  have zl : z < g5.objs.size := Heap.lt_size z5
  show wpAny _ _ (Builtin.SmallTypes.ownedTupleHandOut (.ref z) (.ref g5.objs.size) >>= _) _ _ _; refine wpAny_bind (?_); unfold Builtin.SmallTypes.ownedTupleHandOut
  have z6 : IsZip (g5.push { cls := .type "tuple", data := .seq #[x, y] }) z a b .ellipsis := Heap.get?_push_of_some _ z5
  refine wpAny_bind (wpAny_setField_rec z6 (by simp) fun g7 z7 t7 => ?_)
  replace z7 : IsZip g7 z a b (rawInt g5.objs.size) := z7
  refine wpAny_setField_rec z7 (by simp) fun g8 z8 t8 => ?_
  replace z8 : IsZip g8 z a b (rawInt g5.objs.size) := z8
  have up : ∀ c o, c ≠ z -> g5.get? c = some o -> g8.get? c = some o := fun c o c1 e => t8.extBut _ _ c1 (t7.extBut _ _ c1 (Heap.get?_push_of_some _ e))
  have p8 : IsPair g8 g5.objs.size x y := t8.extBut _ _ (Nat.ne_of_gt zl) (t7.extBut _ _ (Nat.ne_of_gt zl) (Heap.get?_push_size _ rfl))
  have s8 : g8.objs.size = g5.objs.size + 1 := by rw [t8.1, t7.1, Heap.size_push]
  rw [sz] at z8 p8 s8
  refine wpAny_pure ⟨_, rfl, (?_)⟩; show Q (.ref g5.objs.size) _; rw [sz]
  exact h x y g8 _ Px Ry z8 (up _ _ ap.bz b5) (D.frame _ _ _ S5 fun c hc o e => up c o (fun w' => ap.fz (w' ▸ hc)) e) (C.frame _ _ _ U5 fun c hc o e => up c o (fun w' => ap.gz (w' ▸ hc)) e) p8 s8 fun c o c1 c2 c3 c4 e => up c o c1 (k5 c o c1 c2 c3 c4 e)
theorem zend {Q : Fin -> Shared -> Prop} (D : Draws prog w A i f n P S) (C : Draws prog w A j g m R U) (ap : Ap z a b i j f g) (hz : IsZip s.heap z a b .none) (ha : IsPair s.heap a (.ref i) (.ref j)) (hb : IsPair s.heap b p q) (hS : S k s.heap) (hU : U k s.heap) (hk : (k = n) \/ (k < n /\ k = m))
    (h : ∀ g' e, (∀ c o, c ≠ z -> c ≠ b -> c ≠ i -> c ≠ j -> s.heap.get? c = some o -> g'.get? c = some o) -> (∃ o, g'.get? e = some o /\ o.cls = .type "StopIteration") -> ∀ tk, E (.ref e) { s with heap := g', toks := tk }) :
    wpAny (model prog w) A (PySem.Builtin.«zip.__next__» ⟨[.ref z], []⟩) Q E s := by
  show wpAny _ _ (field (.ref z) 2 >>= _) _ _ _; refine wpAny_bind (wpAny_field hz rfl (x := .bool false) rfl (?_))
  show wpAny _ _ (field (.ref z) 3 >>= _) _ _ _; refine wpAny_bind (wpAny_field hz rfl (x := .ref a) rfl (wpAny_bind (wpAny_seqItems ha rfl (?_))))
  show wpAny _ _ (Builtin.SmallTypes.ownedTupleIsFree (.ref z) >>= _) _ _ _; refine wpAny_bind (?_); unfold Builtin.SmallTypes.ownedTupleIsFree
  refine wpAny_bind (wpAny_field hz rfl (x := .none) rfl (wpAny_pure (?_))); simp only [if_true]; refine wpAny_bind (wpAny_rule (wpAny_bind (wpAny_field hz rfl (x := .ref b) rfl (?_))))
  refine wpAny_bind (wpAny_setField_rec hz (by simp) fun g1 z1 t1 => ?_)
  replace z1 : IsZip g1 z a b .ellipsis := z1
  have keep1 : ∀ {c : Addr} {o : Obj}, c ≠ z -> s.heap.get? c = some o -> g1.get? c = some o := fun n e => t1.extBut _ _ n e
  refine wpAny_bind (?_); simp only [List.zipIdx_cons, List.zipIdx_nil, List.forIn_cons, List.forIn_nil]; refine wpAny_bind (wpAny_bind (wpAny_onRaise (?_)))
  show wpAny _ _ (Builtin.SmallTypes.nextOf (.ref i) >>= _) _ _ _
  have S1 : S k g1 := D.frame _ _ _ hS fun c hc o e => keep1 (fun w' => ap.fz (w' ▸ hc)) e
  rcases hk with hk | ⟨hn, hk⟩
  · subst hk
    refine wpAny_bind (D.done _ _ _ S1 fun g2 e t2 he => ?_)
    obtain ⟨oe, ho, ce⟩ := he
    have z2 : IsZip g2 z a b .ellipsis := t2 _ _ ap.iz.symm z1
    have ez : e ≠ z := fun x => by subst x; rw [z2] at ho; cases ho; simp at ce
    exact wpAny_setField_rec z2 (by simp) fun g3 _ t3 => h g3 e (fun c o c1 _ c3 _ x => t3.extBut _ _ c1 (t2 _ _ c3 (keep1 c1 x))) ⟨oe, t3.extBut _ _ ez ho, ce⟩ _
  · subst hk
    refine wpAny_bind (D.item k _ _ _ hn S1 fun x g2 tk2 Px S2 t2 => wpAny_pure (?_))
    have b2 : IsPair g2 b p q := t2.extBut _ _ ap.bi (keep1 ap.bz hb)
    refine wpAny_bind (wpAny_seqItems b2 rfl (wpAny_bind (wpAny_updateSeq_pair b2 fun g3 b3 t3 => ?_)))
    refine wpAny_bind (wpAny_letGo (wpAny_pure (?_))); refine wpAny_bind (wpAny_bind (wpAny_onRaise (?_)))
    show wpAny _ _ (Builtin.SmallTypes.nextOf (.ref j) >>= _) _ _ _
    have U3 : U k g3 := C.frame _ _ _ hU fun c hc o e => t3.extBut _ _ (fun w' => ap.gb (w' ▸ hc)) (t2.extBut _ _ (fun w' => ap.gi (w' ▸ hc)) (keep1 (fun w' => ap.gz (w' ▸ hc)) e))
    refine wpAny_bind (C.done _ _ _ U3 fun g4 e t4 he => ?_)
    obtain ⟨oe, ho, ce⟩ := he
    have z4 : IsZip g4 z a b .ellipsis := t4 _ _ ap.jz.symm (t3.extBut _ _ ap.bz.symm (t2.extBut _ _ ap.iz.symm z1))
    have ez : e ≠ z := fun x => by subst x; rw [z4] at ho; cases ho; simp at ce
    exact wpAny_setField_rec z4 (by simp) fun g5 _ t5 => h g5 e (fun c o c1 c2 c3 c4 x => t5.extBut _ _ c1 (t4 _ _ c4 (t3.extBut _ _ c2 (t2.extBut _ _ c3 (keep1 c1 x))))) ⟨oe, t5.extBut _ _ ez ho, ce⟩ _
end
open PySem
noncomputable abbrev tI (t : Addr) : Obj := { cls := .type "tuple_iterator", data := .fields #[.ref t, .int 0 0] }
noncomputable abbrev tP (u v : Value) : Obj := { cls := .type "tuple", data := .seq #[u, v] }
noncomputable abbrev tZ (a b : Addr) : Obj := { cls := .type "zip", data := .fields #[.none, .bool false, .bool false, .ref a, .ref b] }
noncomputable abbrev zH (h : Heap) (t u : Addr) : Heap := ((((h.push (tI t)).push (tI u)).push (tP (.ref h.objs.size) (.ref (h.push (tI t)).objs.size))).push (tP .none .none)).push (tZ ((h.push (tI t)).push (tI u)).objs.size (((h.push (tI t)).push (tI u)).push (tP (.ref h.objs.size) (.ref (h.push (tI t)).objs.size))).objs.size)
theorem znew (t u : Addr) (xs ys : Array Value) : Meets (Builtin.«zip.__new__» ⟨[.type "zip", .ref t, .ref u], []⟩) (fun _ R s => s.heap.IsTuple t xs /\ s.heap.IsTuple u ys /\ R (.ok (.ret (.ref ((((s.heap.push (tI t)).push (tI u)).push (tP (.ref s.heap.objs.size) (.ref (s.heap.push (tI t)).objs.size))).push (tP .none .none)).objs.size))) { s with heap := zH s.heap t u }) :=
  .of_wp fun prog w A R s h => by
    obtain ⟨hp, g, d, tk, os⟩ := s; obtain ⟨h1, h2, h⟩ := h
    have hsub := sub_zip
    have L1 : Heap.IsTuple (Shared.heap ⟨hp, g, d, tk, os⟩) t xs := h1
    have L2 : Heap.IsTuple (Shared.heap ⟨hp.push (tI t), g, d, tk, os⟩) u ys := h2.at fun o e => Heap.get?_push_of_some _ e
    wp_walk using wpAny_pyIter_tuple L1, wpAny_pyIter_tuple L2
    exact ⟨_, rfl, h⟩
section
variable {prog : Program} {w : World} {A : Around} {E : Value -> Shared -> Prop} {s : Shared}
theorem zcall {t u : Addr} {xs ys : Array Value} {Q : Value -> Shared -> Prop} (h1 : s.heap.IsTuple t xs) (h2 : s.heap.IsTuple u ys)
    (h : ∀ g, IsZip g (s.heap.objs.size + 4) (s.heap.objs.size + 2) (s.heap.objs.size + 3) .none -> IsPair g (s.heap.objs.size + 2) (.ref s.heap.objs.size) (.ref (s.heap.objs.size + 1)) -> IsPair g (s.heap.objs.size + 3) .none .none ->
      g.IsTupleIter s.heap.objs.size t 0 -> g.IsTupleIter (s.heap.objs.size + 1) u 0 -> (∀ c o, s.heap.get? c = some o -> g.get? c = some o) -> Q (.ref (s.heap.objs.size + 4)) { s with heap := g }) :
    wpAny (model prog w) A (call (.type "zip") [.ref t, .ref u]) Q E s := by
  refine callType_new F.called_zip (by decide) (F.typeCall_zip_2 _ _) (F.newCall_zip_2 _ _) (fun obj => F.args_object_init_3 obj _ _) F.entry_zip_new (znew t u xs ys) ⟨h1, h2, ?_⟩
  have z1 : (s.heap.push (tI t)).objs.size = s.heap.objs.size + 1 := Heap.size_push ..
  have z2 : ((s.heap.push (tI t)).push (tI u)).objs.size = s.heap.objs.size + 2 := by rw [Heap.size_push, z1]
  have z3 : (((s.heap.push (tI t)).push (tI u)).push (tP (.ref s.heap.objs.size) (.ref (s.heap.push (tI t)).objs.size))).objs.size = s.heap.objs.size + 3 := by rw [Heap.size_push, z2]
  have z4 : ((((s.heap.push (tI t)).push (tI u)).push (tP (.ref s.heap.objs.size) (.ref (s.heap.push (tI t)).objs.size))).push (tP .none .none)).objs.size = s.heap.objs.size + 4 := by rw [Heap.size_push, z3]
  have kp : ∀ c o, s.heap.get? c = some o -> (zH s.heap t u).get? c = some o := fun c o x => Heap.get?_push_of_some _ (Heap.get?_push_of_some _ (Heap.get?_push_of_some _ (Heap.get?_push_of_some _ (Heap.get?_push_of_some _ x))))
  have g1 : (zH s.heap t u).get? s.heap.objs.size = some (tI t) := Heap.get?_push_of_some _ (Heap.get?_push_of_some _ (Heap.get?_push_of_some _ (Heap.get?_push_of_some _ (Heap.get?_push_size _ rfl))))
  have g2 : (zH s.heap t u).get? (s.heap.push (tI t)).objs.size = some (tI u) := Heap.get?_push_of_some _ (Heap.get?_push_of_some _ (Heap.get?_push_of_some _ (Heap.get?_push_size _ rfl)))
  have g3 : (zH s.heap t u).get? ((s.heap.push (tI t)).push (tI u)).objs.size = some (tP (.ref s.heap.objs.size) (.ref (s.heap.push (tI t)).objs.size)) := Heap.get?_push_of_some _ (Heap.get?_push_of_some _ (Heap.get?_push_size _ rfl))
  have g4 : (zH s.heap t u).get? (((s.heap.push (tI t)).push (tI u)).push (tP (.ref s.heap.objs.size) (.ref (s.heap.push (tI t)).objs.size))).objs.size = some (tP .none .none) := Heap.get?_push_of_some _ (Heap.get?_push_size _ rfl)
  have g5 : (zH s.heap t u).get? ((((s.heap.push (tI t)).push (tI u)).push (tP (.ref s.heap.objs.size) (.ref (s.heap.push (tI t)).objs.size))).push (tP .none .none)).objs.size = some (tZ ((s.heap.push (tI t)).push (tI u)).objs.size (((s.heap.push (tI t)).push (tI u)).push (tP (.ref s.heap.objs.size) (.ref (s.heap.push (tI t)).objs.size))).objs.size) := Heap.get?_push_size _ rfl
  rw [z4] at g5 ⊢
  rw [z3] at g4 g5
  rw [z2] at g3 g5
  rw [z1] at g2 g3
  exact ⟨⟨_, g5, rfl⟩, h _ g5 g3 g4 ⟨_, g1, rfl, rfl⟩ ⟨_, g2, rfl, rfl⟩ kp⟩
theorem znextI {z a b i j : Addr} {f g : List Addr} {n m k : Nat} {P R : Nat -> Value -> Prop} {S U : Nat -> Heap -> Prop} {p q : Value} {Q : Option Value -> Shared -> Prop} (D : Draws prog w A.in1 i f n P S) (C : Draws prog w A.in1 j g m R U) (ap : Ap z a b i j f g) (hz : IsZip s.heap z a b .none) (ha : IsPair s.heap a (.ref i) (.ref j)) (hb : IsPair s.heap b p q) (hS : S k s.heap) (hU : U k s.heap) (hn : k < n) (hm : k < m)
    (h : ∀ x y g' tk, P k x -> R k y -> IsZip g' z a b (rawInt s.heap.objs.size) -> IsPair g' b x y -> S (k + 1) g' -> U (k + 1) g' -> IsPair g' s.heap.objs.size x y -> g'.objs.size = s.heap.objs.size + 1 ->
      (∀ c o, c ≠ z -> c ≠ b -> c ≠ i -> c ≠ j -> s.heap.get? c = some o -> g'.get? c = some o) -> Q (some (.ref s.heap.objs.size)) { s with heap := g', toks := tk }) : wpAny (model prog w) A (pyNext (.ref z)) Q E s := by
  have hT : s.TypeIs (.ref z) "zip" := ⟨_, hz, rfl⟩; unfold pyNext
  refine wpAny_bind (wpAny_attempt (wpAny_callSpecial?_slot (name := Str.ofString "__next__") hT F.slot_zip_next (wpAny_call_entry F.slot_zip_next hT F.entry_zip_next (?_) (F.args_zip_next_1 _))))
  refine wpAny_mono (zitem (Q := fun v s' => Q (some v) s') D C ap hz ha hb hS hU hn hm h) (fun fin s' hq => ?_) fun _ _ x => x
  obtain ⟨v, e, hq⟩ := hq
  exact ⟨v, e, wpAny_pure hq⟩
theorem znextE {z a b i j : Addr} {f g : List Addr} {n m k : Nat} {P R : Nat -> Value -> Prop} {S U : Nat -> Heap -> Prop} {p q : Value} {Q : Option Value -> Shared -> Prop} (D : Draws prog w A.in1 i f n P S) (C : Draws prog w A.in1 j g m R U) (ap : Ap z a b i j f g) (hz : IsZip s.heap z a b .none) (ha : IsPair s.heap a (.ref i) (.ref j)) (hb : IsPair s.heap b p q) (hS : S k s.heap) (hU : U k s.heap) (hk : (k = n) \/ (k < n /\ k = m))
    (h : ∀ g' tk, (∀ c o, c ≠ z -> c ≠ b -> c ≠ i -> c ≠ j -> s.heap.get? c = some o -> g'.get? c = some o) -> Q none { s with heap := g', toks := tk }) : wpAny (model prog w) A (pyNext (.ref z)) Q E s := by
  have hT : s.TypeIs (.ref z) "zip" := ⟨_, hz, rfl⟩; unfold pyNext
  refine wpAny_bind (wpAny_attempt (wpAny_callSpecial?_slot (name := Str.ofString "__next__") hT F.slot_zip_next (wpAny_call_entry F.slot_zip_next hT F.entry_zip_next (zend D C ap hz ha hb hS hU hk fun g' e kp he tk => ?_) (F.args_zip_next_1 _))))
  obtain ⟨o, ho, hc⟩ := he
  refine wpAny_bind (wpAny_isInstance (T := "StopIteration") (b := true) ⟨o, ho, hc⟩ isSubtype_stop (?_))
  exact wpAny_pure (h _ _ kp)
end
end ZZ
namespace DD
open PySem PySem.Spec PyProof.Rows L2
section
variable {X : Cx} {pins : List (Addr × Obj)} {σ : St} {H : Hp} {s : Shared} {h' : Heap}
theorem inv_drew {t' : Nat} {ch : List Addr} {T : Addr} {vs : List V} {its : List Value} (I : Inv X pins σ H s) (hch : ∀ b ∈ ch, FpOk X pins H b) (hT : s.heap.objs.size <= T) (kp : ∀ b o, b ∉ ch -> s.heap.get? b = some o -> h'.get? b = some o)
    (hz : vs.length <= sizeLine) (hv : yD vs its) (ht : IsTup h' T its.toArray) : Inv X pins σ (upd H T (.tup vs)) { s with heap := h', toks := t' } := by
  have hn : H T = none := I.hok.fresh hT
  have old : ∀ {b : Addr} {o : Obj}, s.heap.get? b = some o -> b ≠ T := fun e => Nat.ne_of_lt (Nat.lt_of_lt_of_le (Heap.lt_size e) hT)
  have tr : ∀ {b : Addr} {u : HO}, H b = some u -> b ≠ T := fun e => ne_of_none e hn
  have trc : ∀ {b : Addr} {u : HO}, H b = some u -> b ∉ ch := fun {b u} e z => by rw [(hch b z).1] at e; cases e
  refine I.step (g' := s.gens) (d' := s.drawn) (ch := ch) (fun b hb => ⟨(hch b hb).2.2.2.1, (hch b hb).2.1, (hch b hb).2.2.2.2.1, (hch b hb).2.2.2.2.2⟩) (fun b o _ _ hc e _ => kp b o hc e) (fun b o _ _ hc e _ => ⟨o.slots, kp b o hc e⟩)
    (fun b o _ e n => by rw [zU (old e)]; exact n) (fun b o hc e => ⟨o, kp b o hc e⟩) (fun b xs e => by rw [zU (tr e)]; exact e) (fun b o u e => by rw [zU (tr e)]; exact e) (fun b ps e => ⟨#[], by rw [zU (tr e), e]; simp⟩) (fun m hm => ?_) (fun b u e => ?_) I.bare
  · obtain ⟨o, es, ep, ho, r⟩ := hm
    exact ⟨o, es, ep, kp _ o (fun z => (hch _ z).2.1 rfl) ho, r⟩
  · by_cases hb : b = T
    · subst hb
      rw [zT] at e; cases e
      exact ⟨hz, its, hv, ht⟩
    · rw [zU hb] at e
      refine (I.hok b u e).stay (fun c v hc q => kp c v ?_ q) (fun c q => by rw [zU (tr q)]; exact q) fun c xs q => by rw [zU (tr q)]; exact q
      rcases hc with z | z
      · rw [z]; exact trc e
      · exact trc z
theorem inv_turnL {t' : Nat} {ch : List Addr} (I : Inv X pins σ H s) (hch : ∀ b ∈ ch, FpOk X pins H b) (kp : ∀ b o, b ∉ ch -> s.heap.get? b = some o -> h'.get? b = some o) : Inv X pins σ H { s with heap := h', toks := t' } := by
  have trc : ∀ {b : Addr} {u : HO}, H b = some u -> b ∉ ch := fun {b u} e z => by rw [(hch b z).1] at e; cases e
  refine I.step (g' := s.gens) (d' := s.drawn) (ch := ch) (fun b hb => ⟨(hch b hb).2.2.2.1, (hch b hb).2.1, (hch b hb).2.2.2.2.1, (hch b hb).2.2.2.2.2⟩) (fun b o _ _ hc e _ => kp b o hc e) (fun b o _ _ hc e _ => ⟨o.slots, kp b o hc e⟩)
    (fun b o _ e n => n) (fun b o hc e => ⟨o, kp b o hc e⟩) (fun b xs e => e) (fun b o u e => e) (fun b ps e => ⟨#[], by rw [e]; simp⟩) (fun m hm => ?_) (fun b u e => ?_) I.bare
  · obtain ⟨o, es, ep, ho, r⟩ := hm
    exact ⟨o, es, ep, kp _ o (fun z => (hch _ z).2.1 rfl) ho, r⟩
  · refine (I.hok b u e).stay (fun c v hc q => kp c v ?_ q) (fun _ q => q) fun _ _ q => q
    rcases hc with z | z
    · rw [z]; exact trc e
    · exact trc z
end
theorem cls_ne {h : Heap} {a b : Addr} {o o' : Obj} {n m : String} (e : h.get? a = some o) (c : o.cls = .type n) (e' : h.get? b = some o') (c' : o'.cls = .type m) (d : n ≠ m) : a ≠ b := by
  rintro rfl
  rw [e] at e'; cases e'
  rw [c] at c'; injection c' with q; exact d q
noncomputable def ItE (K : Fg) (a : Addr) : It :=
  ⟨fun i H => ∃ xs x, SqL K H a xs /\ xs[i]? = some x, fun i H x H' => ∃ T y, x = .ref T /\ H T = none /\ H' = upd H T (.tup [.int i, y]) /\ ∀ xs, SqL K H a xs -> xs[i]? = some y, fun i H => ∃ xs, SqL K H a xs /\ xs.length = i⟩
theorem turn_enum {P : Program} {w : World} {K : Fg} {elts : List Expr} {k : Nat} {tp : Pos} (a e it : Addr) (hei : e ≠ it) : Turn P w K (.Tuple elts k tp) (ItE K a) [e, it] e (fun i h => (∃ old, IsEnum h e it i old) /\ h.IsListIter it a i) where
  mem := by simp
  obj := fun i h st b hb => by
    obtain ⟨⟨old, h1⟩, o, h2, h3, h4⟩ := st
    have hb' : b = e \/ b = it := by simpa using hb
    rcases hb' with rfl | rfl
    · exact ⟨_, h1, fun v z => by cases z⟩
    · exact ⟨o, h2, fun v z => by rw [h4] at z; cases z⟩
  keep := fun i h g st kp => ⟨let ⟨old, h1⟩ := st.1; ⟨old, kp e (by simp) _ h1⟩, st.2.at fun o q => kp it (by simp) o q⟩
  item := by
    intro X hP hw hK hc i pins s σ H E I hf st hg
    subst hP hw hK
    obtain ⟨xs, x, hq, hx⟩ := hg
    obtain ⟨its, rv, p, hz⟩ := I.list hq
    obtain ⟨u, hu, ru⟩ := rv.get hx
    obtain ⟨oa, na, ea, ca, _⟩ := id p
    obtain ⟨⟨old, h1⟩, oi, h2, h3, h4⟩ := id st
    have hae : a ≠ e := cls_ne ea ca h1 rfl (by decide)
    have hai : a ≠ it := cls_ne ea ca h2 h3 (by decide)
    have W := WalksT.enumerate (prog := X.prog) (w := X.w) (A := X.A) (I.ok.hd hc) e it a hei hae hai its.toArray
    have hi : i < its.toArray.size := by
      obtain ⟨q, _⟩ := List.getElem?_eq_some_iff.mp hu
      simpa using q
    refine W.item i s _ _ hi ⟨st.1, st.2, p.isList⟩ fun T vals g tk pt hT isT mid kp => ⟨_, rfl, W.go elts k tp i T _ _ _ mid fun g2 st2 kp2 => ?_⟩
    obtain ⟨t, y, hy, rfl⟩ := pt
    have hy' : y = u := by
      have : its[i]? = some y := by simpa using hy
      rw [hu] at this; exact (Option.some.inj this).symm
    subst hy'
    have isT2 : IsTup g2 T #[.int i t, y] := by
      obtain ⟨o, q1, q2⟩ := isT
      exact ⟨o, kp2 T o (W.apart i T _ mid) q1, q2⟩
    refine ⟨.ref T, upd H T (.tup [.int i, x]), inv_drew (s := s) (t' := tk) I (its := [.int i t, y]) (ch := [e, it]) hf hT (fun b o hb q => kp2 b o hb (kp b o hb q)) (by show 2 <= sizeLine; decide) (.cons ⟨t, rfl⟩ (.cons ru .nil)) isT2, rfl, ⟨T, x, rfl, I.hok.fresh hT, rfl, fun ys hys => by rw [I.list_inj hys hq]; exact hx⟩, ⟨st2.1, st2.2.1⟩, fun b hb => ?_⟩
    have hbT : b ≠ T := by
      have hb' : b = e \/ b = it := by simpa using hb
      rcases hb' with rfl | rfl
      · exact Nat.ne_of_lt (Nat.lt_of_lt_of_le (Heap.lt_size h1) hT)
      · exact Nat.ne_of_lt (Nat.lt_of_lt_of_le (Heap.lt_size h2) hT)
    rw [zU hbT]
    exact (hf b hb).1
  done := by
    intro X hP hw hK hc i pins s σ H E I hf st hg
    subst hP hw hK
    obtain ⟨xs, hq, hx⟩ := hg
    obtain ⟨its, rv, p, hz⟩ := I.list hq
    obtain ⟨oa, na, ea, ca, _⟩ := id p
    obtain ⟨⟨old, h1⟩, oi, h2, h3, h4⟩ := id st
    have hae : a ≠ e := cls_ne ea ca h1 rfl (by decide)
    have hai : a ≠ it := cls_ne ea ca h2 h3 (by decide)
    have W := WalksT.enumerate (prog := X.prog) (w := X.w) (A := X.A) (I.ok.hd hc) e it a hei hae hai its.toArray
    have hl : its.toArray.size = i := by rw [List.size_toArray, <- rv.length]; exact hx
    exact W.done s _ _ (by rw [hl]; exact ⟨st.1, st.2, p.isList⟩) fun g tk kp => ⟨rfl, inv_turnL I hf kp⟩
  self := fun _ _ _ _ _ st h => let ⟨⟨_, h1⟩, _⟩ := st; wpAny_pyIter_enum h1 h
noncomputable def ItZ (sq : Hp -> Addr -> List V -> Prop) (a b : Addr) : It :=
  ⟨fun i H => ∃ xs ys x y, sq H a xs /\ sq H b ys /\ xs[i]? = some x /\ ys[i]? = some y, fun i H x H' => ∃ T u v, x = .ref T /\ H T = none /\ H' = upd H T (.tup [u, v]) /\ (∀ xs, sq H a xs -> xs[i]? = some u) /\ ∀ ys, sq H b ys -> ys[i]? = some v, fun i H => ∃ xs ys, sq H a xs /\ sq H b ys /\ (xs.length = i \/ (i < xs.length /\ ys.length = i))⟩
theorem fp_ne {X : Cx} {pins : List (Addr × Obj)} {σ : St} {H : Hp} {s : Shared} {a b : Addr} {o : Obj} (I : Inv X pins σ H s) (h : X.K.lookup a = some o) (f : FpOk X pins H b) : a ≠ b := by
  rintro rfl
  have e := I.ok.mod.kin a o h
  rcases f.2.2.2.1 with z | z
  · exact I.ok.noex a o e z
  · exact absurd (Nat.lt_of_lt_of_le (Nat.lt_of_lt_of_le (Heap.lt_size e) I.ok.bsz) z) (Nat.lt_irrefl _)
theorem fp_rd {X : Cx} {pins : List (Addr × Obj)} {H : Hp} {a b : Addr} {u : HO} (h : Rd H a u) (f : FpOk X pins H b) : a ≠ b := by
  rintro rfl
  obtain ⟨o, e⟩ := Rd.some h
  rw [f.1] at e; cases e
structure Dw (K : Fg) (sq : Hp -> Addr -> List V -> Prop) (isI : Heap -> Addr -> Addr -> Nat -> Prop) (nm : String) : Prop where
  get : ∀ {X : Cx} {pins σ H s a xs}, X.K = K -> Inv X pins σ H s -> sq H a xs -> ∃ its : List Value, yD xs its /\ xs.length <= sizeLine /\ ∃ o, s.heap.get? a = some o /\ o.cls = .type nm /\ ∃ n, o.data = .seq its.toArray n
  inj : ∀ {X : Cx} {pins σ H s a xs ys}, X.K = K -> Inv X pins σ H s -> sq H a xs -> sq H a ys -> xs = ys
  ne : ∀ {X : Cx} {pins σ H s a xs b}, X.K = K -> Inv X pins σ H s -> sq H a xs -> FpOk X pins H b -> a ≠ b
  it : ∀ {h i a k}, isI h i a k -> ∃ o, h.get? i = some o /\ ∃ vs, o.data = .fields vs
  at_ : ∀ {h h' : Heap} {i a k}, isI h i a k -> (∀ o, h.get? i = some o -> h'.get? i = some o) -> isI h' i a k
  dr : ∀ {prog w A} (_ : A.handled = none) (i a : Addr) (_ : a ≠ i) (ys : Array Value), Draws prog w A i [i, a] ys.size (fun k v => ys[k]? = some v) (fun k h => isI h i a k /\ ∃ o, h.get? a = some o /\ o.cls = .type nm /\ ∃ n, o.data = .seq ys n)
theorem dw_list (K : Fg) : Dw K (SqL K) Heap.IsListIter "list" where
  get := fun {X pins σ H s a xs} hK I h => by
    subst hK
    obtain ⟨its, r, ⟨o, n, e, c, _, d⟩, z⟩ := I.list h
    exact ⟨its, r, z, o, e, c, n, d⟩
  inj := fun {X pins σ H s a xs ys} hK I h g => by subst hK; exact I.list_inj h g
  ne := fun {X pins σ H s a xs b} hK I h f => by
    subst hK
    rcases h with h | ⟨o, _, _, hk, _⟩
    · exact fp_rd h f
    · exact fp_ne I hk f
  it := fun {h i a k} ⟨o, e, c, d⟩ => ⟨o, e, _, d⟩
  at_ := fun h k => h.at k
  dr := fun hh i a ne ys => Draws.list hh i a ne ys
theorem dw_tup (K : Fg) : Dw K (SqT K) Heap.IsTupleIter "tuple" where
  get := fun {X pins σ H s a xs} hK I h => by
    subst hK
    obtain ⟨its, r, ⟨o, e, c, n, d⟩, z⟩ := I.tuple h
    exact ⟨its, r, z, o, e, c, n, d⟩
  inj := fun {X pins σ H s a xs ys} hK I h g => by subst hK; exact I.tuple_inj h g
  ne := fun {X pins σ H s a xs b} hK I h f => by
    subst hK
    rcases h with h | ⟨o, _, _, hk, _⟩
    · exact fp_rd h f
    · exact fp_ne I hk f
  it := fun {h i a k} ⟨o, e, c, d⟩ => ⟨o, e, _, d⟩
  at_ := fun h k => h.at k
  dr := fun hh i a ne ys => ZZ.drawsT hh i a ne ys
structure ZA (z p q i j : Addr) : Prop where
  pz : p ≠ z
  qz : q ≠ z
  iz : i ≠ z
  jz : j ≠ z
  pq : p ≠ q
  pi : p ≠ i
  pj : p ≠ j
  qi : q ≠ i
  qj : q ≠ j
  ij : i ≠ j
theorem turn_zip {P : Program} {w : World} {K : Fg} {elts : List Expr} {k : Nat} {tp : Pos} {sq : Hp -> Addr -> List V -> Prop} {isI : Heap -> Addr -> Addr -> Nat -> Prop} {nm : String} (W : Dw K sq isI nm) (a b z p q i j : Addr) (ap : ZA z p q i j) :
    Turn P w K (.Tuple elts k tp) (ItZ sq a b) [z, p, q, i, j] z (fun n h => IsZip h z p q .none /\ IsPair h p (.ref i) (.ref j) /\ (∃ u v, IsPair h q u v) /\ isI h i a n /\ isI h j b n) where
  mem := by simp
  obj := fun n h st c hc => by
    obtain ⟨h1, h2, ⟨u, v, h3⟩, h4, h5⟩ := st
    obtain ⟨oi, ei, vi, di⟩ := W.it h4
    obtain ⟨oj, ej, vj, dj⟩ := W.it h5
    have hc' : c = z \/ c = p \/ c = q \/ c = i \/ c = j := by simpa using hc
    rcases hc' with rfl | rfl | rfl | rfl | rfl
    · exact ⟨_, h1, fun v z => by cases z⟩
    · exact ⟨_, h2, fun v z => by cases z⟩
    · exact ⟨_, h3, fun v z => by cases z⟩
    · exact ⟨_, ei, fun v z => by rw [di] at z; cases z⟩
    · exact ⟨_, ej, fun v z => by rw [dj] at z; cases z⟩
  keep := fun n h g st kp => by
    obtain ⟨h1, h2, ⟨u, v, h3⟩, h4, h5⟩ := st
    exact ⟨kp z (by simp) _ h1, kp p (by simp) _ h2, ⟨u, v, kp q (by simp) _ h3⟩, W.at_ h4 fun o e => kp i (by simp) o e, W.at_ h5 fun o e => kp j (by simp) o e⟩
  item := by
    intro X hP hw hK hc n pins s σ H E I hf st hg
    subst hP hw
    obtain ⟨xs, ys, x, y, hx, hy, ex, ey⟩ := hg
    obtain ⟨its, rv, hzx, oa, ea, ca, na, da⟩ := W.get hK I hx
    obtain ⟨its2, rv2, hzy, ob, eb, cb, nb, db⟩ := W.get hK I hy
    obtain ⟨u, hu, ru⟩ := rv.get ex
    obtain ⟨v, hv, rw'⟩ := rv2.get ey
    obtain ⟨h1, h2, ⟨u0, v0, h3⟩, h4, h5⟩ := st
    have fa : ∀ c ∈ [z, p, q, i, j], a ≠ c := fun c hc => W.ne hK I hx (hf c hc)
    have fb : ∀ c ∈ [z, p, q, i, j], b ≠ c := fun c hc => W.ne hK I hy (hf c hc)
    have hn : n < its.toArray.size := by obtain ⟨q', _⟩ := List.getElem?_eq_some_iff.mp hu; simpa using q'
    have hm : n < its2.toArray.size := by obtain ⟨q', _⟩ := List.getElem?_eq_some_iff.mp hv; simpa using q'
    have ap' : ZZ.Ap z p q i j [i, a] [j, b] := ⟨ap.pz, ap.qz, ap.iz, ap.jz, ap.pq, ap.pi, ap.pj, ap.qi, ap.qj, ap.ij,
      by simp; exact ⟨ap.iz.symm, (fa z (by simp)).symm⟩, by simp; exact ⟨ap.qi, (fa q (by simp)).symm⟩, by simp; exact ⟨ap.ij.symm, (fa j (by simp)).symm⟩, by simp; exact ⟨ap.jz.symm, (fb z (by simp)).symm⟩, by simp; exact ⟨ap.qj, (fb q (by simp)).symm⟩, by simp; exact ⟨ap.ij, (fb i (by simp)).symm⟩⟩
    refine ZZ.znextI (W.dr (A := X.A.in1) (I.ok.hd hc) i a (fa i (by simp)) its.toArray) (W.dr (A := X.A.in1) (I.ok.hd hc) j b (fb j (by simp)) its2.toArray) ap' h1 h2 h3 ⟨h4, oa, ea, ca, na, da⟩ ⟨h5, ob, eb, cb, nb, db⟩ hn hm fun x' y' g tk px py z1 q1 s1 u1 t1 sz kp => ⟨_, rfl, ?_⟩
    refine wpAny_letOwnedTupleGo_zip z1 fun g2 z2 sb => ?_
    have hx' : x' = u := by
      have : its[n]? = some x' := by simpa using px
      rw [hu] at this; exact (Option.some.inj this).symm
    have hy' : y' = v := by
      have : its2[n]? = some y' := by simpa using py
      rw [hv] at this; exact (Option.some.inj this).symm
    subst hx' hy'
    have zl : z < s.heap.objs.size := Heap.lt_size h1
    have kp2 : ∀ c o, c ∉ [z, q, i, j] -> s.heap.get? c = some o -> g2.get? c = some o := fun c o hc e => by
      simp at hc
      exact sb.extBut _ _ hc.1 (kp c o hc.1 hc.2.1 hc.2.2.1 hc.2.2.2 e)
    have isT : IsTup g2 s.heap.objs.size #[x', y'] := ⟨_, sb.extBut _ _ (Nat.ne_of_gt zl) t1, rfl, _, rfl⟩
    have hf' : ∀ c ∈ [z, q, i, j], FpOk X pins H c := fun c hc => hf c (by simp at hc ⊢; rcases hc with h | h | h | h <;> simp [h])
    refine ⟨.ref s.heap.objs.size, upd H s.heap.objs.size (.tup [x, y]), inv_drew (s := s) (t' := tk) I (its := [x', y']) (ch := [z, q, i, j]) hf' (Nat.le_refl _) kp2 (by show 2 <= sizeLine; decide) (.cons ru (.cons rw' .nil)) isT, rfl, ⟨_, x, y, rfl, I.hok.fresh (Nat.le_refl _), rfl, fun zs hzs => by rw [W.inj hK I hzs hx]; exact ex, fun zs hzs => by rw [W.inj hK I hzs hy]; exact ey⟩, ?_, fun c hc => ?_⟩
    · refine ⟨z2, sb.extBut _ _ ap.pz (kp p _ ap.pz ap.pq ap.pi ap.pj h2), ⟨_, _, sb.extBut _ _ ap.qz q1⟩, W.at_ s1.1 fun o e => sb.extBut _ _ ap.iz e, W.at_ u1.1 fun o e => sb.extBut _ _ ap.jz e⟩
    · have hlt : c < s.heap.objs.size := by
        obtain ⟨oi, ei, _⟩ := W.it h4
        obtain ⟨oj, ej, _⟩ := W.it h5
        simp at hc
        rcases hc with rfl | rfl | rfl | rfl | rfl
        · exact zl
        · exact Heap.lt_size h2
        · exact Heap.lt_size h3
        · exact Heap.lt_size ei
        · exact Heap.lt_size ej
      rw [zU (Nat.ne_of_lt hlt)]
      exact (hf c hc).1
  done := by
    intro X hP hw hK hc n pins s σ H E I hf st hg
    subst hP hw
    obtain ⟨xs, ys, hx, hy, hl⟩ := hg
    obtain ⟨its, rv, hzx, oa, ea, ca, na, da⟩ := W.get hK I hx
    obtain ⟨its2, rv2, hzy, ob, eb, cb, nb, db⟩ := W.get hK I hy
    obtain ⟨h1, h2, ⟨u0, v0, h3⟩, h4, h5⟩ := st
    have fa : ∀ c ∈ [z, p, q, i, j], a ≠ c := fun c hc => W.ne hK I hx (hf c hc)
    have fb : ∀ c ∈ [z, p, q, i, j], b ≠ c := fun c hc => W.ne hK I hy (hf c hc)
    have e1 := rv.length
    have e2 := rv2.length
    have ap' : ZZ.Ap z p q i j [i, a] [j, b] := ⟨ap.pz, ap.qz, ap.iz, ap.jz, ap.pq, ap.pi, ap.pj, ap.qi, ap.qj, ap.ij,
      by simp; exact ⟨ap.iz.symm, (fa z (by simp)).symm⟩, by simp; exact ⟨ap.qi, (fa q (by simp)).symm⟩, by simp; exact ⟨ap.ij.symm, (fa j (by simp)).symm⟩, by simp; exact ⟨ap.jz.symm, (fb z (by simp)).symm⟩, by simp; exact ⟨ap.qj, (fb q (by simp)).symm⟩, by simp; exact ⟨ap.ij, (fb i (by simp)).symm⟩⟩
    have hf' : ∀ c ∈ [z, q, i, j], FpOk X pins H c := fun c hc => hf c (by simp at hc ⊢; rcases hc with h | h | h | h <;> simp [h])
    refine ZZ.znextE (W.dr (A := X.A.in1) (I.ok.hd hc) i a (fa i (by simp)) its.toArray) (W.dr (A := X.A.in1) (I.ok.hd hc) j b (fb j (by simp)) its2.toArray) ap' h1 h2 h3 ⟨h4, oa, ea, ca, na, da⟩ ⟨h5, ob, eb, cb, nb, db⟩ ?_ fun g tk kp => ⟨rfl, inv_turnL I hf' fun c o hc e => ?_⟩
    · simp only [List.size_toArray]
      rcases hl with h | ⟨h, h'⟩
      · left; omega
      · right; omega
    · simp at hc
      exact kp c o hc.1 hc.2.1 hc.2.2.1 hc.2.2.2 e
  self := fun _ _ _ _ _ st h => wpAny_pyIter_zip st.1 h
section
variable {X : Cx} {pos : Pos} {a b c : Expr} {f g h : ME}
noncomputable def mTupOf (fl : ML) : ME := fun r => (fl r).map .tup
theorem de_tupleOf {p' : Pos} {fl : ML} (hg : Gl X "tuple") (hm : X.mg "tuple" = none) (ha : DB X a fl) (hs : starEach [a] X.env = (false, eval a X.env) :: starEach [] X.env := by rfl) : DE X (.Call (.Name "tuple" p') [a] [] pos) (mTupOf fl) := by
  refine PE.conseq (pe_callTy call_tuple_of hg hm PyProof.Rows.boot_tuple (pa_cons ha pa_nil hs) (he := hs)) fun σ H Q hq => ?_
  obtain ⟨O0, r, d, hR, e, q⟩ := hq
  obtain ⟨l, e1, rfl⟩ := map_some e
  refine ⟨O0, r, l, hR, e1, fun p xs H1 s1 sq il => ⟨p, xs, rfl, .inl ⟨sq, fun t ht => q _ _ (s1.trans (zW ht)) ?_⟩⟩⟩
  rw [Is.tup_iff]
  exact ⟨t, xs, rfl, SqT.of zT, il.same (zW ht) (hR.same s1).ol⟩
theorem db_f {fl : ML} (h : DF X a fl) : DB X a fl := by
  refine PE.conseq h fun σ H Q hq => ?_
  obtain ⟨O0, r, l, hR, e, q⟩ := hq
  refine ⟨O0, r, l, hR, e, fun p xs H1 s1 n1 e1 il => q p xs H1 s1 (SqL.of e1) ?_⟩
  have ol : OLst (fun b => Ow O0 r σ b \/ b = p) H1 := fun b z => z.elim (fun z => (hR.same s1).ol b z) fun z => by subst z; exact ⟨.lst xs, e1, trivial⟩
  exact IsL.mono (zR.kp (zR.refl H1) _) ol (fun a z _ => .inl z) l xs il
end
open PySem PySem.Spec PyProof.Rows L2 PySem.StrLaws
noncomputable def cutL {α : Type} (xs : List α) (lo hi : Option Int) : List α := (xs.drop (HT.sIx xs.length 0 lo)).take (HT.sIx xs.length xs.length hi - HT.sIx xs.length 0 lo)
theorem sIx_le' (n d : Nat) (hd : d <= n) (o : Option Int) : HT.sIx n d o <= n := HT.sIx_le n d hd o
theorem sliceIdx_eq (lo hi : Option Int) (n : Nat) : Builtin.Str.strSliceIndices lo hi 1 n = Builtin.Str.strSliceIndices (some ((HT.sIx n 0 lo : Nat) : Int)) (some ((HT.sIx n n hi : Nat) : Int)) 1 n := by
  have key : ∀ (v : Option Int) (d : Nat), d <= n -> (match v with | none => (d : Int) | some i => max 0 (min (if i < 0 then i + (n : Int) else i) (n : Int))) = max 0 (min (if ((HT.sIx n d v : Nat) : Int) < 0 then ((HT.sIx n d v : Nat) : Int) + (n : Int) else ((HT.sIx n d v : Nat) : Int)) (n : Int)) := by
    intro v d hd
    have hle := sIx_le' n d hd v
    have h0 : ¬ (((HT.sIx n d v : Nat) : Int) < 0) := by omega
    rw [if_neg h0]
    cases v with
    | none =>
      have e : HT.sIx n d none = d := rfl
      rw [e]; show (d : Int) = _; omega
    | some i =>
      have e : HT.sIx n d (some i) = if i < 0 then (i + (n : Int)).toNat else min i.toNat n := rfl
      show max 0 (min (if i < 0 then i + (n : Int) else i) (n : Int)) = _
      rw [e] at hle ⊢
      split <;> split at hle <;> omega
  have e1 : (1 : Int) > 0 := by omega
  unfold PySem.Builtin.Str.strSliceIndices
  simp only [e1, if_true]
  have k1 := key lo 0 (Nat.zero_le _)
  have k2 := key hi n (Nat.le_refl _)
  cases lo <;> cases hi <;> simp only at k1 k2 ⊢ <;> rw [<- k1, <- k2] <;> rfl
theorem sliceText_eq (x : Str) (lo hi : Option Int) : sliceText x lo hi = ⟨(cutL x.cps.toList lo hi).toArray⟩ := by
  have hl : x.cps.toList.length = x.length := by simp [Str.length]
  unfold cutL
  rw [hl]
  have ha := sIx_le' x.length 0 (Nat.zero_le _) lo
  have hb := sIx_le' x.length x.length (Nat.le_refl _) hi
  have e : sliceText x lo hi = sliceText x (some ((HT.sIx x.length 0 lo : Nat) : Int)) (some ((HT.sIx x.length x.length hi : Nat) : Int)) := by
    unfold sliceText
    rw [sliceIdx_eq lo hi x.length]
  rw [e]
  by_cases hab : HT.sIx x.length 0 lo <= HT.sIx x.length x.length hi
  · exact sliceText_nat x hab hb
  · have z : HT.sIx x.length x.length hi - HT.sIx x.length 0 lo = 0 := by omega
    rw [z, List.take_zero]
    have em : Builtin.Str.strSliceIndices (some ((HT.sIx x.length 0 lo : Nat) : Int)) (some ((HT.sIx x.length x.length hi : Nat) : Int)) 1 x.length = [] := by
      have e1 : (1 : Int) > 0 := by omega
      unfold PySem.Builtin.Str.strSliceIndices
      simp only [e1, if_true]
      have h0 : ¬ (((HT.sIx x.length 0 lo : Nat) : Int) < 0) := by omega
      have h1 : ¬ (((HT.sIx x.length x.length hi : Nat) : Int) < 0) := by omega
      rw [if_neg h0, if_neg h1]
      unfold PySem.sliceRange
      simp only [e1, if_true]
      split
      · omega
      · rfl
    unfold sliceText
    rw [em]
    split
    · rename_i q
      have q' : x.length = 0 := by have : 0 = x.length := by simpa using q
                                   exact this.symm
      apply Str.ext'
      have : x.cps.size = 0 := q'
      exact Array.eq_empty_of_size_eq_zero this
    · rfl
section
variable {X : Cx} {pos p2 : Pos} {a b : Expr} {f g : ME}
noncomputable def rSlS : V -> Option Int -> Option Int -> Hp -> VK -> Prop := fun x lo hi H Q => ∃ z, x = .str z /\ z.length <= sizeLine /\ Q (.str ⟨(cutL z.cps.toList lo hi).toArray⟩) H
theorem cutL_len {α : Type} (xs : List α) (lo hi : Option Int) : (cutL xs lo hi).length <= xs.length := by
  unfold cutL
  rw [List.length_take, List.length_drop]
  omega
theorem sl_str : SlR X rSlS := by
  intro pins s σ H x v vl vu lo hi sl Q I rx hs pl pu hq
  obtain ⟨z, rfl, hz, q⟩ := hq
  obtain ⟨t, rfl⟩ := rx
  refine ⟨"str", _, PySem.F.slot_str_getitem.lookup, typeIs_str _ _ _, ?_⟩
  have main : ∀ (l u : Option (Int × Tok)), l.map (·.1) = lo -> u.map (·.1) = hi -> s.heap.IsSlice sl l u none -> wpAny (model X.prog X.w) X.A (getItem (.str z t) (.ref sl)) (EP X pins σ Q) X.xe s := by
    intro l u hl hu hsl
    refine wpAny_getItem_str_slice hsl rfl ?_
    have e : ∀ t' k, EP X pins σ Q (.str (sliceText z lo hi) t') { s with toks := k } := fun t' k => ⟨.str _, H, I.tok k, ⟨t', rfl⟩, by rw [sliceText_eq]; exact q⟩
    have hle : (sliceText z lo hi).length <= sizeLine := by
      rw [sliceText_eq, str_len]
      have := cutL_len z.cps.toList lo hi
      have h2 : z.cps.toList.length = z.length := by simp [Str.length]
      omega
    unfold sliceMade slicePicked
    rw [hl, hu]
    exact post_val_or_str ⟨hle, e⟩
  obtain ⟨o, h1, h2, h3⟩ := hs
  cases pl with
  | none => cases pu with
    | none => exact main none none rfl rfl ⟨o, h1, h2, h3⟩
    | int j tj => exact main none (some (j, tj)) rfl rfl ⟨o, h1, h2, h3⟩
  | int i ti => cases pu with
    | none => exact main (some (i, ti)) none rfl rfl ⟨o, h1, h2, h3⟩
    | int j tj => exact main (some (i, ti)) (some (j, tj)) rfl rfl ⟨o, h1, h2, h3⟩
noncomputable abbrev MO := En -> Option (Option Int)
noncomputable def oNone : MO := fun _ => some none
noncomputable def oSome (f : ME) : MO := fun r => (f r).bind fun d => (intD d).map some
noncomputable def lO (K : Fg) (f : MO) : TO := fun σ H Q => ∃ O0 r o, R K O0 H r σ /\ f r = some o /\ ∀ H', zR H H' -> Q o H'
noncomputable def DO (X : Cx) (e : Option Expr) (f : MO) : Prop := PO X e (lO X.K f)
theorem PO.conseq {e : Option Expr} {t t' : TO} (h : PO X e t) (i : ∀ σ H Q, t' σ H Q -> t σ H Q) : PO X e t' := fun pins s σ H Q I q => h pins s σ H Q I (i σ H Q q)
theorem do_none : DO X none oNone := PO.conseq po_none fun σ H Q ⟨O0, r, o, hR, e, q⟩ => by
  unfold oNone at e; cases e
  exact q H (zR.refl H)
theorem do_some (ha : DE X a f) : DO X (some a) (oSome f) := PO.conseq (po_some ha) fun σ H Q ⟨O0, r, o, hR, e, q⟩ => by
  obtain ⟨d, e1, e2⟩ := bind_some e
  obtain ⟨i, e3, rfl⟩ := map_some e2
  cases intD_some e3
  exact ⟨O0, r, _, hR, e1, fun v H1 s1 i1 => ⟨i, by rw [Is.int_iff] at i1; exact i1, q H1 s1⟩⟩
noncomputable def slD (d : D) (lo hi : Option Int) : Option D := match d with
  | .lst l => some (.lst (cutL l lo hi))
  | .tup l => if HT.sIx l.length 0 lo = 0 /\ HT.sIx l.length l.length hi = l.length then none else some (.tup (cutL l lo hi))
  | .str s => if s.length <= sizeLine then some (.str (cutL s lo hi)) else none
  | _ => none
noncomputable def mSl (f : ME) (lo hi : MO) : ME := fun r => (f r).bind fun d => (lo r).bind fun i => (hi r).bind fun j => slD d i j
noncomputable def rSlA (K : Fg) : V -> Option Int -> Option Int -> Hp -> VK -> Prop := fun x lo hi H Q => rSlL K x lo hi H Q \/ rSlT K x lo hi H Q \/ rSlS x lo hi H Q
theorem IsL.cut {K : Fg} {O : Addr -> Prop} {H : Hp} {l : List D} {xs : List V} (h : IsL K O H l xs) (lo hi : Option Int) : IsL K O H (cutL l lo hi) (cutV xs lo hi) := by
  unfold cutL cutV
  rw [h.length]
  exact (h.drop _).take _
theorem de_sl {lo hi : Option Expr} {fl fh : MO} (ha : DE X a f) (hl : DO X lo fl) (hh : DO X hi fh) : DE X (.Subscript a (.Slice lo hi none p2) pos) (mSl f fl fh) := by
  refine PE.conseq (pe_slice (r := rSlA X.K) (sl_list.or (sl_tup.or sl_str)) ha hl hh) fun σ H Q hq => ?_
  obtain ⟨O0, r, d, hR, e, q⟩ := hq
  obtain ⟨x, e1, e⟩ := bind_some e
  obtain ⟨i, e2, e⟩ := bind_some e
  obtain ⟨j, e3, e⟩ := bind_some e
  refine ⟨O0, r, x, hR, e1, fun v H1 s1 i1 => ⟨O0, r, i, hR.same s1, e2, fun H2 s2 => ⟨O0, r, j, hR.same (s1.trans s2), e3, fun H3 s3 => ?_⟩⟩⟩
  have s13 := (s1.trans s2).trans s3
  have R3 := hR.same s13
  have i3 := i1.same (s2.trans s3) (hR.same s1).ol
  cases x <;> first | (simp only [slD, reduceCtorEq] at e; done) | skip
  · simp only [slD] at e
    split at e
    · rename_i hl'
      cases e
      rw [Is.str_iff] at i3
      refine .inr (.inr ⟨_, i3, by rw [str_len]; exact hl', q _ H3 s13 (by rw [Is.str_iff])⟩)
    · cases e
  · simp only [slD] at e
    split at e
    · cases e
    · rename_i hw
      cases e
      rw [Is.tup_iff] at i3
      obtain ⟨p, xs, rfl, hs, il⟩ := i3
      refine .inr (.inl ⟨p, xs, rfl, hs, by rw [<- il.length]; exact hw, fun t ht => q _ _ (s13.trans (zW ht)) ?_⟩)
      rw [Is.tup_iff]
      exact ⟨t, _, rfl, SqT.of zT, (il.cut i j).same (zW ht) R3.ol⟩
  · simp only [slD, Option.some.injEq] at e
    subst e
    rw [Is.lst_iff] at i3
    obtain ⟨p, xs, rfl, hs, il⟩ := i3
    refine .inl ⟨p, xs, rfl, hs.sq, fun t ht => q _ _ (s13.trans (zW ht)) ?_⟩
    rw [Is.lst_iff]
    exact ⟨t, _, rfl, .inl ⟨R3.nofresh ht, .inl zT⟩, (il.cut i j).same (zW ht) R3.ol⟩
end
open PySem PySem.Spec PyProof.Rows L2 PySem.StrLaws
section
variable {prog : Program} {w : World} {A : Around} {E : Value -> Shared -> Prop} {s : Shared}
theorem rev_ad (n : Nat) : Builtin.Slice.sliceAdjust none none (-1) (n : Int) = ((n : Int) - 1, -1) := by
  unfold Builtin.Slice.sliceAdjust
  simp
theorem rev_pl (n : Nat) : Builtin.Slice.slicePlaces ((n : Int) - 1) (-1) (-1) = n := by
  unfold Builtin.Slice.slicePlaces
  have h1 : ¬ ((-1 : Int) > 0) := by omega
  simp only [h1, if_false]
  split
  · have : -(-1 : Int) = 1 := by omega
    rw [this, Int.ediv_one]; omega
  · omega
theorem rev_ap {sl : Addr} {t : Tok} {n : Nat} {Q : Int × Int × Nat -> Shared -> Prop} (hs : s.heap.IsSliceOf sl .none .none (.int (-1) t)) (h : Q ((n : Int) - 1, -1, n) s) : wpAny (model prog w) A (Builtin.Slice.sliceApplied (.ref sl) (pure (n : Int))) Q E s := by
  obtain ⟨os, ho, hc, hd⟩ := id hs
  unfold Builtin.Slice.sliceApplied Builtin.Slice.sliceFields
  refine wpAny_bind (wpAny_bind (wpAny_field ho hd (x := .none) rfl (wpAny_bind (wpAny_field ho hd (x := .none) rfl (wpAny_bind (wpAny_field ho hd (x := .int (-1) t) rfl (wpAny_pure (?_))))))))
  refine wpAny_bind (slicePart_int (?_)); show wpAny _ _ (if ((-1 : Int) == 0) = true then _ else _) _ _ s; rw [if_neg (by decide)]
  refine wpAny_bind (slicePart_none (wpAny_bind (slicePart_none (wpAny_bind (wpAny_pure (?_))))))
  show wpAny _ _ (match Builtin.Slice.sliceAdjust none none (-1) (n : Int) with | (lo, hi) => pure (lo, (-1 : Int), Builtin.Slice.slicePlaces lo hi (-1))) _ _ s
  rw [rev_ad n]; show wpAny _ _ (pure ((n : Int) - 1, (-1 : Int), Builtin.Slice.slicePlaces ((n : Int) - 1) (-1) (-1))) _ _ s; rw [rev_pl]
  exact wpAny_pure h
theorem fm_map {α β : Type} {F : α -> Option β} {G : α -> β} : ∀ (l : List α), (∀ m ∈ l, F m = some (G m)) -> l.filterMap F = l.map G
  | [], _ => rfl
  | a :: l, h => by
    rw [List.filterMap_cons, h a List.mem_cons_self, List.map_cons, fm_map l fun m hm => h m (List.mem_cons_of_mem _ hm)]
theorem rev_pick (xs : Array Value) : ((List.range xs.size).filterMap fun (m : Nat) => xs[((xs.size : Int) - 1 + (m : Int) * (-1)).toNat]?).toArray = xs.toList.reverse.toArray := by
  congr 1
  apply List.ext_getElem?
  intro k
  have e : ∀ m, m < xs.size -> xs[((xs.size : Int) - 1 + (m : Int) * (-1)).toNat]? = some (xs.toList.reverse.getD m .none) := by
    intro m hm
    have h1 : ((xs.size : Int) - 1 + (m : Int) * (-1)).toNat = xs.size - 1 - m := by omega
    rw [h1, List.getD_eq_getElem?_getD, List.getElem?_reverse (by simpa using hm)]
    have h2 : xs.size - 1 - m < xs.size := by omega
    simp [h2]
  have e2 : (List.range xs.size).filterMap (fun (m : Nat) => xs[((xs.size : Int) - 1 + (m : Int) * (-1)).toNat]?) = (List.range xs.size).map fun m => xs.toList.reverse.getD m .none := by
    exact fm_map _ fun m hm => e m (List.mem_range.mp hm)
  rw [e2, List.getElem?_map]
  by_cases hk : k < xs.size
  · rw [List.getElem?_range hk, List.getElem?_eq_getElem (by simpa using hk)]
    simp [List.getD_eq_getElem?_getD, hk]
  · rw [List.getElem?_eq_none (by simpa using hk), List.getElem?_eq_none (by simpa using hk)]; rfl
theorem rev_tup {t sl : Addr} {its : Array Value} {tk : Tok} {Q : Value -> Shared -> Prop} (ht : IsTup s.heap t its) (hs : s.heap.IsSliceOf sl .none .none (.int (-1) tk)) (hsz : its.size <= sizeLine)
    (h : Q (.ref s.heap.objs.size) { s with heap := s.heap.push { cls := .type "tuple", data := .seq its.toList.reverse.toArray } }) : wpAny (model prog w) A (getItem (.ref t) (.ref sl)) Q E s := by
  have hz : sizeOk (.seq its.toList.reverse.toArray) := by show its.toList.reverse.toArray.size <= sizeLine; simpa using hsz
  obtain ⟨os, ho, hc, hd⟩ := id hs
  have hT : s.TypeIs (.ref sl) "slice" := ⟨os, ho, hc⟩
  unfold getItem
  try with_reducible refine wpAny_holding ?_
  first | refine wpAny_bind (wpAny_pure ?_) | skip
  refine wpAny_bind (wpAny_sequenceKey ht.typeIs (by decide) ?_)
  refine wpAny_bind (wpAny_callSpecial?_slot (name := Str.ofString "__getitem__") ht.typeIs PyProof.Rows.slot_tuple_getitem (wpAny_call_entry PyProof.Rows.slot_tuple_getitem ht.typeIs entry_tuple_getitem (?_) (args_tuple_getitem _ _)))
  show wpAny _ _ (Builtin.Tuple.tupleItemsOf (.ref t) >>= _) _ _ s; refine wpAny_bind (tupleItemsOf_ ht (wpAny_bind (wpAny_typeOf hT (?_)))); rw [if_pos (by decide)]; refine wpAny_bind (rev_ap hs (?_))
  show wpAny _ _ (if (((its.size : Int) - 1) == 0 && (-1 : Int) == 1 && its.size == its.size) = true then _ else _) _ _ s
  rw [if_neg (by simp), rev_pick]
  first
    | exact wpAny_bind (m := Builtin.Tuple.tupleExact _) (wpAny_newObj_type (wpAny_pure ⟨_, rfl, wpAny_pure h⟩) hz)
    | exact wpAny_bind (m := Builtin.Tuple.tupleExact _) (wpAny_newObj_type (wpAny_bind (wpAny_pure (wpAny_pure ⟨_, rfl, wpAny_pure h⟩))) hz)
    | exact wpAny_bind (wpAny_bind (m := Builtin.Tuple.tupleExact _) (wpAny_newObj_type (wpAny_pure (wpAny_pure ⟨_, rfl, wpAny_pure h⟩)) hz))
    | exact wpAny_bind (wpAny_bind (m := Builtin.Tuple.tupleExact _) (wpAny_newObj_type (wpAny_pure ⟨_, rfl, wpAny_pure h⟩) hz))
end
section
variable {X : Cx} {pos p2 p3 : Pos} {a b : Expr} {f g : ME} {j : Nat}
noncomputable def tRev (K : Fg) (ta : TE) : TE := fun σ H Q => ta σ H fun x H1 => (∃ p xs, x = .ref p /\ SqL K H1 p xs /\ ∀ q, H1 q = none -> Q (.ref q) (upd H1 q (.lst xs.reverse))) \/ (∃ p xs, x = .ref p /\ SqT K H1 p xs /\ ∀ q, H1 q = none -> Q (.ref q) (upd H1 q (.tup xs.reverse)))
theorem pe_rev {ta : TE} (he : PE X a ta) : PE X (.Subscript a (.Slice none none (some (.UnaryOp .USub (.Constant (.int 1) j p3) pos)) p2) pn) (tRev X.K ta) := by
  intro pins s σ H Q I h
  refine Subscript_ (thn (he pins s σ H _ I h) fun v s1 ⟨x, H1, I1, r1, q1⟩ => ?_)
  refine wpAny_Slice ?_
  rw [evalPart_none]
  refine wpAny_pure (wpAny_pure ?_); rw [evalPart_some]
  have hst : PE X (.UnaryOp .USub (.Constant (.int 1) j p3) pos) (tUn (rU fun i => .int (-i)) (tC (.int 1))) := pe_un un_neg pe_int
  refine thn (hst pins s1 σ H1 (fun w H' => w = .int (-1) /\ H' = H1) I1 ⟨1, rfl, rfl, rfl⟩) fun u s2 ⟨y, H2, I2, r2, q2, eH⟩ => ?_
  subst eH q2
  obtain ⟨t, rfl⟩ := r2
  have I4 : Inv X pins σ H2 { s2 with heap := s2.heap.push { cls := .type "slice", data := .fields #[.none, .none, .int (-1) t] } } := I2.kept (t' := s2.toks) fun b ob q => Heap.get?_push_of_some _ q
  have hsl : ({ s2 with heap := s2.heap.push { cls := .type "slice", data := .fields #[.none, .none, .int (-1) t] } } : Shared).heap.IsSliceOf s2.heap.objs.size .none .none (.int (-1) t) := Heap.IsSliceOf.new ..
  rcases q1 with ⟨p, xs, rfl, hx, q⟩ | ⟨p, xs, rfl, hx, q⟩
  · cases r1
    obtain ⟨its, r, pl, hz⟩ := I4.list hx
    have hlen := r.length
    refine tail_any (ops := [.ref p, .ref s2.heap.objs.size]) pl.isList.typeIs slot_list_getitem.lookup (wpAny_getItem_list_slice pl.isList hsl .none .none (.int (-1) t) (by simp) ?_ (by simp only [List.size_toArray]; omega)) (by with_unfolding_all rfl)
    rw [PySem.W.krv_pick]
    exact ⟨.ref _, _, I4.lnew (t' := s2.toks) r.reverse (by rw [List.length_reverse]; exact hz), rfl, q _ I4.fresh⟩
  · cases r1
    obtain ⟨its, r, pl, hz⟩ := I4.tuple hx
    have hlen := r.length
    refine tail_any (ops := [.ref p, .ref s2.heap.objs.size]) pl.typeIs PyProof.Rows.slot_tuple_getitem.lookup (rev_tup pl hsl (by simp only [List.size_toArray]; omega) ?_) (by with_unfolding_all rfl)
    refine ⟨.ref _, _, I4.laid (t' := s2.toks) (o := .tup xs.reverse) (fun b ob q => Heap.get?_push_of_some _ q) (Nat.le_refl _) ?_, rfl, q _ (I4.hok.fresh (Nat.le_refl _))⟩
    exact ⟨by rw [List.length_reverse]; exact hz, _, r.reverse, IsTup.new _ _⟩
noncomputable def revD : D -> Option D
  | .lst l => some (.lst l.reverse)
  | .tup l => some (.tup l.reverse)
  | _ => none
theorem de_rev (ha : DE X a f) : DE X (.Subscript a (.Slice none none (some (.UnaryOp .USub (.Constant (.int 1) j p3) pos)) p2) pn) (mUn revD f) := by
  refine PE.conseq (pe_rev ha) fun σ H Q hq => ?_
  obtain ⟨O0, r, d, hR, e, q⟩ := hq
  obtain ⟨x, e1, e2⟩ := bind_some e
  refine ⟨O0, r, x, hR, e1, fun v H1 s1 i1 => ?_⟩
  have R1 := hR.same s1
  cases x <;> first | (simp only [revD, reduceCtorEq] at e2; done) | skip
  · simp only [revD, Option.some.injEq] at e2
    subst e2
    rw [Is.tup_iff] at i1
    obtain ⟨p, xs, rfl, hs, il⟩ := i1
    refine .inr ⟨p, xs, rfl, hs, fun t ht => q _ _ (s1.trans (zW ht)) ?_⟩
    rw [Is.tup_iff]
    exact ⟨t, _, rfl, SqT.of zT, il.reverse.same (zW ht) R1.ol⟩
  · simp only [revD, Option.some.injEq] at e2
    subst e2
    rw [Is.lst_iff] at i1
    obtain ⟨p, xs, rfl, hs, il⟩ := i1
    refine .inl ⟨p, xs, rfl, hs.sq, fun t ht => q _ _ (s1.trans (zW ht)) ?_⟩
    rw [Is.lst_iff]
    exact ⟨t, _, rfl, .inl ⟨R1.nofresh ht, .inl zT⟩, il.reverse.same (zW ht) R1.ol⟩
end
open PySem PySem.Spec PyProof.Rows L2 PySem.StrLaws PySem.Builtin.Str
section
variable {X : Cx} {a b : Expr} {f g : ME} {p pos : Pos} {elts : List Expr} {k : Nat} {tp : Pos}
noncomputable def z2 (F : V -> V -> Hp -> Prop) : List V -> Hp -> Prop
  | [x, y], H => F x y H
  | _, _ => False
theorem z2_inv {F : V -> V -> Hp -> Prop} : ∀ {vs : List V} {H : Hp}, z2 F vs H -> ∃ x y, vs = [x, y] /\ F x y H
  | [x, y], _, h => ⟨x, y, rfl, h⟩
  | [], _, h => h.elim
  | [_], _, h => h.elim
  | _ :: _ :: _ :: _, _, h => h.elim
noncomputable def z1 (F : V -> Hp -> Prop) : List V -> Hp -> Prop
  | [x], H => F x H
  | _, _ => False
theorem z1_inv {F : V -> Hp -> Prop} : ∀ {vs : List V} {H : Hp}, z1 F vs H -> ∃ x, vs = [x] /\ F x H
  | [x], _, h => ⟨x, rfl, h⟩
  | [], _, h => h.elim
  | _ :: _ :: _, _, h => h.elim
theorem adn (n : Nat) {i j : Nat} (h : i ≠ j) : @Ne Addr (n + i : Nat) (n + j : Nat) := fun e => h (Nat.add_left_cancel (show n + i = n + j from e))
theorem adn0 (n : Nat) {j : Nat} (h : 0 ≠ j) : @Ne Addr (n : Nat) (n + j : Nat) := fun e => h (Nat.add_left_cancel (show n + 0 = n + j from e))
theorem za5 (n : Nat) : ZA (n + 4) (n + 2) (n + 3) n (n + 1) := ⟨adn n (by decide), adn n (by decide), adn0 n (by decide), adn n (by decide), adn n (by decide), (adn0 n (by decide)).symm, adn n (by decide), (adn0 n (by decide)).symm, adn n (by decide), adn0 n (by decide)⟩
noncomputable def zipD (l m : List D) : List D := List.zipWith (fun x y => .tup [x, y]) l m
theorem zip_get {l m : List D} {i : Nat} {d : D} (h : (zipD l m)[i]? = some d) : ∃ x y, l[i]? = some x /\ m[i]? = some y /\ d = .tup [x, y] := by
  unfold zipD at h
  rw [List.getElem?_zipWith] at h
  cases e1 : l[i]? with
  | none => rw [e1] at h; cases h
  | some x =>
    cases e2 : m[i]? with
    | none => rw [e1, e2] at h; cases h
    | some y => rw [e1, e2] at h; cases h; exact ⟨x, y, rfl, rfl, rfl⟩
theorem yl_zip {K : Fg} {O M : Addr -> Prop} {sq : Hp -> Addr -> List V -> Prop} (mo : ∀ a, M a -> O a) {H : Hp} {u v : Addr} {xs ys : List V} {l m : List D} (ol : OLst O H) (kx : ∀ H1, Keep M H H1 -> sq H1 u xs) (ky : ∀ H1, Keep M H H1 -> sq H1 v ys)
    (il : IsL K O H l xs) (im : IsL K O H m ys) : Ylds K O M H (ItZ sq u v) (zipD l m) := by
  intro i H1 O' kp oo
  have kp' : Keep O H H1 := fun b o e n => kp b o e fun z => n (mo b z)
  have hlen : (zipD l m).length = min l.length m.length := by simp [zipD]
  refine ⟨fun hi => ⟨?_, fun x H' y => ?_⟩, fun hi => ⟨xs, ys, kx H1 kp, ky H1 kp, ?_⟩⟩
  · obtain ⟨d, e⟩ := get_of_lt hi
    obtain ⟨dx, dy, e1, e2, _⟩ := zip_get e
    obtain ⟨vx, q1, _⟩ := il.get e1
    obtain ⟨vy, q2, _⟩ := im.get e2
    exact ⟨xs, ys, vx, vy, kx H1 kp, ky H1 kp, q1, q2⟩
  · obtain ⟨T, p, q, rfl, nT, rfl, h1, h2⟩ := y
    refine ⟨zW nT, fun d e => ?_⟩
    obtain ⟨dx, dy, e1, e2, rfl⟩ := zip_get e
    obtain ⟨vx, q1, i1⟩ := il.get e1
    obtain ⟨vy, q2, i2⟩ := im.get e2
    have p1 := h1 xs (kx H1 kp)
    have p2 := h2 ys (ky H1 kp)
    rw [q1] at p1; rw [q2] at p2
    cases p1; cases p2
    have kk : Keep O H (upd H1 T (.tup [p, q])) := fun b o e' n => by
      have := kp' b o e' n
      rw [zU (ne_of_none this nT)]; exact this
    rw [Is.tup_iff]
    exact ⟨T, _, rfl, SqT.of zT, .cons (Is.mono kk ol oo _ _ i1) (.cons (Is.mono kk ol oo _ _ i2) .nil)⟩
  · have e1 := il.length
    have e2 := im.length
    rw [hlen] at hi
    omega
theorem keepL {K : Fg} {O M : Addr -> Prop} (mo : ∀ a, M a -> O a) {H : Hp} {a : Addr} {xs : List V} (h : LsAt K O H a xs) : ∀ H1, Keep M H H1 -> SqL K H1 a xs := fun H1 k => h.imp (fun z => Rd.keep k (fun y => z.1 (mo _ y)) z.2) id
theorem keepT {K : Fg} {O M : Addr -> Prop} (mo : ∀ a, M a -> O a) {H : Hp} {a : Addr} {xs : List V} (ol : OLst O H) (h : SqT K H a xs) : ∀ H1, Keep M H H1 -> SqT K H1 a xs := fun H1 k => SqT.keep (fun b o e n => k b o e fun z => n (mo b z)) ol h
theorem pi_enum {ta : TE} (hg : Gl X "enumerate") (hm : X.mg "enumerate" = none) (ha : PE X a ta) (hs : starEach [a] X.env = [(false, eval a X.env)] := by rfl) :
    PI X (.Tuple elts k tp) (.Call (.Name "enumerate" p) [a] [] pos) (fun σ H R => ta σ H fun x H1 => ∃ u, x = .ref u /\ (∃ xs, SqL X.K H1 u xs) /\ R (ItE X.K u) H1) := by
  intro pins s σ H R I h
  have hA : PA X [a] (tCons ta tNil) := pa_cons ha pa_nil (by rw [hs]; rfl)
  refine Call_ (ld_blt I hg hm PyProof.Rows.boot_enumerate (PyProof.Rows.callWith_type1 (thn (hA pos pins s σ H (z1 fun x H1 => ∃ u, x = .ref u /\ (∃ xs, SqL X.K H1 u xs) /\ R (ItE X.K u) H1) I h) fun us s1 ⟨vs, H1, I1, r1, q1⟩ => ?_) hs rfl))
  obtain ⟨_, rfl, u, rfl, ⟨xs, hx⟩, q⟩ := z1_inv q1
  obtain ⟨uu, rfl, ru⟩ := yD.one r1
  cases ru
  obtain ⟨its, _, pl, _⟩ := I1.list hx
  refine call_enumerate_list pl.isList fun h' z1 z2 _ kp => wpAny_pyIter_enum z1 ?_
  refine ⟨_, [s1.heap.objs.size + 1, s1.heap.objs.size], _, _, H1, rfl, I1.kept (t' := s1.toks) kp, turn_enum u _ _ (adn0 _ (by decide)).symm, ⟨⟨_, z1⟩, z2⟩, fun b hb => ?_, q⟩
  have hle : s1.heap.objs.size <= b := by
    simp only [List.not_mem_nil, List.mem_cons, or_false] at hb
    rcases hb with h | h
    · rw [h]; exact Nat.le_add_right _ _
    · rw [h]; exact Nat.le_refl _
  exact I1.fpOk hle (I1.hok.fresh hle)
noncomputable def enumD (l : List D) : List D := l.zipIdx.map fun p => .tup [.int (p.2 : Nat), p.1]
noncomputable def mEnum (f : ME) : ML := fun r => (f r).bind fun d => match d with
  | .lst l => some (enumD l)
  | _ => none
theorem enum_get {l : List D} {i : Nat} {d : D} (h : (enumD l)[i]? = some d) : ∃ x, l[i]? = some x /\ d = .tup [.int i, x] := by
  unfold enumD at h
  rw [List.getElem?_map, List.getElem?_zipIdx] at h
  cases e1 : l[i]? with
  | none => rw [e1] at h; cases h
  | some x => rw [e1] at h; simp at h; exact ⟨x, rfl, h.symm⟩
theorem di_enum (hg : Gl X "enumerate") (hm : X.mg "enumerate" = none) (ha : DE X a f) (hs : starEach [a] X.env = [(false, eval a X.env)] := by rfl) : DI X (.Tuple elts k tp) (.Call (.Name "enumerate" p) [a] [] pos) (mEnum f) := by
  refine PI.conseq (pi_enum hg hm ha hs) fun σ H Rr hq => ?_
  obtain ⟨O0, r, ds, hR, e, q⟩ := hq
  obtain ⟨x, e1, e⟩ := bind_some e
  refine ⟨O0, r, x, hR, e1, fun v1 H1 s1 i1 => ?_⟩
  have R1 := hR.same s1
  cases x <;> first | (simp only [reduceCtorEq] at e; done) | skip
  rename_i l
  simp only [Option.some.injEq] at e
  subst e
  rw [Is.lst_iff] at i1
  obtain ⟨u, xs, rfl, hx, il⟩ := i1
  refine ⟨u, rfl, ⟨xs, hx.sq⟩, q _ H1 s1 ?_⟩
  intro i H2 O' kp oo
  have kp' : Keep (Ow O0 r σ) H1 H2 := fun b o e n => kp b o e fun z => n (.inr z.own)
  have sq2 := keepL (M := MutAt r σ) (fun a z => .inr z.own) hx H2 kp
  have hlen : (enumD l).length = l.length := by simp [enumD]
  refine ⟨fun hi => ⟨?_, fun y H' yy => ?_⟩, fun hi => ⟨xs, sq2, by rw [<- il.length, <- hlen]; exact hi.symm⟩⟩
  · obtain ⟨d, ed⟩ := get_of_lt hi
    obtain ⟨dx, ex, _⟩ := enum_get ed
    obtain ⟨vx, q1, _⟩ := il.get ex
    exact ⟨xs, vx, sq2, q1⟩
  · obtain ⟨T, w, rfl, nT, rfl, h1⟩ := yy
    refine ⟨zW nT, fun d ed => ?_⟩
    obtain ⟨dx, ex, rfl⟩ := enum_get ed
    obtain ⟨vx, q1, i1⟩ := il.get ex
    have p1 := h1 xs sq2
    rw [q1] at p1
    cases p1
    have kk : Keep (Ow O0 r σ) H1 (upd H2 T (.tup [.int i, w])) := fun b o e' n => by
      have := kp' b o e' n
      rw [zU (ne_of_none this nT)]; exact this
    rw [Is.tup_iff]
    exact ⟨T, _, rfl, SqT.of zT, .cons (by rw [Is.int_iff]) (.cons (Is.mono kk R1.ol oo _ _ i1) .nil)⟩
end
section
variable {X : Cx} {a b : Expr} {f g : ME} {p pos : Pos} {elts : List Expr} {k : Nat} {tp : Pos}
theorem noF {H : Hp} : OLst (fun _ => False) H := fun _ z => z.elim
end
section
variable {w : World} {prog : Program} {E : Value -> Shared -> Prop} {A : Around}
theorem drawL {it l : Addr} {ys : Array Value} (hne : l ≠ it) : ∀ (n i : Nat) (s : Shared) (Q : List Value -> Shared -> Prop), s.heap.IsListIter it l i -> s.heap.IsList l ys -> i + n <= ys.size ->
    (∀ g, g.IsListIter it l (i + n) -> Heap.SameBut it s.heap g -> Q ((ys.toList.drop i).take n) { s with heap := g }) -> wpAny (model prog w) A (draw (.ref it) n) Q E s
  | 0, i, s, Q, h1, _, _, h => by
    show wpAny _ _ (pure []) Q E s; exact wpAny_pure (by simpa using h s.heap h1 (Heap.SameBut.refl ..))
  | n + 1, i, s, Q, h1, h2, h3, h => by
    have hl : i < ys.size := by omega
    show wpAny _ _ (pyNext (.ref it) >>= _) Q E s; refine wpAny_bind (wpAny_pyNext_list_item h1 h2 (x := ys[i]) (by simp [hl]) fun g1 k1 t1 => ?_)
    refine wpAny_bind (wpAny_holding (drawL hne n (i + 1) _ _ k1 (h2.extBut t1.extBut hne) (by omega) fun g2 k2 t2 => wpAny_pure (?_)))
    have hd : ys.toList.drop i = ys[i] :: ys.toList.drop (i + 1) := by simp [List.drop_eq_getElem_cons, hl]
    have := h g2 (by rw [show i + (n + 1) = i + 1 + n by omega]; exact k2) (t1.trans t2)
    rw [hd, List.take_succ_cons] at this; exact this
theorem unpackL {l : Addr} {ys : Array Value} {s : Shared} {Q : List Value -> Shared -> Prop} (hh : A.handled = none) (h2 : s.heap.IsList l ys) (h : ∀ g, Heap.ExtBut s.heap.objs.size s.heap g -> Q ys.toList { s with heap := g }) : wpAny (model prog w) A (unpackItems (.ref l) ys.size none) Q E s := by
  have hlt : l ≠ s.heap.objs.size := by obtain ⟨o, e, _⟩ := h2; exact Nat.ne_of_lt (Heap.lt_size e)
  unfold unpackItems; refine wpAny_bind (?_); unfold notIterableAtAll
  refine wpAny_bind (wpAny_specialOf h2.typeIs F.slot_list_iter.lookup (wpAny_pure (?_))); simp only [Bool.false_eq_true, if_false]; refine wpAny_bind (wpAny_holding (wpAny_pyIter_list h2 (?_)))
  refine wpAny_bind (wpAny_holding (drawL hlt ys.size 0 _ _ ⟨_, Heap.get?_push_size _ rfl, rfl, rfl⟩ (h2.push _) (by omega) fun g1 k1 t1 => ?_))
  have ha : List.take ys.size (List.drop 0 ys.toList) = ys.toList := by rw [List.drop_zero]; exact List.take_of_length_le (by simp)
  rw [ha, if_neg (by simp)]
  refine wpAny_bind (wpAny_holding (wpAny_pyNext_list_end hh k1 ((h2.push _).extBut t1.extBut hlt) (by simp) fun g2 t2 => ?_)); simp only [Option.isSome_none, Bool.false_eq_true, if_false]
  exact wpAny_pure (h g2 fun b o hb e => t2 b o hb (t1.extBut b o hb (Heap.get?_push_of_some _ e)))
end
section
variable {X : Cx} {pos : Pos} {es : List Expr} {k n : Nat}
theorem pg_seq {t : TGs} (hc : X.calm = true) (h : PGs X es t) (hn : (assignEach es X.env).length = n := by rfl) (hst : (assignEach es X.env).findIdx? (·.1) = none := by rfl) :
    PG X (.Tuple es k pos) (fun v σ H Q => ∃ a xs, v = .ref a /\ (SqT X.K H a xs \/ SqL X.K H a xs) /\ xs.length = n /\ t xs σ H Q) := by
  intro pins s σ H v u Q I r hw
  obtain ⟨a, xs, e1, hq, hl, hw⟩ := hw
  subst e1
  cases r
  rcases hq with hq | hq
  · exact pg_tup hc h hn hst pins s σ H (.ref a) (.ref a) Q I rfl ⟨a, xs, rfl, hq, hl, hw⟩
  · obtain ⟨its, rv, pl, hz⟩ := I.list hq
    rw [assign_Tuple]
    refine wpAny_bind (wpAny_standAt ?_)
    unfold unpack
    rw [hst]
    have hsz : (assignEach es X.env).length = its.toArray.size := by rw [hn, List.size_toArray, <- rv.length]; exact hl.symm
    rw [hsz]
    refine wpAny_bind (wpAny_holding (unpackL (I.ok.hd hc) pl.isList fun g hx => ?_))
    have I1 : Inv X pins σ H { s with heap := g } := I.kept (t' := s.toks) fun b o e => hx b o (Nat.ne_of_lt (Heap.lt_size e)) e
    exact h pins _ σ H xs _ Q I1 (by simpa using rv) hw
noncomputable def bdSeq (n : Nat) (bs : List D -> En -> Option En) : D -> En -> Option En := fun d r => match d with
  | .tup l => if l.length = n then bs l r else none
  | .lst l => if l.length = n then bs l r else none
  | _ => none
theorem dg_seq {bs : List D -> En -> Option En} (hc : X.calm = true) (h : DGs X es bs) (hn : (assignEach es X.env).length = n := by rfl) (hst : (assignEach es X.env).findIdx? (·.1) = none := by rfl) : DG X (.Tuple es k pos) (bdSeq n bs) := by
  refine PG.conseq (pg_seq hc h hn hst) fun v σ H Q h => ?_
  obtain ⟨O0, r, d, r', hR, iv, e, q⟩ := h
  cases d <;> first | (simp only [bdSeq, reduceCtorEq] at e; done) | skip
  · rename_i l
    rw [Is.tup_iff] at iv
    obtain ⟨a, xs, rfl, hs, il⟩ := iv
    simp only [bdSeq] at e
    split at e
    · rename_i hl
      exact ⟨a, xs, rfl, .inl hs, by rw [<- il.length]; exact hl, O0, r, l, r', hR, il, e, q⟩
    · cases e
  · rename_i l
    rw [Is.lst_iff] at iv
    obtain ⟨a, xs, rfl, hs, il⟩ := iv
    simp only [bdSeq] at e
    split at e
    · rename_i hl
      exact ⟨a, xs, rfl, .inr hs.sq, by rw [<- il.length]; exact hl, O0, r, l, r', hR, il, e, q⟩
    · cases e
end
set_option maxRecDepth 9000 in
theorem extT (l : Addr) (xs : Array Value) (n : Nat) (b : Addr) (cl : Value) (dd : Option Addr) (ys : Array Value) (n2 : Nat) (sl : Array (Option Value)) (hcl : cl = .type "tuple") (h0 : ¬(!xs.isEmpty && Builtin.List.listTooLong (xs.size + ys.size)) = true) (h1 : xs.size <= sizeLine) (h2 : xs.size + ys.size <= sizeLine + 1) :
    Meets (Builtin.«list.extend» ⟨[.ref l, .ref b], []⟩) (fun _ R s => s.heap.get? l = some { cls := .type "list", dict := none, data := .seq xs n, slots := #[] } /\ s.heap.get? b = some { cls := cl, dict := dd, data := .seq ys n2, slots := sl } /\ R (.ok (.ret Value.none)) { s with heap := s.heap.update l (Obj.mapSeq fun x => x ++ ys), toks := s.toks }) :=
  .of_wp fun prog w A R s h => by
    subst hcl
    obtain ⟨hp, g, d, tk, os⟩ := s; obtain ⟨hl, hb, h⟩ := h; have f1 := AutoSeq1.idx_int; have f2 := AutoSeq1.sub_tuple_tuple; have f3 := AutoSeq1.sub_list_list; have f4 := AutoSeq1.sub_tuple_list; have f5 := AutoSeq1.sub_list_tuple
    have hz : (xs ++ ys).size <= sizeLine + 1 := by rw [Array.size_append]; exact h2
    wp_walk using (wpAny_updateSeq hl rfl (hz := h1) (_hz' := hz)), wpAny_loadPart' hl, wpAny_loadPart' hb; exact ⟨_, rfl, h⟩
set_option maxRecDepth 9000 in
theorem extL (l : Addr) (xs : Array Value) (n : Nat) (b : Addr) (cl : Value) (dd : Option Addr) (ys : Array Value) (n2 : Nat) (sl : Array (Option Value)) (hcl : cl = .type "list") (h0 : ¬(!xs.isEmpty && Builtin.List.listTooLong (xs.size + ys.size)) = true) (h1 : xs.size <= sizeLine) (h2 : xs.size + ys.size <= sizeLine + 1) :
    Meets (Builtin.«list.extend» ⟨[.ref l, .ref b], []⟩) (fun _ R s => s.heap.get? l = some { cls := .type "list", dict := none, data := .seq xs n, slots := #[] } /\ s.heap.get? b = some { cls := cl, dict := dd, data := .seq ys n2, slots := sl } /\ R (.ok (.ret Value.none)) { s with heap := s.heap.update l (Obj.mapSeq fun x => x ++ ys), toks := s.toks }) :=
  .of_wp fun prog w A R s h => by
    subst hcl
    obtain ⟨hp, g, d, tk, os⟩ := s; obtain ⟨hl, hb, h⟩ := h; have f1 := AutoSeq1.idx_int; have f2 := AutoSeq1.sub_tuple_tuple; have f3 := AutoSeq1.sub_list_list; have f4 := AutoSeq1.sub_tuple_list; have f5 := AutoSeq1.sub_list_tuple
    have hz : (xs ++ ys).size <= sizeLine + 1 := by rw [Array.size_append]; exact h2
    wp_walk using (wpAny_updateSeq hl rfl (hz := h1) (_hz' := hz)), wpAny_loadPart' hl, wpAny_loadPart' hb; exact ⟨_, rfl, h⟩
section
variable {X : Cx}
noncomputable def rExtA (K : Fg) : V -> List V -> Hp -> VK -> Prop := fun x vs H Q => ∃ l b xs zs, x = .ref l /\ vs = [.ref b] /\ H l = some (.lst xs) /\ (SqL K H b zs \/ SqT K H b zs) /\ xs.length + zs.length <= sizeLine /\ Q .non (upd H l (.lst (xs ++ zs)))
theorem mt_extA : MtR X "list.extend" (rExtA X.K) := by
  intro pins s σ H x vs v us Q I rx rv h
  obtain ⟨l, b, xs, zs, rfl, rfl, hH, hB, hz, q⟩ := h
  cases rx
  obtain ⟨u, rfl, ru⟩ := rv.one
  cases ru
  obtain ⟨z, its, n, r, hl, e⟩ := I.lstM hH
  have fin : ∀ (its2 : List Value), yD zs its2 -> ¬ (!its.toArray.isEmpty && Builtin.List.listTooLong (its.toArray.size + its2.toArray.size)) = true /\ its.toArray.size <= sizeLine /\ its.toArray.size + its2.toArray.size <= sizeLine + 1 /\
      EP X pins σ Q Value.none { s with heap := s.heap.update l (Obj.mapSeq fun x => x ++ its2.toArray), toks := s.toks } := fun its2 r2 => by
    have hl2 := r2.length
    have hsz : its.toArray.size + its2.toArray.size <= sizeLine := by rw [List.size_toArray, List.size_toArray]; omega
    refine ⟨by rw [notLongL hsz, Bool.and_false]; exact Bool.false_ne_true, by rw [List.size_toArray]; omega, by omega, .non, _, I.lset (its' := its ++ its2) hH e (by simp) (r.append r2) ?_, rfl, q⟩
    rw [List.length_append]; omega
  rcases hB with hB | hB
  · obtain ⟨its2, r2, ⟨⟨c2, d2, dt2, sl2⟩, n2, g2, hc, hd, hs⟩, z2⟩ := I.list hB
    simp only at hc hd hs
    subst hs
    obtain ⟨f1, f2, f3, f4⟩ := fin its2 r2
    exact call_meets F.slot_list_extend ⟨_, e, rfl⟩ F.entry_list_extend (F.args_list_extend_2 _ _) (extL l its.toArray n b _ _ its2.toArray n2 _ hc f1 f2 f3) ⟨e, g2, f4⟩
  · obtain ⟨its2, r2, ⟨⟨c2, d2, dt2, sl2⟩, g2, hc, n2, hs⟩, z2⟩ := I.tuple hB
    simp only at hc hs
    subst hs
    obtain ⟨f1, f2, f3, f4⟩ := fin its2 r2
    exact call_meets F.slot_list_extend ⟨_, e, rfl⟩ F.entry_list_extend (F.args_list_extend_2 _ _) (extT l its.toArray n b _ _ its2.toArray n2 _ hc f1 f2 f3) ⟨e, g2, f4⟩
variable {apos cpos pn : Pos} {e : Expr} {f : ME}
theorem dx_extend (i : Nat) {x : Str} (h : PE X (.Name x pn) (tVar i)) (he : DE X e f)
    (hline : (apos.endLine == cpos.line) = true := by rfl) (hbase : attributeBase (.Name x pn) "extend" X.env (eval (.Name x pn) X.env) = eval (.Name x pn) X.env := by rfl)
    (hfew : ((backTo cpos (starEach [e] X.env)).all (fun x => !x.1) && (backToKw cpos (keywordEach [] X.env)).all (fun x => x.1.isSome) && decide ([e].length + ([] : List Keyword).length + (if ([] : List Keyword).isEmpty then 0 else 1) < 30)) = true := by rfl)
    (hs : starEach [e] X.env = (false, eval e X.env) :: starEach [] X.env := by rfl) :
    DX X (.Call (.Attribute (.Name x pn) "extend" apos) [e] [] cpos) (mExt i f) := by
  refine PE.conseq (pe_bm PySem.F.plainAttrs_list PySem.F.slot_list_extend PySem.F.type_list_extend mt_extA h (pa_cons he pa_nil hs) hbase hfew hline hs) fun σ H Q hq => ?_
  obtain ⟨O0, r, d', r', hR, e, q⟩ := hq
  obtain ⟨d, e1, e⟩ := bind_some e
  obtain ⟨m, em, e⟩ := bind_some e
  obtain ⟨l, e2, e⟩ := bind_some e
  split at e
  · rename_i hl
    obtain ⟨r2, e3, e4⟩ := map_some e
    cases e4
    obtain ⟨a, xs, q1, q2, q3⟩ := mt_at hR e2
    refine ⟨.ref a, q1, .inl ⟨rfl, xs, SqL.of q2⟩, O0, r, d, hR, e1, fun v H1 s1 i1 => ?_⟩
    have R1 := hR.same s1
    have key : ∃ b zs, v = .ref b /\ (SqL X.K H1 b zs \/ SqT X.K H1 b zs) /\ IsL X.K (Ow O0 r σ) H1 m zs := by
      cases d <;> first | (cases em; done) | skip
      · cases em; rw [Is.tup_iff] at i1; obtain ⟨b, zs, rfl, h1, h2⟩ := i1; exact ⟨b, zs, rfl, .inr h1, h2⟩
      · cases em; rw [Is.lst_iff] at i1; obtain ⟨b, zs, rfl, h1, h2⟩ := i1; exact ⟨b, zs, rfl, .inl h1.sq, h2⟩
    obtain ⟨b, zs, rfl, hb, il⟩ := key
    obtain ⟨R2, k2⟩ := R1.upd (xs' := xs ++ zs) e3 q1 (s1 _ _ q2) ((q3.same s1 hR.ol).append il)
    exact ⟨a, b, xs, zs, rfl, rfl, s1 _ _ q2, hb, by rw [<- q3.length, <- il.length]; exact hl, q _ _ R2 ((Kp.of_same r σ s1).trans k2) (by rw [Is.non_iff])⟩
  · cases e
end
noncomputable def eqLV : List V -> List V -> Bool
  | [], [] => true
  | x :: xs, y :: ys => eqV x y && eqLV xs ys
  | _, _ => false
noncomputable def eqLF : List D -> List D -> Bool
  | [], [] => true
  | x :: xs, y :: ys => eqF x y && eqLF xs ys
  | _, _ => false
noncomputable def eqAtJ (xs ys : List V) (j : Nat) : Bool := match xs[j]?, ys[j]? with
  | some x, some y => eqV x y
  | _, _ => false
theorem range_eqJ : ∀ (xs ys : List V), xs.length = ys.length -> (List.range xs.length).all (eqAtJ xs ys) = eqLV xs ys
  | [], [], _ => rfl
  | x :: xs, y :: ys, h => by
    rw [List.length_cons, List.range_succ_eq_map, List.all_cons, List.all_map, eqLV, <- range_eqJ xs ys (by simpa using h)]
    rfl
  | [], y :: ys, h => by simp at h
  | x :: xs, [], h => by simp at h
theorem eqLV_len : ∀ (xs ys : List V), xs.length ≠ ys.length -> eqLV xs ys = false
  | [], [], h => by simp at h
  | x :: xs, y :: ys, h => by rw [eqLV, eqLV_len xs ys (by simpa using h), Bool.and_false]
  | [], y :: ys, h => rfl
  | x :: xs, [], h => rfl
theorem eqLF_ok {K : Fg} {O : Addr -> Prop} {H : Hp} : ∀ {l m : List D} {xs ys : List V}, IsL K O H l xs -> IsL K O H m ys -> l.all flatD = true -> m.all flatD = true -> xs.all flatV = true /\ ys.all flatV = true /\ eqLV xs ys = eqLF l m
  | [], [], xs, ys, h, h', _, _ => by unfold IsL at h h'; subst h h'; exact ⟨rfl, rfl, rfl⟩
  | [], e :: m, xs, ys, h, h', _, f' => by
    unfold IsL at h; subst h
    rw [List.all_cons, Bool.and_eq_true] at f'
    unfold IsL at h'; obtain ⟨v, r, rfl, h1, h2⟩ := h'
    exact ⟨rfl, by rw [List.all_cons, flat_ok h1 f'.1, (eqLF_ok (l := []) IsL.nil h2 rfl f'.2).2.1]; rfl, rfl⟩
  | d :: l, [], xs, ys, h, h', f, _ => by
    unfold IsL at h'; subst h'
    rw [List.all_cons, Bool.and_eq_true] at f
    unfold IsL at h; obtain ⟨v, r, rfl, h1, h2⟩ := h
    exact ⟨by rw [List.all_cons, flat_ok h1 f.1, (eqLF_ok (m := []) h2 IsL.nil f.2 rfl).1]; rfl, rfl, rfl⟩
  | d :: l, e :: m, xs, ys, h, h', f, f' => by
    rw [List.all_cons, Bool.and_eq_true] at f f'
    unfold IsL at h; obtain ⟨v, r, rfl, h1, h2⟩ := h
    unfold IsL at h'; obtain ⟨v', r', rfl, h1', h2'⟩ := h'
    obtain ⟨a, b, c⟩ := eqLF_ok h2 h2' f.2 f'.2
    exact ⟨by rw [List.all_cons, flat_ok h1 f.1, a]; rfl, by rw [List.all_cons, flat_ok h1' f'.1, b]; rfl, by rw [eqLV, eqLF, c, eqF_ok h1 f.1 h1' f'.1]⟩
section
variable {X : Cx}
noncomputable def rEqL (K : Fg) (neg : Bool) : R2 := fun x y H Q => ∃ p q xs ys, x = .ref p /\ y = .ref q /\ SqL K H p xs /\ SqL K H q ys /\ xs.all flatV = true /\ ys.all flatV = true /\ Q (.bl (if neg then !eqLV xs ys else eqLV xs ys)) H
theorem all_get {xs : List V} {j : Nat} {x : V} (h : xs.all flatV = true) (e : xs[j]? = some x) : flatV x = true := List.all_eq_true.mp h x (List.mem_of_getElem? e)
theorem vals_at {xs : List V} {its : List Value} (r : yD xs its) {j : Nat} (h : j < its.toArray.size) : ∃ x, xs[j]? = some x /\ RelV x its.toArray[j] := by
  have hj : j < xs.length := by rw [r.length]; simpa using h
  obtain ⟨u, e, q⟩ := r.get (i := j) (x := xs[j]) (by simp [hj])
  refine ⟨xs[j], by simp [hj], ?_⟩
  have : its.toArray[j] = u := by
    have h' : j < its.length := by simpa using h
    simp only [List.getElem_toArray]
    rw [List.getElem?_eq_getElem h'] at e
    exact Option.some.inj e
  rw [this]; exact q
theorem items_eq {A : Around} {s : Shared} {xs ys : List V} {its its2 : List Value} (r : yD xs its) (r2 : yD ys its2) (fx : xs.all flatV = true) (fy : ys.all flatV = true) : ∀ j (h1 : j < its.toArray.size) (h2 : j < its2.toArray.size), SeqAt.EqAt A s its.toArray[j] its2.toArray[j] (eqAtJ xs ys j) := by
  intro j h1 h2
  obtain ⟨x, e1, q1⟩ := vals_at r h1
  obtain ⟨y, e2, q2⟩ := vals_at r2 h2
  have : eqAtJ xs ys j = eqV x y := by unfold eqAtJ; rw [e1, e2]
  rw [this]
  exact eqAt_V q1 q2 (all_get fx e1) (all_get fy e2)
theorem op_eqL (hu : X.A.units < cLine) : OpR X (compareOp .Eq) (rEqL X.K false) := by
  intro pins s σ H x y v u Q I rx ry h
  obtain ⟨p, q', xs, ys, rfl, rfl, h1, h2, fx, fy, q⟩ := h
  cases rx; cases ry
  obtain ⟨its, r, pl, hz⟩ := I.list h1
  obtain ⟨its2, r2, pl2, hz2⟩ := I.list h2
  have n1 := r.length
  have n2 := r2.length
  by_cases hl : xs.length = ys.length
  · refine SeqAt.eq_listAt pl.isList pl2.isList (by simp only [List.size_toArray]; omega) hu (items_eq r r2 fx fy) (fin_bl I q ?_)
    rw [List.size_toArray, <- n1, range_eqJ xs ys hl]; rfl
  · refine SeqAt.eq_list_lengthsAt pl.isList pl2.isList (by simp only [List.size_toArray, bne_iff_ne]; omega) hu (fin_bl I q ?_)
    rw [eqLV_len xs ys hl]; rfl
noncomputable def eqA (x y : D) : Option D := match x, y with
  | .lst l, .lst m => if l.all flatD = true /\ m.all flatD = true then some (.bl (eqLF l m)) else none
  | x, y => eqD x y
noncomputable def rEqA (K : Fg) : R2 := fun x y H Q => rEqL K false x y H Q \/ rEq x y H Q
theorem op_eqA (hu : X.A.units < cLine) : OpR X (compareOp .Eq) (rEqA X.K) := (op_eqL hu).or op_eq
theorem od_eqA {K : Fg} : OpD K (rEqA K) eqA := by
  intro O H dx dy d vx vy Q ol ix iy e q
  unfold eqA at e
  split at e
  · rename_i l m
    split at e
    · rename_i hf
      cases e
      rw [Is.lst_iff] at ix iy
      obtain ⟨a, xs, rfl, hs, il⟩ := ix
      obtain ⟨b, ys, rfl, hs', il'⟩ := iy
      obtain ⟨f1, f2, f3⟩ := eqLF_ok il il' hf.1 hf.2
      exact .inl ⟨a, b, xs, ys, rfl, rfl, hs.sq, hs'.sq, f1, f2, q _ H (zR.refl H) (by rw [Is.bl_iff, f3]; rfl)⟩
    · cases e
  · exact .inr (od_eq O H dx dy d vx vy Q ol ix iy e q)
end
section
variable {X : Cx} {a : Expr} {es : List Expr} {f : ME} {fs : ML} {i : Nat} {pos p pn : Pos}
noncomputable abbrev MZ := En -> Option (List D × List D)
noncomputable def zP (fs : ML) : MZ := fun r => (fs r).map fun es => ([], es)
noncomputable def lZ (K : Fg) (i : Nat) (f : MZ) : TA := fun σ H Q => ∃ O0 r l ds es, R K O0 H r σ /\ mtOf r i = some l /\ f r = some (ds, es) /\ ∀ vs a us H', zR H H' -> σ[i]? = some (some (.ref a)) -> IsL K (Ow O0 r σ) H' ds vs -> IsL K (Ow O0 r σ) H' es us -> Q (vs ++ .ref a :: us) H'
noncomputable def DZ (X : Cx) (i : Nat) (es : List Expr) (f : MZ) : Prop := PA X es (lZ X.K i f)
theorem dz_p {x : Str} (h : PE X (.Name x pn) (tVar i)) (hr : DA X es fs) (hs : starEach (.Name x pn :: es) X.env = (false, eval (.Name x pn) X.env) :: starEach es X.env := by rfl) : DZ X i (.Name x pn :: es) (zP fs) := by
  refine PA.conseq (pa_cons h hr hs) fun σ H Q hq => ?_
  obtain ⟨O0, r, l, ds, us, hR, em, e, q⟩ := hq
  obtain ⟨us', e1, e2⟩ := map_some e
  cases e2
  obtain ⟨c, xs, q1, q2, q3⟩ := mt_at hR em
  exact ⟨.ref c, q1, O0, r, _, hR, e1, fun vs H1 s1 i1 => q [] c vs H1 s1 q1 .nil i1⟩
noncomputable def zArgs (ds : List D) (l : List D) (es : List D) : List Sl := ds.map .v ++ .p l :: es.map .v
theorem zArgs_get {ds l es : List D} {j : Nat} {x : Sl} (e : (zArgs ds l es)[j]? = some x) : (∃ d, x = .v d /\ (ds ++ .non :: es)[j]? = some d /\ j ≠ ds.length) \/ (x = .p l /\ j = ds.length) := by
  unfold zArgs at e
  by_cases h : j < ds.length
  · rw [List.getElem?_append_left (by simpa using h), List.getElem?_map] at e
    rw [List.getElem?_append_left h]
    cases e1 : ds[j]? with
    | none => rw [e1] at e; cases e
    | some d => rw [e1] at e; cases e; exact .inl ⟨d, rfl, rfl, by omega⟩
  · rw [List.getElem?_append_right (by simpa using h)] at e
    rw [List.getElem?_append_right (by omega)]
    simp only [List.length_map] at e
    cases e2 : j - ds.length with
    | zero => rw [e2] at e; cases e; exact .inr ⟨rfl, by omega⟩
    | succ k =>
      rw [e2, List.getElem?_cons_succ, List.getElem?_map] at e
      rw [List.getElem?_cons_succ]
      cases e1 : es[k]? with
      | none => rw [e1] at e; cases e
      | some d => rw [e1] at e; cases e; exact .inl ⟨d, rfl, rfl, by omega⟩
theorem zArgs_own {ds l es m : List D} {j : Nat} {q : Sl -> Option (List D)} (hq : ∀ d, q (.v d) = none) (e : ((zArgs ds l es)[j]?).bind q = some m) : j = ds.length /\ q (.p l) = some m := by
  obtain ⟨x, e1, e2⟩ := bind_some e
  rcases zArgs_get e1 with ⟨d, rfl, _⟩ | ⟨rfl, h⟩
  · rw [hq] at e2; cases e2
  · exact ⟨h, e2⟩
theorem zVs_get {vs us : List V} {c : Addr} : (vs ++ V.ref c :: us)[vs.length]? = some (.ref c) := by rw [List.getElem?_append_right (Nat.le_refl _), Nat.sub_self]; rfl
theorem zIs_get {K : Fg} {O : Addr -> Prop} {H : Hp} {ds es : List D} {vs us : List V} {c : Addr} {j : Nat} {d : D} (h1 : IsL K O H ds vs) (h2 : IsL K O H es us) (e : (ds ++ .non :: es)[j]? = some d) (hj : j ≠ ds.length) : ∃ v, (vs ++ V.ref c :: us)[j]? = some v /\ Is K O H d v := by
  have hl := h1.length
  by_cases h : j < ds.length
  · rw [List.getElem?_append_left h] at e
    obtain ⟨v, e1, i1⟩ := h1.get e
    exact ⟨v, by rw [List.getElem?_append_left (by omega)]; exact e1, i1⟩
  · rw [List.getElem?_append_right (by omega)] at e
    rw [List.getElem?_append_right (by omega)]
    obtain ⟨k, hk⟩ : ∃ k, j - ds.length = k + 1 := ⟨j - ds.length - 1, by omega⟩
    rw [hk, List.getElem?_cons_succ] at e
    rw [<- hl, hk, List.getElem?_cons_succ]
    exact h2.get e
theorem R.zargs {K : Fg} {O : Addr -> Prop} {H : Hp} {ds l es : List D} {vs us xs : List V} {c : Addr} (ol : OLst O H) (hc : O c) (ec : H c = some (.lst xs)) (il : IsL K O H l xs) (h1 : IsL K O H ds vs) (h2 : IsL K O H es us) : R K O H (zArgs ds l es) ((vs ++ V.ref c :: us).map some) := by
  have hl := h1.length
  have hl2 := h2.length
  have ow : ∀ b, Ow O (zArgs ds l es) ((vs ++ V.ref c :: us).map some) b -> H b ≠ none -> O b := fun b z _ => z.elim id fun ⟨j, m, ej, qj⟩ => by
    obtain ⟨rfl, _⟩ := zArgs_own (fun _ => rfl) ej
    rw [List.getElem?_map, hl, zVs_get] at qj
    cases qj; exact hc
  refine ⟨by simp [zArgs, hl, hl2], fun j d e => ?_, fun j m e => ?_, fun j k b m m' e1 e2 q1 q2 => ?_, ol, fun j m b e q => ?_, fun j m b e q => ?_, fun j ks m e => ?_⟩
  · rcases zArgs_get e with ⟨d', e', e2, e3⟩ | ⟨e', _⟩
    · cases e'
      obtain ⟨v, e4, i4⟩ := zIs_get (c := c) h1 h2 e2 e3
      exact ⟨v, by rw [List.getElem?_map, e4]; rfl, Is.mono (zR.kp (zR.refl H) _) ol ow _ _ i4⟩
    · cases e'
  · obtain ⟨rfl, e2⟩ := zArgs_own (fun _ => rfl) e
    cases e2
    exact ⟨c, xs, by rw [List.getElem?_map, hl, zVs_get]; rfl, ec, IsL.mono (zR.kp (zR.refl H) _) ol ow _ _ il⟩
  · rw [(zArgs_own (fun _ => rfl) e1).1, (zArgs_own (fun _ => rfl) e2).1]
  · exfalso
    rcases e with e | e | ⟨_, e⟩ <;> rcases zArgs_get e with ⟨d', e', _⟩ | ⟨e', _⟩ <;> cases e'
  · obtain ⟨rfl, _⟩ := zArgs_own (q := Sl.own) (fun _ => rfl) (m := m) (by rw [e]; rfl)
    rw [List.getElem?_map, hl, zVs_get] at q
    cases q; exact hc
  · rcases zArgs_get e with ⟨d', e', _⟩ | ⟨e', _⟩ <;> cases e'
noncomputable def mCallX (n : Nat) (m : MF) (i : Nat) (z : MZ) : En -> Option (D × En) := fun r => (mtOf r i).bind fun l => (z r).bind fun q => if q.1.length + 1 + q.2.length = n then (m (zArgs q.1 l q.2)).bind fun p => match p.1 with
  | .v d => match p.2[q.1.length]? with
    | some (.p l') => (putO i l' r).map fun r' => (d, r')
    | _ => none
  | _ => none
  else none
theorem own_put {r r' : En} {σ : St} {l' : List D} {b : Addr} (e : putO i l' r = some r') (h : OwnAt r' σ b) : OwnAt r σ b := by
  obtain ⟨x, y, ex, rfl, yo, ym, ⟨l0, xm⟩, _⟩ := putO_some e
  obtain ⟨j, m, ej, qj⟩ := h
  by_cases hj : j = i
  · subst hj; exact ⟨j, l0, by rw [ex]; exact mt_own xm, qj⟩
  · rw [zG (fun z => hj z.symm)] at ej; exact ⟨j, m, ej, qj⟩
theorem dx_call {k n : Nat} {fa : Addr} {fd : FuncData} {ps : List Str} {m : MF} {x : Str} {z : MZ} (F : FnOk X.prog X.w X.K X.mg X.base CX0 k fa fd ps (spD X.K n m)) (hr : Room k X.A) (hg : Gl X x) (hm : X.mg x = some (.ref fa)) (hk : PySem.W.keepIn X.K (.ref fa) = true) (hb : Binds X.K fd ps []) (ha : DZ X i (a :: es) z)
    (hdb : (x == ("__debug__" : Str)) = false := by decide) (he : starEach (a :: es) X.env = (false, eval a X.env) :: starEach es X.env := by rfl) (hpl : (backTo pos (starEach es X.env)).any (·.1) = false := by rfl) :
    DX X (.Call (.Name x p) (a :: es) [] pos) (mCallX n m i z) := by
  refine PE.conseq (pe_call (E := fun _ _ _ => False) (dvs := []) F hr hg hm hk hb .nil pass0 ha hdb he hpl) fun σ H Q hq => ?_
  obtain ⟨O0, r, d, r', hR, e, q⟩ := hq
  obtain ⟨l, e1, e⟩ := bind_some e
  obtain ⟨⟨ds, us⟩, e2, e⟩ := bind_some e
  split at e
  · rename_i hn
    obtain ⟨⟨rs, as'⟩, e3, e⟩ := bind_some e
    refine ⟨O0, r, l, ds, us, hR, e1, e2, fun vs c ws H1 s1 hc i1 i2 => ?_⟩
    show spD X.K n m ((vs ++ .ref c :: ws) ++ []) H1 Q _
    rw [List.append_nil]
    have R1 := hR.same s1
    obtain ⟨c', xs, p1, p2, p3⟩ := mt_at R1 e1
    rw [hc] at p1; cases p1
    have hoc : Ow O0 r σ c := by
      obtain ⟨y, z1, z2⟩ := bind_some e1
      exact .inr ⟨i, l, by rw [z1]; exact mt_own (ml_mt z2).1, hc⟩
    refine ⟨Ow O0 r σ, zArgs ds l us, rs, as', by simp [zArgs]; simp only at hn; omega, R.zargs R1.ol hoc p2 p3 i1 i2, fun j m' => ⟨fun e => ?_, fun e => ?_, fun _ e => ?_⟩, e3, ?_⟩
    · rcases zArgs_get e with ⟨d', e', _⟩ | ⟨e', _⟩ <;> cases e'
    · rcases zArgs_get e with ⟨d', e', _⟩ | ⟨e', _⟩ <;> cases e'
    · rcases zArgs_get e with ⟨d', e', _⟩ | ⟨e', _⟩ <;> cases e'
    · cases rs with
      | f l => cases e
      | g ks l => cases e
      | v d' =>
        simp only at e
        split at e
        · rename_i l' ek
          obtain ⟨r2, e5, e6⟩ := map_some e
          have hd1 : d' = d := congrArg Prod.fst e6
          have hr1 : r2 = r' := congrArg Prod.snd e6
          subst hd1 hr1
          refine fun v H2 pf iv => ?_
          have hkk : (zArgs ds l us)[ds.length]? = some (.p l) := by unfold zArgs; rw [List.getElem?_append_right (by simp)]; simp
          obtain ⟨l2, c2, xs2, f1, f2, f3, f4⟩ := pf.par ds.length l hkk
          rw [ek] at f1; cases f1
          rw [i1.length, zVs_get] at f2; cases f2
          have mutc : ∀ b, MutAt (zArgs ds l us) ((vs ++ V.ref c :: ws).map some) b -> b = c := fun b ⟨j, m', ej, qj⟩ => by
            obtain ⟨rfl, _⟩ := zArgs_own (fun _ => rfl) ej
            rw [List.getElem?_map, i1.length, zVs_get] at qj
            cases qj; rfl
          obtain ⟨R2, k2⟩ := R1.put e5 hc (fun b o hb eb => pf.keep b o eb fun z => hb (mutc b z)) (fun b hb eb => pf.live b eb) f3 f4
          exact q v H2 R2 ((Kp.of_same r σ s1).trans k2) (Is.mono (zR.kp (zR.refl H2) _) (fun b zb => zb.elim (R2.o0 b) fun zb => by
            obtain ⟨ys, ey, mb⟩ := R1.ol b (.inr zb); exact pf.lst b ys ey mb) (fun b zb _ => zb.imp id (own_put e5)) _ _ iv)
        · cases e
  · cases e
end
section
variable {es : List Expr} {env : Env} {p : Pos}
theorem yH {c k} : starEach (.Constant c k p :: es) env = (false, eval (.Constant c k p) env) :: starEach es env := rfl
theorem zY {x} : starEach (.Name x p :: es) env = (false, eval (.Name x p) env) :: starEach es env := rfl
theorem stTuple {l k} : starEach (.Tuple l k p :: es) env = (false, eval (.Tuple l k p) env) :: starEach es env := rfl
theorem stCall {f l k} : starEach (.Call f l k p :: es) env = (false, eval (.Call f l k p) env) :: starEach es env := rfl
theorem stSub {a b} : starEach (.Subscript a b p :: es) env = (false, eval (.Subscript a b p) env) :: starEach es env := rfl
theorem stBin {a o b} : starEach (.BinOp a o b p :: es) env = (false, eval (.BinOp a o b p) env) :: starEach es env := rfl
end
noncomputable def litS : List Expr -> Option (List (List Nat))
  | [] => some []
  | .Constant (.str x) _ _ :: es => (litS es).map (x.cps.toList :: ·)
  | _ => none
noncomputable def mLit (ss : List (List Nat)) : ML := fun _ => some (ss.map D.str)
theorem da_strs {X : Cx} : ∀ {es : List Expr} {ss : List (List Nat)}, litS es = some ss -> DA X es (mLit ss)
  | [], ss, h => by
    cases h; exact zN
  | e :: es, ss, h => by
    cases e <;> first | (simp only [litS, reduceCtorEq] at h; done) | skip
    rename_i c j p
    cases c <;> first | (simp only [litS, reduceCtorEq] at h; done) | skip
    rename_i x
    simp only [litS] at h
    obtain ⟨ss', e1, rfl⟩ := map_some h
    exact zE (f := mC (.str x.cps.toList)) (fs := mLit ss') (de_str rfl) (da_strs e1) (hs := yH)
open Builtin.Str
theorem new_val {K : Fg} {fl : ML} {i : Nat} {σ : St} {H : Hp} {Dn : Ends} (h : lS K (sSet i (mOfF fl)) Dn σ H) : lF K fl σ H (fun v H1 => gName i v σ H1 Dn.nx) := by
  obtain ⟨O0, r, fl', hR, e, q⟩ := h
  obtain ⟨d, e1, e2⟩ := bind_some e
  obtain ⟨r', e3, rfl⟩ := map_some e2
  obtain ⟨l, e4, rfl⟩ := map_some e1
  obtain ⟨hl, np, rfl⟩ := setV_some e3
  refine ⟨O0, r, l, hR, e4, fun p xs H1 s1 n1 e5 i1 => ?_⟩
  have ol : OLst (fun b => Ow O0 r σ b \/ b = p) H1 := fun b z => z.elim (fun z => (hR.same s1).ol b z) fun z => by subst z; exact ⟨.lst xs, e5, trivial⟩
  have iv : Is K (Ow O0 r σ) H1 (.lst l) (.ref p) := by
    rw [Is.lst_iff]
    exact ⟨p, xs, rfl, .inl ⟨hR.nofresh n1, .inl e5⟩, IsL.mono (zR.kp (zR.refl H1) _) ol (fun a z _ => .inl z) l xs i1⟩
  obtain ⟨R1, k1⟩ := (hR.same s1).setv hl np iv
  exact q _ H1 R1 ((Kp.of_same r σ s1).trans k1)
section
variable {X : Cx} {pos spos py : Pos} {elt tg iter : Expr} {it : ML} {bd : D -> En -> Option En} {c : MB} {x : ME} {cap : List Nat} {N' : List Str} {scope : Scope}
theorem ds_comp (i : Nat) {y : Str} (hc : X.calm = true) (o : CmpOk X N' cap scope) (hi : DI X tg iter it) (hg : ∀ C fp s H, DG (cxC X N' scope C fp s H) tg bd) (he : ∀ C fp s H, DE (cxC X N' scope C fp s H) elt x)
    (n : Nat) (hN : X.N.Nodup) (hn : N'.length = n := by rfl) (hy : X.N[i]? = some y := by rfl) (hx : Loc X.env.scope y := by first | exact Or.inl rfl | exact Or.inr rfl) (hf : X.fn y = true \/ X.env.scope.names.lookup y = some .local := by first | exact .inl rfl | exact .inr rfl)
    (hsw : swapsWith (.ListComp elt [⟨tg, iter, [], 0⟩] scope pos) (some (.Name y py)) spos.line X.env = pure true := by rfl) (hs : ∀ x, foldedSetIterable iter X.env x = pure x := by intro _; rfl) :
    DS X (.Assign [.Name y py] (.ListComp elt [⟨tg, iter, [], 0⟩] scope pos) spos) (sSet i (mOfF (mComp cap n it bd x))) := by
  subst hn
  exact PS.conseq (ps_lcomp (i := i) (g := lG X.K bd) (te := lE X.K x) (tc := none) hc o hi hg rfl he hN hy hx hf hsw hs) fun Dn σ H h => comp_read (tc := none) (fun {σ H K1 K0 te} z => by
    obtain ⟨O0, r, b, hR, e, q⟩ := z
    unfold mTrue at e; cases e
    have z1 : (if true = true then te σ H K1 else K0 H) := q H (zR.refl H)
    rw [if_pos rfl] at z1
    exact z1) N'.length (new_val h)
theorem ds_compIf (i : Nat) {y : Str} {ce : Expr} (hc : X.calm = true) (o : CmpOk X N' cap scope) (hi : DI X tg iter it) (hg : ∀ C fp s H, DG (cxC X N' scope C fp s H) tg bd) (ht : ∀ C fp s H, DT (cxC X N' scope C fp s H) ce c) (he : ∀ C fp s H, DE (cxC X N' scope C fp s H) elt x)
    (n : Nat) (hN : X.N.Nodup) (hn : N'.length = n := by rfl) (hy : X.N[i]? = some y := by rfl) (hx : Loc X.env.scope y := by first | exact Or.inl rfl | exact Or.inr rfl) (hf : X.fn y = true \/ X.env.scope.names.lookup y = some .local := by first | exact .inl rfl | exact .inr rfl)
    (hsw : swapsWith (.ListComp elt [⟨tg, iter, [ce], 0⟩] scope pos) (some (.Name y py)) spos.line X.env = pure true := by rfl) (hs : ∀ x, foldedSetIterable iter X.env x = pure x := by intro _; rfl) :
    DS X (.Assign [.Name y py] (.ListComp elt [⟨tg, iter, [ce], 0⟩] scope pos) spos) (sSet i (mOfF (mCompIf cap n it bd c x))) := by
  subst hn
  exact PS.conseq (ps_lcomp (i := i) (g := lG X.K bd) (te := lE X.K x) (tc := some (lT X.K c)) hc o hi hg ⟨ce, rfl, ht⟩ he hN hy hx hf hsw hs) fun Dn σ H h => comp_read (tc := some (lT X.K c)) (fun z => z) N'.length (new_val h)
end
end DD
namespace TS
open PySem PyProof.Rows
open PySem PyProof.Rows
open PySem PyProof.Rows
open PySem PyProof.Rows
open PySem PyProof.Rows
open PySem PyProof.Rows
open PySem PyProof.Rows
section
variable {prog : Program} {w : World} {A : Around} {E : Value -> Shared -> Prop} {s : Shared}
noncomputable def Lies (h : Heap) (a : Addr) (h' : Heap) : Prop := ∀ b o, b ≠ a -> h.get? b = some o -> h'.get? b = some o
end
open PySem PyProof.Rows
section
variable {prog : Program} {w : World} {A : Around} {E : Value -> Shared -> Prop} {s : Shared}
noncomputable def Stays (h h' : Heap) : Prop := ∀ b o, h.get? b = some o -> h'.get? b = some o
end
open PySem PyProof.Rows
open PySem PyProof.Rows PySem.W
end TS
namespace DD
open PySem PySem.Spec PyProof.Rows L2
noncomputable def ltA : D -> D -> Option D
  | .int i, .int j => some (.bl (decide (i < j)))
  | .str s, .str t => some (.bl (decide (s < t)))
  | _, _ => none
section
variable {X : Cx}
theorem op_ltS : OpR X (compareOp .Lt) (fun x y H Q => ∃ i j, x = .str i /\ y = .str j /\ Q (.bl (decide (i.cps.toList < j.cps.toList))) H) := by
  intro pins s σ H x y v u Q I rx ry hq
  obtain ⟨i, j, rfl, rfl, q⟩ := hq
  obtain ⟨t, rfl⟩ := rx
  obtain ⟨t', rfl⟩ := ry
  exact PySem.P.lt_str ⟨.bl _, H, I, rfl, q⟩
noncomputable def rLtA : R2 := fun x y H Q => rI0 (fun i j => .bl (decide (i < j))) x y H Q \/ ∃ i j, x = .str i /\ y = .str j /\ Q (.bl (decide (i.cps.toList < j.cps.toList))) H
theorem op_ltA : OpR X (compareOp .Lt) rLtA := op_lt.or op_ltS
theorem od_ltA {K : Fg} : OpD K rLtA ltA := by
  intro O H dx dy d vx vy Q ol ix iy e q
  cases dx <;> cases dy <;> first | (simp only [ltA, reduceCtorEq] at e; done) | skip
  · simp only [ltA, Option.some.injEq] at e
    subst e
    rw [Is.int_iff] at ix iy
    exact .inl ⟨_, _, ix, iy, q _ H (zR.refl H) (by rw [Is.bl_iff])⟩
  · simp only [ltA, Option.some.injEq] at e
    subst e
    rw [Is.str_iff] at ix iy
    exact .inr ⟨_, _, ix, iy, q _ H (zR.refl H) (by rw [Is.bl_iff])⟩
end
mutual
noncomputable def toP : D -> PyData
  | .non => .none
  | .bl b => .bool b
  | .int i => .int i
  | .str s => .str ⟨s.toArray⟩
  | .tup l => .tuple (toPs l)
  | .lst l => .list (toPs l)
  | .ty _ => .none
  | .ref _ => .none
  | .dct _ _ => .none
noncomputable def toPs : List D -> List PyData
  | [] => []
  | d :: l => toP d :: toPs l
end
mutual
noncomputable def okD : D -> Bool
  | .tup l => okDs l
  | .lst l => okDs l
  | .ty _ => false
  | .ref _ => false
  | .dct _ _ => false
  | _ => true
noncomputable def okDs : List D -> Bool
  | [] => true
  | d :: l => okD d && okDs l
end
section
variable {X : Cx} {pins : List (Addr × Obj)} {σ : St} {H : Hp} {s : Shared} {O : Addr -> Prop}
mutual
theorem reads_of (I : Inv X pins σ H s) : ∀ (d : D) (v : V) (u : Value), okD d = true -> Is X.K O H d v -> RelV v u -> ∃ as, Reads s.heap u (toP d) as
  | .non, v, u, _, h, r => by rw [Is.non_iff] at h; subst h; cases r; exact ⟨_, .none⟩
  | .bl b, v, u, _, h, r => by rw [Is.bl_iff] at h; subst h; cases r; exact ⟨_, .bool b⟩
  | .int i, v, u, _, h, r => by rw [Is.int_iff] at h; subst h; obtain ⟨t, rfl⟩ := r; exact ⟨_, .int i t⟩
  | .str x, v, u, _, h, r => by rw [Is.str_iff] at h; subst h; obtain ⟨t, rfl⟩ := r; exact ⟨_, .str _ t⟩
  | .ty n, v, u, o, _, _ => by simp [okD] at o
  | .ref a, v, u, o, _, _ => by simp [okD] at o
  | .dct ks l, v, u, o, _, _ => by simp [okD] at o
  | .tup l, v, u, o, h, r => by
    rw [Is.tup_iff] at h
    obtain ⟨a, xs, rfl, sq, il⟩ := h
    cases r
    obtain ⟨its, rv, ⟨ob, e, c, n, dt⟩, _⟩ := I.tuple sq
    obtain ⟨as, q⟩ := readsL_of I l xs its (by simpa [okD] using o) il rv
    exact ⟨_, .tuple e c dt (by simpa using q)⟩
  | .lst l, v, u, o, h, r => by
    rw [Is.lst_iff] at h
    obtain ⟨a, xs, rfl, sq, il⟩ := h
    cases r
    obtain ⟨its, rv, ⟨ob, n, e, c, _, dt⟩, _⟩ := I.list sq.sq
    obtain ⟨as, q⟩ := readsL_of I l xs its (by simpa [okD] using o) il rv
    exact ⟨_, .list e c dt (by simpa using q)⟩
theorem readsL_of (I : Inv X pins σ H s) : ∀ (l : List D) (vs : List V) (us : List Value), okDs l = true -> IsL X.K O H l vs -> yD vs us -> ∃ as, ReadsAll s.heap us (toPs l) as
  | [], vs, us, _, h, r => by unfold IsL at h; subst h; cases r; exact ⟨_, .nil⟩
  | d :: l, vs, us, o, h, r => by
    unfold IsL at h
    obtain ⟨v, vr, rfl, h1, h2⟩ := h
    simp only [okDs, Bool.and_eq_true] at o
    cases r with
    | cons r1 r2 =>
      obtain ⟨as, q1⟩ := reads_of I d v _ o.1 h1 r1
      obtain ⟨bs, q2⟩ := readsL_of I l vr _ o.2 h2 r2
      exact ⟨_, .cons q1 q2⟩
end
end
section
variable {X : Cx}
theorem un2 {k : Nat} {A : Around} (r : Room k A) : A.units + 200 < cLine := by have := r.un; omega
end
noncomputable def fre : Sl -> Prop
  | .un => True
  | .v _ => True
  | _ => False
theorem yE {i : Nat} {d : D} {r : En} {x : Sl} (e : r[i]? = some x) (h : fre x) : yJ i d r = some (r.set i (.v d)) := by
  unfold yJ
  rw [e]
  cases x <;> first | rfl | cases h
theorem pop_of {i : Nat} {r : En} {S : List D} {d : D} (e : r[i]? = some (.o (S ++ [d]))) : mPop i r = some (d, r.set i (.o S)) := by
  simp [mPop, mtOf, e, Sl.ml, putO]
theorem app_of {i : Nat} {f : ME} {r : En} {S : List D} {d : D} (e : r[i]? = some (.o S)) (e2 : f r = some d) (h : S.length < sizeLine) : mApp i f r = some (.non, r.set i (.o (S ++ [d]))) := by
  simp [mApp, mtOf, e, Sl.ml, putO, e2, h]
theorem var_of {i : Nat} {r : En} {d : D} (e : r[i]? = some (.v d)) : zB i r = some d := by
  unfold zB; rw [e]
theorem yK {g h : MS} {r r' : En} (e : g r = some (.nx r')) : yB g h r = h r' := by
  unfold yB; rw [e]; rfl
theorem seq_rt {g h : MS} {r r' : En} {d : D} (e : g r = some (.rt d r')) : yB g h r = some (.rt d r') := by
  unfold yB; rw [e]; rfl
theorem sX_of {f : En -> Option (D × En)} {r r' : En} {d : D} (e : f r = some (d, r')) : sX f r = some (.nx r') := by
  unfold sX; rw [e]; rfl
theorem sSet_of {i : Nat} {f : ME} {r r2 : En} {d : D} (e : f r = some d) (e2 : yJ i d r = some r2) : sSet i f r = some (.nx r2) := by
  unfold sSet; rw [e]; show (yJ i d r).map Fl.nx = _; rw [e2]; rfl
theorem sIf_t {c : MB} {g h : MS} {r : En} (e : c r = some true) : sIf c g h r = g r := by
  unfold sIf; rw [e]; rfl
theorem sIf_f {c : MB} {g h : MS} {r : En} (e : c r = some false) : sIf c g h r = h r := by
  unfold sIf; rw [e]; rfl
theorem while_go {n : Nat} {c : MB} {g : MS} {r r' : En} (h : c r = some true) (e : g r = some (.nx r')) : sWhile (n + 1) c g r = sWhile n c g r' := by
  show (c r).bind _ = _
  rw [h, Option.bind_some, if_pos rfl, e, Option.bind_some]
theorem while_end {n : Nat} {c : MB} {g : MS} {r : En} (h : c r = some false) : sWhile (n + 1) c g r = some (.nx r) := by
  show (c r).bind _ = _
  rw [h, Option.bind_some, if_neg (by simp)]
theorem at_zero {α : Type} (x : α) (l : List α) : atI (x :: l) 0 = some x := yC (j := 0) rfl
theorem for_go {bd : D -> En -> Option En} {g : MS} {d : D} {l : List D} {r r1 r' : En} (h : bd d r = some r1) (e : g r1 = some (.nx r')) : forL bd g (d :: l) r = forL bd g l r' := by
  show (bd d r).bind _ = _
  rw [h, Option.bind_some, e, Option.bind_some]
section
variable {f g : ME} {fl gl : ML} {r : En} {x y d : D} {i j : Int}
theorem zO {m : D -> D -> Option D} (e1 : f r = some x) (e2 : g r = some y) (e : m x y = some d) : zD m f g r = some d := by
  unfold zD; rw [e1, Option.bind_some, e2]; exact e
theorem un_of {m : D -> Option D} (e1 : f r = some x) (e : m x = some d) : mUn m f r = some d := by
  unfold mUn; rw [e1]; exact e
theorem add_of (e1 : f r = some (.int i)) (e2 : g r = some (.int j)) : zD yQ f g r = some (.int (i + j)) := zO e1 e2 rfl
theorem mod_of (e1 : f r = some (.int i)) (e2 : g r = some (.int j)) (h : 0 < j) : zD yL f g r = some (.int (i % j)) := zO e1 e2 (if_pos h)
theorem mul_of (e1 : f r = some (.int i)) (e2 : g r = some (.int j)) (h : -(2 ^ 64) < i /\ i < 2 ^ 64) : zD mulD f g r = some (.int (i * j)) := zO e1 e2 (if_pos (.inl h))
theorem fdiv_of (e1 : f r = some (.int i)) (e2 : g r = some (.int j)) (h : 0 < j /\ j < 1073741824) : zD yU f g r = some (.int (i / j)) := zO e1 e2 (if_pos h)
theorem zI : mC d r = some d := rfl
theorem zF {l : List D} (e1 : f r = some x) (e2 : fl r = some l) : zA f fl r = some (x :: l) := by
  unfold zA; rw [e1, Option.bind_some, e2]; rfl
theorem zS : zK r = some [] := rfl
theorem lstF_of {l : List D} (e : fl r = some l) (h : l.length <= 100) : mOfF (yR fl) r = some (.lst l) := by
  unfold mOfF yR; rw [e, Option.bind_some, if_pos (Nat.le_trans h (by decide))]; rfl
theorem tup_of {l : List D} (e : fl r = some l) (h : l.length <= 100) : mTup fl r = some (.tup l) := by
  unfold mTup; rw [e, Option.bind_some, if_pos (Nat.le_trans h (by decide))]
theorem yO {n : Nat} {m : MF} {l : List D} {p : Rs} (e : fl r = some l) (hl : l.length = n) (h : ∃ as, m (l.map .v) = some (p, as)) : zX n m fl r = some (rsD p) := by
  obtain ⟨as, h⟩ := h
  unfold zX; rw [e, Option.bind_some, if_pos hl, h]; rfl
theorem bl_of {b : Bool} (e : f r = some (.bl b)) : mBl f r = some b := by
  unfold mBl; rw [e]; rfl
theorem ret_of (e : f r = some d) : sRet f r = some (.rt d r) := by
  unfold sRet; rw [e]; rfl
theorem seq_set {k : Nat} {h : MS} {r2 : En} {z : Option Fl} (d : D) (e : f r = some d) (e2 : yJ k d r = some r2) (q : h r2 = z) : yB (sSet k f) h r = z := by
  rw [yK (sSet_of e e2)]; exact q
theorem seq_ff {c : MB} {a h : MS} {z : Option Fl} (e : c r = some false) (q : h r = z) : yB (sIf c a sSkip) h r = z := by
  rw [yK (r' := r) (by rw [sIf_f e]; rfl)]; exact q
theorem seq_tt {c : MB} {a h : MS} {r' : En} (e : c r = some true) (q : a r = some (.rt d r')) : yB (sIf c a sSkip) h r = some (.rt d r') := seq_rt (by rw [sIf_t e]; exact q)
theorem mk_rt {n N : Nat} {s : MS} {as : List Sl} {r' : En} (e : s (as ++ List.replicate (N - n) .un) = some (.rt d r')) : ∃ bs, mkF n N s as = some (.v d, bs) := by
  unfold mkF; rw [e]; exact ⟨_, rfl⟩
end
theorem str_add {s t : List Nat} (h : s.length + t.length <= 100) : yQ (.str s) (.str t) = some (.str (s ++ t)) := if_pos (Nat.le_trans h (by decide))
theorem sl_of {f : ME} {lo hi : MO} {r : En} {x d : D} {a b : Option Int} (e1 : f r = some x) (e2 : lo r = some a) (e3 : hi r = some b) (e : slD x a b = some d) : mSl f lo hi r = some d := by
  unfold mSl; rw [e1, Option.bind_some, e2, Option.bind_some, e3]; exact e
theorem osome_of {g : ME} {r : En} {i : Int} (e : g r = some (.int i)) : oSome g r = some (some i) := by
  unfold oSome; rw [e]; rfl
theorem gt_of {f g : ME} {r : En} {i j : Int} (e1 : f r = some (.int i)) (e2 : g r = some (.int j)) : mBl (zD gtD f g) r = some (decide (j < i)) := bl_of (zO e1 e2 rfl)
theorem lst_add {l m : List D} (h : l.length + m.length <= 100000) : yQ (.lst l) (.lst m) = some (.lst (l ++ m)) := if_pos (Nat.le_trans h (by decide))
theorem cut_to {α : Type} (s : List α) (k : Nat) : cutL s none (some (k : Int)) = s.take k := by
  unfold cutL
  rw [HT.sIx_nat, HT.sIx_none, List.drop_zero, Nat.sub_zero, List.take_eq_take_iff]
  omega
theorem cut_mid {α : Type} (s : List α) (i k : Nat) : cutL s (some (i : Int)) (some (k : Int)) = (s.take k).drop i := by
  unfold cutL
  rw [HT.sIx_nat, HT.sIx_nat, List.drop_take]
  by_cases h : i <= s.length
  · rw [Nat.min_eq_left h, List.take_eq_take_iff, List.length_drop]
    rw [Nat.sub_min_sub_right, Nat.sub_min_sub_right, Nat.min_assoc, Nat.min_self]
  · have e1 : s.drop (min i s.length) = [] := List.drop_of_length_le (by omega)
    have e2 : s.drop i = [] := List.drop_of_length_le (by omega)
    rw [e1, e2]; simp
theorem rng_of {f : ME} {r : En} {n : Nat} (e : f r = some (.int (n : Int))) (h : n < 1000) : mRng1 f r = some ((List.range n).map fun k => .int ((0 : Int) + (k : Nat))) := by
  have h1 : -(2 ^ 62 : Int) <= (n : Int) /\ (n : Int) < 2 ^ 62 := by constructor <;> omega
  have h2 : DD.intD (.int (n : Int)) = some (n : Int) := by unfold DD.intD; rfl
  unfold mRng1
  rw [e, Option.bind_some, h2, Option.bind_some, if_pos h1, Int.toNat_natCast]
  unfold rngD; rfl
theorem ladd {f g : ME} {r : En} {l m : List D} (e1 : f r = some (.lst l)) (e2 : g r = some (.lst m)) (h : l.length + m.length <= 100000) : zD yQ f g r = some (.lst (l ++ m)) := zO e1 e2 (lst_add h)
theorem bdP {i j : Nat} {a b : D} {r r1 r2 : En} (h1 : yJ i a r = some r1) (h2 : yJ j b r1 = some r2) : bdSeq 2 (bdCons (yJ i) (bdCons (yJ j) bdNil)) (.tup [a, b]) r = some r2 := by
  show ((yJ i a r).bind fun z => (yJ j b z).bind fun y => some y) = _
  rw [h1, Option.bind_some, h2]; rfl
section
variable {X : Cx} {pos p2 : Pos} {a b : Expr} {f g : ME}
theorem fresh_is {K : Fg} {O : Addr -> Prop} {H : Hp} {l : List D} {xs ys : List V} {p : Addr} (ol : OLst O H) (hp : H p = none) (h : IsL K O H l xs) : IsL K (fun b => O b \/ b = p) (upd H p (.lst ys)) l xs :=
  IsL.mono (zR.kp (zW hp) _) ol (fun a z n => z.elim id fun z => by subst z; exact absurd hp n) _ _ h
noncomputable def mCat (f g : ML) : ML := fun r => (f r).bind fun l => (g r).bind fun m => if l.length + m.length <= sizeLine then some (l ++ m) else none
theorem df_cat {fl gl : ML} (ha : DB X a fl) (hb : DB X b gl) : DF X (.BinOp a .Add b pos) (mCat fl gl) := by
  refine PE.conseq (pe_op op_catR ha hb) fun σ H Q h => ?_
  obtain ⟨O0, r, d, hR, e, q⟩ := h
  obtain ⟨l, e1, e⟩ := bind_some e
  obtain ⟨m, e2, e⟩ := bind_some e
  split at e
  · rename_i hz
    cases e
    refine ⟨O0, r, l, hR, e1, fun p xs H1 s1 sq il => ⟨O0, r, m, hR.same s1, e2, fun p' ys H2 s2 sq' il' => ?_⟩⟩
    refine ⟨p, p', xs, ys, rfl, rfl, s2.seq sq, sq', by rw [<- il.length, <- il'.length]; exact hz, fun t ht => q t _ _ ((s1.trans s2).trans (zW ht)) ((s1.trans s2).free ht) zT ?_⟩
    exact fresh_is (hR.same (s1.trans s2)).ol ht ((il.same s2 (hR.same s1).ol).append il')
  · cases e
end
noncomputable def compXL (bd : D -> En -> Option En) (x : En -> Option (D × En)) : List D -> En -> Option (List D × En)
  | [], r => some ([], r)
  | d :: l, r => (bd d r).bind fun r1 => (x r1).bind fun p => (compXL bd x l p.2).map fun q => (p.1 :: q.1, q.2)
noncomputable def mCompX (i n : Nat) (it : ML) (bd : D -> En -> Option En) (x : En -> Option (D × En)) : En -> Option (D × En) := fun r => (it r).bind fun l => (mtOf r i).bind fun L => if l.length < sizeLine then (compXL bd x l (Sl.p L :: List.replicate (n - 1) Sl.un)).bind fun (q : List D × En) => match (q.2[0]? : Option Sl) with
  | some (.p L') => (putO i L' r).map fun r' => (.lst q.1, r')
  | _ => none
  else none
section
variable {X : Cx} {N' : List Str} {scope : Scope} {elt tg iter : Expr} {pos : Pos} {it : ML} {bd : D -> En -> Option En} {x : En -> Option (D × En)} {i : Nat}
theorem own_p1 {q : Sl -> Option (List D)} (hu : q .un = none) {L m : List D} {k j : Nat} (e : ((Sl.p L :: List.replicate k Sl.un)[j]?).bind q = some m) : j = 0 /\ q (.p L) = some m := by
  cases j with
  | zero => exact ⟨rfl, e⟩
  | succ j =>
    rw [List.getElem?_cons_succ, List.getElem?_replicate] at e
    split at e
    · rw [Option.bind_some, hu] at e; cases e
    · cases e
theorem R.cap1 {K : Fg} {O : Addr -> Prop} {H : Hp} {L : List D} {xs : List V} {a : Addr} {k : Nat} (ol : OLst O H) (ha : O a) (ea : H a = some (.lst xs)) (il : IsL K O H L xs) :
    R K O H (.p L :: List.replicate k .un) (some (.ref a) :: List.replicate k none) := by
  have ow : ∀ b, Ow O (.p L :: List.replicate k .un) (some (.ref a) :: List.replicate k none) b -> H b ≠ none -> O b := fun b z _ => z.elim id fun ⟨j, m, ej, qj⟩ => by
    obtain ⟨rfl, _⟩ := own_p1 rfl ej
    cases qj; exact ha
  have get : ∀ (j : Nat) (x : Sl), (Sl.p L :: List.replicate k Sl.un)[j]? = some x -> (j = 0 /\ x = .p L) \/ x = .un := fun j x e => by
    cases j with
    | zero => cases e; exact .inl ⟨rfl, rfl⟩
    | succ j =>
      rw [List.getElem?_cons_succ, List.getElem?_replicate] at e
      split at e
      · cases e; exact .inr rfl
      · cases e
  refine ⟨by simp, fun j d e => ?_, fun j m e => ?_, fun j j' b m m' e1 e2 _ _ => ?_, ol, fun j m b e _ => ?_, fun j m b e q => ?_, fun j ks m e => ?_⟩
  · rcases get _ _ e with ⟨_, z⟩ | z <;> cases z
  · obtain ⟨rfl, e2⟩ := own_p1 rfl e
    cases e2
    exact ⟨a, xs, rfl, ea, IsL.mono (zR.kp (zR.refl H) _) ol ow _ _ il⟩
  · rw [(own_p1 rfl e1).1, (own_p1 rfl e2).1]
  · rcases e with e | e | ⟨_, e⟩ <;> rcases get _ _ e with ⟨_, z⟩ | z <;> cases z
  · rcases get _ _ e with ⟨rfl, z⟩ | z
    · cases q; exact ha
    · cases z
  · rcases get _ _ e with ⟨_, z⟩ | z <;> cases z
theorem compX_read (hx : ∀ r d r', x r = some (d, r') -> ∀ σ b, OwnAt r' σ b -> OwnAt r σ b) {σ : St} {H : Hp} {Q : VK} (h : lX X.K (mCompX i N'.length it bd x) σ H Q) : tComp [i] N'.length (lI X.K it) (lG X.K bd) none (lX X.K x) σ H Q := by
  obtain ⟨O0, r, dv, r', hR, e, q⟩ := h
  obtain ⟨l, e1, e⟩ := bind_some e
  obtain ⟨L, e2, e⟩ := bind_some e
  split at e
  · rename_i hlen
    obtain ⟨⟨out, rE⟩, e3, e⟩ := bind_some e
    simp only at e
    split at e
    · rename_i L' eL
      obtain ⟨r2', e4, e5⟩ := map_some e
      have hd1 : D.lst out = dv := congrArg Prod.fst e5
      have hr1 : r2' = r' := congrArg Prod.snd e5
      subst hd1 hr1
      refine ⟨O0, r, l, hR, e1, fun J H1 s1 yl p hp => ?_⟩
      have R1 := hR.same s1
      obtain ⟨a, xs, ha, hxa, il⟩ := mt_at R1 e2
      have mut_a : MutAt r σ a := ⟨i, L, ml_mt' e2, ha⟩
      have own_a : Ow O0 r σ a := .inr mut_a.own
      have hpa : a ≠ p := fun z => by subst z; rw [hp] at hxa; cases hxa
      have hnO : ¬ Ow O0 r σ p := R1.nofresh hp
      let O' : Addr -> Prop := fun b => Ow O0 r σ b \/ b = p
      have ol1 : OLst O' (upd H1 p (.lst [])) := fun b z => by
        by_cases hb : b = p
        · subst hb; exact ⟨_, zT, trivial⟩
        · rw [zU hb]; exact z.elim (R1.ol b) fun z => absurd z hb
      have hsig : sigC [i] N'.length σ = some (.ref a) :: List.replicate (N'.length - 1) none := by
        unfold sigC
        rw [List.map_cons, List.map_nil, ha]; rfl
      rw [hsig]
      refine ⟨fun k m ys σ2 H2 => m = l.length - k /\ k <= l.length /\ ys.length <= k /\ H2 p = some (.lst ys) /\ σ2[0]? = some (some (.ref a)) /\ (∀ b u, b ≠ a -> H1 b = some u -> H2 b = some u) /\ (∀ b, H2 b = none -> H1 b = none) /\
          ∃ r2 dn rest, R X.K O' H2 r2 σ2 /\ (∀ b, OwnAt r2 σ2 b -> b = a) /\ (∃ L2, r2[0]? = some (.p L2)) /\ IsL X.K O' H2 dn ys /\ compXL bd x (l.drop k) r2 = some (rest, rE) /\ dn ++ rest = out,
        ⟨l.length, by simp, Nat.zero_le _, Nat.le_refl _, zT, ?_, ?_, ?_, _, [], out, R.cap1 (k := N'.length - 1) ol1 (.inl own_a) (by rw [zU hpa]; exact hxa) (fresh_is R1.ol hp il), ?_, ⟨L, rfl⟩, .nil, by simpa using e3, rfl⟩, ?_⟩
      · rfl
      · intro b u hb eb
        rw [zU (fun z => by subst z; rw [hp] at eb; cases eb)]; exact eb
      · intro b eb
        by_cases hb : b = p
        · subst hb; exact hp
        · rw [zU hb] at eb; exact eb
      · rintro b ⟨j, m, ej, qj⟩
        obtain ⟨rfl, _⟩ := own_p1 rfl ej
        cases qj; rfl
      · rintro k m ys σ2 H2 ⟨rfl, hkl, hyl, hp2, hs2, kp2, lv2, r2, dn, rest, R2, no2, ⟨L2, eL2⟩, il2, e6, eo⟩
        refine ⟨hp2, by omega, ?_⟩
        have hO : ∀ b, Ow O' r2 σ2 b -> O' b := fun b z => z.elim id fun z => .inl (by rw [no2 b z]; exact own_a)
        obtain ⟨y1, y2⟩ := yl k H2 O' (fun b u eb nb => kp2 b u (fun z => nb (by rw [z]; exact mut_a)) eb) fun b z nn => z.elim id fun z => by subst z; exact absurd hp nn
        by_cases hlt : k < l.length
        · obtain ⟨go, yd⟩ := y1 hlt
          have hd : l[k]? = some l[k] := by simp [hlt]
          rw [drop_cons hd] at e6
          obtain ⟨r3, e7, e8⟩ := bind_some e6
          obtain ⟨⟨y, r4⟩, e9, e10⟩ := bind_some e8
          obtain ⟨⟨rest', rE'⟩, e11, e12⟩ := map_some e10
          have ha1 : y :: rest' = rest := congrArg Prod.fst e12
          have ha2 : rE' = rE := congrArg Prod.snd e12
          subst ha1 ha2
          refine .inr ⟨go, fun v H3 yv => ?_⟩
          obtain ⟨s3, iv⟩ := yd v H3 yv
          have R3 := R2.same s3
          refine ⟨O', r2, l[k], r3, R3, ?_, e7, fun σ4 R4 k4 => ?_⟩
          · exact Is.mono (zR.kp (zR.refl H3) _) R3.o0 (fun b z _ => hO b z) _ _ (iv _ hd)
          have hp3 := s3 _ _ hp2
          have no4 : ∀ b, OwnAt r3 σ4 b -> b = a := fun b z => by
            rcases k4.new b z with z' | z'
            · exact no2 b z'
            · obtain ⟨zs, ez, _⟩ := R4.ol b (.inr z)
              rw [z'] at ez; cases ez
          obtain ⟨⟨L3, eL3⟩, hs4⟩ := k4.par 0 L2 eL2
          refine ⟨O', r3, y, r4, R4, e9, fun u H6 R6 k6 iu => ?_⟩
          have nm : ∀ b, MutAt r3 σ4 b -> b = a := fun b z => no4 b z.own
          have hp6 : H6 p = some (.lst ys) := k6.keep p _ hp3 fun z => hpa (nm p z).symm
          have no6 : ∀ b, OwnAt r4 σ4 b -> b = a := fun b z => by
            exact no4 b (hx _ _ _ e9 σ4 b z)
          obtain ⟨⟨L4, eL4⟩, _⟩ := k6.par 0 L3 eL3
          have kk : Keep O' H6 (upd H6 p (.lst (ys ++ [u]))) := fun b' o' e' nn => by rw [zU (fun z => nn (.inr z))]; exact e'
          have k36 : Keep O' H3 H6 := fun b' o' e' nn => k6.keep b' o' e' fun z => nn (.inl (by rw [nm b' z]; exact own_a))
          refine ⟨hp6, l.length - (k + 1), by omega, rfl, hlt, by simp; omega, zT, by rw [hs4]; exact hs2, ?_, ?_, r4, dn ++ [y], rest', ?_, no6, ⟨L4, eL4⟩, ?_, e11, by rw [<- eo]; simp⟩
          · intro b u' hb eb
            have hbp : b ≠ p := fun z => by subst z; rw [hp] at eb; cases eb
            rw [zU hbp]
            exact k6.keep b _ (s3 _ _ (kp2 b u' hb eb)) fun z => hb (nm b z)
          · intro b eb
            by_cases hb : b = p
            · subst hb; exact hp
            · rw [zU hb] at eb
              exact lv2 b (s3.free (k6.live b eb))
          · refine ⟨R6.len, fun j d ej => ?_, fun j m ej => ?_, R6.apart, fun b' z => ?_, R6.loc, R6.par, fun j ks m ej => ?_⟩
            · obtain ⟨w, q1, q2⟩ := R6.val j d ej
              exact ⟨w, q1, Is.mono (fun b' o' e' nn => kk b' o' e' fun z => nn (.inl z)) R6.ol (fun _ z _ => z) _ _ q2⟩
            · obtain ⟨a', xs', q1, q2, q3⟩ := R6.own j m ej
              have ha' := no6 a' ⟨j, m, ls_own' ej, q1⟩
              exact ⟨a', xs', q1, by rw [zU (by rw [ha']; exact hpa)]; exact q2, IsL.mono (fun b' o' e' nn => kk b' o' e' fun z => nn (.inl z)) R6.ol (fun _ z _ => z) _ _ q3⟩
            · rcases z with z | z
              · by_cases hb : b' = p
                · subst hb; exact ⟨_, zT, trivial⟩
                · rw [zU hb]; exact R6.o0 b' (.inl z)
              · subst z; exact ⟨_, zT, trivial⟩
            · obtain ⟨a', kvs, q1, q2, q4, q3⟩ := R6.dct j ks m ej
              have ha' := no6 a' ⟨j, m, by rw [ej]; rfl, q1⟩
              exact ⟨a', kvs, q1, by rw [zU (by rw [ha']; exact hpa)]; exact q2, q4, IsL.mono (fun b' o' e' nn => kk b' o' e' fun z => nn (.inl z)) R6.ol (fun _ z _ => z) _ _ q3⟩
          · have i1 := IsL.mono k36 R3.o0 (fun _ z _ => z) _ _ (il2.same s3 R2.o0)
            have i2 : Is X.K O' H6 y u := Is.mono (zR.kp (zR.refl H6) _) R6.ol (fun a z _ => .inl z) _ _ iu
            exact IsL.mono kk R6.o0 (fun _ z _ => z) _ _ (i1.append (.cons i2 .nil))
        · have hl : l.drop k = [] := List.drop_eq_nil_of_le (by omega)
          rw [hl] at e6
          have e6' : some ([], r2) = some (rest, rE) := e6
          cases e6'
          rw [List.append_nil] at eo
          subst eo
          obtain ⟨c0, zs, q0, q1, q2⟩ := R2.own 0 L' (by rw [eL]; rfl)
          rw [hs2] at q0; cases q0
          obtain ⟨RE, kE⟩ := R1.put e4 ha kp2 (fun b _ => lv2 b) q1 (IsL.mono (zR.kp (zR.refl H2) _) R2.ol (fun b z _ => .inl (.inl z)) _ _ q2)
          refine .inl ⟨y2 (by omega), q _ H2 RE ((Kp.of_same r σ s1).trans kE) ?_⟩
          rw [Is.lst_iff]
          have np : ∀ b, Ow O0 r2' σ b -> Ow O0 r σ b := fun b z => z.imp id fun z => own_put e4 z
          exact ⟨p, ys, rfl, .inl ⟨fun z => hnO (np p z), .inl hp2⟩, IsL.mono (zR.kp (zR.refl H2) _) R2.o0 (fun b z _ => .inl (np b z)) _ _ il2⟩
    · cases e
  · cases e
theorem new_valX {K : Fg} {fx : En -> Option (D × En)} {j : Nat} {σ : St} {H : Hp} {Dn : Ends} (h : lS K (sSetX j fx) Dn σ H) : lX K fx σ H (fun v H1 => gName j v σ H1 Dn.nx) := by
  obtain ⟨O0, r, fl, hR, e, q⟩ := h
  obtain ⟨⟨d, r1⟩, e1, e2⟩ := bind_some e
  obtain ⟨r', e3, rfl⟩ := map_some e2
  obtain ⟨hl, np, rfl⟩ := setV_some e3
  refine ⟨O0, r, d, r1, hR, e1, fun v H1 R1 k1 i1 => ?_⟩
  obtain ⟨R2, k2⟩ := R1.setv hl np i1
  exact q _ H1 R2 (k1.trans k2)
theorem ds_compX (j : Nat) {y : Str} {py spos : Pos} (hc : X.calm = true) (o : CmpOk X N' [i] scope) (hi : DI X tg iter it) (hg : ∀ C fp s H, DG (cxC X N' scope C fp s H) tg bd) (he : ∀ C fp s H, DX (cxC X N' scope C fp s H) elt x)
    (hx : ∀ r d r', x r = some (d, r') -> ∀ σ b, OwnAt r' σ b -> OwnAt r σ b) (n : Nat) (hN : X.N.Nodup) (hn : N'.length = n := by rfl) (hy : X.N[j]? = some y := by rfl) (hxl : Loc X.env.scope y := by first | exact Or.inl rfl | exact Or.inr rfl) (hf : X.fn y = true \/ X.env.scope.names.lookup y = some .local := by first | exact .inl rfl | exact .inr rfl)
    (hsw : swapsWith (.ListComp elt [⟨tg, iter, [], 0⟩] scope pos) (some (.Name y py)) spos.line X.env = pure true := by rfl) (hs : ∀ x, foldedSetIterable iter X.env x = pure x := by intro _; rfl) :
    DS X (.Assign [.Name y py] (.ListComp elt [⟨tg, iter, [], 0⟩] scope pos) spos) (sSetX j (mCompX i n it bd x)) := by
  subst hn
  exact PS.conseq (ps_lcomp (i := j) (g := lG X.K bd) (te := lX X.K x) (tc := none) hc o hi hg rfl he hN hy hxl hf hsw hs) fun Dn σ H h => compX_read hx (new_valX h)
theorem pop_own {j : Nat} : ∀ r d r', mPop j r = some (d, r') -> ∀ σ b, OwnAt r' σ b -> OwnAt r σ b := fun r d r' e σ b h => by
  obtain ⟨l, _, e⟩ := bind_some e
  obtain ⟨d', _, e⟩ := bind_some e
  obtain ⟨r2, e3, e4⟩ := map_some e
  have : r2 = r' := congrArg Prod.snd e4
  subst this
  exact own_put e3 h
end
section
variable {X : Cx} {a : Expr} {es : List Expr} {f : ME} {pos p : Pos}
noncomputable abbrev MXA := En -> Option (List D × En)
noncomputable def lXA (K : Fg) (f : MXA) : TA := fun σ H Q => ∃ O0 r l r', R K O0 H r σ /\ f r = some (l, r') /\ ∀ vs H', R K O0 H' r' σ -> Kp H r σ H' r' σ -> IsL K (Ow O0 r' σ) H' l vs -> Q vs H'
noncomputable def DXA (X : Cx) (es : List Expr) (f : MXA) : Prop := PA X es (lXA X.K f)
noncomputable def xaLast (fx : En -> Option (D × En)) : MXA := fun r => (fx r).map fun p => ([p.1], p.2)
noncomputable def xaCons (f : ME) (z : MXA) : MXA := fun r => (f r).bind fun d => (z r).map fun q => (d :: q.1, q.2)
theorem dxa_last {fx : En -> Option (D × En)} (ha : DX X a fx) (hs : starEach [a] X.env = (false, eval a X.env) :: starEach [] X.env := by rfl) : DXA X [a] (xaLast fx) := by
  refine PA.conseq (pa_cons ha pa_nil hs) fun σ H Q hq => ?_
  obtain ⟨O0, r, l, r', hR, e, q⟩ := hq
  obtain ⟨⟨d, r1⟩, e1, e2⟩ := map_some e
  cases e2
  exact ⟨O0, r, d, r1, hR, e1, fun v H1 R1 k1 i1 => q [v] H1 R1 k1 (.cons i1 .nil)⟩
theorem Is.kp {K : Fg} {O0 : Addr -> Prop} {H H' : Hp} {r r' : En} {σ σ' : St} {d : D} {v : V} (hR : R K O0 H r σ) (k : Kp H r σ H' r' σ') (h : Is K (Ow O0 r σ) H d v) : Is K (Ow O0 r' σ') H' d v :=
  Is.mono (fun b o e nn => k.keep b o e fun z => nn (.inr z.own)) hR.ol (fun b z n => z.imp id fun z => (k.new b z).elim id fun z => absurd z n) _ _ h
theorem dxa_cons {z : MXA} (ha : DE X a f) (hr : DXA X es z) (hs : starEach (a :: es) X.env = (false, eval a X.env) :: starEach es X.env := by rfl) : DXA X (a :: es) (xaCons f z) := by
  refine PA.conseq (pa_cons ha hr hs) fun σ H Q hq => ?_
  obtain ⟨O0, r, l, r', hR, e, q⟩ := hq
  obtain ⟨d, e1, e⟩ := bind_some e
  obtain ⟨⟨l', r1⟩, e2, e3⟩ := map_some e
  cases e3
  refine ⟨O0, r, d, hR, e1, fun v H1 s1 i1 => ⟨O0, r, l', r1, hR.same s1, e2, fun vs H2 R2 k2 i2 => q (v :: vs) H2 R2 ((Kp.of_same r σ s1).trans k2) (.cons (Is.kp (hR.same s1) k2 i1) i2)⟩⟩
end
end DD
namespace ZZ
open PySem
noncomputable abbrev lI (t : Addr) : Obj := { cls := .type "list_iterator", data := .fields #[.ref t, .int 0 0] }
noncomputable abbrev zHM (h : Heap) (t u : Addr) : Heap := ((((h.push (tI t)).push (lI u)).push (tP (.ref h.objs.size) (.ref (h.push (tI t)).objs.size))).push (tP .none .none)).push (tZ ((h.push (tI t)).push (lI u)).objs.size (((h.push (tI t)).push (lI u)).push (tP (.ref h.objs.size) (.ref (h.push (tI t)).objs.size))).objs.size)
theorem znewM (t u : Addr) (xs ys : Array Value) : Meets (Builtin.«zip.__new__» ⟨[.type "zip", .ref t, .ref u], []⟩) (fun _ R s => s.heap.IsTuple t xs /\ s.heap.IsList u ys /\ R (.ok (.ret (.ref ((((s.heap.push (tI t)).push (lI u)).push (tP (.ref s.heap.objs.size) (.ref (s.heap.push (tI t)).objs.size))).push (tP .none .none)).objs.size))) { s with heap := zHM s.heap t u }) :=
  .of_wp fun prog w A R s h => by
    obtain ⟨hp, g, d, tk, os⟩ := s; obtain ⟨h1, h2, h⟩ := h
    have hsub := sub_zip
    have L1 : Heap.IsTuple (Shared.heap ⟨hp, g, d, tk, os⟩) t xs := h1
    have L2 : Heap.IsList (Shared.heap ⟨hp.push (tI t), g, d, tk, os⟩) u ys := h2.at fun o e => Heap.get?_push_of_some _ e
    wp_walk using wpAny_pyIter_tuple L1, wpAny_pyIter_list L2
    exact ⟨_, rfl, h⟩
section
variable {prog : Program} {w : World} {A : Around} {E : Value -> Shared -> Prop} {s : Shared}
theorem zcallM {t u : Addr} {xs ys : Array Value} {Q : Value -> Shared -> Prop} (h1 : s.heap.IsTuple t xs) (h2 : s.heap.IsList u ys)
    (h : ∀ g, IsZip g (s.heap.objs.size + 4) (s.heap.objs.size + 2) (s.heap.objs.size + 3) .none -> IsPair g (s.heap.objs.size + 2) (.ref s.heap.objs.size) (.ref (s.heap.objs.size + 1)) -> IsPair g (s.heap.objs.size + 3) .none .none ->
      g.IsTupleIter s.heap.objs.size t 0 -> g.IsListIter (s.heap.objs.size + 1) u 0 -> (∀ c o, s.heap.get? c = some o -> g.get? c = some o) -> Q (.ref (s.heap.objs.size + 4)) { s with heap := g }) :
    wpAny (model prog w) A (call (.type "zip") [.ref t, .ref u]) Q E s := by
  refine callType_new F.called_zip (by decide) (F.typeCall_zip_2 _ _) (F.newCall_zip_2 _ _) (fun obj => F.args_object_init_3 obj _ _) F.entry_zip_new (znewM t u xs ys) ⟨h1, h2, ?_⟩
  have z1 : (s.heap.push (tI t)).objs.size = s.heap.objs.size + 1 := Heap.size_push ..
  have z2 : ((s.heap.push (tI t)).push (lI u)).objs.size = s.heap.objs.size + 2 := by rw [Heap.size_push, z1]
  have z3 : (((s.heap.push (tI t)).push (lI u)).push (tP (.ref s.heap.objs.size) (.ref (s.heap.push (tI t)).objs.size))).objs.size = s.heap.objs.size + 3 := by rw [Heap.size_push, z2]
  have z4 : ((((s.heap.push (tI t)).push (lI u)).push (tP (.ref s.heap.objs.size) (.ref (s.heap.push (tI t)).objs.size))).push (tP .none .none)).objs.size = s.heap.objs.size + 4 := by rw [Heap.size_push, z3]
  have kp : ∀ c o, s.heap.get? c = some o -> (zHM s.heap t u).get? c = some o := fun c o x => Heap.get?_push_of_some _ (Heap.get?_push_of_some _ (Heap.get?_push_of_some _ (Heap.get?_push_of_some _ (Heap.get?_push_of_some _ x))))
  have g1 : (zHM s.heap t u).get? s.heap.objs.size = some (tI t) := Heap.get?_push_of_some _ (Heap.get?_push_of_some _ (Heap.get?_push_of_some _ (Heap.get?_push_of_some _ (Heap.get?_push_size _ rfl))))
  have g2 : (zHM s.heap t u).get? (s.heap.push (tI t)).objs.size = some (lI u) := Heap.get?_push_of_some _ (Heap.get?_push_of_some _ (Heap.get?_push_of_some _ (Heap.get?_push_size _ rfl)))
  have g3 : (zHM s.heap t u).get? ((s.heap.push (tI t)).push (lI u)).objs.size = some (tP (.ref s.heap.objs.size) (.ref (s.heap.push (tI t)).objs.size)) := Heap.get?_push_of_some _ (Heap.get?_push_of_some _ (Heap.get?_push_size _ rfl))
  have g4 : (zHM s.heap t u).get? (((s.heap.push (tI t)).push (lI u)).push (tP (.ref s.heap.objs.size) (.ref (s.heap.push (tI t)).objs.size))).objs.size = some (tP .none .none) := Heap.get?_push_of_some _ (Heap.get?_push_size _ rfl)
  have g5 : (zHM s.heap t u).get? ((((s.heap.push (tI t)).push (lI u)).push (tP (.ref s.heap.objs.size) (.ref (s.heap.push (tI t)).objs.size))).push (tP .none .none)).objs.size = some (tZ ((s.heap.push (tI t)).push (lI u)).objs.size (((s.heap.push (tI t)).push (lI u)).push (tP (.ref s.heap.objs.size) (.ref (s.heap.push (tI t)).objs.size))).objs.size) := Heap.get?_push_size _ rfl
  rw [z4] at g5 ⊢
  rw [z3] at g4 g5
  rw [z2] at g3 g5
  rw [z1] at g2 g3
  exact ⟨⟨_, g5, rfl⟩, h _ g5 g3 g4 ⟨_, g1, rfl, rfl⟩ ⟨_, g2, rfl, rfl⟩ kp⟩
end
end ZZ
namespace DD
open PySem PySem.Spec PyProof.Rows L2
noncomputable def ItZ2 (sq sq' : Hp -> Addr -> List V -> Prop) (a b : Addr) : It :=
  ⟨fun i H => ∃ xs ys x y, sq H a xs /\ sq' H b ys /\ xs[i]? = some x /\ ys[i]? = some y, fun i H x H' => ∃ T u v, x = .ref T /\ H T = none /\ H' = upd H T (.tup [u, v]) /\ (∀ xs, sq H a xs -> xs[i]? = some u) /\ ∀ ys, sq' H b ys -> ys[i]? = some v, fun i H => ∃ xs ys, sq H a xs /\ sq' H b ys /\ (xs.length = i \/ (i < xs.length /\ ys.length = i))⟩
theorem turn_zip2 {P : Program} {w : World} {K : Fg} {elts : List Expr} {k : Nat} {tp : Pos} {sq : Hp -> Addr -> List V -> Prop} {isI : Heap -> Addr -> Addr -> Nat -> Prop} {nm : String} (W : Dw K sq isI nm) {sq' : Hp -> Addr -> List V -> Prop} {isI' : Heap -> Addr -> Addr -> Nat -> Prop} {nm' : String} (W' : Dw K sq' isI' nm') (a b z p q i j : Addr) (ap : ZA z p q i j) :
    Turn P w K (.Tuple elts k tp) (ItZ2 sq sq' a b) [z, p, q, i, j] z (fun n h => IsZip h z p q .none /\ IsPair h p (.ref i) (.ref j) /\ (∃ u v, IsPair h q u v) /\ isI h i a n /\ isI' h j b n) where
  mem := by simp
  obj := fun n h st c hc => by
    obtain ⟨h1, h2, ⟨u, v, h3⟩, h4, h5⟩ := st
    obtain ⟨oi, ei, vi, di⟩ := W.it h4
    obtain ⟨oj, ej, vj, dj⟩ := W'.it h5
    have hc' : c = z \/ c = p \/ c = q \/ c = i \/ c = j := by simpa using hc
    rcases hc' with rfl | rfl | rfl | rfl | rfl
    · exact ⟨_, h1, fun v z => by cases z⟩
    · exact ⟨_, h2, fun v z => by cases z⟩
    · exact ⟨_, h3, fun v z => by cases z⟩
    · exact ⟨_, ei, fun v z => by rw [di] at z; cases z⟩
    · exact ⟨_, ej, fun v z => by rw [dj] at z; cases z⟩
  keep := fun n h g st kp => by
    obtain ⟨h1, h2, ⟨u, v, h3⟩, h4, h5⟩ := st
    exact ⟨kp z (by simp) _ h1, kp p (by simp) _ h2, ⟨u, v, kp q (by simp) _ h3⟩, W.at_ h4 fun o e => kp i (by simp) o e, W'.at_ h5 fun o e => kp j (by simp) o e⟩
  item := by
    intro X hP hw hK hc n pins s σ H E I hf st hg
    subst hP hw
    obtain ⟨xs, ys, x, y, hx, hy, ex, ey⟩ := hg
    obtain ⟨its, rv, hzx, oa, ea, ca, na, da⟩ := W.get hK I hx
    obtain ⟨its2, rv2, hzy, ob, eb, cb, nb, db⟩ := W'.get hK I hy
    obtain ⟨u, hu, ru⟩ := rv.get ex
    obtain ⟨v, hv, rw'⟩ := rv2.get ey
    obtain ⟨h1, h2, ⟨u0, v0, h3⟩, h4, h5⟩ := st
    have fa : ∀ c ∈ [z, p, q, i, j], a ≠ c := fun c hc => W.ne hK I hx (hf c hc)
    have fb : ∀ c ∈ [z, p, q, i, j], b ≠ c := fun c hc => W'.ne hK I hy (hf c hc)
    have hn : n < its.toArray.size := by obtain ⟨q', _⟩ := List.getElem?_eq_some_iff.mp hu; simpa using q'
    have hm : n < its2.toArray.size := by obtain ⟨q', _⟩ := List.getElem?_eq_some_iff.mp hv; simpa using q'
    have ap' : ZZ.Ap z p q i j [i, a] [j, b] := ⟨ap.pz, ap.qz, ap.iz, ap.jz, ap.pq, ap.pi, ap.pj, ap.qi, ap.qj, ap.ij,
      by simp; exact ⟨ap.iz.symm, (fa z (by simp)).symm⟩, by simp; exact ⟨ap.qi, (fa q (by simp)).symm⟩, by simp; exact ⟨ap.ij.symm, (fa j (by simp)).symm⟩, by simp; exact ⟨ap.jz.symm, (fb z (by simp)).symm⟩, by simp; exact ⟨ap.qj, (fb q (by simp)).symm⟩, by simp; exact ⟨ap.ij, (fb i (by simp)).symm⟩⟩
    refine ZZ.znextI (W.dr (A := X.A.in1) (I.ok.hd hc) i a (fa i (by simp)) its.toArray) (W'.dr (A := X.A.in1) (I.ok.hd hc) j b (fb j (by simp)) its2.toArray) ap' h1 h2 h3 ⟨h4, oa, ea, ca, na, da⟩ ⟨h5, ob, eb, cb, nb, db⟩ hn hm fun x' y' g tk px py z1 q1 s1 u1 t1 sz kp => ⟨_, rfl, ?_⟩
    refine wpAny_letOwnedTupleGo_zip z1 fun g2 z2 sb => ?_
    have hx' : x' = u := by
      have : its[n]? = some x' := by simpa using px
      rw [hu] at this; exact (Option.some.inj this).symm
    have hy' : y' = v := by
      have : its2[n]? = some y' := by simpa using py
      rw [hv] at this; exact (Option.some.inj this).symm
    subst hx' hy'
    have zl : z < s.heap.objs.size := Heap.lt_size h1
    have kp2 : ∀ c o, c ∉ [z, q, i, j] -> s.heap.get? c = some o -> g2.get? c = some o := fun c o hc e => by
      simp at hc
      exact sb.extBut _ _ hc.1 (kp c o hc.1 hc.2.1 hc.2.2.1 hc.2.2.2 e)
    have isT : IsTup g2 s.heap.objs.size #[x', y'] := ⟨_, sb.extBut _ _ (Nat.ne_of_gt zl) t1, rfl, _, rfl⟩
    have hf' : ∀ c ∈ [z, q, i, j], FpOk X pins H c := fun c hc => hf c (by simp at hc ⊢; rcases hc with h | h | h | h <;> simp [h])
    refine ⟨.ref s.heap.objs.size, upd H s.heap.objs.size (.tup [x, y]), inv_drew (s := s) (t' := tk) I (its := [x', y']) (ch := [z, q, i, j]) hf' (Nat.le_refl _) kp2 (by show 2 <= sizeLine; decide) (.cons ru (.cons rw' .nil)) isT, rfl, ⟨_, x, y, rfl, I.hok.fresh (Nat.le_refl _), rfl, fun zs hzs => by rw [W.inj hK I hzs hx]; exact ex, fun zs hzs => by rw [W'.inj hK I hzs hy]; exact ey⟩, ?_, fun c hc => ?_⟩
    · refine ⟨z2, sb.extBut _ _ ap.pz (kp p _ ap.pz ap.pq ap.pi ap.pj h2), ⟨_, _, sb.extBut _ _ ap.qz q1⟩, W.at_ s1.1 fun o e => sb.extBut _ _ ap.iz e, W'.at_ u1.1 fun o e => sb.extBut _ _ ap.jz e⟩
    · have hlt : c < s.heap.objs.size := by
        obtain ⟨oi, ei, _⟩ := W.it h4
        obtain ⟨oj, ej, _⟩ := W'.it h5
        simp at hc
        rcases hc with rfl | rfl | rfl | rfl | rfl
        · exact zl
        · exact Heap.lt_size h2
        · exact Heap.lt_size h3
        · exact Heap.lt_size ei
        · exact Heap.lt_size ej
      rw [zU (Nat.ne_of_lt hlt)]
      exact (hf c hc).1
  done := by
    intro X hP hw hK hc n pins s σ H E I hf st hg
    subst hP hw
    obtain ⟨xs, ys, hx, hy, hl⟩ := hg
    obtain ⟨its, rv, hzx, oa, ea, ca, na, da⟩ := W.get hK I hx
    obtain ⟨its2, rv2, hzy, ob, eb, cb, nb, db⟩ := W'.get hK I hy
    obtain ⟨h1, h2, ⟨u0, v0, h3⟩, h4, h5⟩ := st
    have fa : ∀ c ∈ [z, p, q, i, j], a ≠ c := fun c hc => W.ne hK I hx (hf c hc)
    have fb : ∀ c ∈ [z, p, q, i, j], b ≠ c := fun c hc => W'.ne hK I hy (hf c hc)
    have e1 := rv.length
    have e2 := rv2.length
    have ap' : ZZ.Ap z p q i j [i, a] [j, b] := ⟨ap.pz, ap.qz, ap.iz, ap.jz, ap.pq, ap.pi, ap.pj, ap.qi, ap.qj, ap.ij,
      by simp; exact ⟨ap.iz.symm, (fa z (by simp)).symm⟩, by simp; exact ⟨ap.qi, (fa q (by simp)).symm⟩, by simp; exact ⟨ap.ij.symm, (fa j (by simp)).symm⟩, by simp; exact ⟨ap.jz.symm, (fb z (by simp)).symm⟩, by simp; exact ⟨ap.qj, (fb q (by simp)).symm⟩, by simp; exact ⟨ap.ij, (fb i (by simp)).symm⟩⟩
    have hf' : ∀ c ∈ [z, q, i, j], FpOk X pins H c := fun c hc => hf c (by simp at hc ⊢; rcases hc with h | h | h | h <;> simp [h])
    refine ZZ.znextE (W.dr (A := X.A.in1) (I.ok.hd hc) i a (fa i (by simp)) its.toArray) (W'.dr (A := X.A.in1) (I.ok.hd hc) j b (fb j (by simp)) its2.toArray) ap' h1 h2 h3 ⟨h4, oa, ea, ca, na, da⟩ ⟨h5, ob, eb, cb, nb, db⟩ ?_ fun g tk kp => ⟨rfl, inv_turnL I hf' fun c o hc e => ?_⟩
    · simp only [List.size_toArray]
      rcases hl with h | ⟨h, h'⟩
      · left; omega
      · right; omega
    · simp at hc
      exact kp c o hc.1 hc.2.1 hc.2.2.1 hc.2.2.2 e
  self := fun _ _ _ _ _ st h => wpAny_pyIter_zip st.1 h
theorem yl_zip2 {K : Fg} {O M : Addr -> Prop} {sq sq' : Hp -> Addr -> List V -> Prop} (mo : ∀ a, M a -> O a) {H : Hp} {u v : Addr} {xs ys : List V} {l m : List D} (ol : OLst O H) (kx : ∀ H1, Keep M H H1 -> sq H1 u xs) (ky : ∀ H1, Keep M H H1 -> sq' H1 v ys)
    (il : IsL K O H l xs) (im : IsL K O H m ys) : Ylds K O M H (ItZ2 sq sq' u v) (zipD l m) := by
  intro i H1 O' kp oo
  have kp' : Keep O H H1 := fun b o e n => kp b o e fun z => n (mo b z)
  have hlen : (zipD l m).length = min l.length m.length := by simp [zipD]
  refine ⟨fun hi => ⟨?_, fun x H' y => ?_⟩, fun hi => ⟨xs, ys, kx H1 kp, ky H1 kp, ?_⟩⟩
  · obtain ⟨d, e⟩ := get_of_lt hi
    obtain ⟨dx, dy, e1, e2, _⟩ := zip_get e
    obtain ⟨vx, q1, _⟩ := il.get e1
    obtain ⟨vy, q2, _⟩ := im.get e2
    exact ⟨xs, ys, vx, vy, kx H1 kp, ky H1 kp, q1, q2⟩
  · obtain ⟨T, p, q, rfl, nT, rfl, h1, h2⟩ := y
    refine ⟨zW nT, fun d e => ?_⟩
    obtain ⟨dx, dy, e1, e2, rfl⟩ := zip_get e
    obtain ⟨vx, q1, i1⟩ := il.get e1
    obtain ⟨vy, q2, i2⟩ := im.get e2
    have p1 := h1 xs (kx H1 kp)
    have p2 := h2 ys (ky H1 kp)
    rw [q1] at p1; rw [q2] at p2
    cases p1; cases p2
    have kk : Keep O H (upd H1 T (.tup [p, q])) := fun b o e' n => by
      have := kp' b o e' n
      rw [zU (ne_of_none this nT)]; exact this
    rw [Is.tup_iff]
    exact ⟨T, _, rfl, SqT.of zT, .cons (Is.mono kk ol oo _ _ i1) (.cons (Is.mono kk ol oo _ _ i2) .nil)⟩
  · have e1 := il.length
    have e2 := im.length
    rw [hlen] at hi
    omega
section
variable {X : Cx} {a b : Expr} {f g : ME} {p pos : Pos} {elts : List Expr} {k : Nat} {tp : Pos}
noncomputable def tZipA (K : Fg) (ta tb : TE) : TI := fun σ H R => ta σ H fun x H1 => tb σ H1 fun y H2 => ∃ u v, x = .ref u /\ y = .ref v /\
  (((∃ xs, SqL K H2 u xs) /\ (∃ ys, SqL K H2 v ys) /\ R (ItZ (SqL K) u v) H2) \/ ((∃ xs, SqT K H2 u xs) /\ (∃ ys, SqT K H2 v ys) /\ R (ItZ (SqT K) u v) H2) \/ ((∃ xs, SqT K H2 u xs) /\ (∃ ys, SqL K H2 v ys) /\ R (ItZ2 (SqT K) (SqL K) u v) H2))
theorem pi_zipA {ta tb : TE} (hg : Gl X "zip") (hm : X.mg "zip" = none) (ha : PE X a ta) (hb : PE X b tb) (hs : starEach [a, b] X.env = [(false, eval a X.env), (false, eval b X.env)] := by rfl) (hs2 : starEach [b] X.env = [(false, eval b X.env)] := by rfl) :
    PI X (.Tuple elts k tp) (.Call (.Name "zip" p) [a, b] [] pos) (tZipA X.K ta tb) := by
  intro pins s σ H R I h
  have hA : PA X [a, b] (tCons ta (tCons tb tNil)) := pa_cons ha (pa_cons hb pa_nil (by rw [hs2]; rfl)) (by rw [hs, hs2])
  refine Call_ (ld_blt I hg hm PyProof.Rows.boot_zip (PyProof.Rows.callWith_type1 (thn (hA pos pins s σ H (z2 fun x y H2 => ∃ u v, x = .ref u /\ y = .ref v /\ (((∃ xs, SqL X.K H2 u xs) /\ (∃ ys, SqL X.K H2 v ys) /\ R (ItZ (SqL X.K) u v) H2) \/ ((∃ xs, SqT X.K H2 u xs) /\ (∃ ys, SqT X.K H2 v ys) /\ R (ItZ (SqT X.K) u v) H2) \/ ((∃ xs, SqT X.K H2 u xs) /\ (∃ ys, SqL X.K H2 v ys) /\ R (ItZ2 (SqT X.K) (SqL X.K) u v) H2))) I h) fun us s1 ⟨vs, H1, I1, r1, q1⟩ => ?_) (by rw [hs, hs2]) (by rw [hs2]; rfl)))
  obtain ⟨_, _, rfl, u, v, rfl, rfl, q5⟩ := z2_inv q1
  obtain ⟨uu, vv, rfl, ru, rv⟩ := yD.two r1
  cases ru
  cases rv
  have fp5 : ∀ b ∈ [s1.heap.objs.size + 4, s1.heap.objs.size + 2, s1.heap.objs.size + 3, s1.heap.objs.size, s1.heap.objs.size + 1], FpOk X pins H1 b := fun b hb => by
    have hle : s1.heap.objs.size <= b := by
      simp only [List.not_mem_nil, List.mem_cons, or_false] at hb
      rcases hb with h | h | h | h | h
      · rw [h]; exact Nat.le_add_right _ _
      · rw [h]; exact Nat.le_add_right _ _
      · rw [h]; exact Nat.le_add_right _ _
      · rw [h]; exact Nat.le_refl _
      · rw [h]; exact Nat.le_add_right _ _
    exact I1.fpOk hle (I1.hok.fresh hle)
  rcases q5 with q2 | q2 | q2
  · obtain ⟨⟨xs, hx⟩, ⟨ys, hy⟩, q⟩ := q2
    obtain ⟨its, _, pl, _⟩ := I1.list hx
    obtain ⟨its2, _, pl2, _⟩ := I1.list hy
    refine call_zip_2 pl.isList pl2.isList fun h' z1 z2 z3 z4 z5 _ kp => wpAny_pyIter_zip z1 ?_
    exact ⟨_, _, _, _, H1, rfl, I1.kept (t' := s1.toks) kp, turn_zip (dw_list X.K) u v _ _ _ _ _ (za5 _), ⟨z1, z2, ⟨_, _, z3⟩, z4, z5⟩, fp5, q⟩
  · obtain ⟨⟨xs, hx⟩, ⟨ys, hy⟩, q⟩ := q2
    obtain ⟨its, _, pl, _⟩ := I1.tuple hx
    obtain ⟨its2, _, pl2, _⟩ := I1.tuple hy
    refine ZZ.zcall pl pl2 fun h' z1 z2 z3 z4 z5 kp => wpAny_pyIter_zip z1 ?_
    exact ⟨_, _, _, _, H1, rfl, I1.kept (t' := s1.toks) kp, turn_zip (dw_tup X.K) u v _ _ _ _ _ (za5 _), ⟨z1, z2, ⟨_, _, z3⟩, z4, z5⟩, fp5, q⟩
  · obtain ⟨⟨xs, hx⟩, ⟨ys, hy⟩, q⟩ := q2
    obtain ⟨its, _, pl, _⟩ := I1.tuple hx
    obtain ⟨its2, _, pl2, _⟩ := I1.list hy
    refine ZZ.zcallM pl pl2.isList fun h' z1 z2 z3 z4 z5 kp => wpAny_pyIter_zip z1 ?_
    exact ⟨_, _, _, _, H1, rfl, I1.kept (t' := s1.toks) kp, turn_zip2 (dw_tup X.K) (dw_list X.K) u v _ _ _ _ _ (za5 _), ⟨z1, z2, ⟨_, _, z3⟩, z4, z5⟩, fp5, q⟩
noncomputable def mZipA (f g : ME) : ML := fun r => (f r).bind fun d => (g r).bind fun e => match d, e with
  | .lst l, .lst m => some (zipD l m)
  | .tup l, .tup m => some (zipD l m)
  | .tup l, .lst m => some (zipD l m)
  | _, _ => none
theorem di_zipA (hg : Gl X "zip") (hm : X.mg "zip" = none) (ha : DE X a f) (hb : DE X b g) (hs : starEach [a, b] X.env = [(false, eval a X.env), (false, eval b X.env)] := by rfl) (hs2 : starEach [b] X.env = [(false, eval b X.env)] := by rfl) :
    DI X (.Tuple elts k tp) (.Call (.Name "zip" p) [a, b] [] pos) (mZipA f g) := by
  refine PI.conseq (pi_zipA hg hm ha hb hs hs2) fun σ H Rr hq => ?_
  obtain ⟨O0, r, ds, hR, e, q⟩ := hq
  obtain ⟨x, e1, e⟩ := bind_some e
  obtain ⟨y, e2, e⟩ := bind_some e
  refine ⟨O0, r, x, hR, e1, fun v1 H1 s1 i1 => ⟨O0, r, y, hR.same s1, e2, fun v2 H2 s2 i2 => ?_⟩⟩
  have R2 := hR.same (s1.trans s2)
  have i1' := i1.same s2 (hR.same s1).ol
  have mo : ∀ a, MutAt r σ a -> Ow O0 r σ a := fun a z => .inr z.own
  cases x <;> first | (simp only [reduceCtorEq] at e; done) | skip
  all_goals cases y <;> first | (simp only [reduceCtorEq] at e; done) | skip
  · simp only [Option.some.injEq] at e
    subst e
    rw [Is.tup_iff] at i1' i2
    obtain ⟨u, xs, rfl, hx, il⟩ := i1'
    obtain ⟨v, ys, rfl, hy, im⟩ := i2
    exact ⟨u, v, rfl, rfl, .inr (.inl ⟨⟨xs, hx⟩, ⟨ys, hy⟩, q _ H2 (s1.trans s2) (yl_zip mo R2.ol (keepT mo R2.ol hx) (keepT mo R2.ol hy) il im)⟩)⟩
  · simp only [Option.some.injEq] at e
    subst e
    rw [Is.tup_iff] at i1'
    rw [Is.lst_iff] at i2
    obtain ⟨u, xs, rfl, hx, il⟩ := i1'
    obtain ⟨v, ys, rfl, hy, im⟩ := i2
    exact ⟨u, v, rfl, rfl, .inr (.inr ⟨⟨xs, hx⟩, ⟨ys, hy.sq⟩, q _ H2 (s1.trans s2) (yl_zip2 mo R2.ol (keepT mo R2.ol hx) (keepL mo hy) il im)⟩)⟩
  · simp only [Option.some.injEq] at e
    subst e
    rw [Is.lst_iff] at i1' i2
    obtain ⟨u, xs, rfl, hx, il⟩ := i1'
    obtain ⟨v, ys, rfl, hy, im⟩ := i2
    exact ⟨u, v, rfl, rfl, .inl ⟨⟨xs, hx.sq⟩, ⟨ys, hy.sq⟩, q _ H2 (s1.trans s2) (yl_zip mo R2.ol (keepL mo hx) (keepL mo hy) il im)⟩⟩
end
open PySem PySem.Spec PyProof.Rows L2 PySem.W
open PySem PySem.Spec PyProof.Rows L2 PySem.W
open PySem PySem.Spec PyProof.Rows L2 PySem.W
open PySem PySem.Spec PyProof.Rows L2 PySem.W
open PySem PySem.Spec PyProof.Rows L2 PySem.W
open PySem PySem.Spec PyProof.Rows L2 PySem.W PySem.Calls Builtin Builtin.ObjectAttr Builtin.Getset_descriptor
open PySem PySem.Spec PyProof.Rows L2 PySem.W
open PySem PySem.Spec PyProof.Rows L2 PySem.W
open PySem PySem.Spec PyProof.Rows L2 PySem.W
open PySem PySem.Spec PyProof.Rows L2 PySem.W
noncomputable def mulS : D -> D -> Option D
  | .str [c], .int n => if 0 <= n /\ n <= 1000 then some (.str (List.replicate n.toNat c)) else none
  | _, _ => none
theorem mul_one (c : Nat) (n : Int) (h : 0 <= n) : Txt.mul ⟨#[c]⟩ n = ⟨(List.replicate n.toNat c).toArray⟩ := by
  obtain ⟨k, rfl⟩ := Int.eq_ofNat_of_zero_le h
  have fo : ∀ (k : Nat) (a : Array Nat), (List.replicate k #[c]).foldl (· ++ ·) a = a ++ (List.replicate k c).toArray := by
    intro k
    induction k with
    | zero => intro a; simp
    | succ k ih =>
      intro a
      rw [List.replicate_succ, List.foldl_cons, ih, List.replicate_succ]
      apply Array.toList_inj.mp
      simp
  unfold Txt.mul
  split
  · rename_i hk
    have : k = 0 := by omega
    subst this
    rfl
  · split
    · rename_i hk
      have : k = 1 := by
        have z : ((⟨#[c]⟩ : Str).length == 0) = false := rfl
        rw [z, Bool.or_false, beq_iff_eq] at hk
        omega
      subst this
      rfl
    · show (⟨(List.replicate (k : Int).toNat #[c]).foldl (· ++ ·) #[]⟩ : Str) = _
      rw [fo]
      simp
noncomputable def rMulS : R2 := fun x y H Q => ∃ (c : Nat) (n : Int), x = .str ⟨#[c]⟩ /\ y = .int n /\ 0 <= n /\ n <= 1000 /\ Q (.str ⟨(List.replicate n.toNat c).toArray⟩) H
theorem op_mulS {X : Cx} : OpR X (binaryOp .Mult) rMulS := by
  intro pins s σ H x y v u Q I rx ry hq
  obtain ⟨c, n, rfl, rfl, h0, h1, q⟩ := hq
  obtain ⟨k, rfl⟩ := rx
  obtain ⟨k', rfl⟩ := ry
  refine SB.mul ⟨?_, fun _ _ => ?_, fun _ _ => ?_⟩ fun t' k => ?_
  · simp only [Bool.or_eq_false_iff, decide_eq_false_iff_not]; omega
  · show ¬ ((1 : Nat) : Int) > _
    have : (1 : Int) <= (2 ^ 63 - 1) / n := by
      rename_i hn _
      exact (Int.le_ediv_iff_mul_le (by omega)).mpr (by omega)
    omega
  · show Builtin.Str.tooLong (1 * n.toNat) = false
    unfold Builtin.Str.tooLong
    have : n.toNat <= 1000 := by omega
    simp only [decide_eq_false_iff_not, Nat.one_mul]
    have : (1000 : Nat) <= sizeLine := by decide
    omega
  · rw [mul_one c n h0]
    exact ⟨.str _, H, I.tok _, ⟨_, rfl⟩, q⟩
theorem od_mulS {K : Fg} : OpD K rMulS mulS := by
  intro O H dx dy d vx vy Q ol ix iy e q
  unfold mulS at e
  split at e
  · rename_i c n
    split at e
    · rename_i hh
      cases e
      rw [Is.str_iff] at ix
      rw [Is.int_iff] at iy
      exact ⟨c, n, ix, iy, hh.1, hh.2, q _ H (zR.refl H) (by rw [Is.str_iff])⟩
    · cases e
  · cases e
open PySem PySem.Spec PyProof.Rows L2 PySem.W
open PySem PySem.Spec PyProof.Rows L2 PySem.W
section
variable {P : Program} {w : World} {K : Fg} {mg : Str -> Option Value} {base : Heap} {N : List Str} {qual : Str} {scope : Scope} {f0 : Addr} {cd : Value} {A : Around} {outer : List Env} {s : Shared} {H : Hp} {E : XK}
variable {k n : Nat} {fa : Addr} {fd : FuncData} {ps : List Str} {m : List Sl -> Option Str} {x : Str} {p pos : Pos} {a : Expr} {es : List Expr} {fs : ML}
end
open PySem PySem.Spec PyProof.Rows L2 PySem.W
open PySem PySem.Spec PyProof.Rows L2 PySem.W
open PySem PySem.Spec PyProof.Rows L2 PySem.W
open PySem PySem.Spec PyProof.Rows L2 PySem.W
open PySem PySem.Spec PyProof.Rows L2 PySem.W
open PySem PySem.Spec PyProof.Rows L2 PySem.W
section
variable {X : Cx} {es : List Expr} {pos : Pos}
noncomputable def mTupX (z : MXA) : En -> Option (D × En) := fun r => (z r).bind fun q => if q.1.length <= sizeLine then some (.tup q.1, q.2) else none
theorem dx_tup {x1} {z : MXA} (h : DXA X es z) : DX X (.Tuple es x1 pos) (mTupX z) := by
  refine PE.conseq (pe_tup h) fun σ H Q h => ?_
  obtain ⟨O0, r, d, r', hR, e, q⟩ := h
  obtain ⟨⟨l, r1⟩, e1, e2⟩ := bind_some e
  split at e2
  · rename_i hl
    cases e2
    refine ⟨O0, r, l, r1, hR, e1, fun vs H1 R1 k1 i1 => ⟨by rw [<- i1.length]; exact hl, fun p hp => ?_⟩⟩
    refine q _ _ (R1.same (zW hp)) (k1.trans (Kp.of_same r1 σ (zW hp))) ?_
    rw [Is.tup_iff]
    exact ⟨p, vs, rfl, SqT.of zT, i1.same (zW hp) R1.ol⟩
  · cases e2
end
open PySem PySem.Spec PyProof.Rows L2 PySem.W
structure KOut (ks : List Str) (vs : List Value) (out : List Value) : Prop where
  ex : ∃ ps : List (Str × Value), ps.Perm (ks.zip vs) /\ out = ps.map (·.2) /\ ps.Pairwise fun p q => ¬ q.1.cps.toList < p.1.cps.toList
theorem zip_keys {keys : List Value} {ks : List Str} (hS : StrsAre keys ks) (vs : List Value) : (keys.zip vs).map (fun p => (strOf p.1, p.2)) = ks.zip vs := by
  rw [<- hS.strs, List.zip_map_left]; rfl
theorem ksort_out {keys : Array Value} {ks : List Str} {vs : List Value} (hS : StrsAre keys.toList ks) {xs : Array Keyed} (hp : xs.Perm (keys.zip vs.toArray)) (hs : SortedToK strKind xs xs.size) : KOut ks vs (xs.map (·.2)).toList := by
  have hl : xs.toList.Perm (keys.toList.zip vs) := by
    have := Array.perm_iff_toList_perm.mp hp
    rwa [ksk_zip] at this
  have hmem : ∀ p ∈ xs.toList, ∃ x t, p.1 = .str x t := fun p h => hS.all _ (List.of_mem_zip (hl.mem_iff.mp h)).1
  refine ⟨xs.toList.map (fun p => (strOf p.1, p.2)), ?_, ?_, ?_⟩
  · have := hl.map fun p : Keyed => (strOf p.1, p.2)
    rwa [zip_keys hS] at this
  · rw [Array.toList_map, List.map_map]; rfl
  · (rw [List.pairwise_iff_getElem])
    intro i j hi hj hij
    (have hi' : i < xs.size := by simpa using hi)
    (have hj' : j < xs.size := by simpa using hj)
    have h1 := hs i j (Nat.le_of_lt hij) hj'
    obtain ⟨x, t, ex⟩ := hmem xs[i] (by simp)
    obtain ⟨y, u, ey⟩ := hmem xs[j] (by simp)
    (rw [KK_str hi' (x := x) (t := t) (q := xs[i].2) (Prod.ext ex rfl), KK_str hj' (x := y) (t := u) (q := xs[j].2) (Prod.ext ey rfl)] at h1)
    have h2 : ¬ y.cps.toList < x.cps.toList := of_decide_eq_false h1
    (simp only [List.getElem_map, Array.getElem_toList])
    rw [show strOf xs[i].1 = x by rw [ex]; rfl, show strOf xs[j].1 = y by rw [ey]; rfl]
    exact h2
section
variable {prog : Program} {w : World} {A : Around} {E : Value -> Shared -> Prop} {s : Shared} {P : PySem.Fin -> Shared -> Prop}
theorem ksort_tail {st : SortSt} {a kS : Addr} {keys : Array Value} {ks : List Str} {vs : List Value} {e e1 : Nat} (na : s.heap.get? a = some (seqObj "list" #[] e1)) (nk : s.heap.get? kS = some (seqObj "list" keys e)) (hka : kS ≠ a)
    (hk : StrsAre keys.toList ks) (hlen : keys.size = vs.length) (h64 : vs.length < 64) (hp : (arrOf st).Perm (keys.zip vs.toArray)) (hs : SortedToK strKind (arrOf st) (arrOf st).size) (hfl : failedOf st = none)
    (h : ∀ out, KOut ks vs out.toList -> out.size = vs.length -> P (.done (.ret .none)) { s with heap := (s.heap.update kS (Obj.mapSeq fun _ => (#[] : Array Value))).update a (Obj.mapSeq fun _ => out) }) :
    wpAny (model prog w) A (ksk_tail a false e1 (.ref kS) st) P E s := by
  have hsz2 : (arrOf st).size = vs.length := by rw [hp.size_eq, Array.size_zip, hlen, List.size_toArray, Nat.min_self]
  have hout : ((arrOf st).map (·.2)).size = vs.length := by rw [Array.size_map]; exact hsz2
  (have s1 := Heap.SameBut.update s.heap kS (Obj.mapSeq fun _ => (#[] : Array Value)))
  have na1 : (s.heap.update kS (Obj.mapSeq fun _ => (#[] : Array Value))).get? a = some (seqObj "list" #[] e1) := (s1.2 a hka.symm).trans na
  unfold ksk_tail
  try dsimp only
  refine wpAny_bind (listUpdate_at nk rfl ?_ (by rw [hlen, sizeLine_eq]; omega) (Nat.zero_le _))
  refine wpAny_bind (wpAny_letGo ?_)
  (refine wpAny_bind (seqEpoch_at na1 rfl ?_))
  (refine wpAny_bind (listUpdate_at na1 rfl ?_ (Nat.zero_le _) (Nat.le_trans (Nat.le_of_eq hout) (by rw [sizeLine_eq]; omega))))
  rw [hfl]
  (simp only [bne_self_eq_false, Bool.false_eq_true, if_false])
  exact wpAny_pure (h _ (ksort_out hk hp hs) hout)
end
open PySem PySem.Spec PyProof.Rows L2 PySem.W
section
variable {prog : Program} {w : World} {A : Around} {E : Value -> Shared -> Prop} {s : Shared} {P : PySem.Fin -> Shared -> Prop} {a kS : Addr} {vs : List Value} {ks : List Str} {e1 : Nat}
theorem kstr_keys {keys : Array Value} {vs : List Value} {ks : List Str} (hS : StrsAre keys.toList ks) : KeysOf strKind (keys.zip vs.toArray) := by
  intro p hp
  rw [ksk_zip] at hp
  obtain ⟨x, t, e⟩ := hS.all _ (List.of_mem_zip (show (p.1, p.2) ∈ _ from hp)).1
  (exact ⟨x.cps.toList, by rw [e]⟩)
theorem kstr_kind {keys : Array Value} {ks : List Str} (hS : StrsAre keys.toList ks) (h2 : 2 <= keys.size) : keyKind' keys = pure oneType' := by
  obtain ⟨v1, v2, rest, e⟩ : ∃ v1 v2 rest, keys.toList = v1 :: v2 :: rest := by
    (have hl : 2 <= keys.toList.length := by rw [Array.length_toList]; exact h2)
    match q : keys.toList, hl with
    | v1 :: v2 :: rest, _ => exact ⟨v1, v2, rest, rfl⟩
  have ek : keys = (v1 :: v2 :: rest).toArray := by rw [<- e, Array.toArray_toList]
  rw [e] at hS
  rw [ek]
  exact keyKind_strs hS
theorem ksort_end {keys : Array Value} {e : Nat} (na : s.heap.get? a = some (seqObj "list" #[] e1)) (nk : s.heap.get? kS = some (seqObj "list" keys e)) (hka : kS ≠ a)
    (hk : StrsAre keys.toList ks) (hlen : keys.size = vs.length) (h64 : vs.length < 64)
    (h : ∀ out, KOut ks vs out.toList -> out.size = vs.length -> P (.done (.ret .none)) { s with heap := (s.heap.update kS (Obj.mapSeq fun _ => (#[] : Array Value))).update a (Obj.mapSeq fun _ => out) }) :
    wpAny (model prog w) A (ksk_end a false vs.toArray e1 (.ref kS) keys) P E s := by
  have hzs : (keys.zip vs.toArray).size = vs.length := by rw [Array.size_zip, hlen, List.size_toArray, Nat.min_self]
  unfold ksk_end
  try dsimp only
  rw [if_neg (by decide)]
  (by_cases h2 : vs.toArray.size < 2)
  · rw [if_pos h2, if_pos h2]
    refine wpAny_bind (wpAny_pure ?_)
    rw [StateT.run_pure]
    refine wpAny_bind (wpAny_pure ?_)
    try dsimp only
    refine ksort_tail (st := SortSt.mk' general' (keys.zip vs.toArray) #[] 7 none) na nk hka hk hlen h64 (Array.Perm.refl _) ?_ rfl h
    intro i j hij hj
    have hj2 : j < (keys.zip vs.toArray).size := hj
    rw [hzs] at hj2
    rw [List.size_toArray] at h2
    obtain rfl : i = j := by omega
    show decide (_ < _) = false
    exact decide_eq_false (List.lt_irrefl _)
  · rw [if_neg h2, if_neg h2]
    rw [List.size_toArray] at h2
    rw [kstr_kind hk (by rw [hlen]; omega)]
    refine wpAny_bind (wpAny_pure ?_)
    refine wpAny_bind (wpAny_mono (wpS_sortRunsK (a₀ := keys.zip vs.toArray) (st := SortSt.mk' oneType' (keys.zip vs.toArray) #[] 7 none)
      (Q := fun _ st' => (arrOf st').Perm (keys.zip vs.toArray) /\ failedOf st' = none /\ SortedToK strKind (arrOf st') (keys.zip vs.toArray).size)
      strKind_oneLt (kstr_keys hk) ⟨Array.Perm.refl _, rfl, rfl, rfl⟩ (by rw [hzs]; omega) (by rw [hzs]; exact h64) fun st' a1 a2 a3 => ⟨a1, a2, a3⟩) ?_ fun _ _ e => e)
    (rintro ⟨⟨⟩, st'⟩ s' ⟨rfl, hp, hf, hs⟩)
    try dsimp only
    exact ksort_tail na nk hka hk hlen h64 hp (by rw [hp.size_eq]; exact hs) hf h
theorem strs_snoc {x : Str} {t : Tok} : ∀ {us : List Value} {ks : List Str}, StrsAre us ks -> StrsAre (us ++ [.str x t]) (ks ++ [x])
  | _, _, .nil => .cons _ _ .nil
  | _, _, .cons y u h => .cons _ _ (strs_snoc h)
theorem strs_len : ∀ {us : List Value} {ks : List Str}, StrsAre us ks -> us.length = ks.length
  | _, _, .nil => rfl
  | _, _, .cons y u h => congrArg (· + 1) (strs_len h)
theorem ksort_rest {f : Value} (J : Array Value -> Nat -> Shared -> Prop) (hlen : ks.length = vs.length) (h64 : vs.length < 64)
    (jk : ∀ kA e s', J kA e s' -> s'.heap.get? kS = some (seqObj "list" kA e))
    (push : ∀ kA e s' k, J kA e s' -> kA.size < 64 -> ∃ c, J (kA.push k) c { s' with heap := s'.heap.update kS (Obj.mapSeq (·.push k)) })
    (turn : ∀ (i : Nat) (v : Value) (k : Str), vs[i]? = some v -> ks[i]? = some k -> ∀ kA e s', J kA e s' -> wpAny (model prog w) A (call f [v]) (fun u s'' => ∃ t, u = .str k t /\ J kA e s'') (fun _ _ => False) s')
    (fin : ∀ kA e s', J kA e s' -> StrsAre kA.toList ks -> wpAny (model prog w) A (ksk_end a false vs.toArray e1 (.ref kS) kA) P E s')
    (h0 : J #[] 0 s) : wpAny (model prog w) A (ksk_rest a f false vs.toArray e1 (.ref kS)) P E s := by
  unfold ksk_rest
  refine wpAny_bind (wpAny_rule ?_)
  first
    | rw [List.forIn_toArray]
    | ((rw [<- Array.forIn_toList]; simp only [List.toList_toArray]))
  refine wpAny_bind (ksk_fold (fun i s' => ∃ kA e, J kA e s' /\ StrsAre kA.toList (ks.take i)) vs 0 s ⟨#[], 0, h0, by simpa using StrsAre.nil⟩ ?step ?done)
  case step =>
    rintro j x s' hx ⟨kA, e, hJ, hk⟩
    (simp only [Nat.zero_add] at hk ⊢)
    (have hj : j < vs.length := (List.getElem?_eq_some_iff.mp hx).1)
    obtain ⟨k, hkj⟩ : ∃ k, ks[j]? = some k := ⟨_, List.getElem?_eq_getElem (by omega)⟩
    have hz : kA.size <= j := by
      have h1 := strs_len hk
      (rw [Array.length_toList, List.length_take] at h1)
      omega
    refine wpAny_bind (wpAny_attempt (wpAny_mono (turn j x k hx hkj kA e s' hJ) (fun v s'' he => ?_) fun _ _ hF => hF.elim))
    obtain ⟨t, rfl, hJ2⟩ := he
    try dsimp only
    obtain ⟨c, hJ3⟩ := push kA e s'' (.str k t) hJ2 (by omega)
    have ek : ks.take (j + 1) = ks.take j ++ [k] := by rw [List.take_add_one, hkj]; rfl
    have ea : (kA.push (Value.str k t)).toList = kA.toList ++ [Value.str k t] := by simp
    refine wpAny_bind (listUpdate_at (jk _ _ _ hJ2) rfl ?_ (by rw [sizeLine_eq]; omega) (Nat.le_trans (Nat.le_of_eq (Array.size_push ..)) (by rw [sizeLine_eq]; omega)))
    exact wpAny_pure ⟨rfl, _, c, hJ3, by rw [ea, ek]; exact strs_snoc hk⟩
  case done =>
    rintro s' ⟨kA, e, hJ, hk⟩
    have e3 : ks.take (0 + vs.length) = ks := List.take_of_length_le (by omega)
    rw [e3] at hk
    try dsimp only
    refine wpAny_bind (listItems_at (jk _ _ _ hJ) rfl ?_)
    exact fin kA e s' hJ hk
end
open PySem PySem.Spec PyProof.Rows L2 PySem.W
theorem Inv.adopt {X : Cx} {pins : List (Addr × Obj)} {σ : L2.St} {H : Hp} {s : Shared} {h' : Heap} {a : Addr} {o : HO} {t' : Nat} (I : Inv X pins σ H s) (k : ∀ b u, b ≠ a -> s.heap.get? b = some u -> h'.get? b = some u) (f : FpOk X pins H a) (there : ∃ u, h'.get? a = some u) (new : ObjOk X.prog X.w (upd H a o) h' a o) : Inv X pins σ (upd H a o) { s with heap := h', toks := t' } := by
  obtain ⟨hn, hL, _, h1, h2, h3⟩ := f
  have ne : ∀ b u, H b = some u -> b ≠ a := fun b u e z => by rw [z, hn] at e; cases e
  refine I.step (g' := s.gens) (d' := s.drawn) (ch := [a]) (fun b hb => ?_) (fun b u _ _ hc e _ => k b u (fun z => hc (by simp [z])) e) (fun b u _ _ hc e _ => ⟨u.slots, k b u (fun z => hc (by simp [z])) e⟩) (fun b u hc _ n => by rw [zU (fun z => hc (by simp [z]))]; exact n)
    (fun b u hc e => ⟨u, k b u (fun z => hc (by simp [z])) e⟩) (fun b xs e => by rw [zU (ne b _ e)]; exact e) (fun b u xs e => by rw [zU (ne b _ e)]; exact e) (fun b ps e => ⟨#[], by rw [zU (ne b _ e), e]; simp⟩) (fun m hm => ?_) (fun b u e => ?_) I.bare
  · obtain rfl : b = a := by simpa using hb
    exact ⟨h1, hL, h2, h3⟩
  · obtain ⟨ob, es, ep, ho, r⟩ := hm
    exact ⟨ob, es, ep, k _ ob (Ne.symm hL) ho, r⟩
  · by_cases hb : b = a
    · subst hb; rw [zT] at e; cases e; exact new
    · rw [zU hb] at e
      refine (I.hok b u e).stay (fun c v hc q => k c v ?_ q) (fun c q => by rw [zU (ne c _ q)]; exact q) fun c xs q => by rw [zU (ne c _ q)]; exact q
      rcases hc with z | z
      · rw [z]; exact hb
      · exact ne c _ z
theorem Inv.deep {X : Cx} {pins : List (Addr × Obj)} {σ : L2.St} {H : Hp} {s : Shared} {A' : Around} {xe' : Value -> Shared -> Prop} (I : Inv X pins σ H s) (h1 : X.calm = true -> A'.handled = none) (h2 : A'.frames = X.A.frames) : Inv { X with A := A', xe := xe' } pins σ H s :=
  ⟨⟨I.ok.mod, I.ok.kind, I.ok.glob, I.ok.blt, I.ok.above, I.ok.inj, I.ok.has, I.ok.cab, h1, h2.trans I.ok.frames, I.ok.stk, I.ok.exf, I.ok.bs, I.ok.bsz, I.ok.noex, I.ok.exfs, I.ok.funs, I.ok.frf⟩, I.os, I.bare, I.base, I.loc, I.cell, I.free, I.freeC, I.pin, I.hok, I.len⟩
inductive KRel : List (Str × V) -> List (Str × Value) -> Prop
  | nil : KRel [] []
  | cons {k : Str} {x : V} {u : Value} {as : List (Str × V)} {rs : List (Str × Value)} : RelV x u -> KRel as rs -> KRel ((k, x) :: as) ((k, u) :: rs)
theorem KRel.zip : ∀ {ks : List Str} {xs : List V} {us : List Value}, yD xs us -> ks.length = xs.length -> KRel (ks.zip xs) (ks.zip us)
  | [], _, _, _, _ => by simp; exact .nil
  | k :: ks, [], _, h, e => by simp at e
  | k :: ks, x :: xs, _, .cons r h, e => by
    rw [List.zip_cons_cons, List.zip_cons_cons]
    exact .cons r (KRel.zip h (by simpa using e))
theorem KRel.perm {ps rs : List (Str × Value)} (h : ps.Perm rs) : ∀ {as : List (Str × V)}, KRel as rs -> ∃ bs, bs.Perm as /\ KRel bs ps := by
  induction h with
  | nil => intro as h; exact ⟨as, .refl _, h⟩
  | cons x p ih =>
    intro as h
    cases h with
    | cons r h =>
      obtain ⟨bs, q, z⟩ := ih h
      exact ⟨_, q.cons _, .cons r z⟩
  | swap x y l =>
    intro as h
    cases h with
    | cons r h => cases h with
      | cons r' h => exact ⟨_, .swap .., .cons r' (.cons r h)⟩
  | trans p1 p2 ih1 ih2 =>
    intro as h
    obtain ⟨bs, q, z⟩ := ih2 h
    obtain ⟨cs, q', z'⟩ := ih1 z
    exact ⟨cs, q'.trans q, z'⟩
theorem KRel.vals : ∀ {as : List (Str × V)} {rs : List (Str × Value)}, KRel as rs -> yD (as.map (·.2)) (rs.map (·.2)) /\ as.map (·.1) = rs.map (·.1)
  | _, _, .nil => ⟨.nil, rfl⟩
  | _, _, .cons r h => ⟨.cons r h.vals.1, by rw [List.map_cons, List.map_cons, h.vals.2]⟩
open PySem PySem.Spec PyProof.Rows L2 PySem.W
structure KOutV (ks : List Str) (xs ys : List V) : Prop where
  ex : ∃ qs : List (Str × V), qs.Perm (ks.zip xs) /\ ys = qs.map (·.2) /\ qs.Pairwise fun p q => ¬ q.1.cps.toList < p.1.cps.toList
theorem KOut.toV {ks : List Str} {xs : List V} {us out : List Value} (h : KOut ks us out) (hv : yD xs us) (hl : ks.length = xs.length) : ∃ ys, KOutV ks xs ys /\ yD ys out := by
  obtain ⟨ps, hp, rfl, ho⟩ := h.ex
  obtain ⟨qs, hq, hr⟩ := KRel.perm hp (KRel.zip hv hl)
  obtain ⟨h1, h2⟩ := hr.vals
  refine ⟨qs.map (·.2), ⟨qs, hq, rfl, ?_⟩, h1⟩
  have e : (qs.map (·.1)).Pairwise fun p q : Str => ¬ q.cps.toList < p.cps.toList := by
    rw [h2]
    exact List.pairwise_map.mpr ho
  exact List.pairwise_map.mp e
section
variable {X : Cx} {pins : List (Addr × Obj)} {σ : L2.St} {H : Hp} {s : Shared} {f p : Addr} {xs : List V} {ks : List Str} {Q : VK}
noncomputable abbrev Cx.two (X : Cx) : Cx := { X with A := X.A.in1.in1, xe := fun _ _ => False }
theorem sortK (hc : X.calm = true) (I : Inv X pins σ H s) (hS : SqL X.K H p xs) (h64 : xs.length < 64) (hlen : ks.length = xs.length)
    (turn : ∀ (i : Nat) (x : V) (k : Str), xs[i]? = some x -> ks[i]? = some k -> ∀ (pins' : List (Addr × Obj)) (s' : Shared) (H' : Hp) (u : Value), zR H H' -> Inv (Cx.two X) pins' σ H' s' -> RelV x u ->
      wpAny (model X.prog X.w) X.A.in1.in1 (call (.ref f) [u]) (fun v s2 => ∃ t H2, v = .str k t /\ zR H' H2 /\ Inv (Cx.two X) pins' σ H2 s2) (fun _ _ => False) s')
    (q : ∀ (D : Addr) (ys : List V) (H' : Hp), KOutV ks xs ys -> zR H H' -> H D = none -> H' D = none -> Q (.ref D) (upd H' D (.lst ys))) :
    wpAny (model X.prog X.w) X.A (call (.builtin "sorted") [.ref p] [(Str.ofString "key", .ref f)]) (EP X pins σ Q) X.xe s := by
  obtain ⟨its, rv, pl, hz⟩ := I.list hS
  have hl := rv.length
  have hl' : its.length < 64 := by omega
  refine call_function_entry_kw kind_sorted plain_sorted entry_sorted (ksk_s1 _ _) ?_
  unfold Builtin.«sorted»
  (refine wpAny_bind (m := checkCount "sorted" 1 1 _) (wpAny_pure ?_))
  refine wpAny_bind (collect_list pl.isList ?_ (by rw [sizeLine_eq]; omega))
  (refine wpAny_bind (wpAny_newList ?_ (by rw [sizeLine_eq]; omega)))
  have hsz : ((s.heap.push (seqObj "list" #[] 0)).update s.heap.objs.size (Obj.mapSeq (· ++ its.toArray))).objs.size = s.heap.objs.size + 1 := by
    (rw [Heap.size_update, size_push'])
  have hoL : (((s.heap.push (seqObj "list" #[] 0)).update s.heap.objs.size (Obj.mapSeq (· ++ its.toArray))).push (seqObj "list" its.toArray 0)).get? (s.heap.objs.size + 1) = some (seqObj "list" its.toArray 0) := by
    (rw [<- hsz]; exact Heap.get?_push_size _ rfl)
  have keep : ∀ b o, s.heap.get? b = some o -> (((s.heap.push (seqObj "list" #[] 0)).update s.heap.objs.size (Obj.mapSeq (· ++ its.toArray))).push (seqObj "list" its.toArray 0)).get? b = some o := fun b o q => by
    (have hlt : b < s.heap.objs.size := Heap.lt_size q)
    exact Heap.get?_push_of_some _ ((Heap.get?_update_ne _ _ _ _ (Nat.ne_of_lt hlt)).trans (Heap.get?_push_of_some _ q))
  have hsz2 : (((s.heap.push (seqObj "list" #[] 0)).update s.heap.objs.size (Obj.mapSeq (· ++ its.toArray))).push (seqObj "list" its.toArray 0)).objs.size = s.heap.objs.size + 2 := by rw [size_push', hsz]
  show wpAny _ _ _ _ _ { s with heap := ((s.heap.push (seqObj "list" #[] 0)).update s.heap.objs.size (Obj.mapSeq (· ++ its.toArray))).push (seqObj "list" its.toArray 0) }
  rw [hsz]
  generalize hh1 : ((s.heap.push (seqObj "list" #[] 0)).update s.heap.objs.size (Obj.mapSeq (· ++ its.toArray))).push (seqObj "list" its.toArray 0) = h1 at hoL keep hsz2 ⊢
  generalize hD : s.heap.objs.size + 1 = D at hoL ⊢
  refine wpAny_bind (wpAny_holding (wpAny_call_entry_kw slot_list_sort ⟨_, hoL, rfl⟩ entry_list_sort ?body (ksk_l1 _ _)))
  case body =>
    show wpAny (model X.prog X.w) X.A.in1.in1 (Builtin.«list.sort» ⟨[.ref D], [(Str.ofString "key", .ref f)]⟩) _ _ _
    rw [ksk_t1]
    have lD : s.heap.objs.size <= D := by omega
    have lk : s.heap.objs.size <= h1.objs.size + 1 := by omega
    have fD : FpOk X pins H D := I.fpOk lD (I.hok.fresh lD)
    have fk : FpOk X pins H (h1.objs.size + 1) := I.fpOk lk (I.hok.fresh lk)
    have hDk : D ≠ h1.objs.size + 1 := by omega
    obtain ⟨e1, ho1⟩ : ∃ e1, (h1.update D (Obj.mapSeq fun _ => (#[] : Array Value))).get? D = some (seqObj "list" #[] e1) := ⟨_, get?_update_seq hoL fun _ => #[]⟩
    have sb := Heap.SameBut.update h1 D (Obj.mapSeq fun _ => (#[] : Array Value))
    have hkS : ((h1.update D (Obj.mapSeq fun _ => (#[] : Array Value))).push (seqObj "tuple" its.toArray 0)).objs.size = h1.objs.size + 1 := by rw [size_push', Heap.size_update]
    have keep4 : ∀ b o, s.heap.get? b = some o -> (((h1.update D (Obj.mapSeq fun _ => (#[] : Array Value))).push (seqObj "tuple" its.toArray 0)).push (seqObj "list" #[] 0)).get? b = some o := fun b o e => Heap.get?_push_of_some _ (Heap.get?_push_of_some _ ((sb.2 b (Nat.ne_of_lt (Nat.lt_of_lt_of_le (Heap.lt_size e) lD))).trans (keep b o e)))
    have kS0 : (((h1.update D (Obj.mapSeq fun _ => (#[] : Array Value))).push (seqObj "tuple" its.toArray 0)).push (seqObj "list" #[] 0)).get? (h1.objs.size + 1) = some (seqObj "list" #[] 0) := by rw [<- hkS]; exact Heap.get?_push_size _ rfl
    have D0 : (((h1.update D (Obj.mapSeq fun _ => (#[] : Array Value))).push (seqObj "tuple" its.toArray 0)).push (seqObj "list" #[] 0)).get? D = some (seqObj "list" #[] e1) := Heap.get?_push_of_some _ (Heap.get?_push_of_some _ ho1)
    unfold ksk_tree
    refine wpAny_bind (listItems_at hoL rfl ?_)
    refine wpAny_bind (listUpdate_at hoL rfl ?_ (by rw [List.size_toArray, sizeLine_eq]; omega) (Nat.zero_le _))
    (refine wpAny_bind (seqEpoch_at ho1 rfl ?_))
    refine wpAny_bind (wpAny_newTuple ?_ (by show its.length <= _; rw [sizeLine_eq]; omega))
    (refine wpAny_bind (wpAny_newList ?_ (Nat.zero_le _)))
    refine wpAny_holding ?_
    rw [hkS]
    generalize h1.objs.size + 1 = kS at fk hDk kS0 ⊢
    generalize hh4 : ((h1.update D (Obj.mapSeq fun _ => (#[] : Array Value))).push (seqObj "tuple" its.toArray 0)).push (seqObj "list" #[] 0) = h4 at keep4 kS0 D0
    let pk : Array Value -> Nat -> List (Addr × Obj) := fun kA e => [(kS, seqObj "list" kA e), (D, seqObj "list" #[] e1)]
    let J : Array Value -> Nat -> Shared -> Prop := fun kA e s' => ∃ H', zR H H' /\ Inv (Cx.two X) (pins ++ pk kA e) σ H' s'
    have nocell : ∀ (o : Obj) (c : Array Value) (e : Nat), o = seqObj "list" c e -> ∀ v, o.data ≠ .cell v := fun o c e z v y => by subst z; cases y
    have pin : ∀ {H' : Hp} {s' : Shared} {kA : Array Value} {e : Nat}, Inv (Cx.two X) pins σ H' s' -> H' kS = none -> H' D = none -> s'.heap.get? kS = some (seqObj "list" kA e) -> s'.heap.get? D = some (seqObj "list" #[] e1) -> Inv (Cx.two X) (pins ++ pk kA e) σ H' s' := fun {H' s' kA e} I' n1 n2 g1 g2 => I'.pins_of fun p hp => by
      (rcases List.mem_append.mp hp with hp | hp)
      · exact I'.pin p (List.mem_append_right _ hp)
      · rcases List.mem_cons.mp hp with (rfl | hp)
        · exact ⟨g1, n1, fk.2.1, fk.2.2.1, nocell _ _ _ rfl⟩
        · (rw [List.mem_singleton.mp hp])
          exact ⟨g2, n2, fD.2.1, fD.2.2.1, nocell _ _ _ rfl⟩
    have at1 : ∀ {H' : Hp} {s' : Shared} {kA : Array Value} {e : Nat}, Inv (Cx.two X) (pins ++ pk kA e) σ H' s' -> (s'.heap.get? kS = some (seqObj "list" kA e) /\ H' kS = none) /\ s'.heap.get? D = some (seqObj "list" #[] e1) /\ H' D = none := fun {H' s' kA e} I' => by
      have a := I'.pin (kS, seqObj "list" kA e) (List.mem_append_right _ (List.mem_append_right _ (.head _)))
      have b := I'.pin (D, seqObj "list" #[] e1) (List.mem_append_right _ (List.mem_append_right _ (.tail _ (.head _))))
      exact ⟨⟨a.1, a.2.1⟩, b.1, b.2.1⟩
    refine ksort_rest (ks := ks) J (by omega) hl' (fun kA e s' hJ => ?jk) (fun kA e s' k hJ hz => ?push) (fun i v k h1 h2 kA e s' hJ => ?turn) (fun kA e s' hJ hk => ?fin) ?h0
    case h0 => exact ⟨H, zR.refl _, pin (Inv.deep (I.kept (t' := s.toks) keep4) (fun h => I.ok.hd h) rfl) (fk.1) (fD.1) kS0 D0⟩
    case jk => obtain ⟨H', sm, I'⟩ := hJ; exact (at1 I').1.1
    case push =>
      obtain ⟨H', sm, I'⟩ := hJ
      obtain ⟨⟨g1, n1⟩, g2, n2⟩ := at1 I'
      have sb := Heap.SameBut.update s'.heap kS (Obj.mapSeq (·.push k))
      have I2 : Inv (Cx.two X) pins σ H' { s' with heap := s'.heap.update kS (Obj.mapSeq (·.push k)) } := I'.unpinned.turned (t' := s'.toks) (fun b o hb e => (sb.2 b hb).trans e) n1 fk.2.1 fk.2.2.2.1 fk.2.2.2.2.1 fk.2.2.2.2.2
      exact ⟨_, H', sm, pin I2 n1 n2 (get?_update_seq g1 (·.push k)) ((sb.2 D hDk).trans g2)⟩
    case turn =>
      obtain ⟨H', sm, I'⟩ := hJ
      have hi : i < xs.length := by rw [hl]; exact (List.getElem?_eq_some_iff.mp h1).1
      obtain ⟨u, e, r⟩ := rv.get (List.getElem?_eq_getElem hi)
      rw [h1] at e
      cases e
      refine wpAny_mono (turn i xs[i] k (List.getElem?_eq_getElem hi) h2 _ s' H' v sm I' r) (fun u s2 z => ?_) fun _ _ z => z
      obtain ⟨t, H2, e, sm2, I2⟩ := z
      exact ⟨t, e, H2, sm.trans sm2, I2⟩
    case fin =>
      obtain ⟨H', sm, I'⟩ := hJ
      obtain ⟨⟨g1, n1⟩, g2, n2⟩ := at1 I'
      have hks := strs_len hk
      rw [Array.length_toList] at hks
      refine ksort_end g2 g1 hDk.symm hk (by omega) hl' fun out ko lo => ⟨_, rfl, wpAny_pure ⟨_, rfl, ?_⟩⟩
      obtain ⟨ys, kv, vy⟩ := ko.toV rv hlen
      have sb := Heap.SameBut.update s'.heap kS (Obj.mapSeq fun _ => (#[] : Array Value))
      have I2 : Inv (Cx.two X) pins σ H' { s' with heap := s'.heap.update kS (Obj.mapSeq fun _ => (#[] : Array Value)) } := I'.unpinned.turned (t' := s'.toks) (fun b o hb e => (sb.2 b hb).trans e) n1 fk.2.1 fk.2.2.2.1 fk.2.2.2.2.1 fk.2.2.2.2.2
      have g3 : (s'.heap.update kS (Obj.mapSeq fun _ => (#[] : Array Value))).get? D = some (seqObj "list" #[] e1) := (sb.2 D hDk).trans g2
      have sb2 := Heap.SameBut.update (s'.heap.update kS (Obj.mapSeq fun _ => (#[] : Array Value))) D (Obj.mapSeq fun _ => out)
      obtain ⟨c2, g4⟩ : ∃ c2, ((s'.heap.update kS (Obj.mapSeq fun _ => (#[] : Array Value))).update D (Obj.mapSeq fun _ => out)).get? D = some (seqObj "list" out c2) := ⟨_, get?_update_seq g3 fun _ => out⟩
      have ylen : ys.length = its.length := by rw [vy.length, Array.length_toList, lo]
      have new : ObjOk X.prog X.w (upd H' D (.lst ys)) ((s'.heap.update kS (Obj.mapSeq fun _ => (#[] : Array Value))).update D (Obj.mapSeq fun _ => out)) D (.lst ys) := ⟨by rw [ylen, sizeLine_eq]; omega, out.toList, c2, vy, by rw [Array.toArray_toList]; exact g4⟩
      have I3 : Inv (Cx.two X) pins σ (upd H' D (.lst ys)) { s' with heap := (s'.heap.update kS (Obj.mapSeq fun _ => (#[] : Array Value))).update D (Obj.mapSeq fun _ => out) } := Inv.adopt (s := { s' with heap := s'.heap.update kS (Obj.mapSeq fun _ => (#[] : Array Value)) }) (t' := s'.toks) I2 (fun b o hb e => (sb2.2 b hb).trans e) ⟨n2, fD.2⟩ ⟨_, g4⟩ new
      have I4 : Inv X pins σ (upd H' D (.lst ys)) { s' with heap := (s'.heap.update kS (Obj.mapSeq fun _ => (#[] : Array Value))).update D (Obj.mapSeq fun _ => out) } := Inv.deep (X := Cx.two X) (A' := X.A) (xe' := X.xe) I3 (fun h => I.ok.hd h) rfl
      exact ⟨.ref D, _, I4, rfl, q D ys H' kv sm fD.1 n2⟩
end
open PySem PySem.Spec PyProof.Rows L2 PySem.W
noncomputable abbrev KD := List Nat × D
noncomputable def upK (l : List KD) : Prop := l.Pairwise fun p q => ¬ q.1 < p.1
open Classical in
noncomputable def srtK (l : List KD) : List D := if h : ∃ m, m.Perm l /\ upK m then h.choose.map (·.2) else l.map (·.2)
theorem srtK_eq {l m : List KD} (nd : (l.map (·.1)).Nodup) (p : m.Perm l) (h : upK m) : m.map (·.2) = srtK l := by
  have ex : ∃ m, m.Perm l /\ upK m := ⟨m, p, h⟩
  unfold srtK
  rw [dif_pos ex]
  have nd1 : (m.map (·.1)).Nodup := (p.map _).nodup_iff.mpr nd
  have key : ∀ a ∈ m, ∀ b ∈ m, a.1 = b.1 -> a = b := fun a ha b hb e => by
    obtain ⟨i, hi, rfl⟩ := List.getElem_of_mem ha
    (obtain ⟨j, hj, rfl⟩ := List.getElem_of_mem hb)
    rcases Nat.lt_trichotomy i j with z | z | z
    · exact absurd (by rw [List.getElem_map, List.getElem_map]; exact e) ((List.pairwise_iff_getElem.mp nd1) i j (by simpa using hi) (by simpa using hj) z)
    · subst z; rfl
    · exact absurd (by rw [List.getElem_map, List.getElem_map]; exact e.symm) ((List.pairwise_iff_getElem.mp nd1) j i (by simpa using hj) (by simpa using hi) z)
  have pm := p.trans ex.choose_spec.1.symm
  rw [List.Perm.eq_of_pairwise (le := fun p q : KD => ¬ q.1 < p.1) (fun a b ha hb x y => key a ha b (pm.mem_iff.mpr hb) (List.le_antisymm (as := a.1) (bs := b.1) x y)) h ex.choose_spec.2 pm]
noncomputable def keyOf (m : MF) (d : D) : Option (List Nat) := (m [.v d]).bind fun p => match p.1 with
  | .v (.str s) => some s
  | _ => none
noncomputable def keysK (m : MF) : List D -> Option (List KD)
  | [] => some []
  | d :: l => (keyOf m d).bind fun s => (keysK m l).map fun r => (s, d) :: r
noncomputable def mSrtK (m : MF) (fl : ML) : ML := fun r => (fl r).bind fun l => (keysK m l).bind fun q => if q.length < 64 /\ (q.map (·.1)).Nodup then some (srtK q) else none
theorem keysK_snd {m : MF} : ∀ {l : List D} {q : List KD}, keysK m l = some q -> q.map (·.2) = l
  | [], q, h => by cases h; rfl
  | d :: l, q, h => by
    obtain ⟨s, _, h⟩ := bind_some h
    obtain ⟨r, h1, rfl⟩ := map_some h
    rw [List.map_cons, keysK_snd h1]
theorem keysK_get {m : MF} : ∀ {l : List D} {q : List KD} {i : Nat} {p : KD}, keysK m l = some q -> q[i]? = some p -> l[i]? = some p.2 /\ keyOf m p.2 = some p.1
  | [], q, i, p, h, e => by cases h; simp at e
  | d :: l, q, i, p, h, e => by
    obtain ⟨s, h0, h⟩ := bind_some h
    obtain ⟨r, h1, rfl⟩ := map_some h
    cases i with
    | zero => cases e; exact ⟨rfl, h0⟩
    | succ i =>
      have z := keysK_get (l := l) (i := i) h1 (by simpa using e)
      exact ⟨by simpa using z.1, z.2⟩
inductive KIs (K : Fg) (O : Addr -> Prop) (H : Hp) : List KD -> List (Str × V) -> Prop
  | nil : KIs K O H [] []
  | cons {k : List Nat} {d : D} {x : V} {as : List KD} {bs : List (Str × V)} : Is K O H d x -> KIs K O H as bs -> KIs K O H ((k, d) :: as) ((⟨k.toArray⟩, x) :: bs)
theorem KIs.perm {K : Fg} {O : Addr -> Prop} {H : Hp} {ps rs : List (Str × V)} (h : ps.Perm rs) : ∀ {as : List KD}, KIs K O H as rs -> ∃ bs, bs.Perm as /\ KIs K O H bs ps := by
  induction h with
  | nil => intro as h; exact ⟨as, .refl _, h⟩
  | cons x p ih =>
    intro as h
    cases h with
    | cons r h =>
      obtain ⟨bs, q, z⟩ := ih h
      exact ⟨_, q.cons _, .cons r z⟩
  | swap x y l =>
    intro as h
    cases h with
    | cons r h => cases h with
      | cons r' h => exact ⟨_, .swap .., .cons r' (.cons r h)⟩
  | trans p1 p2 ih1 ih2 =>
    intro as h
    obtain ⟨bs, q, z⟩ := ih2 h
    obtain ⟨cs, q', z'⟩ := ih1 z
    exact ⟨cs, q'.trans q, z'⟩
theorem KIs.isl {K : Fg} {O : Addr -> Prop} {H : Hp} : ∀ {as : List KD} {bs : List (Str × V)}, KIs K O H as bs -> IsL K O H (as.map (·.2)) (bs.map (·.2)) /\ bs.map (·.1) = as.map (fun p => (⟨p.1.toArray⟩ : Str))
  | _, _, .nil => ⟨.nil, rfl⟩
  | _, _, .cons r h => ⟨.cons r h.isl.1, by rw [List.map_cons, List.map_cons, h.isl.2]⟩
theorem KIs.of {K : Fg} {O : Addr -> Prop} {H : Hp} : ∀ {as : List KD} {xs : List V}, IsL K O H (as.map (·.2)) xs -> KIs K O H as ((as.map (fun p => (⟨p.1.toArray⟩ : Str))).zip xs)
  | [], xs, h => by unfold IsL at h; subst h; exact .nil
  | (k, d) :: as, xs, h => by
    unfold IsL at h
    obtain ⟨v, vs, rfl, h1, h2⟩ := h
    exact .cons h1 (KIs.of h2)
section
variable {X : Cx} {a : Expr} {pos p' kp pk : Pos} {k : Nat} {f : Addr} {fd : FuncData} {ps : List Str} {m : MF} {x : Str} {fl : ML}
theorem df_sortK (hc : X.calm = true) (F : FnOk X.prog X.w X.K X.mg X.base CX0 k f fd ps (spD X.K 1 m)) (hr : Room k X.A.in1.in1) (hgx : Gl X x) (hmx : X.mg x = some (.ref f)) (hb : Binds X.K fd ps []) (hg : Gl X "sorted") (hm : X.mg "sorted" = none) (ha : DB X a fl)
    (hs : starEach [a] X.env = (false, eval a X.env) :: starEach [] X.env := by rfl) (hxd : (x == ("__debug__" : Str)) = false := by decide)
    (hall : (backToKw pos (keywordEach [⟨some "key", .Name x pk, kp⟩] X.env)).all (·.1.isSome) = true := by rfl) (hkw : (backToKw pos (keywordEach [⟨some "key", .Name x pk, kp⟩] X.env)).any (·.1.isNone) = false := by rfl)
    (hks : (backToKw pos (keywordEach [⟨some "key", .Name x pk, kp⟩] X.env)).filterMap (·.1) = [Str.ofString "key"] := by rfl) (hbe : backTo pos (starEach [a] X.env) = (false, eval a X.env) :: backTo pos (starEach [] X.env) := by rfl) (hpl : (backTo pos (starEach [a] X.env)).any (·.1) = false := by rfl) :
    DF X (.Call (.Name "sorted" p') [a] [⟨some "key", .Name x pk, kp⟩] pos) (mSrtK m fl) := by
  intro pins s σ H Q I hq
  obtain ⟨O0, r, l', hR, e, q⟩ := hq
  obtain ⟨l, e1, e2⟩ := bind_some e
  obtain ⟨kd, e3, e4⟩ := bind_some e2
  split at e4
  · rename_i hz
    cases e4
    refine wpAny_Call_Name_kw (ld_blt I hg hm PyProof.Rows.boot_sorted ?_)
    refine PyProof.Rows.callWith_kw (thn ((pa_cons ha pa_nil hs) pos pins s σ H (fun vs H1 => ∃ (p : Addr) (xs : List V), vs = [.ref p] /\ zR H H1 /\ SqL X.K H1 p xs /\ IsL X.K (Ow O0 r σ) H1 l xs) I ⟨O0, r, l, hR, e1, fun p xs H1 s1 sq il => ⟨p, xs, rfl, s1, sq, il⟩⟩) fun us s1 ⟨vs, H1, I1, rv, p, xs, ev, sm, sq, il⟩ => ?_) hbe hpl hall hkw
    subst ev
    obtain ⟨u, rfl, ru⟩ := yD.one rv
    cases ru
    refine thn ((pk_cons (pe_glob (v := .ref f) hgx hmx rfl hxd) pk_nil) pos pins s1 σ H1 (fun zs H2 => zs = [.ref f] /\ H2 = H1) I1 ⟨rfl, rfl⟩) fun ws s2 ⟨zs, H2, I2, rz, ez, eh⟩ => ?_
    subst ez eh
    obtain ⟨u, rfl, ru⟩ := yD.one rz
    cases ru
    rw [hks]
    have hlx := il.length
    have hkl : kd.length = l.length := by rw [<- keysK_snd e3, List.length_map]
    show wpAny (model X.prog X.w) X.A (call (.builtin "sorted") [.ref p] [(Str.ofString "key", .ref f)]) (EP X pins σ Q) X.xe s2
    refine sortK (ks := kd.map fun p => (⟨p.1.toArray⟩ : Str)) hc I2 sq (by omega) (by rw [List.length_map]; omega) (fun i y k hy hk pins' s' H' u sm' I' ry => ?turn) (fun D ys H' ko sm' n1 n2 => ?fin)
    case turn =>
      rw [List.getElem?_map] at hk
      obtain ⟨kp, ek, rfl⟩ := Option.map_eq_some_iff.mp hk
      obtain ⟨el, eo⟩ := keysK_get e3 ek
      obtain ⟨y', ey, iy⟩ := il.get el
      rw [hy] at ey; cases ey
      obtain ⟨⟨rs, as'⟩, em, er⟩ := bind_some eo
      have R1 := (hR.same sm).same sm'
      have iy' : Is X.K (Ow O0 r σ) H' kp.2 y := Is.mono (zR.kp sm' _) (hR.same sm).ol (fun _ z _ => z) _ _ iy
      cases rs with
      | f _ => cases er
      | g _ _ => cases er
      | v d =>
        cases d <;> first | (cases er; done) | skip
        cases er
        refine thn (run_fn (X := Cx.two X) (Q := fun v H2 => v = .str ⟨kp.1.toArray⟩ /\ zR H' H2) (E := fun _ _ _ => False) F hr hb .nil pass0 I' (.cons ry .nil) (sp_pure (X := Cx.two X) R1 (zR.refl H') (ds := [kp.2]) (.cons iy' .nil) rfl em fun v H2 pf iv => ?_)) fun v s3 ⟨z, H3, I3, rz, ez, sz⟩ => ?_
        · rw [Is.str_iff] at iv
          exact ⟨iv, pf.same⟩
        · subst ez
          obtain ⟨t, rfl⟩ := rz
          exact ⟨t, H3, rfl, sz, I3⟩
    case fin =>
      obtain ⟨qs, hp, rfl, ho⟩ := ko.ex
      have il2 : IsL X.K (Ow O0 r σ) H' (kd.map (·.2)) xs := by rw [keysK_snd e3]; exact il.same sm' (hR.same sm).ol
      obtain ⟨bs, hq, hi⟩ := KIs.perm hp (KIs.of il2)
      obtain ⟨i1, i2⟩ := hi.isl
      have up : upK bs := by
        have z : (qs.map (·.1)).Pairwise fun p q : Str => ¬ q.cps.toList < p.cps.toList := List.pairwise_map.mpr ho
        rw [i2] at z
        exact (List.pairwise_map.mp z).imp fun h => by simpa using h
      rw [srtK_eq hz.2 hq up] at i1
      have R2 := (hR.same sm).same sm'
      refine q D _ _ ((sm.trans sm').trans (zW n2)) (by exact (sm.free n1)) zT ?_
      exact IsL.mono (zR.kp (zW n2) _) R2.ol (fun b z hb => z.elim id fun z => absurd n2 (by subst z; exact hb)) _ _ i1
  · cases e4
end
end DD
namespace L2
open PySem PySem.Spec PyProof.Rows
section
variable {κ : Type} [DecidableEq κ]
noncomputable def valV (kvs : List (κ × V)) (k : κ) : Option V := (kvs.find? fun kv => decide (kv.1 = k)).map (·.2)
noncomputable def putK (kvs : List (κ × V)) (k : κ) (v : V) : List (κ × V) :=
  if (kvs.any fun kv => decide (kv.1 = k)) = true then kvs.map (fun kv => if kv.1 = k then (kv.1, v) else kv) else kvs ++ [(k, v)]
theorem valV_pos {p : κ × V} {r : List (κ × V)} {k : κ} (e : p.1 = k) : valV (p :: r) k = some p.2 := by simp [valV, List.find?_cons, e]
theorem valV_neg {p : κ × V} {r : List (κ × V)} {k : κ} (e : ¬ p.1 = k) : valV (p :: r) k = valV r k := by simp [valV, List.find?_cons, e]
theorem valV_any (k : κ) : ∀ kvs : List (κ × V), (kvs.any fun kv => decide (kv.1 = k)) = (valV kvs k).isSome
  | [] => rfl
  | p :: r => by
    rw [List.any_cons]
    by_cases e : p.1 = k
    · simp only [valV_pos e, decide_eq_true e, Bool.true_or, Option.isSome_some]
    · rw [valV_neg e, decide_eq_false e, Bool.false_or]; exact valV_any k r
theorem length_putK (kvs : List (κ × V)) (k : κ) (v : V) : (putK kvs k v).length <= kvs.length + 1 := by
  unfold putK
  split
  · rw [List.length_map]; omega
  · rw [List.length_append, List.length_cons, List.length_nil]; omega
theorem RelO.isSome_eq {o : Option V} {u : Option Value} (r : RelO o u) : o.isSome = u.isSome := by
  cases o with
  | none => cases u with
    | none => rfl
    | some _ => exact (show False from r).elim
  | some _ => cases u with
    | none => exact (show False from r).elim
    | some _ => rfl
theorem RelO.getD {o : Option V} {u : Option Value} {d : V} {d' : Value} (r : RelO o u) (rd : RelV d d') : RelV (o.getD d) (u.getD d') := by
  cases o with
  | none => cases u with
    | none => exact rd
    | some _ => exact (show False from r).elim
  | some _ => cases u with
    | none => exact (show False from r).elim
    | some _ => exact r
theorem KV.val {kvs : List (κ × V)} {vs : List (κ × Value)} (r : KV kvs vs) (k : κ) : RelO (valV kvs k) (valueAt vs k) := by
  unfold KV at r
  induction r with
  | nil => exact True.intro
  | @cons p q ps qs h t ih =>
    obtain ⟨h1, h2⟩ := h
    by_cases e : p.1 = k
    · have e' : q.1 = k := h1.symm.trans e
      have b : valueAt (q :: qs) k = some q.2 := by simp [valueAt, List.find?_cons, e']
      rw [valV_pos e, b]; exact h2
    · have e' : ¬ q.1 = k := fun z => e (h1.trans z)
      have b : valueAt (q :: qs) k = valueAt qs k := by simp [valueAt, List.find?_cons, e']
      rw [valV_neg e, b]; exact ih
theorem KV.any {kvs : List (κ × V)} {vs : List (κ × Value)} (r : KV kvs vs) (k : κ) : (kvs.any fun kv => decide (kv.1 = k)) = vs.any fun kv => decide (kv.1 = k) := by
  unfold KV at r
  induction r with
  | nil => rfl
  | cons h t ih => rw [List.any_cons, List.any_cons, ih, h.1]
theorem KV.repl {kvs : List (κ × V)} {vs : List (κ × Value)} (r : KV kvs vs) (k : κ) {y : V} {u : Value} (ry : RelV y u) :
    KV (kvs.map fun kv => if kv.1 = k then (kv.1, y) else kv) (vs.map fun kv => if kv.1 = k then (kv.1, u) else kv) := by
  unfold KV at r ⊢
  induction r with
  | nil => exact .nil
  | @cons p q ps qs h t ih =>
    rw [List.map_cons, List.map_cons]
    refine .cons ?_ ih
    obtain ⟨h1, h2⟩ := h
    by_cases e : p.1 = k
    · rw [if_pos e, if_pos (h1.symm.trans e)]; exact ⟨h1, ry⟩
    · rw [if_neg e, if_neg (fun z => e (h1.trans z))]; exact ⟨h1, h2⟩
theorem KV.put {kvs : List (κ × V)} {vs : List (κ × Value)} (r : KV kvs vs) (k : κ) {y : V} {u : Value} (ry : RelV y u) : KV (putK kvs k y) (stored vs k u) := by
  unfold putK stored
  rw [r.any k]
  by_cases e : (vs.any fun kv => decide (kv.1 = k)) = true
  · rw [if_pos e, if_pos e]; exact r.repl k ry
  · rw [if_neg e, if_neg e]; exact Paired.snoc r ⟨rfl, ry⟩
theorem KV.keys {kvs : List (κ × V)} {vs : List (κ × Value)} (r : KV kvs vs) : kvs.map (·.1) = vs.map (·.1) := by
  unfold KV at r
  induction r with
  | nil => rfl
  | cons h t ih => rw [List.map_cons, List.map_cons, ih, h.1]
theorem KV.length {kvs : List (κ × V)} {vs : List (κ × Value)} (r : KV kvs vs) : kvs.length = vs.length := Paired.length r
end
theorem kV_is {P : Program} {w : World} {k : Key} {u : Value} (r : RelV (kV k) u) : (mixKind P w).is k u = true := by
  cases k with
  | inl i => obtain ⟨t, e⟩ := (show ∃ t, u = Value.int i t from r); subst e; exact mixKind_int P w i t
  | inr x => obtain ⟨t, e⟩ := (show ∃ t, u = Value.str x t from r); subst e; exact mixKind_str P w x t
theorem items_are {P : Program} {w : World} : ∀ {ks : List Key} {us : List Value}, yD (ks.map kV) us -> ItemsAre (mixKind P w) ks us
  | [], _, r => by rw [List.map_nil] at r; cases r; exact .nil
  | k :: ks, _, r => by
    rw [List.map_cons] at r
    cases r with
    | cons h t => exact .cons (kV_is h) (items_are t)
noncomputable abbrev KT (H : Hp) : List (List Key × V) -> List (List Key × Addr × Value) -> Prop := Paired fun p q => p.1 = q.1 /\ H q.2.1 = some (.tup (p.1.map kV)) /\ RelV p.2 q.2.2
theorem KT.val {H : Hp} {kvs : List (List Key × V)} {xs : List (List Key × Addr × Value)} (r : KT H kvs xs) (k : List Key) : RelO (valV kvs k) ((atKey xs k).map (·.2)) := by
  induction r with
  | nil => exact True.intro
  | @cons p q ps qs h t ih =>
    obtain ⟨h1, _, h2⟩ := h
    by_cases e : p.1 = k
    · have e' : q.1 = k := h1.symm.trans e
      have b : atKey (q :: qs) k = some q.2 := by simp [atKey, List.find?_cons, e']
      rw [valV_pos e, b]; exact h2
    · have e' : ¬ q.1 = k := fun z => e (h1.trans z)
      have b : atKey (q :: qs) k = atKey qs k := by simp [atKey, List.find?_cons, e']
      rw [valV_neg e, b]; exact ih
theorem KT.repl {H : Hp} {kvs : List (List Key × V)} {xs : List (List Key × Addr × Value)} (r : KT H kvs xs) (k : List Key) {y : V} {u : Value} (ry : RelV y u) :
    KT H (kvs.map fun kv => if kv.1 = k then (kv.1, y) else kv) (xs.map (putAt k u)) := by
  induction r with
  | nil => exact .nil
  | @cons p q ps qs h t ih =>
    rw [List.map_cons, List.map_cons]
    refine .cons ?_ ih
    obtain ⟨h1, h2, h3⟩ := h
    unfold putAt
    by_cases e : p.1 = k
    · rw [if_pos e, if_pos (h1.symm.trans e)]; exact ⟨h1, h2, ry⟩
    · rw [if_neg e, if_neg (fun z => e (h1.trans z))]; exact ⟨h1, h2, h3⟩
theorem KT.put {H : Hp} {kvs : List (List Key × V)} {xs : List (List Key × Addr × Value)} (r : KT H kvs xs) (k : List Key) {b : Addr} {y : V} {u : Value} (hb : H b = some (.tup (k.map kV))) (ry : RelV y u) :
    KT H (putK kvs k y) (storedH xs k b u) := by
  have e : (kvs.any fun kv => decide (kv.1 = k)) = (atKey xs k).isSome := by
    rw [valV_any, (r.val k).isSome_eq, Option.isSome_map]
  unfold putK storedH
  rw [e]
  by_cases q : (atKey xs k).isSome = true
  · rw [if_pos q, if_pos q]; exact r.repl k ry
  · rw [if_neg q, if_neg q]; exact Paired.snoc r ⟨rfl, hb, ry⟩
theorem KT.keeps {H H' : Hp} {kvs : List (List Key × V)} {xs : List (List Key × Addr × Value)} (r : KT H kvs xs) (ht : ∀ b ys, H b = some (.tup ys) -> H' b = some (.tup ys)) : KT H' kvs xs :=
  Paired.mapP r fun _ _ z => ⟨z.1, ht _ _ z.2.1, z.2.2⟩
section
variable {P : Program} {w : World} {H : Hp} {h : Heap} {a : Addr}
theorem rd_of {u : HO} (ok : HOk P w H h) (e : Rd H a u) : ObjOk P w H h a u := e.ok ok
theorem dk_rd {kvs : List (Key × V)} (ok : HOk P w H h) (e : Rd H a (.dK kvs)) : kvs.length <= sizeLine /\ (a == sysModules) = false /\ ∃ vs, KV kvs vs /\ h.DictOf (mixKind P w) a vs :=
  show ObjOk P w H h a (.dK kvs) from rd_of ok e
theorem dk_of {kvs : List (Key × V)} (ok : HOk P w H h) (e : H a = some (.dK kvs)) : kvs.length <= sizeLine /\ (a == sysModules) = false /\ ∃ vs, KV kvs vs /\ h.DictOf (mixKind P w) a vs := dk_rd ok (.inl e)
theorem key_of {ks : List Key} (ok : HOk P w H h) (e : H a = some (.tup (ks.map kV))) : (tupleKind (mixKind P w)).is h ks a := by
  obtain ⟨_, its, r, o, h1, h2, n, h3⟩ := (show ObjOk P w H h a (.tup (ks.map kV)) from ok a _ e)
  exact ⟨o, its.toArray, n, h1, h2, h3, by simpa using items_are r⟩
theorem dt_rd {kvs : List (List Key × V)} (ok : HOk P w H h) (e : Rd H a (.dT kvs)) : kvs.length <= sizeLine /\ (a == sysModules) = false /\
    ∃ xs, KT H kvs xs /\ h.DictOfH (tupleKind (mixKind P w)) a xs := by
  obtain ⟨z, y, xs, r, o, es, ep, h1, h2, h3, h4, h5⟩ := (show ObjOk P w H h a (.dT kvs) from rd_of ok e)
  refine ⟨z, y, xs, r, o, es, ep, h1, h2, h3, h4, fun x hx => ?_, h5⟩
  have all : ∀ {l : List (List Key × V)} {m : List (List Key × Addr × Value)}, KT H l m -> ∀ x ∈ m, (tupleKind (mixKind P w)).is h x.1 x.2.1 := by
    intro l m q
    induction q with
    | nil => intro x hx; exact nomatch hx
    | @cons p q ps qs hq t ih =>
      intro x hx
      rcases List.mem_cons.mp hx with e | hx
      · subst e
        exact key_of ok (by rw [<- hq.1]; exact hq.2.1)
      · exact ih x hx
  exact all r x hx
theorem dt_of {kvs : List (List Key × V)} (ok : HOk P w H h) (e : H a = some (.dT kvs)) : kvs.length <= sizeLine /\ (a == sysModules) = false /\
    ∃ xs, KT H kvs xs /\ h.DictOfH (tupleKind (mixKind P w)) a xs := dt_rd ok (.inl e)
end
noncomputable def DPut (H : Hp) (a : Addr) (y v : V) (H' : Hp) : Prop :=
  (∃ kvs k, H a = some (.dK kvs) /\ y = kV k /\ kvs.length < sizeLine /\ H' = upd H a (.dK (putK kvs k v))) \/
  ∃ kvs k b, H a = some (.dT kvs) /\ y = .ref b /\ H b = some (.tup (k.map kV)) /\ kvs.length < sizeLine /\ H' = upd H a (.dT (putK kvs k v))
theorem DPut.k {H : Hp} {a : Addr} {kvs : List (Key × V)} {k : Key} {v : V} (e : H a = some (.dK kvs)) (hl : kvs.length < sizeLine) : DPut H a (kV k) v (upd H a (.dK (putK kvs k v))) := .inl ⟨kvs, k, e, rfl, hl, rfl⟩
section
variable {X : Cx} {pins : List (Addr × Obj)} {σ : St} {H : Hp} {s : Shared} {a : Addr} {y v : V} {u r : Value} {o : Option V} {A : Around} {E : Value -> Shared -> Prop}
theorem Inv.big (I : Inv X pins σ H s) : sysModules < s.heap.objs.size := by
  have h : mainGlobals < s.heap.objs.size := (I.mod.glob.keeps I.bk).lt
  exact Nat.lt_trans (by decide) h
theorem d_write {h' : Heap} {t' : Nat} {ob : HO} (I : Inv X pins σ H s) (mu : Mut (H a)) (hs : Heap.SameBut a s.heap h') (he : ∃ q, h'.get? a = some q) (new : ObjOk X.prog X.w (upd H a ob) h' a ob) :
    Inv X pins σ (upd H a ob) { s with heap := h', toks := t' } :=
  I.write (x := a) (e := a) mu (.inl rfl) (fun b q hb z => (hs.2 b hb).trans z) he new
theorem dk_new {P : Program} {w : World} {H' : Hp} {h' : Heap} {kvs : List (Key × V)} {vs : List (Key × Value)} (z : kvs.length <= sizeLine) (hd : (a == sysModules) = false) (rel : KV kvs vs) (dd : h'.DictOf (mixKind P w) a vs) :
    ObjOk P w H' h' a (.dK kvs) := ⟨z, hd, vs, rel, dd⟩
theorem d_setItem {H' : Hp} {Q : Unit -> Shared -> Prop} (hu : A.units + 1 < cLine) (I : Inv X pins σ H s) (g : DPut H a y v H') (ry : RelV y u) (rv : RelV v r) (h : ∀ s', Inv X pins σ H' s' -> Q () s') :
    wpAny (model X.prog X.w) A (setItem (.ref a) u r) Q E s := by
  rcases g with ⟨kvs, k, e, ey, l, eH⟩ | ⟨kvs, k, b, e, ey, eb, l, eH⟩
  · subst ey eH
    obtain ⟨z, hd, vs, rel, dd⟩ := dk_of I.hok e
    have hz : vs.length <= sizeLine := by rw [<- rel.length]; exact z
    have hl : (putK kvs k v).length <= sizeLine := by have := length_putK kvs k v; omega
    refine wpAny_setItem_pairs (hsz := hz) (kV_is ry) dd fun h' dd' hs => h _ ?_
    have he : ∃ q, h'.get? a = some q := let ⟨q, _, _, hq, _⟩ := dd'; ⟨q, hq⟩
    exact d_write I (by rw [e]; exact True.intro) hs he (dk_new hl hd (rel.put k rv) dd')
  · subst ey eH
    cases (show u = Value.ref b from ry)
    obtain ⟨z, hd, xs, rel, dd⟩ := dt_of I.hok e
    have hz : xs.length <= sizeLine := by rw [<- Paired.length rel]; exact z
    have hl : (putK kvs k v).length <= sizeLine := by have := length_putK kvs k v; omega
    refine wpAny_setItem_heap (hsz := hz) (tupleKind_room_in1 hu) (key_of I.hok eb) dd fun h' dd' hs => h _ ?_
    obtain ⟨q, es, ep, hq, h2, h3, h4, _, h5⟩ := dd'
    refine d_write I (by rw [e]; exact True.intro) hs ⟨q, hq⟩ ⟨hl, hd, _, (rel.put k eb rv).keeps fun c ys ec => ?_, q, es, ep, hq, h2, h3, h4, h5⟩
    rw [zU (ne_of ec e (fun z => nomatch z))]
    exact ec
end
noncomputable def sDPut (td ty tv : TE) : TS := fun D σ H => tv σ H fun v H1 => td σ H1 fun x H2 => ty σ H2 fun y H3 => ∃ a H4, x = .ref a /\ DPut H3 a y v H4 /\ D.nx σ H4
section
variable {X : Cx} {o i e value : Expr} {pos pos' tpos : Pos} {td ty tv : TE}
theorem ps_dput (hu : X.A.units + 1 < cLine) (ho : PE X o td) (hi : PE X i ty) (hv : PE X value tv) (hs : swapsWith value (some (.Subscript o i pos')) pos.line X.env = pure false) :
    PS X (.Assign [.Subscript o i pos'] value pos) (sDPut td ty tv) := by
  intro pins s σ H D I h
  refine wpAny_Assign_Subscript (thn (hv pins s σ H _ I h) fun r s1 ⟨v, H1, I1, rv, q1⟩ => thn (ho pins s1 σ H1 _ I1 q1) fun u s2 ⟨x, H2, I2, rx, q2⟩ => thn (hi pins s2 σ H2 _ I2 q2) fun iv s3 ⟨y, H3, I3, ry, a, H4, ex, g, q3⟩ => ?_) hs
  subst ex
  obtain rfl : u = Value.ref a := rx
  exact d_setItem hu I3 g ry rv fun s4 I4 => ⟨σ, H4, I4, q3⟩
end
theorem dk_empty {P : Program} {w : World} {H : Hp} (h : Heap) (hb : sysModules < h.objs.size) : ObjOk P w H (h.push { cls := .type "dict", data := .dict #[] }) h.objs.size (.dK []) :=
  ⟨Nat.zero_le _, beq_eq_false_iff_ne.mpr (Ne.symm (Nat.ne_of_lt hb)), [], .nil, Heap.DictOf.new h⟩
noncomputable def tDNewK : TE := fun _ H Q => ∀ p, H p = none -> Q (.ref p) (upd H p (.dK []))
section
variable {X : Cx} {pos : Pos}
theorem pe_dnewK : PE X (.Dict [] [] pos) tDNewK := fun pins s σ H Q I h =>
  wpAny_Dict_empty ⟨.ref s.heap.objs.size, _, I.laid (a := s.heap.objs.size) (o := .dK []) (t' := s.toks) (fun _ _ q => Heap.get?_push_of_some _ q) (Nat.le_refl _) (dk_empty s.heap I.big), rfl, h _ (I.hok.fresh (Nat.le_refl _))⟩
end
structure M2 (X : Cx) (o : Expr) (m : Str) (apos : Pos) (e f : Expr) (cpos : Pos) : Prop where
  base : attributeBase o m X.env (eval o X.env) = eval o X.env
  few : ((backTo cpos (starEach [e, f] X.env)).all (fun x => !x.1) && (backToKw cpos (keywordEach [] X.env)).all (fun x => x.1.isSome)
    && decide (([e, f] : List Expr).length + ([] : List Keyword).length + (if ([] : List Keyword).isEmpty then 0 else 1) < 30)) = true
  line : (apos.endLine == cpos.line) = true
  trees : backTo cpos (starEach [e, f] X.env) = [(false, eval e X.env), (false, eval f X.env)]
noncomputable def IsD (H : Hp) (a : Addr) : Prop := (∃ kvs, Rd H a (.dK kvs)) \/ ∃ kvs, Rd H a (.dT kvs)
theorem isD_at {X : Cx} {pins : List (Addr × Obj)} {σ : St} {H : Hp} {s : Shared} {a : Addr} (I : Inv X pins σ H s) (d : IsD H a) :
    s.TypeIs (.ref a) "dict" /\ (∀ b, Value.ref a = .ref b -> ∃ ob, s.heap.get? b = some ob /\ ob.dict = none) /\ (a == sysModules) = false := by
  rcases d with ⟨kvs, e⟩ | ⟨kvs, e⟩
  · obtain ⟨_, hd, vs, _, dd⟩ := dk_rd I.hok e
    refine ⟨dd.typeIs, fun b q => ?_, hd⟩
    cases q
    obtain ⟨ob, _, _, h1, h2, _⟩ := dd
    exact ⟨ob, h1, h2.2.1⟩
  · obtain ⟨_, hd, xs, _, dd⟩ := dt_rd I.hok e
    refine ⟨dd.typeIs, fun b q => ?_, hd⟩
    cases q
    obtain ⟨ob, _, _, h1, h2, _⟩ := dd
    exact ⟨ob, h1, h2.2.1⟩
section
variable {X : Cx} {pins : List (Addr × Obj)} {σ : St} {H : Hp} {s : Shared} {a : Addr} {kvs : List (Key × V)} {A : Around} {E : Value -> Shared -> Prop}
theorem d_copyOf {Q : Value -> Shared -> Prop} (I : Inv X pins σ H s) (e : Rd H a (.dK kvs)) (h : ∀ p s', H p = none -> Inv X pins σ (upd H p (.dK kvs)) s' -> Q (.ref p) s') : wpAny (model X.prog X.w) A (call (.type "dict") [.ref a]) Q E s := by
  obtain ⟨z, hd, vs, rel, dd⟩ := dk_rd I.hok e
  refine kt_call_dict hd dd (by rw [<- rel.length]; exact z) fun h' dd' hs => ?_
  refine h _ _ (I.hok.fresh (Nat.le_refl _)) (I.laid (a := s.heap.objs.size) (o := .dK kvs) (t' := s.toks) (fun b q hq => ?_) (Nat.le_refl _) (dk_new z (beq_eq_false_iff_ne.mpr (Ne.symm (Nat.ne_of_lt I.big))) rel dd'))
  exact (hs.2 b (Nat.ne_of_lt (Heap.lt_size hq))).trans (Heap.get?_push_of_some _ hq)
end
end L2
namespace DD
open PySem PySem.Spec PyProof.Rows L2
noncomputable def keyD : D -> Option Key
  | .int i => some (.inl i)
  | .str s => some (.inr ⟨s.toArray⟩)
  | _ => none
noncomputable def dKey : Key -> D
  | .inl i => .int i
  | .inr s => .str s.cps.toList
theorem keyD_ok {K : Fg} {O : Addr -> Prop} {H : Hp} {d : D} {v : V} {k : Key} (e : keyD d = some k) (h : Is K O H d v) : v = kV k := by
  cases d <;> first | (cases e; done) | skip
  · cases e; rw [Is.int_iff] at h; exact h
  · cases e; rw [Is.str_iff] at h; exact h
theorem dKey_ok {K : Fg} {O : Addr -> Prop} {H : Hp} (k : Key) : Is K O H (dKey k) (kV k) := by
  cases k with
  | inl i => show Is K O H (.int i) (.int i); rw [Is.int_iff]
  | inr s => show Is K O H (.str s.cps.toList) (.str s); rw [Is.str_iff]
noncomputable def putD (ks : List Key) (l : List D) (k : Key) (d : D) : List Key × List D := if (ks.any fun j => decide (j = k)) = true then (ks, List.zipWith (fun j e => if j = k then d else e) ks l) else (ks ++ [k], l ++ [d])
section
variable {K : Fg} {O0 : Addr -> Prop} {H H1 H' : Hp} {r : En} {σ : St} {i : Nat} {d : D} {v : V} {a : Addr}
theorem repl_isl {O : Addr -> Prop} {k : Key} (hd : Is K O H d v) : ∀ {kvs : List (Key × V)} {l : List D}, IsL K O H l (kvs.map (·.2)) -> IsL K O H (List.zipWith (fun j e => if j = k then d else e) (kvs.map (·.1)) l) ((kvs.map fun kv => if kv.1 = k then (kv.1, v) else kv).map (·.2))
  | [], [], _ => .nil
  | [], d' :: l, h => by unfold IsL at h; obtain ⟨_, _, e, _⟩ := h; cases e
  | p :: kvs, [], h => by unfold IsL at h; cases h
  | p :: kvs, d' :: l, h => by
    unfold IsL at h
    obtain ⟨x, y, e, h1, h2⟩ := h
    rw [List.map_cons] at e
    cases e
    rw [List.map_cons, List.map_cons, List.map_cons, List.zipWith_cons_cons]
    refine .cons ?_ (repl_isl hd h2)
    by_cases q : p.1 = k
    · rw [if_pos q, if_pos q]; exact hd
    · rw [if_neg q, if_neg q]; exact h1
theorem putK_ok {O : Addr -> Prop} {k : Key} {kvs : List (Key × V)} {ks : List Key} {l : List D} (hk : kvs.map (·.1) = ks) (hl : IsL K O H l (kvs.map (·.2))) (hd : Is K O H d v) : (putK kvs k v).map (·.1) = (putD ks l k d).1 /\ IsL K O H (putD ks l k d).2 ((putK kvs k v).map (·.2)) := by
  subst hk
  have ea : (kvs.any fun kv => decide (kv.1 = k)) = ((kvs.map (·.1)).any fun j => decide (j = k)) := by rw [List.any_map]; rfl
  unfold putK putD
  rw [ea]
  by_cases q : ((kvs.map (·.1)).any fun j => decide (j = k)) = true
  · rw [if_pos q, if_pos q]
    refine ⟨?_, repl_isl hd hl⟩
    rw [List.map_map]
    (refine List.map_congr_left fun x _ => ?_)
    show (if x.1 = k then (x.1, v) else x).1 = x.1
    split <;> rfl
  · rw [if_neg q, if_neg q, List.map_append, List.map_append]
    exact ⟨rfl, hl.append (.cons hd .nil)⟩
theorem R.setd {ks : List Key} {l : List D} {kvs : List (Key × V)} {p : Addr} (h : R K O0 H r σ) (s : zR H H1) (n : H p = none) (e : H1 p = some (.dK kvs)) (hk : kvs.map (·.1) = ks) (hl : IsL K (fun b => Ow O0 r σ b \/ b = p) H1 l (kvs.map (·.2))) (hi : i < r.length) (np : ∀ l, r[i]? ≠ some (.p l) /\ r[i]? ≠ some (.z l)) :
    R K O0 H1 (r.set i (.d ks l)) (σ.set i (some (.ref p))) /\ Kp H r σ H1 (r.set i (.d ks l)) (σ.set i (some (.ref p))) := by
  have his : i < σ.length := by rw [<- h.len]; exact hi
  have ow : ∀ {q : Sl -> Option (List D)} a, AtS q (r.set i (.d ks l)) (σ.set i (some (.ref p))) a -> AtS q r σ a \/ a = p := fun {q} a z => by
    obtain ⟨j, m, e1, q1⟩ := z
    by_cases hj : i = j
    · subst hj
      rw [zQ his] at q1; cases q1; exact .inr rfl
    · rw [zG hj] at e1 q1
      exact .inl ⟨j, m, e1, q1⟩
  have sub : ∀ a, Ow O0 (r.set i (.d ks l)) (σ.set i (some (.ref p))) a -> H a ≠ none -> Ow O0 r σ a := fun a z nn => z.elim .inl fun z => (ow a z).elim .inr fun z => by subst z; exact absurd n nn
  have olp : OLst (fun b => Ow O0 r σ b \/ b = p) H1 := fun b z => z.elim (fun z => (h.same s).ol b z) fun z => by subst z; exact ⟨.dK kvs, e, trivial⟩
  refine ⟨⟨by simp [h.len], fun j d' e1 => ?_, fun j m e1 => ?_, fun j k a l1 m e1 e2 q1 q2 => ?_, (h.same s).o0, fun j m a e1 q => ?_, fun j m a e1 q => ?_, fun j ks' m e1 => ?_⟩, ⟨fun b o e1 _ => s b o e1, fun b e1 => s.free e1, fun b o e1 mb => ⟨o, s _ _ e1, mb⟩, fun b z => (ow b z).imp id fun z => by subst z; exact n, fun b z => (ow b z).imp id fun z => by subst z; exact n, fun j m e1 => ?_, fun j m e1 => ?_⟩⟩
  · have hj : i ≠ j := fun z => by subst z; rw [zQ hi] at e1; cases e1
    rw [zG hj] at e1
    obtain ⟨u, e2, q⟩ := h.val j d' e1
    exact ⟨u, by rw [zG hj]; exact e2, Is.mono (zR.kp s _) h.ol sub _ _ q⟩
  · have hj : i ≠ j := fun z => by subst z; rw [zQ hi] at e1; cases e1
    rw [zG hj] at e1
    obtain ⟨a, ys, e2, e3, q⟩ := h.own j m e1
    exact ⟨a, ys, by rw [zG hj]; exact e2, s _ _ e3, IsL.mono (zR.kp s _) h.ol sub _ _ q⟩
  · have out : ∀ (j : Nat) (m : List D) (a : Addr), i ≠ j -> ((r.set i (.d ks l))[j]?).bind Sl.own = some m -> (σ.set i (some (.ref p)))[j]? = some (some (.ref a)) -> a ≠ p := fun j m a hj e1 q1 z => by
      rw [zG hj] at e1 q1
      obtain ⟨b, ys, e2, e3, _⟩ := h.obj e1
      rw [q1] at e2; cases e2
      subst z
      rw [n] at e3; cases e3
    by_cases hj : i = j
    · by_cases hk : i = k
      · exact hj.symm.trans hk
      · subst hj
        rw [zQ his] at q1; cases q1
        exact absurd rfl (out k m p hk e2 q2)
    · by_cases hk : i = k
      · subst hk
        rw [zQ his] at q2; cases q2
        exact absurd rfl (out j l1 p hj e1 q1)
      · rw [zG hj] at e1 q1
        rw [zG hk] at e2 q2
        exact h.apart j k a l1 m e1 e2 q1 q2
  · by_cases hj : i = j
    · subst hj
      rw [zQ his] at q; cases q
      exact fun z => by obtain ⟨ys, e3, _⟩ := h.o0 p z; rw [n] at e3; cases e3
    · rw [zG hj] at e1 q
      exact h.loc j m a e1 q
  · have hj : i ≠ j := fun z => by subst z; rw [zQ hi] at e1; cases e1
    rw [zG hj] at e1 q
    exact h.par j m a e1 q
  · by_cases hj : i = j
    · subst hj
      rw [zQ hi] at e1; cases e1
      exact ⟨p, kvs, zQ his, e, hk, IsL.mono (zR.kp (zR.refl H1) _) olp (fun a z _ => z.elim (fun z => .inl (.inl z)) fun z => (ow a z).imp .inr id) _ _ hl⟩
    · rw [zG hj] at e1
      obtain ⟨a, kv2, e2, e3, e4, q⟩ := h.dct j ks' m e1
      exact ⟨a, kv2, by rw [zG hj]; exact e2, s _ _ e3, e4, IsL.mono (zR.kp s _) h.ol sub _ _ q⟩
  · have hj : i ≠ j := fun z => by subst z; exact (np m).1 e1
    exact ⟨⟨m, by rw [zG hj]; exact e1⟩, zG hj⟩
  · have hj : i ≠ j := fun z => by subst z; exact (np m).2 e1
    exact ⟨by rw [zG hj]; exact e1, zG hj⟩
theorem R.updd {ks ks' : List Key} {l l' : List D} {kvs kvs' : List (Key × V)} (h : R K O0 H r σ) (ei : r[i]? = some (.d ks l)) (ha : σ[i]? = some (some (.ref a))) (hx : H a = some (.dK kvs)) (hk : kvs'.map (·.1) = ks') (il : IsL K (Ow O0 r σ) H l' (kvs'.map (·.2))) :
    R K O0 (L2.upd H a (.dK kvs')) (r.set i (.d ks' l')) σ /\ Kp H r σ (L2.upd H a (.dK kvs')) (r.set i (.d ks' l')) σ := by
  have hi : i < r.length := (List.getElem?_eq_some_iff.mp ei).1
  have own_i : OwnAt r σ a := ⟨i, l, by rw [ei]; rfl, ha⟩
  have mut_i : MutAt r σ a := ⟨i, l, by rw [ei]; rfl, ha⟩
  have atO : ∀ b, OwnAt (r.set i (.d ks' l')) σ b -> OwnAt r σ b := fun b ⟨j, m, e1, q1⟩ => by
    by_cases hj : i = j
    · subst hj; rw [ha] at q1; cases q1; exact own_i
    · rw [zG hj] at e1; exact ⟨j, m, e1, q1⟩
  have atM : ∀ b, MutAt (r.set i (.d ks' l')) σ b -> MutAt r σ b := fun b ⟨j, m, e1, q1⟩ => by
    by_cases hj : i = j
    · subst hj; rw [ha] at q1; cases q1; exact mut_i
    · rw [zG hj] at e1; exact ⟨j, m, e1, q1⟩
  have sub : ∀ b, Ow O0 (r.set i (.d ks' l')) σ b -> H b ≠ none -> Ow O0 r σ b := fun b z _ => z.imp id (atO b)
  have keep : Keep (Ow O0 r σ) H (L2.upd H a (.dK kvs')) := fun b o e1 n => by rw [zU (fun z => n (by subst z; exact .inr own_i))]; exact e1
  have lst : ∀ b o, H b = some o -> Mb o -> ∃ o', L2.upd H a (.dK kvs') b = some o' /\ Mb o' := fun b o e1 mb => by
    by_cases hb : b = a
    · subst hb; exact ⟨_, zT, trivial⟩
    · exact ⟨o, by rw [zU hb]; exact e1, mb⟩
  have other : ∀ (j : Nat) (m : List D) (b : Addr), i ≠ j -> (r[j]?).bind Sl.own = some m -> σ[j]? = some (some (.ref b)) -> b ≠ a := fun j m b hj e1 q1 z => by
    subst z
    exact hj (h.apart i j b l m (by rw [ei]; rfl) e1 ha q1)
  refine ⟨⟨by simp [h.len], fun j d' e1 => ?_, fun j m e1 => ?_, fun j k b m n e1 e2 q1 q2 => ?_, fun b z => ?_, fun j m b e1 q1 => ?_, fun j m b e1 q1 => ?_, fun j ks2 m e1 => ?_⟩, ⟨fun b o e1 n => by rw [zU (fun z => n (by subst z; exact mut_i))]; exact e1, fun b e1 => ?_, lst, fun b z => .inl (atO b z), fun b z => .inl (atM b z), fun j m e1 => ?_, fun j m e1 => ?_⟩⟩
  · have hj : i ≠ j := fun z => by subst z; rw [zQ hi] at e1; cases e1
    rw [zG hj] at e1
    obtain ⟨v, q1, q2⟩ := h.val j d' e1
    exact ⟨v, q1, Is.mono keep h.ol sub _ _ q2⟩
  · have hj : i ≠ j := fun z => by subst z; rw [zQ hi] at e1; cases e1
    rw [zG hj] at e1
    obtain ⟨b, ys, q1, q2, q3⟩ := h.own j m e1
    exact ⟨b, ys, q1, by rw [zU (other j m b hj (ls_own' e1) q1)]; exact q2, IsL.mono keep h.ol sub _ _ q3⟩
  · have get : ∀ (j : Nat) (m : List D), ((r.set i (.d ks' l'))[j]?).bind Sl.own = some m -> ∃ m', (r[j]?).bind Sl.own = some m' := fun j m e1 => by
      by_cases hj : i = j
      · subst hj; exact ⟨l, by rw [ei]; rfl⟩
      · rw [zG hj] at e1; exact ⟨m, e1⟩
    obtain ⟨m', z1⟩ := get j m e1
    obtain ⟨n', z2⟩ := get k n e2
    exact h.apart j k b m' n' z1 z2 q1 q2
  · obtain ⟨o, q, mb⟩ := h.o0 b z; exact lst b o q mb
  · by_cases hj : i = j
    · subst hj
      exact h.loc i l b (.inr (.inr ⟨ks, ei⟩)) q1
    · rw [zG hj] at e1
      exact h.loc j m b e1 q1
  · have hj : i ≠ j := fun z => by subst z; rw [zQ hi] at e1; cases e1
    rw [zG hj] at e1
    exact h.par j m b e1 q1
  · by_cases hj : i = j
    · subst hj
      rw [zQ hi] at e1; cases e1
      exact ⟨a, kvs', ha, zT, hk, IsL.mono keep h.ol sub _ _ il⟩
    · rw [zG hj] at e1
      obtain ⟨b, kv2, q1, q2, q4, q3⟩ := h.dct j ks2 m e1
      exact ⟨b, kv2, q1, by rw [zU (other j m b hj (by rw [e1]; rfl) q1)]; exact q2, q4, IsL.mono keep h.ol sub _ _ q3⟩
  · by_cases hb : b = a
    · subst hb; rw [zT] at e1; cases e1
    · rw [zU hb] at e1; exact e1
  · have hj : i ≠ j := fun z => by subst z; rw [ei] at e1; cases e1
    exact ⟨⟨m, by rw [zG hj]; exact e1⟩, rfl⟩
  · have hj : i ≠ j := fun z => by subst z; rw [ei] at e1; cases e1
    exact ⟨by rw [zG hj]; exact e1, rfl⟩
end
noncomputable def setD (i : Nat) (ks : List Key) (l : List D) (r : En) : Option En := match r[i]? with
  | some (.p _) => none
  | some (.z _) => none
  | some _ => some (r.set i (.d ks l))
  | none => none
theorem setD_some {i : Nat} {r r' : En} {ks : List Key} {l : List D} (e : setD i ks l r = some r') : i < r.length /\ (∀ l, r[i]? ≠ some (.p l) /\ r[i]? ≠ some (.z l)) /\ r' = r.set i (.d ks l) := by
  unfold setD at e
  cases e1 : r[i]? with
  | none => rw [e1] at e; cases e
  | some x =>
    have hi : i < r.length := (List.getElem?_eq_some_iff.mp e1).1
    rw [e1] at e
    cases x <;> first | (cases e; done) | (cases e; exact ⟨hi, fun l => ⟨(fun z => by cases z), (fun z => by cases z)⟩, rfl⟩)
noncomputable def mKeys (i : Nat) : ML := fun r => match r[i]? with
  | some (.d ks _) => some (ks.map dKey)
  | _ => none
noncomputable def sDSet (i : Nat) (fk fe : ME) : MS := fun r => (fe r).bind fun d => (fk r).bind fun kd => (keyD kd).bind fun k => match r[i]? with
  | some (.d ks l) => if ks.length < sizeLine then some (.nx (r.set i (.d (putD ks l k d).1 (putD ks l k d).2))) else none
  | _ => none
section
variable {X : Cx} {a k e : Expr} {f g : ME} {pos ps pn p : Pos} {x : Str}
theorem ds_dput (i : Nat) (hu : X.A.units + 1 < cLine) (h : PE X (.Name x pn) (tVar i)) (hk : DE X k g) (he : DE X a f)
    (hs : swapsWith a (some (.Subscript (.Name x pn) k ps)) pos.line X.env = pure false := by rfl) :
    DS X (.Assign [.Subscript (.Name x pn) k ps] a pos) (sDSet i g f) := by
  refine PS.conseq (ps_dput hu h hk he hs) fun Dn σ H hq => ?_
  obtain ⟨O0, r, fl, hR, e, q⟩ := hq
  obtain ⟨d, e1, e⟩ := bind_some e
  obtain ⟨kd, e2, e⟩ := bind_some e
  obtain ⟨key, e3, e⟩ := bind_some e
  cases er : r[i]? with
  | none => rw [er] at e; cases e
  | some y =>
    rw [er] at e
    cases y <;> first | (cases e; done) | skip
    rename_i ks l
    simp only at e
    split at e
    · rename_i hlen
      cases e
      obtain ⟨b, kvs, q1, q2, q4, q3⟩ := hR.dct i ks l er
      refine ⟨O0, r, d, hR, e1, fun v H1 s1 i1 => ⟨.ref b, q1, O0, r, kd, hR.same s1, e2, fun u H2 s2 i2 => ?_⟩⟩
      have hu2 := keyD_ok e3 i2
      subst hu2
      have R2 := (hR.same s1).same s2
      have q3' := (q3.same s1 hR.ol).same s2 (hR.same s1).ol
      have i1' : Is X.K (Ow O0 r σ) H2 d v := Is.mono (zR.kp s2 _) (hR.same s1).ol (fun _ z _ => z) _ _ i1
      obtain ⟨p1, p2⟩ := putK_ok (k := key) q4 q3' i1'
      have q2' := s2 _ _ (s1 _ _ q2)
      obtain ⟨R3, k3⟩ := R2.updd er q1 q2' p1 p2
      have hl : kvs.length < sizeLine := by rw [<- q4, List.length_map] at hlen; exact hlen
      exact ⟨b, _, rfl, DPut.k q2' hl, q σ _ R3 ((Kp.of_same r σ (s1.trans s2)).trans k3)⟩
    · cases e
theorem is_rel {P : Program} {w : World} {k : Key} {u : Value} (h : (mixKind P w).is k u = true) : RelV (kV k) u := by
  rcases keyIs_shape h with ⟨i, t, rfl, rfl⟩ | ⟨y, t, rfl, rfl⟩
  · exact ⟨t, rfl⟩
  · exact ⟨t, rfl⟩
theorem vals_of : ∀ {xs : List V} {us : List Value}, xs.length = us.length -> (∀ (j : Nat) (u : Value), us[j]? = some u -> ∃ y, xs[j]? = some y /\ RelV y u) -> yD xs us
  | [], [], _, _ => .nil
  | [], _ :: _, h, _ => (by cases h)
  | _ :: _, [], h, _ => (by cases h)
  | y :: xs, u :: us, hl, h => by
    obtain ⟨z, e, q⟩ := h 0 u rfl
    cases e
    exact .cons q (vals_of (by simpa using hl) fun j w ew => h (j + 1) w (by simpa using ew))
theorem call_list_dict (hc : X.calm = true) : CallR X (.type "list") (fun xs H Q => ∃ p kvs, xs = [.ref p] /\ Rd H p (.dK kvs) /\ ∀ l, H l = none -> Q (.ref l) (upd H l (.lst (kvs.map fun kv => kV kv.1)))) := by
  intro pins s σ H xs us Q I r h
  obtain ⟨p, kvs, rfl, e, q⟩ := h
  obtain ⟨u, rfl, rx⟩ := vals1 r
  cases rx
  obtain ⟨z, hd, vs, rel, dd⟩ := dk_rd I.hok e
  obtain ⟨ep, da⟩ := dd.dictAt
  have hlen := KV.length rel
  have hkeys := KV.keys rel
  refine PySem.W.kdl_call (PySem.W.kdl_dict (knd := mixKind X.prog X.w) (kvs := vs) (ep := ep) hd) (I.ok.hd hc) da (by rw [<- hlen]; exact z) fun h' tk acc' c' hk hS hacc => ?_
  have vv : yD (kvs.map fun kv => kV kv.1) acc'.toList := by
    refine vals_of (by rw [List.length_map, hlen, <- hacc.1]; simp) fun j u eu => ?_
    obtain ⟨k, x, ev, is⟩ := hacc.2 j u (by rw [<- Array.getElem?_toList]; exact eu)
    refine ⟨kV k, ?_, is_rel is⟩
    have e1 : (kvs.map (·.1))[j]? = some k := by rw [hkeys, List.getElem?_map, ev]; rfl
    rw [List.getElem?_map] at e1 ⊢
    cases e2 : kvs[j]? with
    | none => rw [e2] at e1; cases e1
    | some kv => rw [e2] at e1; cases e1; rfl
  exact ⟨.ref s.heap.objs.size, _, I.laid (t' := tk) hk (Nat.le_refl _) (show ObjOk X.prog X.w _ h' _ (.lst _) from ⟨by rw [List.length_map]; exact z, acc'.toList, c', vv, by simpa using hS⟩), rfl, q _ (I.hok.fresh (Nat.le_refl _))⟩
theorem keys_isl {K : Fg} {O : Addr -> Prop} {H : Hp} : ∀ kvs : List (Key × V), IsL K O H ((kvs.map (·.1)).map dKey) (kvs.map fun kv => kV kv.1)
  | [] => .nil
  | kv :: r => .cons (dKey_ok kv.1) (keys_isl r)
theorem df_keys (i : Nat) {p' : Pos} (hc : X.calm = true) (hg : Gl X "list") (hm : X.mg "list" = none) (h : PE X (.Name x pn) (tVar i)) (hs : starEach [.Name x pn] X.env = (false, eval (.Name x pn) X.env) :: starEach [] X.env := by rfl) : DF X (.Call (.Name "list" p') [.Name x pn] [] pos) (mKeys i) := by
  refine PE.conseq (pe_callTy (call_list_dict hc) hg hm PyProof.Rows.boot_list (pa_cons h pa_nil hs) (he := hs)) fun σ H Q hq => ?_
  obtain ⟨O0, r, l, hR, e, q⟩ := hq
  cases er : r[i]? with
  | none => unfold mKeys at e; rw [er] at e; cases e
  | some y =>
    unfold mKeys at e
    rw [er] at e
    cases y <;> first | (cases e; done) | skip
    rename_i ks l'
    cases e
    obtain ⟨b, kvs, q1, q2, q4, q3⟩ := hR.dct i ks l' er
    refine ⟨.ref b, q1, b, kvs, rfl, .inl q2, fun t ht => ?_⟩
    subst q4
    exact q t _ _ (zW ht) ht zT (keys_isl kvs)
end
section
variable {prog : Program} {w : World} {A : Around} {E : Value -> Shared -> Prop} {s : Shared}
theorem pyHash_none {Q : Int -> Shared -> Prop} (h : Q 4238894112 { s with toks := s.toks + 1 }) : wpAny (model prog w) A (pyHash .none) Q E s := by
  unfold pyHash pyHashByItsType
  have hv : [Value.none].any Value.onHeap = false := rfl
  refine wpAny_bind ?_
  (rw [cRoomFor, if_neg (by rw [hv]; exact Bool.false_ne_true)]; refine wpAny_pure ?_)
  refine wpAny_bind (wpAny_specialOf (T := "NoneType") rfl PySem.F.slot_NoneType_hash.lookup ?_)
  show wpAny _ _ (if (some (Value.builtin "NoneType.__hash__") == some Value.none) = true then _ else _) Q E s
  rw [if_neg (by decide)]
  refine wpAny_bind (wpAny_specialOf (T := "NoneType") rfl PySem.F.slot_NoneType_hash.lookup ?_)
  show wpAny _ _ (callSpecialIfBoundUnlessNone? .none "__hash__" _ >>= _) Q E s
  refine wpAny_bind (wpAny_callSpecialIfBoundUnlessNone?_slot (T := "NoneType") rfl PySem.F.slot_NoneType_hash
    (wpAny_call_entry (T := "NoneType") PySem.F.slot_NoneType_hash rfl PySem.F.entry_NoneType_hash
      (show wpAny _ _ (do ret (<- mkInt 4238894112)) _ _ s from wpAny_ret_mkInt ?_) (PySem.F.args_NoneType_hash_1 _)))
  exact wpAny_pure h
end
noncomputable def keyIsO : Option Key -> Value -> Bool
  | none, .none => true
  | none, _ => false
  | some k, v => keyIs k v
theorem keyIsO_shape {k : Option Key} {v : Value} (h : keyIsO k v = true) : (k = none /\ v = .none) \/ ∃ j, k = some j /\ keyIs j v = true := by
  cases k with
  | none => cases v <;> first | exact .inl ⟨rfl, rfl⟩ | cases h
  | some j => exact .inr ⟨j, rfl, h⟩
theorem keyIs_none {k : Key} : keyIs k .none = false := by cases k <;> rfl
theorem eq_none {prog : Program} {w : World} {A : Around} {E : Value -> Shared -> Prop} {s : Shared} {Q : Bool -> Shared -> Prop} (h : Q true s) : wpAny (model prog w) A (eqBool .none .none) Q E s := by
  show wpAny (model prog w) A (do rule "eq-bool.same-object"; pure true) Q E s
  (exact wpAny_bind (wpAny_rule (wpAny_pure h)))
noncomputable def optKind (prog : Program) (w : World) : PySem.KeyKind prog w (Option Key) where
  is := keyIsO
  hash := fun k => match k with
    | none => 4238894112
    | some k => keyH w k
  inj := fun v a b ha hb => by
    rcases keyIsO_shape ha with ⟨rfl, rfl⟩ | ⟨i, rfl, h1⟩
    · rcases keyIsO_shape hb with ⟨rfl, _⟩ | ⟨j, rfl, h2⟩
      · rfl
      · rw [keyIs_none] at h2; cases h2
    · rcases keyIsO_shape hb with ⟨rfl, rfl⟩ | ⟨j, rfl, h2⟩
      · rw [keyIs_none] at h1; cases h1
      · rw [(mixKind prog w).inj v i j h1 h2]
  byValue := fun k v h => by
    rcases keyIsO_shape h with ⟨rfl, rfl⟩ | ⟨i, rfl, h1⟩
    · rfl
    · exact (mixKind prog w).byValue i v h1
  pyHash := fun hv h => by
    rcases keyIsO_shape hv with ⟨rfl, rfl⟩ | ⟨i, rfl, h1⟩
    · exact pyHash_none h
    · exact (mixKind prog w).pyHash h1 h
  eqBool := fun {A E s a b u v Q} hu hv h => by
    rcases keyIsO_shape hu with ⟨rfl, rfl⟩ | ⟨i, rfl, h1⟩
    · rcases keyIsO_shape hv with ⟨rfl, rfl⟩ | ⟨j, rfl, h2⟩
      · exact eq_none (by simpa using h)
      · have h' : Q false s := by rw [decide_eq_false (by intro z; cases z)] at h; exact h
        rcases keyIs_shape h2 with ⟨n, t, rfl, rfl⟩ | ⟨y, t, rfl, rfl⟩
        · exact SeqAt.EqAt.none_int n t _ _ _ _ h'
        · exact SeqAt.EqAt.none_str y t _ _ _ _ h'
    · rcases keyIsO_shape hv with ⟨rfl, rfl⟩ | ⟨j, rfl, h2⟩
      · have h' : Q false s := by rw [decide_eq_false (by intro z; cases z)] at h; exact h
        rcases keyIs_shape h1 with ⟨n, t, rfl, rfl⟩ | ⟨y, t, rfl, rfl⟩
        · exact SeqAt.EqAt.int_none n t _ _ _ _ h'
        · exact SeqAt.EqAt.str_none y t _ _ _ _ h'
      · refine (mixKind prog w).eqBool h1 h2 ?_
        have e : decide (some i = some j) = decide (i = j) := by
          by_cases q : i = j
          · rw [decide_eq_true q, decide_eq_true (by rw [q])]
          · rw [decide_eq_false q, decide_eq_false (fun z => q (Option.some.inj z))]
        rw [e] at h; exact h
  «strs» := fun k x t v h => by
    rcases keyIsO_shape h with ⟨rfl, e⟩ | ⟨i, rfl, h1⟩
    · cases e
    · exact (mixKind prog w).strs i x t v h1
noncomputable def vO : Option Key -> V
  | none => .non
  | some k => kV k
theorem vO_is {P : Program} {w : World} {k : Option Key} {u : Value} (r : RelV (vO k) u) : (optKind P w).is k u = true := by
  cases k with
  | none => cases (show u = Value.none from r); rfl
  | some k => exact kV_is (P := P) (w := w) r
noncomputable def valO (kvs : List (Key × V)) : Option Key -> Option V
  | none => none
  | some k => valV kvs k
theorem mapO {P : Program} {w : World} {h : Heap} {a : Addr} {vs : List (Key × Value)} (d : h.DictOf (mixKind P w) a vs) : h.MapOf (optKind P w) a (fun k => match k with | none => none | some k => valueAt vs k) := by
  obtain ⟨o, es, ep, ho, hc, hdat, hk, hf⟩ := d.mapOf
  refine ⟨o, es, ep, ho, hc, hdat, fun e he => ?_, fun k => ?_⟩
  · obtain ⟨j, h1, h2⟩ := hk e he
    exact ⟨some j, h1, h2⟩
  · cases k with
    | some k => exact hf k
    | none =>
      have nof : ∀ e ∈ es, keyIsO none e.key = false := fun e he => by
        obtain ⟨j, h1, _⟩ := hk e he
        rcases keyIs_shape (show keyIs j e.key = true from h1) with ⟨n, t, _, q⟩ | ⟨y, t, _, q⟩ <;> rw [q] <;> rfl
      show findBy keyIsO es none = none
      unfold findBy
      rw [Array.find?_eq_none.mpr (fun e he => by rw [nof e he]; exact Bool.false_ne_true)]
      rfl
section
variable {X : Cx} {pins : List (Addr × Obj)} {σ : L2.St} {H : Hp} {s : Shared} {a : Addr} {kvs : List (Key × V)} {k : Option Key} {u r : Value} {d : V} {A : Around} {E : Value -> Shared -> Prop}
theorem relO_val {vs : List (Key × Value)} (rel : KV kvs vs) (k : Option Key) : RelO (valO kvs k) (match k with | none => none | some k => valueAt vs k) := by
  cases k with
  | none => exact trivial
  | some k => exact rel.val k
theorem o_get {Q : Value -> Shared -> Prop} (I : Inv X pins σ H s) (e : Rd H a (.dK kvs)) (ry : RelV (vO k) u) (rd : RelV d r) (h : ∀ w' s', Inv X pins σ H s' -> RelV ((valO kvs k).getD d) w' -> Q w' s') :
    wpAny (model X.prog X.w) A (call (.builtin "dict.get") [.ref a, u, r]) Q E s := by
  obtain ⟨z, hd, vs, rel, dd⟩ := dk_rd I.hok e
  refine call_meetsIn PySem.F.slot_dict_get dd.typeIs PySem.F.entry_dict_get (PySem.F.args_dict_get_3 _ _ _) (meets_dict_get_default (optKind X.prog X.w) a (vO_is ry) hd r) ⟨_, mapO dd, h _ _ (I.tok _) ?_⟩
  exact (relO_val rel k).getD rd
theorem o_notIn {Q : Value -> Shared -> Prop} (I : Inv X pins σ H s) (e : Rd H a (.dK kvs)) (ry : RelV (vO k) u) (h : ∀ s', Inv X pins σ H s' -> Q (.bool (!(valO kvs k).isSome)) s') :
    wpAny (model X.prog X.w) A (compareOp .NotIn u (.ref a)) Q E s := by
  obtain ⟨z, hd, vs, rel, dd⟩ := dk_rd I.hok e
  refine wpAny_notIn_of (vO_is ry) hd (mapO dd) ?_
  rw [<- (relO_val rel k).isSome_eq]
  exact h _ (I.tok _)
end
noncomputable abbrev MD := En -> Option (List Key × List D)
noncomputable def lDc (K : Fg) (f : MD) : TE := fun σ H Q => ∃ O0 r ks l, R K O0 H r σ /\ f r = some (ks, l) /\ ∀ a kvs H', zR H H' -> Rd H' a (.dK kvs) -> kvs.map (·.1) = ks -> IsL K (Ow O0 r σ) H' l (kvs.map (·.2)) -> Q (.ref a) H'
noncomputable def lFd (K : Fg) (f : MD) : TE := fun σ H Q => ∃ O0 r ks l, R K O0 H r σ /\ f r = some (ks, l) /\ ∀ a kvs H', zR H H' -> H a = none -> H' a = some (.dK kvs) -> kvs.map (·.1) = ks -> IsL K (fun b => Ow O0 r σ b \/ b = a) H' l (kvs.map (·.2)) -> Q (.ref a) H'
noncomputable def DDc (X : Cx) (e : Expr) (f : MD) : Prop := PE X e (lDc X.K f)
noncomputable def DFd (X : Cx) (e : Expr) (f : MD) : Prop := PE X e (lFd X.K f)
noncomputable def mAsD (f : ME) : MD := fun r => (f r).bind fun d => match d with
  | .dct ks l => some (ks, l)
  | _ => none
noncomputable def mDct (i : Nat) : MD := fun r => match r[i]? with
  | some (.d ks l) => some (ks, l)
  | _ => none
noncomputable def mD0 : MD := fun _ => some ([], [])
noncomputable def sOwnD (i : Nat) (f : MD) : MS := fun r => (f r).bind fun q => (setD i q.1 q.2 r).map .nx
noncomputable def sRetD (i : Nat) : MS := fun r => match r[i]? with
  | some (.d ks l) => some (.rg ks l r)
  | _ => none
noncomputable def keyO : D -> Option (Option Key)
  | .non => some none
  | .int i => some (some (.inl i))
  | .str s => some (some (.inr ⟨s.toArray⟩))
  | _ => none
noncomputable def lookD : List Key -> List D -> Key -> Option D
  | k' :: ks, d :: l, k => if k' = k then some d else lookD ks l k
  | _, _, _ => none
noncomputable def lookO (ks : List Key) (l : List D) : Option Key -> Option D
  | none => none
  | some k => lookD ks l k
noncomputable def mGetO (fd : MD) (fk fx : ME) : ME := fun r => (fd r).bind fun q => (fk r).bind fun kd => (fx r).bind fun x => (keyO kd).map fun k => (lookO q.1 q.2 k).getD x
noncomputable def mHasD (neg : Bool) (fk : ME) (fd : MD) : MB := fun r => (fk r).bind fun kd => (fd r).bind fun q => (keyO kd).map fun k => if neg then !(lookO q.1 q.2 k).isSome else (lookO q.1 q.2 k).isSome
theorem keyO_ok {K : Fg} {O : Addr -> Prop} {H : Hp} {d : D} {v : V} {k : Option Key} (e : keyO d = some k) (h : Is K O H d v) : v = vO k := by
  cases d <;> first | (cases e; done) | skip
  · cases e; rw [Is.non_iff] at h; exact h
  · cases e; rw [Is.int_iff] at h; exact h
  · cases e; rw [Is.str_iff] at h; exact h
theorem lookD_ok {K : Fg} {O : Addr -> Prop} {H : Hp} (k : Key) : ∀ {kvs : List (Key × V)} {l : List D}, IsL K O H l (kvs.map (·.2)) -> (∃ d v, lookD (kvs.map (·.1)) l k = some d /\ valV kvs k = some v /\ Is K O H d v) \/ (lookD (kvs.map (·.1)) l k = none /\ valV kvs k = none)
  | [], [], _ => .inr ⟨rfl, rfl⟩
  | [], d' :: l, h => by unfold IsL at h; obtain ⟨_, _, e, _⟩ := h; cases e
  | p :: kvs, [], h => by unfold IsL at h; cases h
  | p :: kvs, d' :: l, h => by
    unfold IsL at h
    obtain ⟨x, y, e, h1, h2⟩ := h
    rw [List.map_cons] at e
    cases e
    by_cases q : p.1 = k
    · exact .inl ⟨d', p.2, by rw [List.map_cons]; unfold lookD; rw [if_pos q], valV_pos q, h1⟩
    · have e1 : lookD ((p :: kvs).map (·.1)) (d' :: l) k = lookD (kvs.map (·.1)) l k := by rw [List.map_cons]; show (if p.1 = k then _ else _) = _; rw [if_neg q]
      rw [e1, valV_neg q]
      exact lookD_ok k h2
theorem lookO_ok {K : Fg} {O : Addr -> Prop} {H : Hp} (k : Option Key) {kvs : List (Key × V)} {l : List D} (h : IsL K O H l (kvs.map (·.2))) : (∃ d v, lookO (kvs.map (·.1)) l k = some d /\ valO kvs k = some v /\ Is K O H d v) \/ (lookO (kvs.map (·.1)) l k = none /\ valO kvs k = none) := by
  cases k with
  | none => exact .inr ⟨rfl, rfl⟩
  | some k => exact lookD_ok k h
theorem Rd.same {H H' : Hp} {a : Addr} {u : HO} (s : zR H H') (h : Rd H a u) : Rd H' a u := by
  rcases h with h | ⟨ob, h⟩
  · exact .inl (s _ _ h)
  · exact .inr ⟨ob, s _ _ h⟩
section
variable {X : Cx} {a k e b o : Expr} {f g x : ME} {fd : MD} {pos ps pn p apos cpos : Pos} {nm : Str}
theorem dc_e (h : DE X a f) : DDc X a (mAsD f) := by
  refine PE.conseq h fun σ H Q hq => ?_
  obtain ⟨O0, r, ks, l, hR, e, q⟩ := hq
  obtain ⟨d, e1, e⟩ := bind_some e
  refine ⟨O0, r, d, hR, e1, fun v H1 s1 i1 => ?_⟩
  cases d <;> first | (cases e; done) | skip
  cases e
  rw [Is.dct_iff] at i1
  obtain ⟨c, kvs, rfl, _, rd, ek, il⟩ := i1
  exact q c kvs H1 s1 rd ek il
theorem dc_own (i : Nat) (h : PE X (.Name nm pn) (tVar i)) : DDc X (.Name nm pn) (mDct i) := by
  refine PE.conseq h fun σ H Q hq => ?_
  obtain ⟨O0, r, ks, l, hR, e, q⟩ := hq
  have er : r[i]? = some (.d ks l) := by
    unfold mDct at e
    split at e
    · rename_i h; cases e; exact h
    · cases e
  obtain ⟨c, kvs, q1, q2, q4, q3⟩ := hR.dct i ks l er
  exact ⟨.ref c, q1, q c kvs H (zR.refl H) (.inl q2) q4 q3⟩
theorem fd_nil : DFd X (.Dict [] [] pos) mD0 := by
  refine PE.conseq pe_dnewK fun σ H Q hq => ?_
  obtain ⟨O0, r, ks, l, hR, e, q⟩ := hq
  cases e
  exact fun p hp => q p [] _ (zW hp) hp zT rfl .nil
theorem call_dict_of : CallR X (.type "dict") (fun xs H Q => ∃ p kvs, xs = [.ref p] /\ Rd H p (.dK kvs) /\ ∀ l, H l = none -> Q (.ref l) (upd H l (.dK kvs))) := by
  intro pins s σ H xs us Q I r h
  obtain ⟨p, kvs, rfl, e, q⟩ := h
  obtain ⟨u, rfl, rx⟩ := vals1 r
  cases rx
  exact d_copyOf I e fun l s' hl I' => ⟨.ref l, _, I', rfl, q l hl⟩
theorem fd_copy {p' : Pos} (hg : Gl X "dict") (hm : X.mg "dict" = none) (ha : DDc X a fd) (hs : starEach [a] X.env = (false, eval a X.env) :: starEach [] X.env := by rfl) : DFd X (.Call (.Name "dict" p') [a] [] pos) fd := by
  refine PE.conseq (pe_callTy call_dict_of hg hm PyProof.Rows.boot_dict (pa_cons ha pa_nil hs) (he := hs)) fun σ H Q hq => ?_
  obtain ⟨O0, r, ks, l, hR, e, q⟩ := hq
  refine ⟨O0, r, ks, l, hR, e, fun c kvs H1 s1 rd ek il => ⟨c, kvs, rfl, rd, fun t ht => ?_⟩⟩
  refine q t kvs _ (s1.trans (zW ht)) (s1.free ht) zT ek ?_
  exact IsL.mono (zR.kp (zW ht) _) (hR.same s1).ol (fun b z nn => z.elim id fun z => by subst z; exact absurd ht nn) _ _ il
theorem ds_ownD (i : Nat) {pos' : Pos} (he : DFd X e fd) (hN : X.N.Nodup) (hi : X.N[i]? = some nm := by rfl) (hx : Loc X.env.scope nm := by first | exact Or.inl rfl | exact Or.inr rfl) (hs : swapsWith e (some (.Name nm pos')) pos.line X.env = pure false := by rfl) (hf : X.fn nm = true \/ X.env.scope.names.lookup nm = some .local := by first | exact .inl rfl | exact .inr rfl) :
    DS X (.Assign [.Name nm pos'] e pos) (sOwnD i fd) := by
  refine PS.conseq (ps_set hN hi hx he hs hf) fun Dn σ H hq => ?_
  obtain ⟨O0, r, fl', hR, e, q⟩ := hq
  obtain ⟨⟨ks, l⟩, e1, e2⟩ := bind_some e
  obtain ⟨r', e4, rfl⟩ := map_some e2
  obtain ⟨hl, np, rfl⟩ := setD_some e4
  refine ⟨O0, r, ks, l, hR, e1, fun p kvs H1 s1 n1 e3 ek i1 => ?_⟩
  obtain ⟨R1, k1⟩ := hR.setd s1 n1 e3 ek i1 hl np
  exact q _ H1 R1 k1
theorem ds_retD (i : Nat) {pos' : Pos} (h : PE X (.Name nm pos') (tVar i)) : DS X (.Return (some (.Name nm pos')) pos) (sRetD i) := by
  refine PS.conseq (ps_ret h) fun Dn σ H hq => ?_
  obtain ⟨O0, r, fl', hR, e, q⟩ := hq
  have ⟨ks, l, e1, e2⟩ : ∃ ks l, r[i]? = some (.d ks l) /\ fl' = .rg ks l r := by
    unfold sRetD at e
    split at e
    · rename_i ks l h; cases e; exact ⟨ks, l, h, rfl⟩
    · cases e
  subst e2
  obtain ⟨c, kvs, q1, q2, q4, q3⟩ := hR.dct i ks l e1
  refine ⟨.ref c, q1, q c kvs σ H hR (Kp.refl H r σ) (.inr ⟨i, l, .inr ⟨ks, e1⟩, q1⟩) (hR.loc i l c (.inr (.inr ⟨ks, e1⟩)) q1) q2 q4 ?_⟩
  exact IsL.mono (zR.kp (zR.refl H) _) hR.ol (fun b z _ => z.elim .inl fun z => by subst z; exact .inr ⟨i, l, by rw [e1]; rfl, q1⟩) _ _ q3
noncomputable def tGetO (td ty tx : TE) : TE := fun σ H Q => td σ H fun x H1 => ∃ c, x = .ref c /\ IsD H1 c /\ ty σ H1 fun y H2 => tx σ H2 fun z H3 => ∃ kvs k, Rd H3 c (.dK kvs) /\ y = vO k /\ Q ((valO kvs k).getD z) H3
theorem pe_getO {td ty tx : TE} (ho : PE X o td) (he : PE X e ty) (hf : PE X b tx) (m : M2 X o "get" apos e b cpos) : PE X (.Call (.Attribute o "get" apos) [e, b] [] cpos) (tGetO td ty tx) := by
  intro pins s σ H Q I h
  refine wpAny_Call_method m.base m.few m.line PySem.F.plainAttrs_dict PySem.F.slot_dict_get PySem.F.type_dict_get (thn (ho pins s σ H _ I h) fun u s1 ⟨x, H1, I1, rx, c, ex, d, q1⟩ => ?_)
  subst ex
  obtain rfl : u = Value.ref c := rx
  obtain ⟨t1, t2, _⟩ := isD_at I1 d
  refine ⟨t1, t2, ?_⟩
  rw [m.trees]
  refine Calls.callWith_builtin rfl (Calls.evalArgs_plain (Calls.spliced_cons (thn (he pins s1 σ H1 _ I1 q1) fun iv s2 ⟨y, H2, I2, ry, q2⟩ =>
    Calls.spliced_cons (thn (hf pins s2 σ H2 _ I2 q2) fun fv s3 ⟨z, H3, I3, rz, kvs, k, g, ey, q3⟩ => Calls.spliced_nil ?_))))
  subst ey
  exact o_get I3 g ry rz fun w' s4 I4 rw' => ⟨_, H3, I4, rw', q3⟩
theorem de_getO (ho : DDc X o fd) (he : DE X e g) (hf : DE X b x) (hbase : attributeBase o "get" X.env (eval o X.env) = eval o X.env := by rfl)
    (hfew : ((backTo cpos (starEach [e, b] X.env)).all (fun x => !x.1) && (backToKw cpos (keywordEach [] X.env)).all (fun x => x.1.isSome) && decide (([e, b] : List Expr).length + ([] : List Keyword).length + (if ([] : List Keyword).isEmpty then 0 else 1) < 30)) = true := by rfl)
    (hline : (apos.endLine == cpos.line) = true := by rfl) (htr : backTo cpos (starEach [e, b] X.env) = [(false, eval e X.env), (false, eval b X.env)] := by rfl) :
    DE X (.Call (.Attribute o "get" apos) [e, b] [] cpos) (mGetO fd g x) := by
  refine PE.conseq (pe_getO ho he hf ⟨hbase, hfew, hline, htr⟩) fun σ H Q hq => ?_
  obtain ⟨O0, r, d, hR, e, q⟩ := hq
  obtain ⟨⟨ks, l⟩, e1, e⟩ := bind_some e
  obtain ⟨kd, e2, e⟩ := bind_some e
  obtain ⟨dx, e3, e⟩ := bind_some e
  obtain ⟨k, e4, rfl⟩ := map_some e
  refine ⟨O0, r, ks, l, hR, e1, fun c kvs H1 s1 rd ek il => ⟨c, rfl, .inl ⟨kvs, rd⟩, O0, r, kd, hR.same s1, e2, fun y H2 s2 iy => ⟨O0, r, dx, hR.same (s1.trans s2), e3, fun z H3 s3 iz => ?_⟩⟩⟩
  have ey := keyO_ok e4 iy
  refine ⟨kvs, k, Rd.same s3 (Rd.same s2 rd), ey, ?_⟩
  have R1 := hR.same s1
  have il3 := (il.same s2 R1.ol).same s3 (R1.same s2).ol
  subst ek
  rcases lookO_ok k il3 with ⟨dd, v, p1, p2, p3⟩ | ⟨p1, p2⟩
  · refine q _ H3 (s1.trans (s2.trans s3)) ?_
    rw [p1, p2]; exact p3
  · refine q _ H3 (s1.trans (s2.trans s3)) ?_
    rw [p1, p2]; exact iz
theorem dt_notHasD (hk : DE X k g) (ho : DDc X o fd) (hm : behindInMarks .NotIn o = false := by rfl) : DT X (.Compare k [.NotIn] [o] pos) (mHasD true g fd) := by
  refine PT.conseq (pt_cmp (t := fun σ H Q => lE X.K g σ H fun y H1 => lDc X.K fd σ H1 fun x H2 => ∃ c kvs j, x = .ref c /\ Rd H2 c (.dK kvs) /\ y = vO j /\ Q (.bl (!(valO kvs j).isSome)) H2) ?_ hm) fun σ H Q hq => ?_
  · intro pins s σ H Q I h
    refine thn (hk pins s σ H _ I h) fun iv s1 ⟨y, H1, I1, ry, q1⟩ => thn (ho pins s1 σ H1 _ I1 q1) fun u s2 ⟨x, H2, I2, rx, c, kvs, j, ex, rd, ey, q2⟩ => ?_
    subst ex ey
    obtain rfl : u = Value.ref c := rx
    exact o_notIn I2 rd ry fun s3 I3 => ⟨.bl (!(valO kvs j).isSome), H2, I3, rfl, q2⟩
  · obtain ⟨O0, r, t, hR, e, q⟩ := hq
    obtain ⟨kd, e1, e⟩ := bind_some e
    obtain ⟨⟨ks, l⟩, e2, e⟩ := bind_some e
    obtain ⟨j, e3, rfl⟩ := map_some e
    refine ⟨O0, r, kd, hR, e1, fun y H1 s1 iy => ⟨O0, r, ks, l, hR.same s1, e2, fun c kvs H2 s2 rd ek il => ⟨c, kvs, j, rfl, rd, keyO_ok e3 iy, _, rfl, ?_⟩⟩⟩
    subst ek
    have q' := q H2 (s1.trans s2)
    rcases lookO_ok j il with ⟨dd, v, p1, p2, p3⟩ | ⟨p1, p2⟩
    · rw [p1] at q'; rw [p2]; exact q'
    · rw [p1] at q'; rw [p2]; exact q'
end
open PySem PySem.Spec PyProof.Rows L2 PySem.W
theorem lt_of_nlt {a b : List Nat} (h : ¬ a < b) (n : a ≠ b) : b < a := by
  rcases List.le_iff_lt_or_eq.mp (List.not_lt.mp h) with h | h
  · exact h
  · exact absurd h.symm n
section
variable {cmp : Nat -> Nat -> (Bool -> Shared -> Prop) -> Shared -> Prop} {t : Nat -> List Nat} {n : Nat} {s : Shared}
structure Pm (n : Nat) (p : Array Nat) : Prop where
  perm : p.Perm (List.range n).toArray
theorem Pm.size {p : Array Nat} (h : Pm n p) : p.size = n := by rw [h.perm.size_eq]; simp
theorem Pm.at {p : Array Nat} (h : Pm n p) {k : Nat} (hk : k < n) : p[k]? = some (p.getD k 0) /\ p.getD k 0 < n := by
  have hs : k < p.size := by rw [h.size]; exact hk
  have e : p.getD k 0 = p[k] := by simp [Array.getD, hs]
  refine ⟨by rw [e]; simp [hs], ?_⟩
  have m := h.perm.mem_iff.mp (show p[k] ∈ p from Array.getElem_mem hs)
  rw [e]
  simpa using m
theorem Pm.inj {p : Array Nat} (h : Pm n p) {i j : Nat} (hi : i < n) (hj : j < n) (e : p.getD i 0 = p.getD j 0) : i = j := by
  have nd : p.toList.Nodup := (Array.perm_iff_toList_perm.mp h.perm).nodup_iff.mpr (by simpa using List.nodup_range)
  have hl : ∀ {k}, k < n -> ∃ q : k < p.toList.length, p.toList[k] = p.getD k 0 := fun {k} hk => by
    have hs : k < p.size := by rw [h.size]; exact hk
    exact ⟨by simpa using hs, by simp [Array.getD, hs]⟩
  obtain ⟨q1, e1⟩ := hl hi
  obtain ⟨q2, e2⟩ := hl hj
  rcases Nat.lt_trichotomy i j with z | z | z
  · exact absurd (by rw [e1, e2, e]) (List.pairwise_iff_getElem.mp nd i j q1 q2 z)
  · exact z
  · exact absurd (by rw [e1, e2, e]) (List.pairwise_iff_getElem.mp nd j i q2 q1 z)
noncomputable def ky (t : Nat -> List Nat) (p : Array Nat) (i : Nat) : List Nat := t (p.getD i 0)
noncomputable def Df (t : Nat -> List Nat) (n : Nat) : Prop := ∀ i j, i < n -> j < n -> t i = t j -> i = j
theorem ky_ne {p : Array Nat} (d : Df t n) (h : Pm n p) {i j : Nat} (hi : i < n) (hj : j < n) (hij : i ≠ j) : ky t p i ≠ ky t p j := fun e => hij (h.inj hi hj (d _ _ (h.at hi).2 (h.at hj).2 e))
noncomputable def Up (t : Nat -> List Nat) (p : Array Nat) (m : Nat) : Prop := ∀ i j, i < j -> j < m -> ky t p i < ky t p j
noncomputable def Dn (t : Nat -> List Nat) (p : Array Nat) (m : Nat) : Prop := ∀ i j, i < j -> j < m -> ky t p j < ky t p i
noncomputable def Asks (cmp : Nat -> Nat -> (Bool -> Shared -> Prop) -> Shared -> Prop) (t : Nat -> List Nat) (n : Nat) (s : Shared) : Prop := ∀ i j, i < n -> j < n -> i ≠ j -> ∀ (C : Bool -> Shared -> Prop), C (decide (t i < t j)) s -> cmp i j C s
theorem up_succ {p : Array Nat} {m : Nat} (h : Up t p m) (e : 1 <= m -> ky t p (m - 1) < ky t p m) : Up t p (m + 1) := fun i j hij hj => by
  rcases Nat.lt_or_ge j m with z | z
  · exact h i j hij z
  · obtain rfl : j = m := by omega
    rcases Nat.lt_or_ge i (j - 1) with y | y
    · exact List.lt_trans (h i (j - 1) y (by omega)) (e (by omega))
    · obtain rfl : i = j - 1 := by omega
      exact e (by omega)
theorem dn_succ {p : Array Nat} {m : Nat} (h : Dn t p m) (e : 1 <= m -> ky t p m < ky t p (m - 1)) : Dn t p (m + 1) := fun i j hij hj => by
  rcases Nat.lt_or_ge j m with z | z
  · exact h i j hij z
  · obtain rfl : j = m := by omega
    rcases Nat.lt_or_ge i (j - 1) with y | y
    · exact List.lt_trans (e (by omega)) (h i (j - 1) y (by omega))
    · obtain rfl : i = j - 1 := by omega
      exact e (by omega)
theorem asc_ok (ha : Asks cmp t n s) (d : Df t n) {p : Array Nat} (hp : Pm n p) : ∀ (f m : Nat) {Q : Nat -> Shared -> Prop}, 1 <= m -> m + f <= n -> Up t p m -> (∀ m', m <= m' -> m' <= m + f -> Up t p m' -> (m' < m + f -> ky t p m' < ky t p (m' - 1)) -> Q m' s) -> (kas_asc p f m).kasWp cmp Q s
  | 0, m, Q, h1, h2, hu, q => q m (Nat.le_refl _) (Nat.le_refl _) hu (fun z => absurd z (by omega))
  | f + 1, m, Q, h1, h2, hu, q => by
    refine ha _ _ (hp.at (by omega)).2 (hp.at (by omega)).2 (fun z => by have := hp.inj (by omega) (by omega) z; omega) _ ?_
    by_cases c : t (p.getD m 0) < t (p.getD (m - 1) 0)
    · rw [decide_eq_true c]
      exact q m (Nat.le_refl _) (by omega) hu fun _ => c
    · rw [decide_eq_false c]
      have c' : ky t p (m - 1) < ky t p m := lt_of_nlt c (ky_ne d hp (by omega) (by omega) (by omega))
      exact asc_ok ha d hp f (m + 1) (by omega) (by omega) (up_succ hu fun _ => c') fun m' a1 a2 a3 a4 => q m' (by omega) (by omega) a3 fun z => a4 (by omega)
theorem desc_ok (ha : Asks cmp t n s) (d : Df t n) {p : Array Nat} (hp : Pm n p) : ∀ (f m : Nat) {Q : Array Nat × Nat × Nat -> Shared -> Prop}, 1 <= m -> m + f <= n -> Dn t p m -> (∀ m', m <= m' -> m' <= m + f -> Dn t p m' -> Q (p, m', 0) s) -> (kas_desc f p m 0).kasWp cmp Q s
  | 0, m, Q, h1, h2, hu, q => q m (Nat.le_refl _) (Nat.le_refl _) hu
  | f + 1, m, Q, h1, h2, hu, q => by
    refine ha _ _ (hp.at (by omega)).2 (hp.at (by omega)).2 (fun z => by have := hp.inj (by omega) (by omega) z; omega) _ ?_
    by_cases c : t (p.getD m 0) < t (p.getD (m - 1) 0)
    · rw [decide_eq_true c]
      exact desc_ok ha d hp f (m + 1) (by omega) (by omega) (dn_succ hu fun _ => c) fun m' a1 a2 a3 => q m' (by omega) (by omega) a3
    · rw [decide_eq_false c]
      refine ha _ _ (hp.at (by omega)).2 (hp.at (by omega)).2 (fun z => by have := hp.inj (by omega) (by omega) z; omega) _ ?_
      have c' : ky t p (m - 1) < ky t p m := lt_of_nlt c (ky_ne d hp (by omega) (by omega) (by omega))
      rw [decide_eq_true (show t (p.getD (m - 1) 0) < t (p.getD m 0) from c')]
      exact q m (Nat.le_refl _) (by omega) hu
theorem rev_pm {p : Array Nat} (hp : Pm n p) (i j : Nat) : Pm n (kas_rev p i j) := ⟨(mirror_perm p i j _).trans hp.perm⟩
theorem rev_up {p : Array Nat} (hp : Pm n p) {m : Nat} (hm : m <= n) (h : Dn t p m) : Up t (kas_rev p 0 m) m := fun i j hij hj => by
  have e : ∀ k, k < m -> ky t (kas_rev p 0 m) k = ky t p (m - 1 - k) := fun k hk => by
    have q := getElem?_mirror_all (xs := p) (i := 0) (j := m) (by rw [hp.size]; exact hm) k
    rw [if_pos ⟨Nat.zero_le _, hk⟩, Nat.zero_add] at q
    have a := ((rev_pm hp 0 m).at (show k < n by omega)).1
    have b := (hp.at (show m - 1 - k < n by omega)).1
    have z : (kas_rev p 0 m)[k]? = p[m - 1 - k]? := q
    rw [a, b] at z
    unfold ky
    rw [Option.some.inj z]
  rw [e i (by omega), e j hj]
  exact h _ _ (by omega) (by omega)
theorem tail3_ok (ha : Asks cmp t n s) (d : Df t n) {p : Array Nat} (hp : Pm n p) {m : Nat} (h1 : 1 <= m) (hm : m <= n) (h : Dn t p m) {Q : Nat × Array Nat -> Shared -> Prop} (q : ∀ m' p', 1 <= m' -> m' <= n -> Pm n p' -> Up t p' m' -> Q (m', p') s) : (kas_tail3 m n p).kasWp cmp Q s := by
  unfold kas_tail3
  rw [KasT.kasWp_bind]
  exact asc_ok ha d (rev_pm hp 0 m) (n - m) m h1 (by omega) (rev_up hp hm h) fun m' a1 a2 a3 _ => q m' _ (by omega) (by omega) (rev_pm hp 0 m) a3
theorem count_ok (ha : Asks cmp t n s) (d : Df t n) {p : Array Nat} (hp : Pm n p) (h2 : 2 <= n) {Q : Nat × Array Nat -> Shared -> Prop} (q : ∀ m' p', 1 <= m' -> m' <= n -> Pm n p' -> Up t p' m' -> Q (m', p') s) : (kas_count n p).kasWp cmp Q s := by
  unfold kas_count
  rw [KasT.kasWp_bind]
  refine asc_ok ha d hp (n - 1) 1 (Nat.le_refl _) (by omega) (fun i j hij hj => by omega) fun m a1 a2 a3 a4 => ?_
  by_cases e1 : (m == n) = true
  · rw [if_pos e1]
    exact q m p a1 (by omega) hp a3
  · rw [if_neg e1]
    have hne : m ≠ n := fun z => e1 (by rw [z]; exact beq_self_eq_true n)
    by_cases e2 : m > 1
    · rw [if_pos e2]
      refine ha _ _ (hp.at (by omega)).2 (hp.at (by omega)).2 (fun z => by have := hp.inj (by omega) (by omega) z; omega) _ ?_
      rw [decide_eq_true (show t (p.getD 0 0) < t (p.getD (m - 1) 0) from a3 0 (m - 1) (by omega) (by omega))]
      exact q m p a1 (by omega) hp a3
    · rw [if_neg e2]
      obtain rfl : m = 1 := by omega
      unfold kas_descPart
      rw [KasT.kasWp_bind]
      have c := a4 (by omega)
      refine desc_ok ha d hp (n - (1 + 1)) (1 + 1) (by omega) (by omega) (dn_succ (m := 1) (fun i j hij hj => by omega) fun _ => c) fun m' b1 b2 b3 => ?_
      show ((if (0 : Nat) > 0 then _ else kas_tail3 m' n p) : KasT (Nat × Array Nat)).kasWp cmp Q s
      rw [if_neg (by decide)]
      exact tail3_ok ha d hp (by omega) (by omega) b3 q
theorem place_ok (ha : Asks cmp t n s) (d : Df t n) {p : Array Nat} (hp : Pm n p) {k : Nat} (hk : k < n) (hu : Up t p k) : ∀ (f l r : Nat) {Q : Nat -> Shared -> Prop}, l <= r -> r <= k -> r - l <= f -> (∀ i, i < l -> ky t p i < ky t p k) -> (∀ i, r <= i -> i < k -> ky t p k < ky t p i) ->
    (∀ l', l' <= k -> (∀ i, i < l' -> ky t p i < ky t p k) -> (∀ i, l' <= i -> i < k -> ky t p k < ky t p i) -> Q l' s) -> (kas_place p k f l r).kasWp cmp Q s
  | 0, l, r, Q, h1, h2, h3, h4, h5, q => by
    obtain rfl : l = r := by omega
    exact q l h2 h4 h5
  | f + 1, l, r, Q, h1, h2, h3, h4, h5, q => by
    unfold kas_place
    by_cases e : l ≥ r
    · rw [if_pos e]
      obtain rfl : l = r := by omega
      exact q l h2 h4 h5
    · rw [if_neg e]
      refine ha _ _ (hp.at hk).2 (hp.at (by omega)).2 (fun z => by have := hp.inj (by omega) (by omega) z; omega) _ ?_
      by_cases c : t (p.getD k 0) < t (p.getD ((l + r) / 2) 0)
      · rw [decide_eq_true c]
        refine place_ok ha d hp hk hu f l ((l + r) / 2) (by omega) (by omega) (by omega) h4 (fun i b1 b2 => ?_) q
        rcases Nat.lt_or_ge ((l + r) / 2) i with z | z
        · exact List.lt_trans c (hu _ _ z b2)
        · obtain rfl : i = (l + r) / 2 := by omega
          exact c
      · rw [decide_eq_false c]
        have c' : ky t p ((l + r) / 2) < ky t p k := lt_of_nlt c (ky_ne d hp hk (by omega) (by omega))
        refine place_ok ha d hp hk hu f ((l + r) / 2 + 1) r (by omega) h2 (by omega) (fun i b1 => ?_) h5 q
        rcases Nat.lt_or_ge i ((l + r) / 2) with z | z
        · exact List.lt_trans (hu _ _ z (by omega)) c'
        · obtain rfl : i = (l + r) / 2 := by omega
          exact c'
theorem bub_pm {p : Array Nat} (hp : Pm n p) (i j : Nat) : Pm n (bubble p i j) := ⟨(bubble_perm p i j).trans hp.perm⟩
theorem bub_up {p : Array Nat} (hp : Pm n p) {k l : Nat} (hk : k < n) (hl : l <= k) (hu : Up t p k) (b1 : ∀ i, i < l -> ky t p i < ky t p k) (b2 : ∀ i, l <= i -> i < k -> ky t p k < ky t p i) : Up t (bubble p k (k - l)) (k + 1) := by
  have e : ∀ x, x < n -> ky t (bubble p k (k - l)) x = if x = l then ky t p k else if l < x /\ x <= k then ky t p (x - 1) else ky t p x := fun x hx => by
    have q := getElem?_bubble (xs := p) (src := k) (by rw [hp.size]; exact hk) (k - l) (by omega) x
    rw [show k - (k - l) = l by omega, ((bub_pm hp k (k - l)).at hx).1, (hp.at hk).1, (hp.at hx).1] at q
    unfold ky
    by_cases h1 : x = l
    · rw [if_pos h1] at q ⊢; rw [Option.some.inj q]
    · rw [if_neg h1] at q ⊢
      by_cases h2 : l < x /\ x <= k
      · rw [if_pos h2] at q ⊢
        rw [(hp.at (show x - 1 < n by omega)).1] at q
        rw [Option.some.inj q]
      · rw [if_neg h2] at q ⊢; rw [Option.some.inj q]
  intro i j hij hj
  rw [e i (by omega), e j (by omega)]
  by_cases i1 : i = l
  · rw [if_pos i1, if_neg (by omega), if_pos (by omega)]
    exact b2 _ (by omega) (by omega)
  · rw [if_neg i1]
    by_cases i2 : l < i /\ i <= k
    · rw [if_pos i2, if_neg (by omega), if_pos (by omega)]
      exact hu _ _ (by omega) (by omega)
    · rw [if_neg i2]
      by_cases j1 : j = l
      · rw [if_pos j1]; exact b1 _ (by omega)
      · rw [if_neg j1]
        by_cases j2 : l < j /\ j <= k
        · rw [if_pos j2]
          rcases Nat.lt_or_ge i (j - 1) with z | z
          · exact hu _ _ z (by omega)
          · exact absurd z (by omega)
        · rw [if_neg j2]; exact hu _ _ hij (by omega)
theorem bin_ok (ha : Asks cmp t n s) (d : Df t n) : ∀ (f : Nat) (p : Array Nat) (k : Nat) {Q : Array Nat -> Shared -> Prop}, Pm n p -> 1 <= k -> k + f = n -> Up t p k -> (∀ p', Pm n p' -> Up t p' n -> Q p' s) -> (kas_bin f p k).kasWp cmp Q s
  | 0, p, k, Q, hp, h1, h2, hu, q => by
    obtain rfl : k = n := by omega
    exact q p hp hu
  | f + 1, p, k, Q, hp, h1, h2, hu, q => by
    unfold kas_bin
    rw [KasT.kasWp_bind]
    refine place_ok ha d hp (by omega) hu k 0 k (Nat.zero_le _) (Nat.le_refl _) (by omega) (fun i b => absurd b (by omega)) (fun i b1 b2 => absurd b2 (by omega)) fun l' c1 c2 c3 => ?_
    exact bin_ok ha d f _ (k + 1) (bub_pm hp _ _) (by omega) (by omega) (bub_up hp (by omega) c1 hu c2 c3) q
theorem sort_ok (ha : Asks cmp t n s) (d : Df t n) (h2 : 2 <= n) {Q : Array Nat -> Shared -> Prop} (q : ∀ p', Pm n p' -> Up t p' n -> Q p' s) : (kas_sort n).kasWp cmp Q s := by
  unfold kas_sort
  rw [KasT.kasWp_bind]
  refine count_ok ha d ⟨Array.Perm.refl _⟩ h2 fun m p a1 a2 a3 a4 => ?_
  by_cases e : m < n
  · show ((if m < n then _ else _) : KasT (Array Nat)).kasWp cmp Q s
    rw [if_pos e]
    show (kas_bin (n - max m 1) p (max m 1)).kasWp cmp Q s
    rw [Nat.max_eq_left a1]
    exact bin_ok ha d _ p m a3 a1 (by omega) a4 q
  · show ((if m < n then _ else .ret p) : KasT (Array Nat)).kasWp cmp Q s
    rw [if_neg e]
    obtain rfl : m = n := by omega
    exact q p a3 a4
end
open PySem PySem.Spec PyProof.Rows L2 PySem.W TS
section
variable {prog : Program} {w : World} {A : Around} {E : Value -> Shared -> Prop} {s : Shared} {vs : List Value} {κ : SortKind} {t : Nat -> List Nat}
noncomputable def outOf (vs : List Value) (p : Array Nat) : Array Value := List.toArray (p.toList.map fun i => vs.getD i Value.none)
theorem out_size {p : Array Nat} (h : Pm vs.length p) : (outOf vs p).size = vs.length := by unfold outOf; rw [List.size_toArray, List.length_map, Array.length_toList, h.size]
theorem pm_id (n : Nat) : Pm n (List.range n).toArray := ⟨Array.Perm.refl _⟩
theorem out_id : outOf vs (List.range vs.length).toArray = vs.toArray := by
  unfold outOf
  congr 1
  refine List.ext_getElem (by simp) fun i h1 h2 => ?_
  simp [h2]
theorem srtK_tree {a : Addr} {n : Nat} {P : Fin -> Shared -> Prop} (ho : s.heap.get? a = some (seqObj "list" vs.toArray n)) (h64 : vs.length < 64) (d : Df t vs.length)
    (hk : ∀ s' : Shared, Lies s.heap a s'.heap -> 2 <= vs.length -> ∀ Q : SortKind -> Shared -> Prop, Q κ s' -> wpAny (model prog w) A (keyKind' vs.toArray) Q E s')
    (hm : ∀ s' : Shared, Lies s.heap a s'.heap -> Asks (kas_ask prog w A κ vs) t vs.length s')
    (h : ∀ p : Array Nat, Pm vs.length p -> Up t p vs.length -> P (.done (.ret .none)) { s with heap := sortedHeap s.heap a vs (outOf vs p) }) : wpAny (model prog w) A (Builtin.«list.sort» ⟨[.ref a], []⟩) P E s := by
  rw [list_sort_plain]
  have la := Heap.lt_size ho
  have z : vs.toArray.size = vs.length := by simp
  refine wpAny_bind (listItems_at ho rfl (wpAny_bind (listUpdate_at ho rfl ?_ (hsz := by rw [z, sizeLine_eq]; omega))))
  have ⟨e, oe⟩ : ∃ e, (s.heap.update a (Obj.mapSeq fun _ => #[])).get? a = some (seqObj "list" #[] e) := ⟨_, get?_update_seq ho fun _ => #[]⟩
  refine wpAny_bind (seqEpoch_at oe rfl (wpAny_bind (wpAny_newTuple (wpAny_bind (wpAny_newList (wpAny_holding ?_))))))
  let h2 : Heap := ((s.heap.update a (Obj.mapSeq fun _ => #[])).push (seqObj "tuple" vs.toArray 0)).push (seqObj "list" #[] 0)
  have ga : h2.get? a = some (seqObj "list" #[] e) := Heap.get?_push_of_some _ (Heap.get?_push_of_some _ oe)
  have lies : Lies s.heap a h2 := fun b o nb eb => by
    refine Heap.get?_push_of_some _ (Heap.get?_push_of_some _ ?_)
    rw [Heap.get?_update_ne _ _ _ _ nb]
    exact eb
  show wpAny (model prog w) A _ P E { s with heap := h2 }
  by_cases few : vs.toArray.size < 2
  · rw [if_pos few, if_pos few]
    refine wpAny_bind (wpAny_pure ?_)
    dsimp only
    rw [StateT.run_pure]
    refine wpAny_bind (wpAny_pure ?_)
    let st0 : SortSt := SortSt.mk' general' (vs.toArray.zip vs.toArray) #[] 7 none
    have eo : (arrOf st0).map (·.2) = outOf vs (List.range vs.length).toArray := by
      rw [out_id]
      show (vs.toArray.zip vs.toArray).map (·.2) = vs.toArray
      apply Array.toList_inj.mp
      rw [Array.toList_map, ksk_zip]
      exact List.map_snd_zip (Nat.le_refl _)
    dsimp only
    have zz : ((arrOf st0).map (·.2)).size = vs.length := by rw [eo]; exact out_size (pm_id _)
    refine wpAny_bind (seqEpoch_at ga rfl (wpAny_bind (listUpdate_at ga rfl ?_ (hsz2 := by rw [show (Array.map (fun x => x.2) (arrOf st0)).size = vs.length from zz, sizeLine_eq]; omega))))
    (try rw [show failedOf st0 = none from rfl])
    simp only [if_false, bne_self_eq_false, Bool.false_eq_true]
    rw [show Array.map (fun x => x.2) (arrOf st0) = _ from eo]
    rw [z] at few
    exact wpAny_pure (h _ (pm_id _) fun i j hij hj => absurd hj (by omega))
  · rw [if_neg few, if_neg few]
    refine wpAny_bind (hk { s with heap := h2 } lies (by omega) _ ?_)
    have h2n : 2 <= vs.length := by rw [z] at few; omega
    refine wpAny_bind (wpAny_mono (kat_run (E := E) (s := { s with heap := h2 }) (Q := fun st' s' => s' = { s with heap := h2 } /\ ∃ p : Array Nat, Pm vs.length p /\ Up t p vs.length /\ arrOf st' = p.map (kas_item (vs.toArray.zip vs.toArray)) /\ failedOf st' = none) (G := fun p s' => s' = { s with heap := h2 } /\ Pm vs.length p /\ Up t p vs.length)
      rfl h2n h64 (fun p' st' s' a1 a2 a3 a4 => ⟨a4.1, p', a4.2.1, a4.2.2, a2, a3⟩) (sort_ok (hm { s with heap := h2 } lies) d h2n fun p hp hu => ⟨rfl, hp, hu⟩)) ?_ fun _ _ e => e)
    rintro ⟨⟨⟩, st'⟩ s' ⟨rfl, p, hp, hu, har, hf⟩
    dsimp only
    have eo : (arrOf st').map (·.2) = outOf vs p := kat_snds rfl har
    have zz : ((arrOf st').map (·.2)).size = vs.length := by rw [eo]; exact out_size hp
    refine wpAny_bind (seqEpoch_at ga rfl (wpAny_bind (listUpdate_at ga rfl ?_ (hsz2 := by rw [show (Array.map (fun x => x.2) (arrOf st')).size = vs.length from zz, sizeLine_eq]; omega))))
    (try rw [show failedOf st' = none from hf])
    simp only [if_false, bne_self_eq_false, Bool.false_eq_true]
    rw [show Array.map (fun x => x.2) (arrOf st') = _ from eo]
    exact wpAny_pure (h p hp hu)
theorem srtK_call {l : Addr} {Q : Value -> Shared -> Prop} (hl : s.heap.IsList l vs.toArray) (h64 : vs.length < 64) (d : Df t vs.length)
    (hk : ∀ (A : Around) (E : Value -> Shared -> Prop) (s' : Shared), Stays s.heap s'.heap -> 2 <= vs.length -> ∀ Q : SortKind -> Shared -> Prop, Q κ s' -> wpAny (model prog w) A (keyKind' vs.toArray) Q E s')
    (hm : ∀ (A : Around) (s' : Shared), Stays s.heap s'.heap -> Asks (kas_ask prog w A κ vs) t vs.length s')
    (h : ∀ p : Array Nat, Pm vs.length p -> Up t p vs.length -> Q (.ref (s.heap.objs.size + 1)) { s with heap := sortedAll s.heap vs (outOf vs p) }) : wpAny (model prog w) A (call (.builtin "sorted") [.ref l]) Q E s := by
  refine Calls.call_function_entry (kind_sorted) plain_sorted entry_sorted (args_sorted1 _) ?_
  unfold Builtin.«sorted»
  refine wpAny_bind (m := checkCount "sorted" 1 1 _) (wpAny_pure (wpAny_bind (collect_list hl ?_ (hsz := by rw [sizeLine_eq]; omega))))
  let h1 : Heap := (s.heap.push (seqObj "list" #[] 0)).update s.heap.objs.size (Obj.mapSeq (· ++ vs.toArray))
  have z1 : h1.objs.size = s.heap.objs.size + 1 := by show (Heap.update _ _ _).objs.size = _; rw [Heap.size_update, size_push']
  have at1 : (h1.push (seqObj "list" vs.toArray 0)).get? (s.heap.objs.size + 1) = some (seqObj "list" vs.toArray 0) := by rw [<- z1]; exact Heap.get?_push_size _ rfl
  have st1 : Stays s.heap (h1.push (seqObj "list" vs.toArray 0)) := fun b o e => by
    refine Heap.get?_push_of_some _ ?_
    have lb := Heap.lt_size e
    show (Heap.update _ _ _).get? b = _
    rw [Heap.get?_update_ne _ _ _ _ (Nat.ne_of_lt lb)]
    exact Heap.get?_push_of_some _ e
  have st2 : ∀ h' : Heap, Lies (h1.push (seqObj "list" vs.toArray 0)) (s.heap.objs.size + 1) h' -> Stays s.heap h' := fun h' hL b o e => hL b o (Nat.ne_of_lt (Nat.lt_succ_of_lt (Heap.lt_size e))) (st1 b o e)
  refine (wpAny_bind (wpAny_newList ?_))
  show wpAny _ _ _ _ _ { s with heap := h1.push (seqObj "list" vs.toArray 0) }
  show wpAny _ _ (holding [Value.ref h1.objs.size] _ >>= _) _ _ _
  rw [z1]
  refine wpAny_bind (wpAny_holding (wpAny_call_entry slot_list_sort ⟨_, at1, rfl⟩ entry_list_sort (srtK_tree at1 h64 d (fun s' L => hk _ _ s' (st2 _ L)) (fun s' L => hm _ s' (st2 _ L)) fun p o1 o2 => ⟨_, rfl, ?_⟩) (args_list_sort _)))
  exact wpAny_pure ⟨_, rfl, h p o1 o2⟩
end
open PySem PySem.Spec PyProof.Rows L2 PySem.W TS
noncomputable def IsPT (h : Heap) (v : Value) (k : Str) : Prop := ∃ (a : Addr) (o : Obj) (r : List Value) (n : Nat) (tk : Tok), v = .ref a /\ h.get? a = some o /\ o.cls = .type "tuple" /\ o.data = .seq (Value.str k tk :: r).toArray n
theorem IsPT.stays {h h' : Heap} {v : Value} {k : Str} (st : Stays h h') (p : IsPT h v k) : IsPT h' v k := by
  obtain ⟨a, o, r, n, tk, e, g, c, d⟩ := p
  exact ⟨a, o, r, n, tk, e, st _ _ g, c, d⟩
section
variable {prog : Program} {w : World} {A : Around} {E : Value -> Shared -> Prop} {s : Shared}
theorem pt_lt {x y : Value} {k j : Str} {Q : Bool -> Shared -> Prop} (hx : IsPT s.heap x k) (hy : IsPT s.heap y j) (ne : k ≠ j) (q : Q (decide (k.cps.toList < j.cps.toList)) s) : wpAny (model prog w) A (keyLt' (tuples' true) x y) Q E s := by
  obtain ⟨a, o, r, n, tk, rfl, g, c, d⟩ := hx
  obtain ⟨a', o', r', n', tk', rfl, g', c', d'⟩ := hy
  refine kat_lt g d g' d' ?_
  show KatLex prog w A true _ Q ((Value.str k tk, Value.str j tk') :: r.zip r') 0 s
  refine kat_cons (wpAny_eqBool_str ?_)
  rw [decide_eq_false ne]
  exact kat_no (oneLt_str q)
theorem pt_tups : ∀ (vs : List Value) (ks : List Str), vs.length = ks.length -> (∀ (i : Nat) (v : Value) (k : Str), vs[i]? = some v -> ks[i]? = some k -> IsPT s.heap v k) -> ∃ fs, fs.length = vs.length /\ KatTups s.heap vs fs /\ ∀ f ∈ fs, ∃ i t, f = Value.str i t
  | [], _, _, _ => ⟨[], rfl, trivial, by simp⟩
  | v :: vs, [], h, _ => by cases h
  | v :: vs, k :: ks, hl, h => by
    obtain ⟨fs, l, kt, g⟩ := pt_tups vs ks (by simpa using hl) fun i v k h1 h2 => h (i + 1) v k (by simpa using h1) (by simpa using h2)
    obtain ⟨a, o, r, n, tk, rfl, e, c, d⟩ := h 0 v k rfl rfl
    exact ⟨.str k tk :: fs, by simp [l], KatTups.cons e c d rfl kt, fun f hf => by
      rcases List.mem_cons.mp hf with rfl | hf
      · exact ⟨k, tk, rfl⟩
      · exact g f hf⟩
end
section
variable {X : Cx}
theorem vals_map {xs : List V} {us : List Value} (h : yD xs us) : ∀ l : List Nat, (∀ i ∈ l, i < xs.length) -> yD (l.map fun i => xs.getD i .non) (l.map fun i => us.getD i .none)
  | [], _ => .nil
  | i :: l, hl => by
    have hi := hl i (by simp)
    obtain ⟨u, e, r⟩ := h.get (List.getElem?_eq_getElem hi)
    refine .cons ?_ (vals_map h l fun j hj => hl j (by simp [hj]))
    show RelV (xs.getD i .non) (us.getD i .none)
    rw [List.getD_eq_getElem?_getD, List.getD_eq_getElem?_getD, e, List.getElem?_eq_getElem hi]
    exact r
theorem zip_range (ks : List Str) (ys : List V) (h : ks.length = ys.length) : (List.range ys.length).map (fun i => (ks.getD i default, ys.getD i .non)) = ks.zip ys := by
  refine List.ext_getElem (by simp [h]) fun i h1 h2 => ?_
  have hy : i < ys.length := by simpa using h1
  (have hk : i < ks.length := by omega)
  simp [hy, hk]
theorem call_sortedP : CallR X (.builtin "sorted") (fun xs H Q => ∃ (p : Addr) (ys : List V) (ks : List Str), xs = [.ref p] /\ SqL X.K H p ys /\ ys.length < 64 /\ ks.length = ys.length /\
    (∀ (i : Nat) (x : V) (k : Str), ys[i]? = some x -> ks[i]? = some k -> ∃ a rest, x = .ref a /\ SqT X.K H a (.str k :: rest)) /\ (ks.map fun k => k.cps.toList).Nodup /\ ∀ zs l, KOutV ks ys zs -> H l = none -> Q (.ref l) (upd H l (.lst zs))) := by
  intro pins s σ H xs us Q I r hq
  obtain ⟨p, ys, ks, rfl, sq, h64, hlen, hk, nd, q⟩ := hq
  obtain ⟨u, rfl, ru⟩ := yD.one r
  cases ru
  obtain ⟨its, rv, pl, hz⟩ := I.list sq
  have hl := rv.length
  let t : Nat -> List Nat := fun i => (ks.getD i default).cps.toList
  have tk : ∀ {i : Nat}, i < its.length -> ∃ k, ks[i]? = some k /\ ks.getD i default = k := fun {i} hi => by
    have hi' : i < ks.length := by omega
    exact ⟨ks[i], List.getElem?_eq_getElem hi', by rw [List.getD_eq_getElem?_getD, List.getElem?_eq_getElem hi']; rfl⟩
  have d : Df t its.length := fun i j hi hj e => by
    have li : i < (ks.map fun k => k.cps.toList).length := by rw [List.length_map]; omega
    have lj : j < (ks.map fun k => k.cps.toList).length := by rw [List.length_map]; omega
    have ti : ∀ {i : Nat} (li : i < (ks.map fun k => k.cps.toList).length), (ks.map fun k => k.cps.toList)[i] = t i := fun {i} li => by
      have hi' : i < ks.length := by simpa using li
      show _ = (ks.getD i default).cps.toList
      rw [List.getD_eq_getElem?_getD, List.getElem?_eq_getElem hi', List.getElem_map]; rfl
    rcases Nat.lt_trichotomy i j with z | z | z
    · exact absurd (by rw [ti li, ti lj, e]) (List.pairwise_iff_getElem.mp nd i j li lj z)
    · exact z
    · exact absurd (by rw [ti li, ti lj, e]) (List.pairwise_iff_getElem.mp nd j i lj li z)
  have pt : ∀ (i : Nat) (v : Value) (k : Str), its[i]? = some v -> ks[i]? = some k -> IsPT s.heap v k := fun i v k h1 h2 => by
    have hi : i < ys.length := by rw [hl]; exact (List.getElem?_eq_some_iff.mp h1).1
    obtain ⟨u, e, rr⟩ := rv.get (List.getElem?_eq_getElem hi)
    rw [h1] at e; cases e
    obtain ⟨a, rest, ex, st⟩ := hk i ys[i] k (List.getElem?_eq_getElem hi) h2
    rw [ex] at rr
    cases (show v = Value.ref a from rr)
    obtain ⟨js, rj, ⟨o, g, c, n, dd⟩, _⟩ := I.tuple st
    cases rj with
    | cons a1 b1 =>
      obtain ⟨tk, rfl⟩ := a1
      exact ⟨a, o, _, n, tk, rfl, g, c, dd⟩
  refine srtK_call (vs := its) (κ := tuples' true) (t := t) pl.isList (by omega) d (fun A E s' st h2 Q hQ => ?_) (fun A s' st i j hi hj hij C hC => ?_) fun pm hp hu => ?_
  · obtain ⟨fs, fl, ft, g⟩ := pt_tups (s := s') its ks (by omega) fun i v k h1 h2 => (pt i v k h1 h2).stays st
    refine kat_kind (T := .type "str") ft (by omega) (fun v hv => ?_) (by decide) (by exact hQ)
    obtain ⟨i, t, rfl⟩ := g v hv
    exact .now
  · obtain ⟨k, e1, e2⟩ := tk hi
    obtain ⟨k', e1', e2'⟩ := tk hj
    have gv : ∀ {i : Nat}, i < its.length -> its[i]? = some (its.getD i Value.none) := fun {i} hi => by rw [List.getD_eq_getElem?_getD, List.getElem?_eq_getElem hi]; rfl
    refine pt_lt ((pt i _ k (gv hi) e1).stays st) ((pt j _ k' (gv hj) e1').stays st) (fun z => hij (d i j hi hj (by show (ks.getD i default).cps.toList = (ks.getD j default).cps.toList; rw [e2, e2', z]))) ?_
    have e : t i = k.cps.toList := by show (ks.getD i default).cps.toList = _; rw [e2]
    have e' : t j = k'.cps.toList := by show (ks.getD j default).cps.toList = _; rw [e2']
    rw [<- e, <- e']; exact hC
  · have inr : ∀ i ∈ pm.toList, i < ys.length := fun i hi => by
      have := hp.perm.mem_iff.mp (Array.mem_toList_iff.mp hi)
      rw [hl]; simpa using this
    let zs : List V := pm.toList.map fun i => ys.getD i .non
    have vz : yD zs (outOf its pm).toList := by
      show yD zs (List.toArray _).toList
      rw [List.toList_toArray]
      exact vals_map rv pm.toList inr
    obtain ⟨e, he⟩ := sortedAll_at s.heap its (outOf its pm)
    have lz : zs.length <= sizeLine := by rw [List.length_map, Array.length_toList, hp.size]; omega
    have fresh : H (s.heap.objs.size + 1) = none := I.hok.fresh (Nat.le_succ _)
    have ko : KOutV ks ys zs := by
      refine ⟨pm.toList.map fun i => (ks.getD i default, ys.getD i .non), ?_, by rw [List.map_map]; rfl, ?_⟩
      · rw [<- zip_range ks ys hlen]
        have pp : pm.toList.Perm (List.range its.length) := by simpa using Array.perm_iff_toList_perm.mp hp.perm
        rw [hl]
        exact pp.map _
      · rw [List.pairwise_map, List.pairwise_iff_getElem]
        intro i j hi hj hij
        have hi' : i < its.length := by rw [<- hp.size]; simpa using hi
        have hj' : j < its.length := by rw [<- hp.size]; simpa using hj
        have up := hu i j hij hj'
        have ei : ∀ {i : Nat} (hi : i < pm.toList.length), pm.getD i 0 = pm.toList[i] := fun {i} hi => by
          have : i < pm.size := by simpa using hi
          simp [Array.getD, this]
        unfold ky at up
        rw [ei hi, ei hj] at up
        exact List.lt_asymm up
    exact ⟨.ref (s.heap.objs.size + 1), _, I.laid (t' := s.toks) (fun b o g => sortedAll_old g) (Nat.le_succ _) (show ObjOk X.prog X.w _ _ _ (.lst zs) from ⟨lz, (outOf its pm).toList, e, vz, by simpa using he⟩), rfl, q zs _ ko fresh⟩
end
noncomputable def keyP : D -> Option (List Nat)
  | .tup (.str s :: _) => some s
  | _ => none
noncomputable def keysP : List D -> Option (List KD)
  | [] => some []
  | d :: l => (keyP d).bind fun s => (keysP l).map fun r => (s, d) :: r
noncomputable def mSrtP (fl : ML) : ML := fun r => (fl r).bind fun l => (keysP l).bind fun q => if q.length < 64 /\ (q.map (·.1)).Nodup then some (srtK q) else none
theorem keysP_snd : ∀ {l : List D} {q : List KD}, keysP l = some q -> q.map (·.2) = l
  | [], q, h => by cases h; rfl
  | d :: l, q, h => by
    obtain ⟨s, _, h⟩ := bind_some h
    obtain ⟨r, h1, rfl⟩ := map_some h
    rw [List.map_cons, keysP_snd h1]
theorem keysP_get : ∀ {l : List D} {q : List KD} {i : Nat} {p : KD}, keysP l = some q -> q[i]? = some p -> l[i]? = some p.2 /\ keyP p.2 = some p.1
  | [], q, i, p, h, e => by cases h; simp at e
  | d :: l, q, i, p, h, e => by
    obtain ⟨s, h0, h⟩ := bind_some h
    obtain ⟨r, h1, rfl⟩ := map_some h
    cases i with
    | zero => cases e; exact ⟨rfl, h0⟩
    | succ i =>
      have z := keysP_get (l := l) (i := i) h1 (by simpa using e)
      exact ⟨by simpa using z.1, z.2⟩
theorem keyP_ok {K : Fg} {O : Addr -> Prop} {H : Hp} {d : D} {v : V} {k : List Nat} (e : keyP d = some k) (h : Is K O H d v) : ∃ a rest, v = .ref a /\ SqT K H a (.str ⟨k.toArray⟩ :: rest) := by
  cases d <;> first | (cases e; done) | skip
  rename_i l
  cases l with
  | nil => cases e
  | cons d l =>
    cases d <;> first | (cases e; done) | skip
    cases e
    rw [Is.tup_iff] at h
    obtain ⟨a, xs, rfl, sq, il⟩ := h
    unfold IsL at il
    obtain ⟨y, r, rfl, h1, _⟩ := il
    rw [Is.str_iff] at h1
    subst h1
    exact ⟨a, r, rfl, sq⟩
section
variable {X : Cx} {a : Expr} {pos p' : Pos} {fl : ML}
theorem df_srtP (hg : Gl X "sorted") (hm : X.mg "sorted" = none) (ha : DB X a fl) (hs : starEach [a] X.env = (false, eval a X.env) :: starEach [] X.env := by rfl) : DF X (.Call (.Name "sorted" p') [a] [] pos) (mSrtP fl) := by
  refine PE.conseq (pe_callB call_sortedP hg hm PyProof.Rows.boot_sorted (pa_cons ha pa_nil hs) (he := hs)) fun σ H Q hq => ?_
  obtain ⟨O0, r, l', hR, e, q⟩ := hq
  obtain ⟨l, e1, e2⟩ := bind_some e
  obtain ⟨kd, e3, e4⟩ := bind_some e2
  split at e4
  · rename_i hz
    cases e4
    refine ⟨O0, r, l, hR, e1, fun p xs H1 s1 sq il => ?_⟩
    have hlx := il.length
    have hkl : kd.length = l.length := by rw [<- keysP_snd e3, List.length_map]
    refine ⟨p, xs, kd.map fun p => (⟨p.1.toArray⟩ : Str), rfl, sq, by omega, by rw [List.length_map]; omega, fun i x k hx hk => ?_, ?_, fun zs D ko n1 => ?_⟩
    · (rw [List.getElem?_map] at hk)
      obtain ⟨kp, ek, rfl⟩ := Option.map_eq_some_iff.mp hk
      obtain ⟨el, eo⟩ := keysP_get e3 ek
      obtain ⟨y', ey, iy⟩ := il.get el
      rw [hx] at ey; cases ey
      exact keyP_ok eo iy
    · rw [List.map_map]
      have : (kd.map ((fun k : Str => k.cps.toList) ∘ fun p : KD => (⟨p.1.toArray⟩ : Str))) = kd.map (·.1) := List.map_congr_left fun p _ => rfl
      rw [this]; exact hz.2
    · obtain ⟨qs, hp, rfl, ho⟩ := ko.ex
      have il2 : IsL X.K (Ow O0 r σ) H1 (kd.map (·.2)) xs := by rw [keysP_snd e3]; exact il
      obtain ⟨bs, hq, hi⟩ := KIs.perm hp (KIs.of il2)
      obtain ⟨i1, i2⟩ := hi.isl
      have up : upK bs := by
        have z : (qs.map (·.1)).Pairwise fun p q : Str => ¬ q.cps.toList < p.cps.toList := List.pairwise_map.mpr ho
        rw [i2] at z
        exact (List.pairwise_map.mp z).imp fun h => by simpa using h
      rw [srtK_eq hz.2 hq up] at i1
      refine q D _ _ (s1.trans (zW n1)) (s1.free n1) zT ?_
      exact IsL.mono (zR.kp (zW n1) _) (hR.same s1).ol (fun b z hb => z.elim id fun z => absurd n1 (by subst z; exact hb)) _ _ i1
  · cases e4
end
open PySem PySem.Spec PyProof.Rows L2 PySem.W
noncomputable def CMulB (i j : Int) : Prop := i.natAbs < 2 ^ 1000 /\ j.natAbs < 2 ^ 1000
noncomputable def mulB : D -> D -> Option D
  | .int i, .int j => if i.natAbs < 2 ^ 1000 /\ j.natAbs < 2 ^ 1000 then some (.int (i * j)) else none
  | _, _ => none
theorem bits_le {k : Int} (h : k.natAbs < 2 ^ 1000) : Builtin.Int.intBits k <= 1001 := by
  unfold Builtin.Int.intBits
  split
  · exact Nat.zero_le _
  · rename_i h0
    have hz : k.natAbs ≠ 0 := fun z => h0 (by rw [Int.natAbs_eq_zero.mp z]; rfl)
    have := (Nat.log2_lt hz).mpr h
    omega
section
variable {X : Cx}
theorem op_mulB : OpR X (binaryOp .Mult) (rI CMulB fun i j => .int (i * j)) := opI fun i j _ _ _ _ _ hc q => mul_int q (IntMulOk.of_le (bits_le hc.1) (bits_le hc.2) (by decide))
end
theorem od_mulB {K : Fg} : OpD K (rI CMulB fun i j => .int (i * j)) mulB := od_I fun dx dy d e => by
  cases dx <;> cases dy <;> first | (simp only [mulB, reduceCtorEq] at e; done) | skip
  simp only [mulB] at e
  split at e
  · rename_i hc; cases e; exact ⟨_, _, rfl, rfl, hc, fun O H => by rw [Is.int_iff]⟩
  · cases e
theorem un1 {k : Nat} {A : Around} (r : Room k A) : A.units + 1 < cLine := by have := un2 r; omega
theorem df_listIt {X : Cx} {a : Expr} {f : ME} {pos p' : Pos} (hg : Gl X "list") (hm : X.mg "list" = none) (ha : DE X a f) (hs : starEach [a] X.env = (false, eval a X.env) :: starEach [] X.env := by rfl) : DF X (.Call (.Name "list" p') [a] [] pos) (mIt f) := by
  refine PE.conseq (pe_callTy call_list_of hg hm PyProof.Rows.boot_list (pa_cons ha pa_nil hs) (he := hs)) fun σ H Q hq => ?_
  obtain ⟨O0, r, l, hR, e, q⟩ := hq
  obtain ⟨d, e1, e⟩ := bind_some e
  refine ⟨O0, r, d, hR, e1, fun v H1 s1 i1 => ?_⟩
  have fin : ∀ xs, IsL X.K (Ow O0 r σ) H1 l xs -> ∀ t, H1 t = none -> Q (.ref t) (upd H1 t (.lst xs)) := fun xs il t ht => q t xs _ (s1.trans (zW ht)) (s1.free ht) zT (fresh_is (hR.same s1).ol ht il)
  cases d <;> first | (cases e; done) | skip
  · cases e
    rw [Is.tup_iff] at i1
    obtain ⟨c, xs, rfl, sq, il⟩ := i1
    exact ⟨c, xs, rfl, .inr sq, fin xs il⟩
  · cases e
    rw [Is.lst_iff] at i1
    obtain ⟨c, xs, rfl, sq, il⟩ := i1
    exact ⟨c, xs, rfl, .inl sq.sq, fin xs il⟩
noncomputable def layN (n : Nat) (d : D) : Bool := okD d && (toP d).canLay0 && decide ((toP d).depth <= n)
noncomputable def eqN (n : Nat) (x y : D) : Option D := if layN n x = true /\ layN n y = true then some (.bl (PyData.eqv (toP x) (toP y))) else none
noncomputable def neN (n : Nat) (x y : D) : Option D := if layN n x = true /\ layN n y = true then some (.bl (!PyData.eqv (toP x) (toP y))) else none
noncomputable def rEqN (K : Fg) (n : Nat) (neg : Bool) : R2 := fun x y H Q => ∃ O dx dy, Is K O H dx x /\ Is K O H dy y /\ layN n dx = true /\ layN n dy = true /\ Q (.bl (if neg then !PyData.eqv (toP dx) (toP dy) else PyData.eqv (toP dx) (toP dy))) H
theorem op_neN {X : Cx} {n : Nat} (hu : X.A.units + n < cLine) : OpR X (compareOp .NotEq) (rEqN X.K n true) := by
  intro pins s σ H x y v u Q I rx ry hq
  obtain ⟨O, dx, dy, ix, iy, lx, ly, q⟩ := hq
  unfold layN at lx ly
  simp only [Bool.and_eq_true, decide_eq_true_eq] at lx ly
  obtain ⟨as, qa⟩ := reads_of I dx x v lx.1.1 ix rx
  obtain ⟨bs, qb⟩ := reads_of I dy y u ly.1.1 iy ry
  exact PySem.SeqAt.compareNe_reads qa qb lx.1.2 ly.1.2 (by have := Nat.min_le_left (toP dx).depth (toP dy).depth; omega) ⟨.bl _, H, I, rfl, q⟩
theorem od_neN {K : Fg} {n : Nat} : OpD K (rEqN K n true) (neN n) := by
  intro O H dx dy d vx vy Q ol ix iy e q
  unfold neN at e
  split at e
  · rename_i h
    cases e
    exact ⟨O, dx, dy, ix, iy, h.1, h.2, q _ H (zR.refl H) (by rw [Is.bl_iff]; rfl)⟩
  · cases e
theorem eqN_refl {n : Nat} {d : D} (h : layN n d = true) : eqN n d d = some (.bl true) /\ neN n d d = some (.bl false) := by
  unfold eqN neN
  rw [if_pos ⟨h, h⟩, if_pos ⟨h, h⟩]
  unfold layN at h
  simp only [Bool.and_eq_true, decide_eq_true_eq] at h
  rw [PySem.SeqAt.eqv_refl _ h.1.2]
  exact ⟨rfl, rfl⟩
theorem un400 {k : Nat} {A : Around} (r : Room k A) (h : 16 <= k) : A.units + 400 < cLine := by have := r.un; omega
noncomputable def mCallD (n : Nat) (m : MF) (fs : ML) : MD := fun r => (fs r).bind fun ds => if ds.length = n then (m (ds.map .v)).bind fun p => match p.1 with
  | .g ks l => some (ks, l)
  | _ => none
  else none
section
variable {X : Cx} {k n : Nat} {f : Addr} {fd : FuncData} {ps : List Str} {m : MF} {x : Str} {p pos : Pos} {e : Expr} {es : List Expr} {fs : ML}
theorem fd_call (F : FnOk X.prog X.w X.K X.mg X.base CX0 k f fd ps (spD X.K n m)) (hr : Room k X.A) (hg : Gl X x) (hm : X.mg x = some (.ref f)) (hk : PySem.W.keepIn X.K (.ref f) = true) (hb : Binds X.K fd ps []) (ha : DA X (e :: es) fs)
    (hdb : (x == ("__debug__" : Str)) = false := by decide) (he : starEach (e :: es) X.env = (false, eval e X.env) :: starEach es X.env := by rfl) (hpl : (backTo pos (starEach es X.env)).any (·.1) = false := by rfl) :
    DFd X (.Call (.Name x p) (e :: es) [] pos) (mCallD n m fs) := by
  refine PE.conseq (pe_call (E := fun _ _ _ => False) (dvs := []) F hr hg hm hk hb .nil pass0 ha hdb he hpl) fun σ H Q h => ?_
  obtain ⟨O0, r, ks, l, hR, e, q⟩ := h
  obtain ⟨ds, e1, e2⟩ := bind_some e
  split at e2
  · rename_i hl
    obtain ⟨⟨rs, as'⟩, e3, e4⟩ := bind_some e2
    refine ⟨O0, r, ds, hR, e1, fun vs H1 s1 il => sp_pure hR s1 il hl e3 ?_⟩
    cases rs with
    | v d => cases e4
    | f l' => cases e4
    | g ks' l' => cases e4; exact fun a kvs H2 pf na ea ek il2 => q a kvs H2 (s1.trans pf.same) (s1.free na) ea ek il2
  · cases e2
end
noncomputable def sFz (i : Nat) (g : MS) : MS := fun r => match r[i]? with
  | some (.d ks l) => g (r.set i (.v (.dct ks l)))
  | _ => none
theorem R.fz2 {K : Fg} {O0 : Addr -> Prop} {H H2 : Hp} {r : En} {σ : St} {i : Nat} {ks : List Key} {l : List D} {c : Addr} {kvs : List (Key × V)} (h : R K O0 H r σ) (er : r[i]? = some (.d ks l)) (c1 : σ[i]? = some (some (.ref c))) (c2 : H c = some (.dK kvs)) (c3 : kvs.map (·.1) = ks) (c4 : IsL K (Ow O0 r σ) H l (kvs.map (·.2)))
    (hne : ∀ b, b ≠ c -> H2 b = H b) (h2 : ∃ o, H2 c = some o /\ Mb o) (rd : Rd H2 c (.dK kvs)) : R K O0 H2 (r.set i (.v (.dct ks l))) σ /\ Kp H r σ H2 (r.set i (.v (.dct ks l))) σ /\ IsL K (Ow O0 (r.set i (.v (.dct ks l))) σ) H2 l (kvs.map (·.2)) /\ ¬ Ow O0 (r.set i (.v (.dct ks l))) σ c := by
  have hi : i < r.length := (List.getElem?_eq_some_iff.mp er).1
  have own : ∀ j m, ((r.set i (.v (.dct ks l)))[j]?).bind Sl.own = some m -> i ≠ j /\ (r[j]?).bind Sl.own = some m := fun j m e => by
    by_cases hj : i = j
    · subst hj; rw [zQ hi] at e; cases e
    · rw [zG hj] at e; exact ⟨hj, e⟩
  have mtt : ∀ j m, ((r.set i (.v (.dct ks l)))[j]?).bind Sl.mt = some m -> (r[j]?).bind Sl.mt = some m := fun j m e => by
    by_cases hj : i = j
    · subst hj; rw [zQ hi] at e; cases e
    · rw [zG hj] at e; exact e
  have at_ : ∀ b, OwnAt (r.set i (.v (.dct ks l))) σ b -> OwnAt r σ b := fun b ⟨j, m, e, q⟩ => ⟨j, m, (own j m e).2, q⟩
  have nc : ¬ Ow O0 (r.set i (.v (.dct ks l))) σ c := fun z => z.elim (fun z => h.loc i l c (.inr (.inr ⟨ks, er⟩)) c1 z) fun ⟨j, m, e, q⟩ => by
    obtain ⟨hj, e'⟩ := own j m e
    exact hj (h.apart i j c l m (by rw [er]; rfl) e' c1 q)
  have ow : ∀ b, Ow O0 (r.set i (.v (.dct ks l))) σ b -> H b ≠ none -> Ow O0 r σ b := fun b z _ => z.imp id (at_ b)
  have mc : MutAt r σ c := ⟨i, l, by rw [er]; rfl, c1⟩
  have kp : Keep (Ow O0 r σ) H H2 := fun b o e n => (hne b fun z => n (by rw [z]; exact .inr mc.own)).trans e
  have i4 := IsL.mono kp h.ol ow _ _ c4
  refine ⟨⟨by simp [h.len], fun j d ej => ?_, fun j m ej => ?_, fun j k b m n e4 e5 => h.apart j k b m n (own j m e4).2 (own k n e5).2, fun b z => ?_, fun j m b ej q => ?_, fun j m b ej q => ?_, fun j ks' m ej => ?_⟩, ⟨fun b o e n => (hne b fun z => n (by rw [z]; exact mc)).trans e, fun b e => ?_, fun b o e mb => ?_, fun b z => .inl (at_ b z), fun b ⟨j, m, e, q⟩ => .inl ⟨j, m, mtt j m e, q⟩, fun j m ej => ?_, fun j m ej => ?_⟩, i4, nc⟩
  · by_cases hj : i = j
    · subst hj
      rw [zQ hi] at ej
      cases ej
      refine ⟨.ref c, c1, ?_⟩
      rw [Is.dct_iff]
      exact ⟨c, kvs, rfl, nc, rd, c3, i4⟩
    · rw [zG hj] at ej
      obtain ⟨v, q1, q2⟩ := h.val j d ej
      exact ⟨v, q1, Is.mono kp h.ol ow _ _ q2⟩
  · have hj : i ≠ j := fun z => by subst z; rw [zQ hi] at ej; cases ej
    rw [zG hj] at ej
    obtain ⟨b, ys, q1, q2, q3⟩ := h.own j m ej
    exact ⟨b, ys, q1, (hne b fun z => by rw [z, c2] at q2; cases q2).trans q2, IsL.mono kp h.ol ow _ _ q3⟩
  · obtain ⟨o, e, mb⟩ := h.o0 b z
    exact ⟨o, (hne b fun y => h.loc i l c (.inr (.inr ⟨ks, er⟩)) c1 (by rw [<- y]; exact z)).trans e, mb⟩
  · have hj : i ≠ j := fun z => by subst z; rw [zQ hi] at ej; rcases ej with ej | ej | ⟨_, ej⟩ <;> cases ej
    rw [zG hj] at ej
    exact h.loc j m b ej q
  · have hj : i ≠ j := fun z => by subst z; rw [zQ hi] at ej; cases ej
    rw [zG hj] at ej
    exact h.par j m b ej q
  · have hj : i ≠ j := fun z => by subst z; rw [zQ hi] at ej; cases ej
    rw [zG hj] at ej
    obtain ⟨b, kvs', q1, q2, q4, q3⟩ := h.dct j ks' m ej
    have hb : b ≠ c := fun z => hj (h.apart i j c l m (by rw [er]; rfl) (by rw [ej]; rfl) c1 (by rw [q1, z]))
    exact ⟨b, kvs', q1, (hne b hb).trans q2, q4, IsL.mono kp h.ol ow _ _ q3⟩
  · by_cases hb : b = c
    · subst hb; obtain ⟨o, e', _⟩ := h2; rw [e] at e'; cases e'
    · rw [<- hne b hb]; exact e
  · by_cases hb : b = c
    · subst hb; exact h2
    · exact ⟨o, (hne b hb).trans e, mb⟩
  · have hj : i ≠ j := fun z => by subst z; rw [er] at ej; cases ej
    exact ⟨⟨m, by rw [zG hj]; exact ej⟩, rfl⟩
  · have hj : i ≠ j := fun z => by subst z; rw [er] at ej; cases ej
    exact ⟨by rw [zG hj]; exact ej, rfl⟩
theorem R.fz {K : Fg} {O0 : Addr -> Prop} {H : Hp} {r : En} {σ : St} {i : Nat} {ks : List Key} {l : List D} (h : R K O0 H r σ) (er : r[i]? = some (.d ks l)) : R K O0 H (r.set i (.v (.dct ks l))) σ /\ Kp H r σ H (r.set i (.v (.dct ks l))) σ := by
  obtain ⟨c, kvs, c1, c2, c3, c4⟩ := h.dct i ks l er
  obtain ⟨a, b, _⟩ := h.fz2 er c1 c2 c3 c4 (fun _ _ => rfl) ⟨_, c2, trivial⟩ (.inl c2)
  exact ⟨a, b⟩
theorem ds_fz (i : Nat) {X : Cx} {st : Stmt} {g : MS} (h : DS X st g) : DS X st (sFz i g) := by
  refine PS.conseq h fun Dn σ H hq => ?_
  obtain ⟨O0, r, fl, hR, e, q⟩ := hq
  unfold sFz at e
  split at e
  · rename_i ks l er
    obtain ⟨R1, k1⟩ := hR.fz er
    exact ⟨O0, _, fl, R1, e, q.before R1 k1⟩
  · cases e
noncomputable def ItD (a : Addr) (ob : Obj) (kvs : List (Key × V)) : It :=
  ⟨fun i H => H a = some (.frz ob (.dK kvs)) /\ i < kvs.length, fun i H x H' => ∃ T p, x = .ref T /\ H T = none /\ kvs[i]? = some p /\ H' = upd H T (.tup [kV p.1, p.2]), fun i H => H a = some (.frz ob (.dK kvs)) /\ kvs.length = i⟩
theorem KV.at {kvs : List (Key × V)} {vs : List (Key × Value)} (r : KV kvs vs) : ∀ {i : Nat} {p : Key × V}, kvs[i]? = some p -> ∃ v, vs[i]? = some (p.1, v) /\ RelV p.2 v := by
  induction r with
  | nil => intro i p e; simp at e
  | @cons p q ps qs h t ih =>
    intro i p' e
    cases i with
    | zero => cases e; exact ⟨q.2, by obtain ⟨h1, _⟩ := h; show some q = _; rw [h1], h.2⟩
    | succ i => exact ih (i := i) (by simpa using e)
theorem frz_at {X : Cx} {pins : List (Addr × Obj)} {σ : St} {H : Hp} {s : Shared} {a : Addr} {ob : Obj} {kvs : List (Key × V)} {es : Array DictEntry} {ep : Nat} (I : Inv X pins σ H s) (e : H a = some (.frz ob (.dK kvs))) (he : ob.data = .dict es ep) : ∃ vs, KV kvs vs /\ s.heap.DictAt (mixKind X.prog X.w) a vs ep := by
  obtain ⟨g, z, hd, vs, rel, dd⟩ := (show ObjOk X.prog X.w H s.heap a (.frz ob (.dK kvs)) from I.hok a _ e)
  obtain ⟨ep', da⟩ := dd.dictAt
  obtain ⟨o, es', ho, hc, hdt, r⟩ := id da
  rw [g] at ho
  cases ho
  rw [he] at hdt
  cases hdt
  exact ⟨vs, rel, da⟩
theorem turn_items {P : Program} {w : World} {K : Fg} {elts : List Expr} {k : Nat} {tp : Pos} (a it : Addr) (ob : Obj) (kvs : List (Key × V)) (es : Array DictEntry) (ep : Nat) (he : ob.data = .dict es ep) : Turn P w K (.Tuple elts k tp) (ItD a ob kvs) [it] it (fun i h => ∃ ok ov, IsItemIter h it a i kvs.length ep ok ov) where
  mem := by simp
  obj := fun i h st b hb => by
    obtain ⟨ok, ov, h1⟩ := st
    rw [List.mem_singleton.mp hb]
    exact ⟨_, h1, fun v z => by cases z⟩
  keep := fun i h g st kp => let ⟨ok, ov, h1⟩ := st; ⟨ok, ov, kp it (by simp) _ h1⟩
  item := by
    intro X hP hw hK hc i pins s σ H E I hf st hg
    subst hP hw hK
    obtain ⟨ea, hlt⟩ := hg
    obtain ⟨ok, ov, hit⟩ := st
    obtain ⟨vs, rel, da⟩ := frz_at I ea he
    have hlen := KV.length rel
    obtain ⟨p, hp⟩ : ∃ p, kvs[i]? = some p := ⟨kvs[i], by simp [hlt]⟩
    obtain ⟨v, hv, rv⟩ := KV.at rel hp
    rw [hlen] at hit
    refine wpAny_pyNext_items_item hit da hv fun key h' hkey heo ht hz hk => ⟨_, rfl, wpAny_letOwnedTupleGo_items heo fun h2 he2 hs2 => ?_⟩
    replace hs2 : Heap.SameBut it h' h2 := hs2
    have hil : it < s.heap.objs.size := Heap.lt_size hit
    have ht2 : IsTup h2 s.heap.objs.size #[key, v] := ⟨_, (hs2.2 _ (Nat.ne_of_gt hil)).trans ht, rfl, _, rfl⟩
    refine ⟨.ref s.heap.objs.size, upd H s.heap.objs.size (.tup [kV p.1, p.2]), inv_drew (s := s) (t' := s.toks) I (its := [key, v]) (ch := [it]) hf (Nat.le_refl _) (fun b o hb q => hs2.extBut b o (fun z => hb (by simp [z])) (hk b o (fun z => hb (by simp [z])) q)) (by show 2 <= sizeLine; decide) (.cons (is_rel hkey) (.cons rv .nil)) ht2, rfl, ⟨_, p, rfl, I.hok.fresh (Nat.le_refl _), hp, rfl⟩, ⟨_, _, by rw [hlen]; exact he2⟩, fun b hb => ?_⟩
    rw [List.mem_singleton.mp hb, zU (Nat.ne_of_lt hil)]
    exact (hf it (by simp)).1
  done := by
    intro X hP hw hK hc i pins s σ H E I hf st hg
    subst hP hw hK
    obtain ⟨ea, hlt⟩ := hg
    obtain ⟨ok, ov, hit⟩ := st
    obtain ⟨vs, rel, da⟩ := frz_at I ea he
    have hlen := KV.length rel
    rw [hlen] at hit
    exact wpAny_pyNext_items_end (I.ok.hd hc) hit da (by rw [List.getElem?_eq_none]; omega) fun h' hx => ⟨rfl, inv_turnL I hf fun b o hb q => hx b o (fun z => hb (by simp [z])) q⟩
  self := fun _ _ _ _ _ st h => let ⟨_, _, h1⟩ := st; PySem.W.kcp_self h1 h
section
variable {X : Cx} {o a : Expr} {apos pos : Pos} {elts : List Expr} {k : Nat} {tp : Pos}
theorem pe_frz {t : TE} (h : PE X a t) : PE X a (fun σ H Q => t σ H fun x H1 => ∃ c kvs, x = .ref c /\ H1 c = some (.dK kvs) /\ ∀ ob, Q x (upd H1 c (.frz ob (.dK kvs)))) := by
  intro pins s σ H Q I hq
  refine thn (h pins s σ H _ I hq) fun u s1 ⟨x, H1, I1, rx, c, kvs, ex, ec, q⟩ => ?_
  obtain ⟨z, hd, vs, rel, dd⟩ := dk_of I1.hok ec
  obtain ⟨ep, da⟩ := dd.dictAt
  obtain ⟨ob, es', ho, r⟩ := id da
  refine ⟨x, _, d_write (ob := .frz ob (.dK kvs)) (h' := s1.heap) (t' := s1.toks) I1 (by rw [ec]; exact trivial) ⟨rfl, fun _ _ => rfl⟩ ⟨_, ho⟩ ?_, rx, q ob⟩
  exact ⟨ho, z, hd, vs, rel, dd⟩
theorem pi_items {to : TE} (ho : PE X o to) (hbase : attributeBase o "items" X.env (eval o X.env) = eval o X.env := by rfl) (hline : (apos.endLine == pos.line) = true := by rfl) :
    PI X (.Tuple elts k tp) (.Call (.Attribute o "items" apos) [] [] pos) (fun σ H R => to σ H fun x H1 => ∃ c ob kvs, x = .ref c /\ H1 c = some (.frz ob (.dK kvs)) /\ R (ItD c ob kvs) H1) := by
  intro pins s σ H R I h
  refine wpAny_Call_method (T := "dict") (id := "dict.items") hbase rfl hline PySem.F.plainAttrs_dict PySem.F.slot_dict_items PySem.F.type_dict_items (thn (ho pins s σ H _ I h) fun u s1 ⟨x, H1, I1, rx, c, ob, kvs, ex, ec, q⟩ => ?_)
  subst ex
  obtain rfl : u = Value.ref c := rx
  obtain ⟨g, z, hd, vs, rel, dd⟩ := (show ObjOk X.prog X.w H1 s1.heap c (.frz ob (.dK kvs)) from I1.hok c _ ec)
  obtain ⟨ep, da⟩ := dd.dictAt
  obtain ⟨o', es, ho', hc', hdt, r⟩ := id da
  rw [g] at ho'
  cases ho'
  have hlen := KV.length rel
  refine ⟨dd.typeIs, dd.mapOf.noDict, ?_⟩
  show wpAny _ _ (callWith pos (.builtin "dict.items") [.ref c] [] []) _ _ s1
  refine method_meetsIn PySem.F.slot_dict_items PySem.F.entry_dict_items rfl (PySem.evalArgs_none ⟨rfl, dd.typeIs, PySem.F.args_dict_items_1 _, _, meets_dict_items (mixKind X.prog X.w) c hd, ⟨vs, dd⟩, ?_⟩)
  refine wpAny_pyIter_items (knd := mixKind X.prog X.w) (d := c) (kvs := vs) (ep := ep) ⟨_, Heap.get?_push_size _ rfl, rfl, rfl⟩ (da.push _) ?_
  have hsz : (s1.heap.push { cls := .type "dict_items", data := .fields #[.ref c] }).objs.size = s1.heap.objs.size + 1 := Heap.size_push ..
  refine ⟨_, [_], _, _, H1, rfl, I1.kept (t' := s1.toks) (fun b o e => Heap.get?_push_of_some _ (Heap.get?_push_of_some _ e)), turn_items c _ ob kvs es ep hdt, ⟨_, _, by rw [hlen]; exact Heap.get?_push_size _ rfl⟩, fun b hb => ?_, q⟩
  rw [List.mem_singleton.mp hb]
  have hle : s1.heap.objs.size <= (s1.heap.push { cls := .type "dict_items", data := .fields #[.ref c] }).objs.size := by rw [hsz]; exact Nat.le_succ _
  exact I1.fpOk hle (I1.hok.fresh hle)
end
noncomputable def itemsL (ks : List Key) (l : List D) : List D := List.zipWith (fun k d => .tup [dKey k, d]) ks l
theorem items_at {K : Fg} {O : Addr -> Prop} {H : Hp} : ∀ {kvs : List (Key × V)} {l : List D}, IsL K O H l (kvs.map (·.2)) -> (itemsL (kvs.map (·.1)) l).length = kvs.length /\ ∀ {i : Nat} {d : D}, (itemsL (kvs.map (·.1)) l)[i]? = some d -> ∃ p dx, kvs[i]? = some p /\ d = .tup [dKey p.1, dx] /\ Is K O H dx p.2
  | [], [], _ => ⟨rfl, fun {i d} e => by simp [itemsL] at e⟩
  | [], d' :: l, h => by unfold IsL at h; obtain ⟨_, _, e, _⟩ := h; cases e
  | p :: kvs, [], h => by unfold IsL at h; cases h
  | p :: kvs, d' :: l, h => by
    unfold IsL at h
    obtain ⟨x, y, e, h1, h2⟩ := h
    rw [List.map_cons] at e
    cases e
    obtain ⟨a, b⟩ := items_at h2
    have ee : itemsL ((p :: kvs).map (·.1)) (d' :: l) = .tup [dKey p.1, d'] :: itemsL (kvs.map (·.1)) l := rfl
    refine ⟨by rw [ee, List.length_cons, a]; rfl, fun {i d} e => ?_⟩
    rw [ee] at e
    cases i with
    | zero => cases e; exact ⟨p, d', rfl, rfl, h1⟩
    | succ i =>
      obtain ⟨p', dx, q⟩ := b (i := i) (by simpa using e)
      exact ⟨p', dx, by simpa using q.1, q.2⟩
theorem yl_items {K : Fg} {O M : Addr -> Prop} (mo : ∀ a, M a -> O a) {H : Hp} {c : Addr} {ob : Obj} {kvs : List (Key × V)} {ks : List Key} {l : List D} (ol : OLst O H) (nc : ¬ M c) (ec : H c = some (.frz ob (.dK kvs))) (ek : kvs.map (·.1) = ks) (il : IsL K O H l (kvs.map (·.2))) : Ylds K O M H (ItD c ob kvs) (itemsL ks l) := by
  subst ek
  intro i H1 O' kp oo
  have kp' : Keep O H H1 := fun b o e n => kp b o e fun z => n (mo b z)
  have ec1 := kp _ _ ec nc
  obtain ⟨hlen, get⟩ := items_at il
  refine ⟨fun hi => ⟨⟨ec1, by rw [<- hlen]; exact hi⟩, fun x H' y => ?_⟩, fun hi => ⟨ec1, by rw [<- hlen]; exact hi.symm⟩⟩
  obtain ⟨T, p, rfl, nT, ep, rfl⟩ := y
  refine ⟨zW nT, fun d ed => ?_⟩
  obtain ⟨p', dx, e1, rfl, ix⟩ := get ed
  rw [ep] at e1
  cases e1
  have kk : Keep O H (upd H1 T (.tup [kV p.1, p.2])) := fun b o e' n => by
    have := kp' b o e' n
    rw [zU (ne_of_none this nT)]; exact this
  rw [Is.tup_iff]
  exact ⟨T, _, rfl, SqT.of zT, .cons (dKey_ok p.1) (.cons (Is.mono kk ol oo _ _ ix) .nil)⟩
section
variable {X : Cx} {o : Expr} {apos pos cpos pn : Pos} {elts : List Expr} {k : Nat} {tp : Pos} {fd : MD}
noncomputable def mItF (fd : MD) : ML := fun r => (fd r).map fun q => itemsL q.1 q.2
theorem di_itemsF (h : DFd X o fd) (hbase : attributeBase o "items" X.env (eval o X.env) = eval o X.env := by rfl) (hline : (apos.endLine == pos.line) = true := by rfl) : DI X (.Tuple elts k tp) (.Call (.Attribute o "items" apos) [] [] pos) (mItF fd) := by
  refine PI.conseq (pi_items (pe_frz h) hbase hline) fun σ H Rr hq => ?_
  obtain ⟨O0, r, ds, hR, e, q⟩ := hq
  obtain ⟨⟨ks, l⟩, e1, rfl⟩ := map_some e
  refine ⟨O0, r, ks, l, hR, e1, fun c kvs H1 s1 n1 e2 ek il => ⟨c, kvs, rfl, e2, fun ob => ⟨c, ob, kvs, rfl, zT, ?_⟩⟩⟩
  have sm : zR H (upd H1 c (.frz ob (.dK kvs))) := fun b o e => by rw [zU (ne_of_none e n1)]; exact s1 b o e
  have ol : OLst (fun b => Ow O0 r σ b \/ b = c) H1 := fun b z => z.elim (fun z => (hR.same s1).ol b z) fun z => by subst z; exact ⟨.dK kvs, e2, trivial⟩
  exact q _ _ sm (yl_items (fun a z => .inr z.own) (hR.same sm).ol (fun z => hR.nofresh n1 (.inr z.own)) zT ek (IsL.mono (fun b o e n => by rw [zU fun z => n (.inr z)]; exact e) ol (fun _ z _ => .inl z) _ _ il))
noncomputable def sForD (i : Nat) (bd : D -> En -> Option En) (g : MS) : MS := fun r => match r[i]? with
  | some (.d ks l) => forL bd g (itemsL ks l) (r.set i (.v (.dct ks l)))
  | _ => none
theorem ds_forD (i : Nat) {nm : Str} {bd : D -> En -> Option En} {g : MS} {body : List Stmt} (hp : PassesOwn (model X.prog X.w) X.A X.env X.xe) (hc : X.calm = true) (hv : PE X (.Name nm pn) (tVar i)) (hg : DG X (.Tuple elts k tp) bd) (hb : DSs X body g) (hs : ∀ x, foldedSetIterable (.Call (.Attribute (.Name nm pn) "items" apos) [] [] cpos) X.env x = pure x := by intro _; rfl)
    (hbase : attributeBase (.Name nm pn) "items" X.env (eval (.Name nm pn) X.env) = eval (.Name nm pn) X.env := by rfl) (hline : (apos.endLine == cpos.line) = true := by rfl) :
    DS X (.For (.Tuple elts k tp) (.Call (.Attribute (.Name nm pn) "items" apos) [] [] cpos) body [] pos) (sForD i bd g) := by
  refine PS.conseq (ps_for hp hc (pi_items (pe_frz hv) hbase hline) hg hb hs) fun Dn σ H hq => ?_
  obtain ⟨O0, r, fl, hR, e, q⟩ := hq
  unfold sForD at e
  split at e
  case h_2 => cases e
  rename_i ks l' er
  obtain ⟨c, kvs, c1, c2, c3, c4⟩ := hR.dct i ks l' er
  refine ⟨.ref c, c1, c, kvs, rfl, c2, fun ob => ⟨c, ob, kvs, rfl, zT, ?_⟩⟩
  obtain ⟨R0, kz, i4, nc⟩ := hR.fz2 (H2 := (upd H c (.frz ob (.dK kvs)))) er c1 c2 c3 c4 (fun b hb => zU hb) ⟨_, zT, trivial⟩ (.inr ⟨ob, zT⟩)
  have yl : Ylds X.K (Ow O0 (r.set i (.v (.dct ks l'))) σ) (MutAt (r.set i (.v (.dct ks l'))) σ) (upd H c (.frz ob (.dK kvs))) (ItD c ob kvs) (itemsL ks l') := yl_items (fun a z => .inr z.own) R0.ol (fun z => nc (.inr z.own)) zT c3 i4
  generalize hr0 : r.set i (.v (.dct ks l')) = r0 at e R0 kz yl
  generalize hl0 : itemsL ks l' = l at e yl
  refine ⟨fun i m σ1 H1 => m = l.length - i /\ i <= l.length /\ ∃ r1, R X.K O0 H1 r1 σ1 /\ Kp (upd H c (.frz ob (.dK kvs))) r0 σ H1 r1 σ1 /\ forL bd g (l.drop i) r1 = some fl, ⟨l.length, by simp, Nat.zero_le _, r0, R0, Kp.refl (upd H c (.frz ob (.dK kvs))) r0 σ, by simpa using e⟩, ?_⟩
  rintro i m σ1 H1 ⟨rfl, hil, r1, R1, k1, e3⟩
  have k0 := kz.trans k1
  obtain ⟨y1, y2⟩ := yl i H1 (Ow O0 r1 σ1) k1.keep fun a z n => z.elim .inl fun z => (k1.new a z).elim .inr fun z => absurd z n
  by_cases hlt : i < l.length
  · obtain ⟨go, yd⟩ := y1 hlt
    have hd : l[i]? = some l[i] := by simp [hlt]
    rw [drop_cons hd] at e3
    obtain ⟨r2, e4, e5⟩ := bind_some e3
    obtain ⟨f1, e6, e7⟩ := bind_some e5
    refine .inr ⟨go, fun σ3 H3 => ∃ r3, R X.K O0 H3 r3 σ3 /\ Kp (upd H c (.frz ob (.dK kvs))) r0 σ H3 r3 σ3 /\ forL bd g (l.drop (i + 1)) r3 = some fl, fun σ3 H3 z => ⟨l.length - (i + 1), by omega, rfl, hlt, z⟩, fun x H2 yx => ?_⟩
    obtain ⟨s2, ix⟩ := yd x H2 yx
    have R2 := R1.same s2
    refine ⟨O0, r1, l[i], r2, R2, ix _ hd, e4, fun σ2 R2' k2 => ⟨O0, r2, f1, R2', e6, ?_⟩⟩
    have k3 := (k1.trans (Kp.of_same r1 σ1 s2)).trans k2
    have k4 := (k0.trans (Kp.of_same r1 σ1 s2)).trans k2
    cases f1 with
    | nx r3 => exact fun σ3 H3 R3 kk => ⟨r3, R3, k3.trans kk, e7⟩
    | ct r3 => exact fun σ3 H3 R3 kk => ⟨r3, R3, k3.trans kk, e7⟩
    | bk r3 => cases e7; exact fun σ3 H3 R3 kk => q σ3 H3 R3 (k4.trans kk)
    | _ => cases e7; exact PostS.before R2' k4 q
  · have hl : l.drop i = [] := List.drop_eq_nil_of_le (by omega)
    rw [hl] at e3
    cases e3
    exact .inl ⟨y2 (by omega), q σ1 H1 R1 k0⟩
end
section
variable {X : Cx} {a : Expr} {es : List Expr} {f : En -> Option (D × En)} {fl : ML}
noncomputable def mMidX (f : En -> Option (D × En)) (fl : ML) : MXA := fun r => (f r).bind fun q => (fl q.2).map fun l => (q.1 :: l, q.2)
theorem dxa_mid (h : DX X a f) (hs : DA X es fl) (hq : starEach (a :: es) X.env = (false, eval a X.env) :: starEach es X.env := by rfl) : DXA X (a :: es) (mMidX f fl) := by
  refine PA.conseq (pa_cons h hs hq) fun σ H Q hq => ?_
  obtain ⟨O0, r, l, r', hR, e, q⟩ := hq
  obtain ⟨⟨d, r1⟩, e1, e⟩ := bind_some e
  obtain ⟨l', e2, e3⟩ := map_some e
  cases e3
  refine ⟨O0, r, d, r1, hR, e1, fun v H1 R1 k1 i1 => ⟨O0, r1, l', R1, e2, fun vs H2 s2 i2 => ?_⟩⟩
  exact q (v :: vs) H2 (R1.same s2) (k1.trans (Kp.of_same r1 σ s2)) (.cons (i1.same s2 R1.ol) i2)
end
section
variable {X : Cx} {a : Expr} {pos : Pos}
noncomputable def least3 (i j k : Int) : Int := if j < i then (if k < j then k else j) else (if k < i then k else i)
noncomputable def mMin3 (fs : ML) : ME := fun r => (fs r).bind fun l => match l with
  | [.int i, .int j, .int k] => some (.int (least3 i j k))
  | _ => none
theorem call_min3 (hc : X.calm = true) : CallR X (.builtin "min") (fun xs H Q => ∃ i j k, xs = [.int i, .int j, .int k] /\ Q (.int (least3 i j k)) H) := by
  intro pins s σ H xs us Q I r h
  obtain ⟨i, j, k, rfl, q⟩ := h
  cases r with
  | cons r1 r =>
    cases r with
    | cons r2 r =>
      obtain ⟨u3, rfl, r3⟩ := vals1 r
      obtain ⟨t1, rfl⟩ := r1
      obtain ⟨t2, rfl⟩ := r2
      obtain ⟨t3, rfl⟩ := r3
      refine min_three_ints (I.ok.hd hc) fun h' tk kp => ⟨_, H, I.kept kp, ?_, q⟩
      unfold least3
      by_cases h1 : j < i
      · rw [if_pos h1, if_pos h1]
        by_cases h2 : k < j
        · rw [if_pos h2, if_pos h2]; exact ⟨_, rfl⟩
        · rw [if_neg h2, if_neg h2]; exact ⟨_, rfl⟩
      · rw [if_neg h1, if_neg h1]
        by_cases h2 : k < i
        · rw [if_pos h2, if_pos h2]; exact ⟨_, rfl⟩
        · rw [if_neg h2, if_neg h2]; exact ⟨_, rfl⟩
theorem de_min3 {p' : Pos} {es : List Expr} {fs : ML} (hc : X.calm = true) (hg : Gl X "min") (hm : X.mg "min" = none) (ha : DA X (a :: es) fs)
    (hs : starEach (a :: es) X.env = (false, eval a X.env) :: starEach es X.env := by rfl) (hpl : (backTo pos (starEach es X.env)).any (·.1) = false := by rfl) : DE X (.Call (.Name "min" p') (a :: es) [] pos) (mMin3 fs) := by
  refine PE.conseq (pe_callB (call_min3 hc) hg hm PyProof.Rows.boot_min ha (he := hs) (hpl := hpl)) fun σ H Q hq => ?_
  obtain ⟨O0, r, d, hR, e, q⟩ := hq
  obtain ⟨l, e1, e2⟩ := bind_some e
  refine ⟨O0, r, l, hR, e1, fun vs H1 s1 il => ?_⟩
  split at e2
  · cases e2
    unfold IsL at il
    obtain ⟨v, vr, rfl, i1, il⟩ := il
    obtain ⟨u, w, rfl, i2, i3⟩ := il.inv2
    rw [Is.int_iff] at i1 i2 i3
    exact ⟨_, _, _, by rw [i1, i2, i3], q _ H1 s1 (by rw [Is.int_iff])⟩
  · cases e2
end
end DD
namespace K13
open PySem PySem.Spec PyProof.Rows L2 DD
noncomputable def top (i : Nat) : Stmt := PySem.Challenge.pw_fieldrows_k13_filled_twice.main.body.getD i (.Pass ⟨0, 0, 0, 0⟩)
noncomputable def WF : Nat := 100000
noncomputable def g_has_row : MS := (sRet (zD (inD false) (zD ixD (zB 0) (mC (.int 0))) (mTup (zA (mC (.str [114, 101, 99])) (zA (mC (.str [111, 110, 101])) zK)))))
noncomputable def F_has_row : MF := mkF 1 1 g_has_row
noncomputable def g_straight_in : MS := (yB (sIf (mBl (zD eqA (zD ixD (zB 0) (mC (.int 0))) (mC (.str [102, 117, 110]))))
 (sRet (mOfF (yR (zA (zD ixD (zB 0) (mC (.int 1))) (zA (zD ixD (zB 0) (mC (.int 2))) zK)))))
 sSkip)
 (yB (sIf (mTru (zX 1 F_has_row (zA (zB 0) zK)))
 (sRet (mOfF (mComp [] 1 (mIt (zD ixD (zD ixD (zB 0) (mC (.int 1))) (mC (.int 1)))) (yJ 0) (zD ixD (zB 0) (mC (.int 1))))))
 sSkip)
 (sRet (mOfF (yR zK)))))
noncomputable def yI : MF := mkF 1 1 g_straight_in
noncomputable def g_within : MS := (yB (sOwn 1 (yR zK))
 (yB (sOwn 2 (yR (zA (zB 0) zK)))
 (yB (sWhile WF (mTruB (mOwn 2))
 (yB (sSetX 3 (mPop 2))
 (yB (sX (mApp 1 (zB 3)))
 (sX (mExt 2 (mUn revD (zX 1 yI (zA (zB 3) zK))))))))
 (sRetOwn 1))))
noncomputable def F_within : MF := mkF 1 4 g_within
noncomputable def g_own_numbers : MS := (yB (sIf (mBl (zD eqA (zD ixD (zB 0) (mC (.int 0))) (mC (.str [118, 97, 114]))))
 (sRet (mOfF (yR (zA (zD ixD (zB 0) (mC (.int 1))) zK))))
 sSkip)
 (yB (sIf (mAndT (mTru (zX 1 F_has_row (zA (zB 0) zK))) (mBl (zD notND (zD ixD (zD ixD (zB 0) (mC (.int 1))) (mC (.int 2))) (mC .non))))
 (sRet (mOfF (yR (zA (zD ixD (zD ixD (zB 0) (mC (.int 1))) (mC (.int 2))) zK))))
 sSkip)
 (sRet (mOfF (yR zK)))))
noncomputable def F_own_numbers : MF := mkF 1 1 g_own_numbers
noncomputable def g_numbers : MS := (yB (sOwnD 1 mD0)
 (yB (sOwn 2 (yR (zA (zB 0) zK)))
 (yB (sWhile WF (mTruB (mOwn 2))
 (yB (sSetX 3 (mPop 2))
 (sIf (mTru (mUn (instD "int") (zB 3)))
 (sDSet 1 (zB 3) (mC (.bl true)))
 (sX (mExt 2 (mUn revD (zD yQ (zX 1 yI (zA (zB 3) zK)) (zX 1 F_own_numbers (zA (zB 3) zK)))))))))
 (sRet (mOfF (mKeys 1))))))
noncomputable def F_numbers : MF := mkF 1 4 g_numbers
noncomputable def g_label_of : MS := (sRet (zD ixD (zB 0) (mC (.int 0))))
noncomputable def F_label_of : MF := mkF 1 1 g_label_of
noncomputable def g_joined : MS := (yB (sSet 2 (mOfF (mSrtK F_label_of (mCat (mIt (zB 0)) (mIt (zD ixD (zB 1) (mC (.int 1))))))))
 (sRet (mTup (zA (mC (.str [114, 111, 119])) (zA (mTupOf (mAsL (zB 2))) (zA (zD ixD (zB 1) (mC (.int 2))) zK))))))
noncomputable def F_joined : MF := mkF 2 3 g_joined
noncomputable def g_rebuilt_row : MS := (yB (sSet 3 (mOfF (mComp [] 2 (mZipA (zD ixD (zB 0) (mC (.int 1))) (zB 1)) (bdSeq 2 (bdCons (yJ 0) (bdCons (yJ 1) bdNil))) (mTup (zA (zD ixD (zB 0) (mC (.int 0))) (zA (zB 1) zK))))))
 (sRet (zX 2 F_joined (zA (zB 3) (zA (mGetO (mAsD (zB 2)) (zD ixD (zB 0) (mC (.int 2))) (mTup (zA (mC (.str [114, 111, 119])) (zA (mTup zK) (zA (zD ixD (zB 0) (mC (.int 2))) zK))))) zK)))))
noncomputable def F_rebuilt_row : MF := mkF 3 4 g_rebuilt_row
noncomputable def g_rebuilt : MS := (yB (sIf (mBl (zD eqA (zD ixD (zB 0) (mC (.int 0))) (mC (.str [118, 97, 114]))))
 (sRet (mGetO (mAsD (zB 2)) (zD ixD (zB 0) (mC (.int 1))) (zB 0)))
 sSkip)
 (yB (sIf (mBl (zD eqA (zD ixD (zB 0) (mC (.int 0))) (mC (.str [102, 117, 110]))))
 (sRet (mTup (zA (mC (.str [102, 117, 110])) (zA (zD ixD (zB 1) (mC (.int 0))) (zA (zD ixD (zB 1) (mC (.int 1))) zK)))))
 sSkip)
 (yB (sIf (mTru (zX 1 F_has_row (zA (zB 0) zK)))
 (sRet (mTup (zA (zD ixD (zB 0) (mC (.int 0))) (zA (zX 3 F_rebuilt_row (zA (zD ixD (zB 0) (mC (.int 1))) (zA (zB 1) (zA (zB 2) zK)))) zK))))
 sSkip)
 (sRet (zB 0)))))
noncomputable def F_rebuilt : MF := mkF 3 3 g_rebuilt
noncomputable def g_built : MS := (yB (sOwn 2 (yR zK))
 (yB (sFor (yJ 3) (mIt (mUn revD (zB 0)))
 (yB (sSetX 4 (mCompX 2 2 (mIt (zX 1 yI (zA (zB 3) zK))) (yJ 1) (mPop 0)))
 (sX (mApp 2 (zX 3 F_rebuilt (zA (zB 3) (zA (zB 4) (zA (zB 1) zK))))))))
 (sRet (mIxB (mOwn 2) (mC (.int 0))))))
noncomputable def F_built : MF := mkF 2 5 g_built
noncomputable def g_filled : MS := (sRet (zX 2 F_built (zA (mOfF (mCallF 1 F_within (zA (zB 0) zK))) (zA (zB 1) zK))))
noncomputable def yG : MF := mkF 2 2 g_filled
noncomputable def g__law_cell_at : MS := (yB (sIf (mBl (zD ltA (zB 1) (mUn lenD (zB 0))))
 (sRet (zD ixD (zB 0) (zB 1)))
 sSkip)
 (sRet (mC (.int 0))))
noncomputable def F__law_cell_at : MF := mkF 2 2 g__law_cell_at
noncomputable def g__law_mixed : MS := (yB (sSet 2 (zD yQ (zD powD (mC (.int 10)) (mC (.int 30))) (mC (.int 57))))
 (yB (sSet 3 (zD mulB (zD yL (zB 0) (zB 2)) (mC (.int 271828182845904523536028747135))))
 (yB (sSet 3 (zD yQ (zB 3) (zD mulB (zD mulD (zB 1) (zB 1)) (mC (.int 314159265358979323846264338327)))))
 (sRet (zD yL (zD yQ (zB 3) (mC (.int 577215664901532860606512090082))) (zB 2))))))
noncomputable def F__law_mixed : MF := mkF 2 4 g__law_mixed
noncomputable def g__law_labels : MS := (yB (sSet 1 (mC (.str [97, 98, 99, 100, 101, 102, 103, 104, 105, 106, 107, 108, 109, 110, 111, 112, 113, 114, 115, 116, 117, 118, 119, 120, 121, 122])))
 (yB (sSet 2 (mOfF (yR (mLit [[100, 101, 102], [102, 110], [100, 111], [101, 109, 112, 116, 121], [103, 101, 116], [119, 105, 116, 104], [112, 117, 116], [108, 101, 115, 115], [116, 97, 103], [119, 105, 100, 101], [99, 97, 115, 101], [110, 101, 118, 101, 114], [105, 102]]))))
 (yB (sSet 3 (zD yQ (mC (.int 1)) (zD yL (zB 0) (mC (.int 8)))))
 (yB (sSet 4 (zD yL (zD yU (zB 0) (mC (.int 8))) (zB 3)))
 (yB (sSet 5 (zD yU (zB 0) (mC (.int 64))))
 (yB (sSet 6 (mC (.str [])))
 (yB (sFor (yJ 7) (mRng1 (mC (.int 8)))
 (yB (sSet 6 (zD yQ (zB 6) (zD ixD (zB 1) (zD yL (zB 5) (mC (.int 26))))))
 (sSet 5 (zD yU (zB 5) (mC (.int 26))))))
 (yB (sOwn 8 (yR zK))
 (yB (sFor (yJ 7) (mRng1 (mC (.int 6)))
 (yB (sSet 9 (zD ixD (zB 1) (zD yL (zD yQ (zB 5) (zD mulD (mC (.int 5)) (zB 7))) (mC (.int 26)))))
 (yB (sSet 10 (zD yQ (zD yQ (mSl (zB 6) oNone (oSome (zB 4))) (zB 9)) (mSl (zB 6) (oSome (zD yQ (zB 4) (mC (.int 1)))) (oSome (zB 3)))))
 (yB (sIf (mBl (zD eqA (zD yL (zD yU (zB 5) (mC (.int 26))) (mC (.int 4))) (mC (.int 1))))
 (sSet 10 (mSl (zB 6) oNone (oSome (zD subD (mC (.int 8)) (zB 7)))))
 sSkip)
 (yB (sIf (mBl (zD (inD false) (zB 10) (zB 2)))
 (sSet 10 (zD mulS (mC (.str [113])) (mUn lenD (zB 10))))
 sSkip)
 (sX (mApp 8 (zB 10))))))))
 (sRetOwn 8))))))))))
noncomputable def F__law_labels : MF := mkF 1 11 g__law_labels
noncomputable def g__law_leaf : MS := (yB (sIf (mBl (zD eqA (zD yL (zB 0) (mC (.int 3))) (mC (.int 0))))
 (sRet (mTup (zA (mC (.str [110, 117, 109])) zK)))
 sSkip)
 (sRet (mTup (zA (mC (.str [118, 97, 114])) (zA (zD yQ (zB 1) (zD mulD (mC (.int 2)) (zD yL (zD yU (zB 0) (mC (.int 3))) (mC (.int 5))))) zK)))))
noncomputable def F__law_leaf : MF := mkF 2 2 g__law_leaf
noncomputable def g__law_fields : MS := (yB (sSet 3 (mMin3 (zA (mLenB (mOwn 0)) (zA (zD yL (zB 1) (mC (.int 4))) (zA (mUn lenD (zB 2)) zK)))))
 (yB (sOwn 4 (yR zK))
 (yB (sFor (yJ 5) (mRng1 (zB 3))
 (sX (mAppX 4 (mTupX (xaCons (zD ixD (zB 2) (zD yL (zD yQ (zD yU (zB 1) (mC (.int 4))) (zB 5)) (mUn lenD (zB 2)))) (xaLast (mPop 0)))))))
 (sRet (mTupOf (mSrtP (mOwn 4)))))))
noncomputable def F__law_fields : MF := mkF 3 6 g__law_fields
noncomputable def g__law_stepped : MS := (yB (sSet 4 (zD yL (zB 1) (mC (.int 8))))
 (yB (sSet 5 (zD yU (zB 1) (mC (.int 8))))
 (sIf (mAndT (mBl (zD eqA (zB 4) (mC (.int 3)))) (mBl (zD gtD (mLenB (mOwn 0)) (mC (.int 1)))))
 (yB (sSetX 6 (mPop 0))
 (sX (mAppX 0 (mTupX (xaCons (mC (.str [102, 117, 110])) (mMidX (mPop 0) (zA (zB 6) zK)))))))
 (sIf (mBl (zD gtD (zB 4) (mC (.int 3))))
 (yB (sSet 7 (zD ixD (mOfF (yR (zA (mC .non) (zA (mC .non) (zA (zD yQ (zD yQ (zB 3) (mC (.int 1))) (zD mulD (mC (.int 2)) (zD yL (zD yU (zB 5) (mC (.int 3))) (mC (.int 4))))) zK))))) (zD yL (zB 5) (mC (.int 3)))))
 (yB (sSetX 8 (mCallX 3 F__law_fields 0 (zP (zA (zD yU (zB 5) (mC (.int 12))) (zA (zB 2) zK)))))
 (sX (mApp 0 (mTup (zA (zD ixD (mOfF (yR (zA (mC (.str [114, 101, 99])) (zA (mC (.str [111, 110, 101])) zK)))) (zD yL (zB 4) (mC (.int 2)))) (zA (mTup (zA (mC (.str [114, 111, 119])) (zA (zB 8) (zA (zB 7) zK)))) zK)))))))
 (sX (mApp 0 (zX 2 F__law_leaf (zA (zB 5) (zA (zB 3) zK)))))))))
noncomputable def F__law_stepped : MF := mkF 4 9 g__law_stepped
noncomputable def g__law_pile : MS := (yB (sOwn 3 (yR zK))
 (yB (sFor (bdSeq 2 (bdCons (yJ 4) (bdCons (yJ 5) bdNil))) (mEnum (zB 0))
 (sX (mCallX 4 F__law_stepped 3 (zP (zA (zX 2 F__law_mixed (zA (zB 5) (zA (zD yQ (zB 4) (mC (.int 3))) zK))) (zA (zB 1) (zA (zB 2) zK)))))))
 (sRetOwn 3)))
noncomputable def F__law_pile : MF := mkF 3 6 g__law_pile
noncomputable def g__law_bringing : MS := (yB (sSet 3 (zD ixD (mOfF (yR (zA (mC .non) (zA (zD yQ (zD yQ (zB 2) (mC (.int 1))) (zD mulD (mC (.int 2)) (zD yL (zD yU (zB 0) (mC (.int 3))) (mC (.int 4))))) (zA (zD yQ (zD yQ (zB 2) (mC (.int 1001))) (zD mulD (mC (.int 2)) (zD yL (zD yU (zB 0) (mC (.int 3))) (mC (.int 4))))) zK))))) (zD yL (zB 0) (mC (.int 3)))))
 (yB (sSet 4 (zD mulD (mC (.int 2)) (zD yL (zD yU (zB 0) (mC (.int 12))) (mC (.int 5)))))
 (yB (sSet 5 (zD ixD (mOfF (yR (zA (mTup (zA (mC (.str [110, 117, 109])) zK)) (zA (mTup (zA (mC (.str [118, 97, 114])) (zA (zD yQ (zB 2) (zB 4)) zK))) (zA (mTup (zA (mC (.str [118, 97, 114])) (zA (zD yQ (zD yQ (zB 2) (mC (.int 1000))) (zB 4)) zK))) zK))))) (zD yL (zD yU (zB 0) (mC (.int 60))) (mC (.int 3)))))
 (yB (sSet 6 (mOfF (mCompIf [0, 1, 5] 4 (mRng1 (mC (.int 2))) (yJ 3) (mBl (zD eqA (zD yL (zD yU (zB 0) (zD ixD (mOfF (yR (zA (mC (.int 180)) (zA (mC (.int 360)) zK)))) (zB 3))) (mC (.int 2))) (mC (.int 1)))) (mTup (zA (zD ixD (zB 1) (zB 3)) (zA (zD ixD (mOfF (yR (zA (zB 2) (zA (mTup (zA (mC (.str [102, 117, 110])) (zA (zB 2) (zA (zB 2) zK)))) zK)))) (zB 3)) zK))))))
 (sRet (mTup (zA (mC (.str [114, 111, 119])) (zA (mTupOf (mSrtP (mAsL (zB 6)))) (zA (zB 3) zK)))))))))
noncomputable def F__law_bringing : MF := mkF 3 7 g__law_bringing
noncomputable def g__law_filling : MS := (yB (sOwnD 4 mD0)
 (yB (sFor (yJ 5) (mRng1 (mC (.int 9)))
 (yB (sSet 6 (zX 2 F__law_mixed (zA (zX 2 F__law_cell_at (zA (zB 0) (zA (zD yL (zB 5) (mC (.int 3))) zK))) (zA (zD yQ (zB 5) (zB 1)) zK))))
 (yB (sSet 7 (zX 3 F__law_bringing (zA (zD yU (zB 6) (mC (.int 6))) (zA (zB 2) (zA (zB 3) zK)))))
 (sIf (mAndT (mBl (zD gtD (zD yL (zB 6) (mC (.int 3))) (mC (.int 0)))) (mBl (zD ltA (zB 5) (mC (.int 5)))))
 (sDSet 4 (zD yQ (zB 3) (zD mulD (mC (.int 2)) (zB 5))) (zD ixD (mOfF (yR (zA (mIf (mBl (zD gtD (mUn lenD (zD ixD (zB 7) (mC (.int 1)))) (mC (.int 0)))) (zD ixD (zD ixD (zD ixD (zB 7) (mC (.int 1))) (mC (.int 0))) (mC (.int 1))) (mTup (zA (mC (.str [110, 117, 109])) zK))) (zA (mTup (zA (mC (.str [111, 110, 101])) (zA (zB 7) zK))) zK)))) (zD yL (zD yU (zB 6) (mC (.int 3))) (mC (.int 2)))))
 (sIf (mBl (zD gtD (zD yL (zB 6) (mC (.int 3))) (mC (.int 0))))
 (sDSet 4 (zD yQ (zD yQ (zB 3) (mC (.int 1))) (zD mulD (mC (.int 2)) (zD subD (zB 5) (mC (.int 5))))) (zB 7))
 sSkip)))))
 (sRetD 4)))
noncomputable def F__law_filling : MF := mkF 4 8 g__law_filling
noncomputable def g__law_of_row : MS := (sRet (zD ixD (zX 2 yG (zA (mTup (zA (mC (.str [114, 101, 99])) (zA (zB 0) zK))) (zA (zB 1) zK))) (mC (.int 1))))
noncomputable def F__law_of_row : MF := mkF 2 2 g__law_of_row
noncomputable def g_law : MS := (yB (sSet 1 (mOfF (mCallF 1 F__law_labels (zA (zX 2 F__law_mixed (zA (zX 2 F__law_cell_at (zA (zB 0) (zA (mC (.int 0)) zK))) (zA (mC (.int 0)) zK))) zK))))
 (yB (sSet 2 (zX 2 F__law_mixed (zA (zX 2 F__law_cell_at (zA (zB 0) (zA (mC (.int 1)) zK))) (zA (mC (.int 1)) zK))))
 (yB (sSet 3 (zD ixD (mOfF (yR (zA (mC (.int 0)) (zA (zD yL (zD yU (zB 2) (mC (.int 2))) (zD powD (mC (.int 10)) (mC (.int 15)))) zK)))) (zD yL (zB 2) (mC (.int 2)))))
 (yB (sOwnD 4 (mCallD 4 F__law_filling (zA (zB 0) (zA (mC (.int 70)) (zA (mSl (zB 1) (oSome (mC (.int 2))) (oSome (mC (.int 4)))) (zA (zB 3) zK))))))
 (yB (sOwnD 5 (mCallD 4 F__law_filling (zA (zB 0) (zA (mC (.int 90)) (zA (mSl (zB 1) (oSome (mC (.int 4))) oNone) (zA (zD yQ (zB 3) (mC (.int 1000))) zK))))))
 (yB (sFor (bdSeq 2 (bdCons (yJ 2) (bdCons (yJ 6) bdNil))) (mItF (mCallD 4 F__law_filling (zA (zB 0) (zA (mC (.int 110)) (zA (mSl (zB 1) (oSome (mC (.int 4))) oNone) (zA (zB 3) zK))))))
 (sIf (mAndT (mBl (zD (neN 400) (zB 6) (mTup (zA (mC (.str [110, 117, 109])) zK)))) (mHasD true (zB 2) (mDct 4)))
 (sDSet 5 (zB 2) (zB 6))
 sSkip))
 (yB (sOwnD 7 (mDct 5))
 (yB (sFz 5 (sForD 4 (bdSeq 2 (bdCons (yJ 2) (bdCons (yJ 6) bdNil)))
 (sIf (mBl (zD eqA (zD ixD (zB 6) (mC (.int 0))) (mC (.str [114, 111, 119]))))
 (sDSet 7 (zB 2) (zX 2 F__law_of_row (zA (zB 6) (zA (zB 5) zK))))
 (sDSet 7 (zB 2) (zX 2 yG (zA (zB 6) (zA (zB 5) zK)))))))
 (yB (sFz 7 (sFor (yJ 6) (mIt (mOfF (mCallF 3 F__law_pile (zA (mSl (zB 0) (oSome (mC (.int 3))) (oSome (mC (.int 63)))) (zA (mSl (zB 1) oNone (oSome (mC (.int 2)))) (zA (zB 3) zK))))))
 (yB (sIf (mBl (zD (neN 400) (zX 2 yG (zA (zX 2 yG (zA (zB 6) (zA (zB 4) zK))) (zA (zB 5) zK))) (zX 2 yG (zA (zB 6) (zA (zB 7) zK)))))
 (sRet (mC (.bl false)))
 sSkip)
 (yB (sOwnD 8 mD0)
 (yB (sFor (yJ 2) (mIt (zX 1 F_numbers (zA (zB 6) zK)))
 (sDSet 8 (zB 2) (zD ixD (mOfF (yR (zA (mTup (zA (mC (.str [118, 97, 114])) (zA (zB 2) zK))) (zA (mTup (zA (mC (.str [114, 111, 119])) (zA (mTup zK) (zA (zB 2) zK)))) zK)))) (zD yL (zD subD (zB 2) (zB 3)) (mC (.int 2))))))
 (sFz 8 (sIf (mBl (zD (neN 400) (zX 2 yG (zA (zB 6) (zA (zB 8) zK))) (zB 6)))
 (sRet (mC (.bl false)))
 sSkip)))))))
 (sRet (mC (.bl true))))))))))))
noncomputable def F_law : MF := mkF 1 9 g_law
structure De (K : Fg) (mg : Str -> Option Value) (n : Str) (i : Nat) (ps : List Str) where
  a : Addr
  d : FuncData
  F : Fun K n n (top i) a d
  m : mg n = some (.ref a)
  b : Binds K d ps []
noncomputable abbrev Ok (P : Program) (w : World) {K : Fg} {mg : Str -> Option Value} (base : Heap) {n : Str} {i : Nat} {ps : List Str} (D : De K mg n i ps) (k m : Nat) (F : MF) : Prop := FnOk P w K mg base CX0 k D.a D.d ps (spD K m F)
set_option genInjectivity false in
set_option genSizeOf false in
structure Txt (K : Fg) (mg : Str -> Option Value) where
  d_has_row : De K mg "has_row" 1 ["kind"]
  d_straight_in : De K mg "straight_in" 2 ["kind"]
  d_within : De K mg "within" 3 ["K"]
  d_own_numbers : De K mg "own_numbers" 5 ["kind"]
  d_numbers : De K mg "numbers" 4 ["K"]
  d_label_of : De K mg "label_of" 11 ["field"]
  d_joined : De K mg "joined" 10 ["fields", "row"]
  d_rebuilt_row : De K mg "rebuilt_row" 9 ["row", "inner", "filling"]
  d_rebuilt : De K mg "rebuilt" 8 ["kind", "inner", "filling"]
  d_built : De K mg "built" 7 ["found", "filling"]
  d_filled : De K mg "filled" 6 ["K", "filling"]
  d__law_cell_at : De K mg "_law_cell_at" 13 ["_law_script", "_law_k"]
  d__law_mixed : De K mg "_law_mixed" 14 ["_law_cell", "_law_k"]
  d__law_labels : De K mg "_law_labels" 15 ["_law_number"]
  d__law_leaf : De K mg "_law_leaf" 16 ["_law_number", "_law_base"]
  d__law_fields : De K mg "_law_fields" 17 ["_law_pile_here", "_law_number", "_law_labels_here"]
  d__law_stepped : De K mg "_law_stepped" 18 ["_law_pile_here", "_law_number", "_law_labels_here", "_law_base"]
  d__law_pile : De K mg "_law_pile" 19 ["_law_cells", "_law_labels_here", "_law_base"]
  d__law_bringing : De K mg "_law_bringing" 20 ["_law_number", "_law_labels_here", "_law_base"]
  d__law_filling : De K mg "_law_filling" 21 ["_law_script", "_law_place", "_law_labels_here", "_law_base"]
  d__law_of_row : De K mg "_law_of_row" 22 ["_law_row", "_law_filling_here"]
  d_law : De K mg "law" 23 ["_law_script"]
  z_dict : mg "dict" = none
  z_enumerate : mg "enumerate" = none
  z_int : mg "int" = none
  z_isinstance : mg "isinstance" = none
  z_len : mg "len" = none
  z_list : mg "list" = none
  z_min : mg "min" = none
  z_range : mg "range" = none
  z_sorted : mg "sorted" = none
  z_tuple : mg "tuple" = none
  z_zip : mg "zip" = none
section
variable {P : Program} {w : World} {K : Fg} {mg : Str -> Option Value} {base : Heap}
theorem sc_has_row : FnScope ["kind"] ["kind"] (zZ (top 1)) := ⟨rfl, rfl, rfl, by decide +kernel, rfl, by decide +kernel, by decide +kernel⟩
theorem ok_has_row (T : Txt K mg) : Ok P w base T.d_has_row 1 1 F_has_row := by
  refine fn_d T.d_has_row.F sc_has_row 1 1 rfl rfl (g := g_has_row) (fun cdv A outer s H E hr => ?_)
  unfold g_has_row
  exact (by refine zV ?_; exact (by refine ds_ret ?_; exact (de_cmp op_in_seq (od_in false) (yP (zC 0 (pv 0)) zJ) (by refine de_tup ?_; exact (by refine zE (de_str (s := [114, 101, 99]) (by rfl)) ?_ (hs := yH); refine zE (de_str (s := [111, 110, 101]) (by rfl)) ?_ (hs := yH); exact zN)) rfl)))
theorem sc_straight_in : FnScope ["kind"] ["kind"] (zZ (top 2)) := ⟨rfl, rfl, rfl, by decide +kernel, rfl, by decide +kernel, by decide +kernel⟩
theorem ok_straight_in (T : Txt K mg) : Ok P w base T.d_straight_in 2 1 yI := by
  refine fn_d T.d_straight_in.F sc_straight_in 1 1 rfl rfl (g := g_straight_in) (fun cdv A outer s H E hr => ?_)
  unfold g_straight_in
  exact (by refine zM ?_ ?_; exact (ds_if (dt_cmp (op_eqA hr.units0) od_eqA (yP (zC 0 (pv 0)) zJ) (de_str (s := [102, 117, 110]) (by rfl)) (nomark _)) (by refine zV ?_; exact (by refine ds_ret ?_; exact (by refine de_f ?_; exact (by refine df_lst ?_; exact (by refine zE (yP (zC 0 (pv 0)) zJ) ?_ (hs := stSub); refine zE (yP (zC 0 (pv 0)) zJ) ?_ (hs := stSub); exact zN))))) ds_nil); exact (by refine zM ?_ ?_; exact (ds_if (dt_tru (yN (ok_has_row T) (hr.mono (by decide)) (by rfl) T.d_has_row.m T.d_has_row.F.kp T.d_has_row.b (zE (zC 0 (pv 0)) zN (hs := zY)))) (by refine zV ?_; exact (by refine ds_ret ?_; exact (by refine de_f ?_; exact (df_comp (N' := ["field"]) (cap := []) rfl cmp_mk (di_seq (yP (yP (zC 0 (pv 0)) zJ) zJ)) (fun _ _ _ _ => (dg_name 0 (show (["field"] : List Str).Nodup by decide +kernel))) (fun _ _ _ _ => by exact (by refine yP ?_ ?_; exact (zC 0 (pv 0)); exact zJ)) 1)))) ds_nil); exact (by refine zV ?_; exact (by refine ds_ret ?_; exact (by refine de_f ?_; exact (by refine df_lst ?_; exact zN))))))
theorem sc_within : FnScope ["K", "found", "waiting", "kind"] ["K"] (zZ (top 3)) := ⟨rfl, rfl, rfl, by decide +kernel, rfl, by decide +kernel, by decide +kernel⟩
theorem ok_within (T : Txt K mg) : Ok P w base T.d_within 3 1 F_within := by
  refine fn_d T.d_within.F sc_within 1 4 rfl rfl (g := g_within) (fun cdv A outer s H E hr => ?_)
  unfold g_within
  exact (by refine zM ?_ ?_; exact (ds_own 1 (by refine df_lst ?_; exact zN) sc_within.nd); exact (by refine zM ?_ ?_; exact (ds_own 2 (by refine df_lst ?_; exact (zE (zC 0 (pv 0)) zN (hs := zY))) sc_within.nd); exact (by refine zM ?_ ?_; exact (ds_while WF PassesOwn.never (dt_truB (db_own 2 (pv 2))) (by refine zM ?_ ?_; exact (ds_setX 3 (dx_pop 2 (pv 2)) sc_within.nd); exact (by refine zM ?_ ?_; exact (ds_x (dx_append 1 (pv 1) (zC 3 (pv 3)))); exact (by refine zV ?_; exact (ds_x (dx_extend 2 (pv 2) (de_rev (yN (ok_straight_in T) (hr.mono (by decide)) (by rfl) T.d_straight_in.m T.d_straight_in.F.kp T.d_straight_in.b (zE (zC 3 (pv 3)) zN (hs := zY)))))))))); exact (by refine zV ?_; exact (ds_retOwn 1 (pv 1))))))
theorem sc_own_numbers : FnScope ["kind"] ["kind"] (zZ (top 5)) := ⟨rfl, rfl, rfl, by decide +kernel, rfl, by decide +kernel, by decide +kernel⟩
theorem ok_own_numbers (T : Txt K mg) : Ok P w base T.d_own_numbers 2 1 F_own_numbers := by
  refine fn_d T.d_own_numbers.F sc_own_numbers 1 1 rfl rfl (g := g_own_numbers) (fun cdv A outer s H E hr => ?_)
  unfold g_own_numbers
  exact (by refine zM ?_ ?_; exact (ds_if (dt_cmp (op_eqA hr.units0) od_eqA (yP (zC 0 (pv 0)) zJ) (de_str (s := [118, 97, 114]) (by rfl)) (nomark _)) (by refine zV ?_; exact (by refine ds_ret ?_; exact (by refine de_f ?_; exact (by refine df_lst ?_; exact (zE (yP (zC 0 (pv 0)) zJ) zN (hs := stSub)))))) ds_nil); exact (by refine zM ?_ ?_; exact (ds_if (dt_w (dw_and (dt_tru (yN (ok_has_row T) (hr.mono (by decide)) (by rfl) T.d_has_row.m T.d_has_row.F.kp T.d_has_row.b (zE (zC 0 (pv 0)) zN (hs := zY)))) (dw_and1 (dt_cmp op_notN od_notN (yP (yP (zC 0 (pv 0)) zJ) zJ) de_non (nomark _))))) (by refine zV ?_; exact (by refine ds_ret ?_; exact (by refine de_f ?_; exact (by refine df_lst ?_; exact (zE (yP (yP (zC 0 (pv 0)) zJ) zJ) zN (hs := stSub)))))) ds_nil); exact (by refine zV ?_; exact (by refine ds_ret ?_; exact (by refine de_f ?_; exact (by refine df_lst ?_; exact zN))))))
theorem sc_numbers : FnScope ["K", "found", "waiting", "part"] ["K"] (zZ (top 4)) := ⟨rfl, rfl, rfl, by decide +kernel, rfl, by decide +kernel, by decide +kernel⟩
theorem ok_numbers (T : Txt K mg) : Ok P w base T.d_numbers 3 1 F_numbers := by
  refine fn_d T.d_numbers.F sc_numbers 1 4 rfl rfl (g := g_numbers) (fun cdv A outer s H E hr => ?_)
  unfold g_numbers
  exact (by refine zM ?_ ?_; exact (ds_ownD 1 fd_nil sc_numbers.nd); exact (by refine zM ?_ ?_; exact (ds_own 2 (by refine df_lst ?_; exact (zE (zC 0 (pv 0)) zN (hs := zY))) sc_numbers.nd); exact (by refine zM ?_ ?_; exact (ds_while WF PassesOwn.never (dt_truB (db_own 2 (pv 2))) (by refine zM ?_ ?_; exact (ds_setX 3 (dx_pop 2 (pv 2)) sc_numbers.nd); exact (by refine zV ?_; exact (ds_if (dt_tru (de_isinst (by rfl) T.z_isinstance (zC 3 (pv 3)) (pe_bltn (by rfl) T.z_int boot_int rfl))) (by refine zV ?_; exact (by refine ds_dput 1 (un1 hr) (pv 1) ?_ ?_; exact (zC 3 (pv 3)); exact de_bl)) (by refine zV ?_; exact (ds_x (dx_extend 2 (pv 2) (de_rev (zL yS yT (yN (ok_straight_in T) (hr.mono (by decide)) (by rfl) T.d_straight_in.m T.d_straight_in.F.kp T.d_straight_in.b (zE (zC 3 (pv 3)) zN (hs := zY))) (yN (ok_own_numbers T) (hr.mono (by decide)) (by rfl) T.d_own_numbers.m T.d_own_numbers.F.kp T.d_own_numbers.b (zE (zC 3 (pv 3)) zN (hs := zY)))))))))))); exact (by refine zV ?_; exact (by refine ds_ret ?_; exact (by refine de_f ?_; exact (df_keys 1 rfl (by rfl) T.z_list (pv 1))))))))
theorem sc_label_of : FnScope ["field"] ["field"] (zZ (top 11)) := ⟨rfl, rfl, rfl, by decide +kernel, rfl, by decide +kernel, by decide +kernel⟩
theorem ok_label_of (T : Txt K mg) : Ok P w base T.d_label_of 1 1 F_label_of := by
  refine fn_d T.d_label_of.F sc_label_of 1 1 rfl rfl (g := g_label_of) (fun cdv A outer s H E hr => ?_)
  unfold g_label_of
  exact (by refine zV ?_; exact (by refine ds_ret ?_; exact (yP (zC 0 (pv 0)) zJ)))
theorem sc_joined : FnScope ["fields", "row", "together"] ["fields", "row"] (zZ (top 10)) := ⟨rfl, rfl, rfl, by decide +kernel, rfl, by decide +kernel, by decide +kernel⟩
theorem ok_joined (T : Txt K mg) : Ok P w base T.d_joined 4 2 F_joined := by
  refine fn_d T.d_joined.F sc_joined 2 3 rfl rfl (g := g_joined) (fun cdv A outer s H E hr => ?_)
  unfold g_joined
  exact (by refine zM ?_ ?_; exact (ds_set 2 (by refine de_f ?_; exact (df_sortK rfl (ok_label_of T) (Room.in1 (Room.in1 (hr.mono (by decide)))) (by rfl) T.d_label_of.m T.d_label_of.b (by rfl) T.z_sorted (by refine db_f ?_; exact (df_cat (by refine db_f ?_; exact (df_listIt (by rfl) T.z_list (zC 0 (pv 0)))) (by refine db_f ?_; exact (df_listIt (by rfl) T.z_list (yP (zC 1 (pv 1)) zJ))))))) sc_joined.nd); exact (by refine zV ?_; exact (by refine ds_ret ?_; exact (by refine de_tup ?_; exact (by refine zE (de_str (s := [114, 111, 119]) (by rfl)) ?_ (hs := yH); refine zE (de_tupleOf (by rfl) T.z_tuple (db_e (zC 2 (pv 2)))) ?_ (hs := stCall); refine zE (yP (zC 1 (pv 1)) zJ) ?_ (hs := stSub); exact zN)))))
theorem sc_rebuilt_row : FnScope ["row", "inner", "filling", "fields"] ["row", "inner", "filling"] (zZ (top 9)) := ⟨rfl, rfl, rfl, by decide +kernel, rfl, by decide +kernel, by decide +kernel⟩
theorem ok_rebuilt_row (T : Txt K mg) : Ok P w base T.d_rebuilt_row 5 3 F_rebuilt_row := by
  refine fn_d T.d_rebuilt_row.F sc_rebuilt_row 3 4 rfl rfl (g := g_rebuilt_row) (fun cdv A outer s H E hr => ?_)
  unfold g_rebuilt_row
  exact (by refine zM ?_ ?_; exact (ds_comp 3 (N' := ["field", "kind"]) (cap := []) rfl cmp_mk (di_zipA (by rfl) T.z_zip (yP (zC 0 (pv 0)) zJ) (zC 1 (pv 1))) (fun _ _ _ _ => (dg_seq rfl (dgs_cons (dg_name 0 (show (["field", "kind"] : List Str).Nodup by decide +kernel)) (dgs_cons (dg_name 1 (show (["field", "kind"] : List Str).Nodup by decide +kernel)) dgs_nil)))) (fun _ _ _ _ => by exact (by refine de_tup ?_; exact (by refine zE ?_ ?_; exact (by refine yP ?_ ?_; exact (zC 0 (pv 0)); exact zJ); refine zE ?_ ?_; exact (zC 1 (pv 1)); exact zN))) 2 sc_rebuilt_row.nd); exact (by refine zV ?_; exact (by refine ds_ret ?_; exact (yN (ok_joined T) (hr.mono (by decide)) (by rfl) T.d_joined.m T.d_joined.F.kp T.d_joined.b (by refine zE (zC 3 (pv 3)) ?_ (hs := zY); refine zE (by refine de_getO ?_ ?_ ?_; exact (dc_e (zC 2 (pv 2))); exact (yP (zC 0 (pv 0)) zJ); exact (by refine de_tup ?_; exact (by refine zE (de_str (s := [114, 111, 119]) (by rfl)) ?_ (hs := yH); refine zE (by refine de_tup ?_; exact zN) ?_ (hs := stTuple); refine zE (yP (zC 0 (pv 0)) zJ) ?_ (hs := stSub); exact zN))) ?_ (hs := stCall); exact zN)))))
theorem sc_rebuilt : FnScope ["kind", "inner", "filling"] ["kind", "inner", "filling"] (zZ (top 8)) := ⟨rfl, rfl, rfl, by decide +kernel, rfl, by decide +kernel, by decide +kernel⟩
theorem ok_rebuilt (T : Txt K mg) : Ok P w base T.d_rebuilt 6 3 F_rebuilt := by
  refine fn_d T.d_rebuilt.F sc_rebuilt 3 3 rfl rfl (g := g_rebuilt) (fun cdv A outer s H E hr => ?_)
  unfold g_rebuilt
  exact (by refine zM ?_ ?_; exact (ds_if (dt_cmp (op_eqA hr.units0) od_eqA (yP (zC 0 (pv 0)) zJ) (de_str (s := [118, 97, 114]) (by rfl)) (nomark _)) (by refine zV ?_; exact (by refine ds_ret ?_; exact (by refine de_getO ?_ ?_ ?_; exact (dc_e (zC 2 (pv 2))); exact (yP (zC 0 (pv 0)) zJ); exact (zC 0 (pv 0))))) ds_nil); exact (by refine zM ?_ ?_; exact (ds_if (dt_cmp (op_eqA hr.units0) od_eqA (yP (zC 0 (pv 0)) zJ) (de_str (s := [102, 117, 110]) (by rfl)) (nomark _)) (by refine zV ?_; exact (by refine ds_ret ?_; exact (by refine de_tup ?_; exact (by refine zE (de_str (s := [102, 117, 110]) (by rfl)) ?_ (hs := yH); refine zE (yP (zC 1 (pv 1)) zJ) ?_ (hs := stSub); refine zE (yP (zC 1 (pv 1)) zJ) ?_ (hs := stSub); exact zN)))) ds_nil); exact (by refine zM ?_ ?_; exact (ds_if (dt_tru (yN (ok_has_row T) (hr.mono (by decide)) (by rfl) T.d_has_row.m T.d_has_row.F.kp T.d_has_row.b (zE (zC 0 (pv 0)) zN (hs := zY)))) (by refine zV ?_; exact (by refine ds_ret ?_; exact (by refine de_tup ?_; exact (by refine zE (yP (zC 0 (pv 0)) zJ) ?_ (hs := stSub); refine zE (yN (ok_rebuilt_row T) (hr.mono (by decide)) (by rfl) T.d_rebuilt_row.m T.d_rebuilt_row.F.kp T.d_rebuilt_row.b (by refine zE (yP (zC 0 (pv 0)) zJ) ?_ (hs := stSub); refine zE (zC 1 (pv 1)) ?_ (hs := zY); refine zE (zC 2 (pv 2)) ?_ (hs := zY); exact zN)) ?_ (hs := stCall); exact zN)))) ds_nil); exact (by refine zV ?_; exact (by refine ds_ret ?_; exact (zC 0 (pv 0)))))))
theorem sc_built : FnScope ["found", "filling", "made", "kind", "inner"] ["found", "filling"] (zZ (top 7)) := ⟨rfl, rfl, rfl, by decide +kernel, rfl, by decide +kernel, by decide +kernel⟩
theorem ok_built (T : Txt K mg) : Ok P w base T.d_built 7 2 F_built := by
  refine fn_d T.d_built.F sc_built 2 5 rfl rfl (g := g_built) (fun cdv A outer s H E hr => ?_)
  unfold g_built
  exact (by refine zM ?_ ?_; exact (ds_own 2 (by refine df_lst ?_; exact zN) sc_built.nd); exact (by refine zM ?_ ?_; exact (ds_for PassesOwn.never rfl (di_seq (de_rev (zC 0 (pv 0)))) (dg_name 3 sc_built.nd) (by refine zM ?_ ?_; exact (by refine ds_compX 4 (N' := ["made", "part"]) (i := 2) rfl cmp_mk ?_ ?_ ?_ pop_own 2 (id sc_built.nd); exact (di_seq (yN (ok_straight_in T) (hr.mono (by decide)) (by rfl) T.d_straight_in.m T.d_straight_in.F.kp T.d_straight_in.b (zE (zC 3 (pv 3)) zN (hs := zY)))); exact (fun _ _ _ _ => (dg_name 1 (show (["made", "part"] : List Str).Nodup by decide +kernel))); exact (fun _ _ _ _ => by exact (dx_pop 0 (pv 0)))); exact (by refine zV ?_; exact (ds_x (dx_append 2 (pv 2) (yN (ok_rebuilt T) (hr.mono (by decide)) (by rfl) T.d_rebuilt.m T.d_rebuilt.F.kp T.d_rebuilt.b (by refine zE (zC 3 (pv 3)) ?_ (hs := zY); refine zE (zC 4 (pv 4)) ?_ (hs := zY); refine zE (zC 1 (pv 1)) ?_ (hs := zY); exact zN))))))); exact (by refine zV ?_; exact (by refine ds_ret ?_; exact (de_ixB (db_own 2 (pv 2)) zJ)))))
theorem sc_filled : FnScope ["K", "filling"] ["K", "filling"] (zZ (top 6)) := ⟨rfl, rfl, rfl, by decide +kernel, rfl, by decide +kernel, by decide +kernel⟩
theorem ok_filled (T : Txt K mg) : Ok P w base T.d_filled 8 2 yG := by
  refine fn_d T.d_filled.F sc_filled 2 2 rfl rfl (g := g_filled) (fun cdv A outer s H E hr => ?_)
  unfold g_filled
  exact (by refine zV ?_; exact (by refine ds_ret ?_; exact (yN (ok_built T) (hr.mono (by decide)) (by rfl) T.d_built.m T.d_built.F.kp T.d_built.b (by refine zE (by refine de_f ?_; exact (df_call (ok_within T) (hr.mono (by decide)) (by rfl) T.d_within.m T.d_within.F.kp T.d_within.b (zE (zC 0 (pv 0)) zN (hs := zY)))) ?_ (hs := stCall); refine zE (zC 1 (pv 1)) ?_ (hs := zY); exact zN))))
theorem sc__law_cell_at : FnScope ["_law_script", "_law_k"] ["_law_script", "_law_k"] (zZ (top 13)) := ⟨rfl, rfl, rfl, by decide +kernel, rfl, by decide +kernel, by decide +kernel⟩
theorem ok__law_cell_at (T : Txt K mg) : Ok P w base T.d__law_cell_at 1 2 F__law_cell_at := by
  refine fn_d T.d__law_cell_at.F sc__law_cell_at 2 2 rfl rfl (g := g__law_cell_at) (fun cdv A outer s H E hr => ?_)
  unfold g__law_cell_at
  exact (by refine zM ?_ ?_; exact (ds_if (dt_cmp op_ltA od_ltA (zC 1 (pv 1)) (de_len (by rfl) T.z_len (zC 0 (pv 0))) (nomark _)) (by refine zV ?_; exact (by refine ds_ret ?_; exact (yP (zC 0 (pv 0)) (zC 1 (pv 1))))) ds_nil); exact (by refine zV ?_; exact (by refine ds_ret ?_; exact zJ)))
theorem sc__law_mixed : FnScope ["_law_cell", "_law_k", "_law_big", "_law_number"] ["_law_cell", "_law_k"] (zZ (top 14)) := ⟨rfl, rfl, rfl, by decide +kernel, rfl, by decide +kernel, by decide +kernel⟩
theorem ok__law_mixed (T : Txt K mg) : Ok P w base T.d__law_mixed 1 2 F__law_mixed := by
  refine fn_d T.d__law_mixed.F sc__law_mixed 2 4 rfl rfl (g := g__law_mixed) (fun cdv A outer s H E hr => ?_)
  unfold g__law_mixed
  exact (by refine zM ?_ ?_; exact (ds_set 2 (zL yS yT (zL op_pow od_pow zJ zJ) zJ) sc__law_mixed.nd); exact (by refine zM ?_ ?_; exact (ds_set 3 (zL op_mulB od_mulB (zL op_mod od_mod (zC 0 (pv 0)) (zC 2 (pv 2))) zJ) sc__law_mixed.nd); exact (by refine zM ?_ ?_; exact (ds_set 3 (zL yS yT (zC 3 (pv 3)) (zL op_mulB od_mulB (zL op_mul od_mul (zC 1 (pv 1)) (zC 1 (pv 1))) zJ)) sc__law_mixed.nd); exact (by refine zV ?_; exact (by refine ds_ret ?_; exact (zL op_mod od_mod (zL yS yT (zC 3 (pv 3)) zJ) (zC 2 (pv 2))))))))
theorem yA : FnScope ["_law_number", "_law_letters", "_law_kept", "_law_long", "_law_place", "_law_rest", "_law_base", "_law_k", "_law_found", "_law_sign", "_law_word"] ["_law_number"] (zZ (top 15)) := ⟨rfl, rfl, rfl, by decide +kernel, rfl, by decide +kernel, by decide +kernel⟩
theorem ok__law_labels (T : Txt K mg) : Ok P w base T.d__law_labels 1 1 F__law_labels := by
  refine fn_d T.d__law_labels.F yA 1 11 rfl rfl (g := g__law_labels) (fun cdv A outer s H E hr => ?_)
  unfold g__law_labels
  exact (by refine zM ?_ ?_; exact (ds_set 1 (de_str (s := [97, 98, 99, 100, 101, 102, 103, 104, 105, 106, 107, 108, 109, 110, 111, 112, 113, 114, 115, 116, 117, 118, 119, 120, 121, 122]) (by rfl)) yA.nd); exact (by refine zM ?_ ?_; exact (by refine ds_set 2 ?_ ?_ ?_ ?_ ?_ ?_; exact (by refine de_f ?_; exact (by refine df_lst ?_; exact (by refine da_strs (ss := [[100, 101, 102], [102, 110], [100, 111], [101, 109, 112, 116, 121], [103, 101, 116], [119, 105, 116, 104], [112, 117, 116], [108, 101, 115, 115], [116, 97, 103], [119, 105, 100, 101], [99, 97, 115, 101], [110, 101, 118, 101, 114], [105, 102]]) ?_; rfl))); exact (id yA.nd); rfl; (first | exact Or.inl rfl | exact Or.inr rfl); rfl; (first | exact Or.inl rfl | exact Or.inr rfl)); exact (by refine zM ?_ ?_; exact (ds_set 3 (zL yS yT zJ (zL op_mod od_mod (zC 0 (pv 0)) zJ)) yA.nd); exact (by refine zM ?_ ?_; exact (ds_set 4 (zL op_mod od_mod (zL op_fdiv od_fdiv (zC 0 (pv 0)) zJ) (zC 3 (pv 3))) yA.nd); exact (by refine zM ?_ ?_; exact (ds_set 5 (zL op_fdiv od_fdiv (zC 0 (pv 0)) zJ) yA.nd); exact (by refine zM ?_ ?_; exact (ds_set 6 (de_str (s := []) (by rfl)) yA.nd); exact (by refine zM ?_ ?_; exact (ds_for PassesOwn.never rfl (di_rng1 (by rfl) T.z_range zJ) (dg_name 7 yA.nd) (by refine zM ?_ ?_; exact (ds_set 6 (zL yS yT (zC 6 (pv 6)) (yP (zC 1 (pv 1)) (zL op_mod od_mod (zC 5 (pv 5)) zJ))) yA.nd); exact (by refine zV ?_; exact (ds_set 5 (zL op_fdiv od_fdiv (zC 5 (pv 5)) zJ) yA.nd)))); exact (by refine zM ?_ ?_; exact (ds_own 8 (by refine df_lst ?_; exact zN) yA.nd); exact (by refine zM ?_ ?_; exact (ds_for PassesOwn.never rfl (di_rng1 (by rfl) T.z_range zJ) (dg_name 7 yA.nd) (by refine zM ?_ ?_; exact (ds_set 9 (yP (zC 1 (pv 1)) (zL op_mod od_mod (zL yS yT (zC 5 (pv 5)) (zL op_mul od_mul zJ (zC 7 (pv 7)))) zJ)) yA.nd); exact (by refine zM ?_ ?_; exact (ds_set 10 (zL yS yT (zL yS yT (de_sl (zC 6 (pv 6)) do_none (do_some (zC 4 (pv 4)))) (zC 9 (pv 9))) (de_sl (zC 6 (pv 6)) (do_some (zL yS yT (zC 4 (pv 4)) zJ)) (do_some (zC 3 (pv 3))))) yA.nd); exact (by refine zM ?_ ?_; exact (ds_if (dt_cmp (op_eqA hr.units0) od_eqA (zL op_mod od_mod (zL op_fdiv od_fdiv (zC 5 (pv 5)) zJ) zJ) zJ (nomark _)) (by refine zV ?_; exact (ds_set 10 (de_sl (zC 6 (pv 6)) do_none (do_some (zL op_sub od_sub zJ (zC 7 (pv 7))))) yA.nd)) ds_nil); exact (by refine zM ?_ ?_; exact (ds_if (dt_cmp op_in_seq (od_in false) (zC 10 (pv 10)) (zC 2 (pv 2)) rfl) (by refine zV ?_; exact (ds_set 10 (zL op_mulS od_mulS (de_str (s := [113]) (by rfl)) (de_len (by rfl) T.z_len (zC 10 (pv 10)))) yA.nd)) ds_nil); exact (by refine zV ?_; exact (ds_x (dx_append 8 (pv 8) (zC 10 (pv 10)))))))))); exact (by refine zV ?_; exact (ds_retOwn 8 (pv 8))))))))))))
theorem sc__law_leaf : FnScope ["_law_number", "_law_base"] ["_law_number", "_law_base"] (zZ (top 16)) := ⟨rfl, rfl, rfl, by decide +kernel, rfl, by decide +kernel, by decide +kernel⟩
theorem ok__law_leaf (T : Txt K mg) : Ok P w base T.d__law_leaf 1 2 F__law_leaf := by
  refine fn_d T.d__law_leaf.F sc__law_leaf 2 2 rfl rfl (g := g__law_leaf) (fun cdv A outer s H E hr => ?_)
  unfold g__law_leaf
  exact (by refine zM ?_ ?_; exact (ds_if (dt_cmp (op_eqA hr.units0) od_eqA (zL op_mod od_mod (zC 0 (pv 0)) zJ) zJ (nomark _)) (by refine zV ?_; exact (by refine ds_ret ?_; exact (by refine de_tup ?_; exact (zE (de_str (s := [110, 117, 109]) (by rfl)) zN (hs := yH))))) ds_nil); exact (by refine zV ?_; exact (by refine ds_ret ?_; exact (by refine de_tup ?_; exact (by refine zE (de_str (s := [118, 97, 114]) (by rfl)) ?_ (hs := yH); refine zE (zL yS yT (zC 1 (pv 1)) (zL op_mul od_mul zJ (zL op_mod od_mod (zL op_fdiv od_fdiv (zC 0 (pv 0)) zJ) zJ))) ?_ (hs := stBin); exact zN)))))
theorem sc__law_fields : FnScope ["_law_pile_here", "_law_number", "_law_labels_here", "_law_many", "_law_fields_here", "_law_k"] ["_law_pile_here", "_law_number", "_law_labels_here"] (zZ (top 17)) := ⟨rfl, rfl, rfl, by decide +kernel, rfl, by decide +kernel, by decide +kernel⟩
theorem ok__law_fields (T : Txt K mg) : Ok P w base T.d__law_fields 1 3 F__law_fields := by
  refine fn_d T.d__law_fields.F sc__law_fields 3 6 rfl rfl (g := g__law_fields) (fun cdv A outer s H E hr => ?_)
  unfold g__law_fields
  exact (by refine zM ?_ ?_; exact (ds_set 3 (de_min3 (by rfl) (by rfl) T.z_min (by refine zE (de_lenB (by rfl) T.z_len (db_own 0 (pv 0))) ?_ (hs := stCall); refine zE (zL op_mod od_mod (zC 1 (pv 1)) zJ) ?_ (hs := stBin); refine zE (de_len (by rfl) T.z_len (zC 2 (pv 2))) ?_ (hs := stCall); exact zN)) sc__law_fields.nd); exact (by refine zM ?_ ?_; exact (ds_own 4 (by refine df_lst ?_; exact zN) sc__law_fields.nd); exact (by refine zM ?_ ?_; exact (ds_for PassesOwn.never rfl (di_rng1 (by rfl) T.z_range (zC 3 (pv 3))) (dg_name 5 sc__law_fields.nd) (by refine zV ?_; exact (ds_x (dx_appendX 4 (pv 4) (dx_tup (dxa_cons (yP (zC 2 (pv 2)) (zL op_mod od_mod (zL yS yT (zL op_fdiv od_fdiv (zC 1 (pv 1)) zJ) (zC 5 (pv 5))) (de_len (by rfl) T.z_len (zC 2 (pv 2))))) (dxa_last (dx_pop 0 (pv 0))))))))); exact (by refine zV ?_; exact (by refine ds_ret ?_; exact (de_tupleOf (by rfl) T.z_tuple (by refine db_f ?_; exact (df_srtP (by rfl) T.z_sorted (db_own 4 (pv 4))))))))))
theorem sc__law_stepped : FnScope ["_law_pile_here", "_law_number", "_law_labels_here", "_law_base", "_law_way", "_law_rest", "_law_last", "_law_tail", "_law_fields_here"] ["_law_pile_here", "_law_number", "_law_labels_here", "_law_base"] (zZ (top 18)) := ⟨rfl, rfl, rfl, by decide +kernel, rfl, by decide +kernel, by decide +kernel⟩
theorem ok__law_stepped (T : Txt K mg) : Ok P w base T.d__law_stepped 2 4 F__law_stepped := by
  refine fn_d T.d__law_stepped.F sc__law_stepped 4 9 rfl rfl (g := g__law_stepped) (fun cdv A outer s H E hr => ?_)
  unfold g__law_stepped
  exact (by refine zM ?_ ?_; exact (ds_set 4 (zL op_mod od_mod (zC 1 (pv 1)) zJ) sc__law_stepped.nd); exact (by refine zM ?_ ?_; exact (ds_set 5 (zL op_fdiv od_fdiv (zC 1 (pv 1)) zJ) sc__law_stepped.nd); exact (by refine zV ?_; exact (ds_if (dt_w (dw_and (dt_cmp (op_eqA hr.units0) od_eqA (zC 4 (pv 4)) zJ (nomark _)) (dw_and1 (dt_cmp op_gt od_gt (de_lenB (by rfl) T.z_len (db_own 0 (pv 0))) zJ (nomark _))))) (by refine zM ?_ ?_; exact (ds_setX 6 (dx_pop 0 (pv 0)) sc__law_stepped.nd); exact (by refine zV ?_; exact (ds_x (dx_appendX 0 (pv 0) (dx_tup (dxa_cons (de_str (s := [102, 117, 110]) (by rfl)) (dxa_mid (dx_pop 0 (pv 0)) (zE (zC 6 (pv 6)) zN (hs := zY))))))))) (by refine zV ?_; exact (ds_if (dt_cmp op_gt od_gt (zC 4 (pv 4)) zJ (nomark _)) (by refine zM ?_ ?_; exact (by refine ds_set 7 ?_ ?_ ?_ ?_ ?_ ?_; exact (by refine yP ?_ ?_; exact (by refine de_f ?_; exact (by refine df_lst ?_; exact (by refine zE de_non ?_ (hs := yH); refine zE de_non ?_ (hs := yH); refine zE (zL yS yT (zL yS yT (zC 3 (pv 3)) zJ) (zL op_mul od_mul zJ (zL op_mod od_mod (zL op_fdiv od_fdiv (zC 5 (pv 5)) zJ) zJ))) ?_ (hs := stBin); exact zN))); exact (zL op_mod od_mod (zC 5 (pv 5)) zJ)); exact (id sc__law_stepped.nd); rfl; (first | exact Or.inl rfl | exact Or.inr rfl); rfl; (first | exact Or.inl rfl | exact Or.inr rfl)); exact (by refine zM ?_ ?_; exact (ds_setX 8 (dx_call (ok__law_fields T) (hr.mono (by decide)) (by rfl) T.d__law_fields.m T.d__law_fields.F.kp T.d__law_fields.b (dz_p (pv 0) (by refine zE (zL op_fdiv od_fdiv (zC 5 (pv 5)) zJ) ?_ (hs := stBin); refine zE (zC 2 (pv 2)) ?_ (hs := zY); exact zN))) sc__law_stepped.nd); exact (by refine zV ?_; exact (ds_x (dx_append 0 (pv 0) (by refine de_tup ?_; exact (by refine zE ?_ ?_; exact (by refine yP ?_ ?_; exact (by refine de_f ?_; exact (by refine df_lst ?_; exact (by refine zE (de_str (s := [114, 101, 99]) (by rfl)) ?_ (hs := yH); refine zE (de_str (s := [111, 110, 101]) (by rfl)) ?_ (hs := yH); exact zN))); exact (zL op_mod od_mod (zC 4 (pv 4)) zJ)); refine zE ?_ ?_; exact (by refine de_tup ?_; exact (by refine zE (de_str (s := [114, 111, 119]) (by rfl)) ?_ (hs := yH); refine zE (zC 8 (pv 8)) ?_ (hs := zY); refine zE (zC 7 (pv 7)) ?_ (hs := zY); exact zN)); exact zN))))))) (by refine zV ?_; exact (ds_x (dx_append 0 (pv 0) (yN (ok__law_leaf T) (hr.mono (by decide)) (by rfl) T.d__law_leaf.m T.d__law_leaf.F.kp T.d__law_leaf.b (by refine zE (zC 5 (pv 5)) ?_ (hs := zY); refine zE (zC 3 (pv 3)) ?_ (hs := zY); exact zN)))))))))))
theorem sc__law_pile : FnScope ["_law_cells", "_law_labels_here", "_law_base", "_law_pile_here", "_law_k", "_law_cell"] ["_law_cells", "_law_labels_here", "_law_base"] (zZ (top 19)) := ⟨rfl, rfl, rfl, by decide +kernel, rfl, by decide +kernel, by decide +kernel⟩
theorem ok__law_pile (T : Txt K mg) : Ok P w base T.d__law_pile 3 3 F__law_pile := by
  refine fn_d T.d__law_pile.F sc__law_pile 3 6 rfl rfl (g := g__law_pile) (fun cdv A outer s H E hr => ?_)
  unfold g__law_pile
  exact (by refine zM ?_ ?_; exact (ds_own 3 (by refine df_lst ?_; exact zN) sc__law_pile.nd); exact (by refine zM ?_ ?_; exact (ds_for PassesOwn.never rfl (di_enum (by rfl) T.z_enumerate (zC 0 (pv 0))) (dg_seq rfl (dgs_cons (dg_name 4 sc__law_pile.nd) (dgs_cons (dg_name 5 sc__law_pile.nd) dgs_nil))) (by refine zV ?_; exact (ds_x (dx_call (ok__law_stepped T) (hr.mono (by decide)) (by rfl) T.d__law_stepped.m T.d__law_stepped.F.kp T.d__law_stepped.b (dz_p (pv 3) (by refine zE (yN (ok__law_mixed T) (hr.mono (by decide)) (by rfl) T.d__law_mixed.m T.d__law_mixed.F.kp T.d__law_mixed.b (by refine zE (zC 5 (pv 5)) ?_ (hs := zY); refine zE (zL yS yT (zC 4 (pv 4)) zJ) ?_ (hs := stBin); exact zN)) ?_ (hs := stCall); refine zE (zC 1 (pv 1)) ?_ (hs := zY); refine zE (zC 2 (pv 2)) ?_ (hs := zY); exact zN)))))); exact (by refine zV ?_; exact (ds_retOwn 3 (pv 3)))))
theorem sc__law_bringing : FnScope ["_law_number", "_law_labels_here", "_law_base", "_law_tail", "_law_place", "_law_held", "_law_fields_here"] ["_law_number", "_law_labels_here", "_law_base"] (zZ (top 20)) := ⟨rfl, rfl, rfl, by decide +kernel, rfl, by decide +kernel, by decide +kernel⟩
theorem ok__law_bringing (T : Txt K mg) : Ok P w base T.d__law_bringing 1 3 F__law_bringing := by
  refine fn_d T.d__law_bringing.F sc__law_bringing 3 7 rfl rfl (g := g__law_bringing) (fun cdv A outer s H E hr => ?_)
  unfold g__law_bringing
  exact (by refine zM ?_ ?_; exact (by refine ds_set 3 ?_ ?_ ?_ ?_ ?_ ?_; exact (by refine yP ?_ ?_; exact (by refine de_f ?_; exact (by refine df_lst ?_; exact (by refine zE de_non ?_ (hs := yH); refine zE (zL yS yT (zL yS yT (zC 2 (pv 2)) zJ) (zL op_mul od_mul zJ (zL op_mod od_mod (zL op_fdiv od_fdiv (zC 0 (pv 0)) zJ) zJ))) ?_ (hs := stBin); refine zE (zL yS yT (zL yS yT (zC 2 (pv 2)) zJ) (zL op_mul od_mul zJ (zL op_mod od_mod (zL op_fdiv od_fdiv (zC 0 (pv 0)) zJ) zJ))) ?_ (hs := stBin); exact zN))); exact (zL op_mod od_mod (zC 0 (pv 0)) zJ)); exact (id sc__law_bringing.nd); rfl; (first | exact Or.inl rfl | exact Or.inr rfl); rfl; (first | exact Or.inl rfl | exact Or.inr rfl)); exact (by refine zM ?_ ?_; exact (ds_set 4 (zL op_mul od_mul zJ (zL op_mod od_mod (zL op_fdiv od_fdiv (zC 0 (pv 0)) zJ) zJ)) sc__law_bringing.nd); exact (by refine zM ?_ ?_; exact (by refine ds_set 5 ?_ ?_ ?_ ?_ ?_ ?_; exact (by refine yP ?_ ?_; exact (by refine de_f ?_; exact (by refine df_lst ?_; exact (by refine zE (by refine de_tup ?_; exact (zE (de_str (s := [110, 117, 109]) (by rfl)) zN (hs := yH))) ?_ (hs := stTuple); refine zE (by refine de_tup ?_; exact (by refine zE (de_str (s := [118, 97, 114]) (by rfl)) ?_ (hs := yH); refine zE (zL yS yT (zC 2 (pv 2)) (zC 4 (pv 4))) ?_ (hs := stBin); exact zN)) ?_ (hs := stTuple); refine zE (by refine de_tup ?_; exact (by refine zE (de_str (s := [118, 97, 114]) (by rfl)) ?_ (hs := yH); refine zE (zL yS yT (zL yS yT (zC 2 (pv 2)) zJ) (zC 4 (pv 4))) ?_ (hs := stBin); exact zN)) ?_ (hs := stTuple); exact zN))); exact (zL op_mod od_mod (zL op_fdiv od_fdiv (zC 0 (pv 0)) zJ) zJ)); exact (id sc__law_bringing.nd); rfl; (first | exact Or.inl rfl | exact Or.inr rfl); rfl; (first | exact Or.inl rfl | exact Or.inr rfl)); exact (by refine zM ?_ ?_; exact (ds_compIf 6 (N' := ["_law_number", "_law_labels_here", "_law_held", "_law_k"]) (cap := [0, 1, 5]) rfl cmp_mk (di_rng1 (by rfl) T.z_range zJ) (fun _ _ _ _ => (dg_name 3 (show (["_law_number", "_law_labels_here", "_law_held", "_law_k"] : List Str).Nodup by decide +kernel))) (fun _ _ _ _ => by exact (dt_cmp (op_eqA (by exact hr.units0)) od_eqA (zL op_mod od_mod (zL op_fdiv od_fdiv (zC 0 (pv 0)) (by refine yP ?_ ?_; exact (by refine de_f ?_; exact (by refine df_lst ?_; exact (by refine zE ?_ ?_; exact zJ; refine zE ?_ ?_; exact zJ; exact zN))); exact (zC 3 (pv 3)))) zJ) zJ (nomark _))) (fun _ _ _ _ => by exact (by refine de_tup ?_; exact (by refine zE ?_ ?_; exact (by refine yP ?_ ?_; exact (zC 1 (pv 1)); exact (zC 3 (pv 3))); refine zE ?_ ?_; exact (by refine yP ?_ ?_; exact (by refine de_f ?_; exact (by refine df_lst ?_; exact (by refine zE ?_ ?_; exact (zC 2 (pv 2)); refine zE ?_ ?_; exact (by refine de_tup ?_; exact (by refine zE ?_ ?_; exact (de_str (s := [102, 117, 110]) (by rfl)); refine zE ?_ ?_; exact (zC 2 (pv 2)); refine zE ?_ ?_; exact (zC 2 (pv 2)); exact zN)); exact zN))); exact (zC 3 (pv 3))); exact zN))) 4 sc__law_bringing.nd); exact (by refine zV ?_; exact (by refine ds_ret ?_; exact (by refine de_tup ?_; exact (by refine zE (de_str (s := [114, 111, 119]) (by rfl)) ?_ (hs := yH); refine zE (de_tupleOf (by rfl) T.z_tuple (by refine db_f ?_; exact (df_srtP (by rfl) T.z_sorted (db_e (zC 6 (pv 6)))))) ?_ (hs := stCall); refine zE (zC 3 (pv 3)) ?_ (hs := zY); exact zN))))))))
theorem sc__law_filling : FnScope ["_law_script", "_law_place", "_law_labels_here", "_law_base", "_law_filling_here", "_law_k", "_law_number", "_law_row"] ["_law_script", "_law_place", "_law_labels_here", "_law_base"] (zZ (top 21)) := ⟨rfl, rfl, rfl, by decide +kernel, rfl, by decide +kernel, by decide +kernel⟩
theorem ok__law_filling (T : Txt K mg) : Ok P w base T.d__law_filling 2 4 F__law_filling := by
  refine fn_d T.d__law_filling.F sc__law_filling 4 8 rfl rfl (g := g__law_filling) (fun cdv A outer s H E hr => ?_)
  unfold g__law_filling
  exact (by refine zM ?_ ?_; exact (ds_ownD 4 fd_nil sc__law_filling.nd); exact (by refine zM ?_ ?_; exact (ds_for PassesOwn.never rfl (di_rng1 (by rfl) T.z_range zJ) (dg_name 5 sc__law_filling.nd) (by refine zM ?_ ?_; exact (ds_set 6 (yN (ok__law_mixed T) (hr.mono (by decide)) (by rfl) T.d__law_mixed.m T.d__law_mixed.F.kp T.d__law_mixed.b (by refine zE (yN (ok__law_cell_at T) (hr.mono (by decide)) (by rfl) T.d__law_cell_at.m T.d__law_cell_at.F.kp T.d__law_cell_at.b (by refine zE (zC 0 (pv 0)) ?_ (hs := zY); refine zE (zL op_mod od_mod (zC 5 (pv 5)) zJ) ?_ (hs := stBin); exact zN)) ?_ (hs := stCall); refine zE (zL yS yT (zC 5 (pv 5)) (zC 1 (pv 1))) ?_ (hs := stBin); exact zN)) sc__law_filling.nd); exact (by refine zM ?_ ?_; exact (ds_set 7 (yN (ok__law_bringing T) (hr.mono (by decide)) (by rfl) T.d__law_bringing.m T.d__law_bringing.F.kp T.d__law_bringing.b (by refine zE (zL op_fdiv od_fdiv (zC 6 (pv 6)) zJ) ?_ (hs := stBin); refine zE (zC 2 (pv 2)) ?_ (hs := zY); refine zE (zC 3 (pv 3)) ?_ (hs := zY); exact zN)) sc__law_filling.nd); exact (by refine zV ?_; exact (ds_if (dt_w (dw_and (dt_cmp op_gt od_gt (zL op_mod od_mod (zC 6 (pv 6)) zJ) zJ (nomark _)) (dw_and1 (dt_cmp op_ltA od_ltA (zC 5 (pv 5)) zJ (nomark _))))) (by refine zV ?_; exact (by refine ds_dput 4 (un1 hr) (pv 4) ?_ ?_; exact (zL yS yT (zC 3 (pv 3)) (zL op_mul od_mul zJ (zC 5 (pv 5)))); exact (by refine yP ?_ ?_; exact (by refine de_f ?_; exact (by refine df_lst ?_; exact (by refine zE (de_if (dt_cmp op_gt od_gt (de_len (by rfl) T.z_len (yP (zC 7 (pv 7)) zJ)) zJ (nomark _)) (yP (yP (yP (zC 7 (pv 7)) zJ) zJ) zJ) (by refine de_tup ?_; exact (zE (de_str (s := [110, 117, 109]) (by rfl)) zN (hs := yH)))) ?_; refine zE (by refine de_tup ?_; exact (by refine zE (de_str (s := [111, 110, 101]) (by rfl)) ?_ (hs := yH); refine zE (zC 7 (pv 7)) ?_ (hs := zY); exact zN)) ?_ (hs := stTuple); exact zN))); exact (zL op_mod od_mod (zL op_fdiv od_fdiv (zC 6 (pv 6)) zJ) zJ)))) (by refine zV ?_; exact (ds_if (dt_cmp op_gt od_gt (zL op_mod od_mod (zC 6 (pv 6)) zJ) zJ (nomark _)) (by refine zV ?_; exact (by refine ds_dput 4 (un1 hr) (pv 4) ?_ ?_; exact (zL yS yT (zL yS yT (zC 3 (pv 3)) zJ) (zL op_mul od_mul zJ (zL op_sub od_sub (zC 5 (pv 5)) zJ))); exact (zC 7 (pv 7)))) ds_nil))))))); exact (by refine zV ?_; exact (ds_retD 4 (pv 4)))))
theorem sc__law_of_row : FnScope ["_law_row", "_law_filling_here"] ["_law_row", "_law_filling_here"] (zZ (top 22)) := ⟨rfl, rfl, rfl, by decide +kernel, rfl, by decide +kernel, by decide +kernel⟩
theorem ok__law_of_row (T : Txt K mg) : Ok P w base T.d__law_of_row 9 2 F__law_of_row := by
  refine fn_d T.d__law_of_row.F sc__law_of_row 2 2 rfl rfl (g := g__law_of_row) (fun cdv A outer s H E hr => ?_)
  unfold g__law_of_row
  exact (by refine zV ?_; exact (by refine ds_ret ?_; exact (yP (yN (ok_filled T) (hr.mono (by decide)) (by rfl) T.d_filled.m T.d_filled.F.kp T.d_filled.b (by refine zE (by refine de_tup ?_; exact (by refine zE (de_str (s := [114, 101, 99]) (by rfl)) ?_ (hs := yH); refine zE (zC 0 (pv 0)) ?_ (hs := zY); exact zN)) ?_ (hs := stTuple); refine zE (zC 1 (pv 1)) ?_ (hs := zY); exact zN)) zJ)))
theorem sc_law : FnScope ["_law_script", "_law_labels_here", "_law_number", "_law_base", "_law_first", "_law_second", "_law_told", "_law_both", "_law_same"] ["_law_script"] (zZ (top 23)) := ⟨rfl, rfl, rfl, by decide +kernel, rfl, by decide +kernel, by decide +kernel⟩
theorem ok_law (T : Txt K mg) : Ok P w base T.d_law 30 1 F_law := by
  refine fn_d T.d_law.F sc_law 1 9 rfl rfl (g := g_law) (fun cdv A outer s H E hr => ?_)
  unfold g_law
  exact (by refine zM ?_ ?_; exact (ds_set 1 (by refine de_f ?_; exact (df_call (ok__law_labels T) (hr.mono (by decide)) (by rfl) T.d__law_labels.m T.d__law_labels.F.kp T.d__law_labels.b (zE (yN (ok__law_mixed T) (hr.mono (by decide)) (by rfl) T.d__law_mixed.m T.d__law_mixed.F.kp T.d__law_mixed.b (by refine zE (yN (ok__law_cell_at T) (hr.mono (by decide)) (by rfl) T.d__law_cell_at.m T.d__law_cell_at.F.kp T.d__law_cell_at.b (by refine zE (zC 0 (pv 0)) ?_ (hs := zY); refine zE zJ ?_ (hs := yH); exact zN)) ?_ (hs := stCall); refine zE zJ ?_ (hs := yH); exact zN)) zN (hs := stCall)))) sc_law.nd); exact (by refine zM ?_ ?_; exact (ds_set 2 (yN (ok__law_mixed T) (hr.mono (by decide)) (by rfl) T.d__law_mixed.m T.d__law_mixed.F.kp T.d__law_mixed.b (by refine zE (yN (ok__law_cell_at T) (hr.mono (by decide)) (by rfl) T.d__law_cell_at.m T.d__law_cell_at.F.kp T.d__law_cell_at.b (by refine zE (zC 0 (pv 0)) ?_ (hs := zY); refine zE zJ ?_ (hs := yH); exact zN)) ?_ (hs := stCall); refine zE zJ ?_ (hs := yH); exact zN)) sc_law.nd); exact (by refine zM ?_ ?_; exact (by refine ds_set 3 ?_ ?_ ?_ ?_ ?_ ?_; exact (by refine yP ?_ ?_; exact (by refine de_f ?_; exact (by refine df_lst ?_; exact (by refine zE zJ ?_ (hs := yH); refine zE (zL op_mod od_mod (zL op_fdiv od_fdiv (zC 2 (pv 2)) zJ) (zL op_pow od_pow zJ zJ)) ?_ (hs := stBin); exact zN))); exact (zL op_mod od_mod (zC 2 (pv 2)) zJ)); exact (id sc_law.nd); rfl; (first | exact Or.inl rfl | exact Or.inr rfl); rfl; (first | exact Or.inl rfl | exact Or.inr rfl)); exact (by refine zM ?_ ?_; exact (ds_ownD 4 (fd_call (ok__law_filling T) (hr.mono (by decide)) (by rfl) T.d__law_filling.m T.d__law_filling.F.kp T.d__law_filling.b (by refine zE (zC 0 (pv 0)) ?_ (hs := zY); refine zE zJ ?_ (hs := yH); refine zE (de_sl (zC 1 (pv 1)) (do_some zJ) (do_some zJ)) ?_ (hs := stSub); refine zE (zC 3 (pv 3)) ?_ (hs := zY); exact zN)) sc_law.nd); exact (by refine zM ?_ ?_; exact (ds_ownD 5 (fd_call (ok__law_filling T) (hr.mono (by decide)) (by rfl) T.d__law_filling.m T.d__law_filling.F.kp T.d__law_filling.b (by refine zE (zC 0 (pv 0)) ?_ (hs := zY); refine zE zJ ?_ (hs := yH); refine zE (de_sl (zC 1 (pv 1)) (do_some zJ) do_none) ?_ (hs := stSub); refine zE (zL yS yT (zC 3 (pv 3)) zJ) ?_ (hs := stBin); exact zN)) sc_law.nd); exact (by refine zM ?_ ?_; exact (ds_for PassesOwn.never rfl (di_itemsF (fd_call (ok__law_filling T) (hr.mono (by decide)) (by rfl) T.d__law_filling.m T.d__law_filling.F.kp T.d__law_filling.b (by refine zE (zC 0 (pv 0)) ?_ (hs := zY); refine zE zJ ?_ (hs := yH); refine zE (de_sl (zC 1 (pv 1)) (do_some zJ) do_none) ?_ (hs := stSub); refine zE (zC 3 (pv 3)) ?_ (hs := zY); exact zN))) (dg_seq rfl (dgs_cons (dg_name 2 sc_law.nd) (dgs_cons (dg_name 6 sc_law.nd) dgs_nil))) (by refine zV ?_; exact (ds_if (dt_w (dw_and (dt_cmp (op_neN (n := 400) (un400 hr (by decide))) od_neN (zC 6 (pv 6)) (by refine de_tup ?_; exact (zE (de_str (s := [110, 117, 109]) (by rfl)) zN (hs := yH))) (nomark _)) (dw_and1 (dt_notHasD (zC 2 (pv 2)) (dc_own 4 (pv 4)))))) (by refine zV ?_; exact (by refine ds_dput 5 (un1 hr) (pv 5) ?_ ?_; exact (zC 2 (pv 2)); exact (zC 6 (pv 6)))) ds_nil))); exact (by refine zM ?_ ?_; exact (ds_ownD 7 (fd_copy (by rfl) T.z_dict (dc_own 5 (pv 5))) sc_law.nd); exact (by refine zM ?_ ?_; exact (ds_fz 5 (ds_forD 4 PassesOwn.never rfl (pv 4) (dg_seq rfl (dgs_cons (dg_name 2 sc_law.nd) (dgs_cons (dg_name 6 sc_law.nd) dgs_nil))) (by refine zV ?_; exact (ds_if (dt_cmp (op_eqA hr.units0) od_eqA (yP (zC 6 (pv 6)) zJ) (de_str (s := [114, 111, 119]) (by rfl)) (nomark _)) (by refine zV ?_; exact (by refine ds_dput 7 (un1 hr) (pv 7) ?_ ?_; exact (zC 2 (pv 2)); exact (yN (ok__law_of_row T) (hr.mono (by decide)) (by rfl) T.d__law_of_row.m T.d__law_of_row.F.kp T.d__law_of_row.b (by refine zE (zC 6 (pv 6)) ?_ (hs := zY); refine zE (zC 5 (pv 5)) ?_ (hs := zY); exact zN)))) (by refine zV ?_; exact (by refine ds_dput 7 (un1 hr) (pv 7) ?_ ?_; exact (zC 2 (pv 2)); exact (yN (ok_filled T) (hr.mono (by decide)) (by rfl) T.d_filled.m T.d_filled.F.kp T.d_filled.b (by refine zE (zC 6 (pv 6)) ?_ (hs := zY); refine zE (zC 5 (pv 5)) ?_ (hs := zY); exact zN)))))))); exact (by refine zM ?_ ?_; exact (ds_fz 7 (ds_for PassesOwn.never rfl (di_seq (by refine de_f ?_; exact (df_call (ok__law_pile T) (hr.mono (by decide)) (by rfl) T.d__law_pile.m T.d__law_pile.F.kp T.d__law_pile.b (by refine zE (de_sl (zC 0 (pv 0)) (do_some zJ) (do_some zJ)) ?_ (hs := stSub); refine zE (de_sl (zC 1 (pv 1)) do_none (do_some zJ)) ?_ (hs := stSub); refine zE (zC 3 (pv 3)) ?_ (hs := zY); exact zN)))) (dg_name 6 sc_law.nd) (by refine zM ?_ ?_; exact (ds_if (dt_cmp (op_neN (n := 400) (un400 hr (by decide))) od_neN (yN (ok_filled T) (hr.mono (by decide)) (by rfl) T.d_filled.m T.d_filled.F.kp T.d_filled.b (by refine zE (yN (ok_filled T) (hr.mono (by decide)) (by rfl) T.d_filled.m T.d_filled.F.kp T.d_filled.b (by refine zE (zC 6 (pv 6)) ?_ (hs := zY); refine zE (zC 4 (pv 4)) ?_ (hs := zY); exact zN)) ?_ (hs := stCall); refine zE (zC 5 (pv 5)) ?_ (hs := zY); exact zN)) (yN (ok_filled T) (hr.mono (by decide)) (by rfl) T.d_filled.m T.d_filled.F.kp T.d_filled.b (by refine zE (zC 6 (pv 6)) ?_ (hs := zY); refine zE (zC 7 (pv 7)) ?_ (hs := zY); exact zN)) (nomark _)) (by refine zV ?_; exact (by refine ds_ret ?_; exact de_bl)) ds_nil); exact (by refine zM ?_ ?_; exact (ds_ownD 8 fd_nil sc_law.nd); exact (by refine zM ?_ ?_; exact (ds_for PassesOwn.never rfl (di_seq (yN (ok_numbers T) (hr.mono (by decide)) (by rfl) T.d_numbers.m T.d_numbers.F.kp T.d_numbers.b (zE (zC 6 (pv 6)) zN (hs := zY)))) (dg_name 2 sc_law.nd) (by refine zV ?_; exact (by refine ds_dput 8 (un1 hr) (pv 8) ?_ ?_; exact (zC 2 (pv 2)); exact (by refine yP ?_ ?_; exact (by refine de_f ?_; exact (by refine df_lst ?_; exact (by refine zE (by refine de_tup ?_; exact (by refine zE (de_str (s := [118, 97, 114]) (by rfl)) ?_ (hs := yH); refine zE (zC 2 (pv 2)) ?_ (hs := zY); exact zN)) ?_ (hs := stTuple); refine zE (by refine de_tup ?_; exact (by refine zE (de_str (s := [114, 111, 119]) (by rfl)) ?_ (hs := yH); refine zE (by refine de_tup ?_; exact zN) ?_ (hs := stTuple); refine zE (zC 2 (pv 2)) ?_ (hs := zY); exact zN)) ?_ (hs := stTuple); exact zN))); exact (zL op_mod od_mod (zL op_sub od_sub (zC 2 (pv 2)) (zC 3 (pv 3))) zJ))))); exact (by refine zV ?_; exact (ds_fz 8 (ds_if (dt_cmp (op_neN (n := 400) (un400 hr (by decide))) od_neN (yN (ok_filled T) (hr.mono (by decide)) (by rfl) T.d_filled.m T.d_filled.F.kp T.d_filled.b (by refine zE (zC 6 (pv 6)) ?_ (hs := zY); refine zE (zC 8 (pv 8)) ?_ (hs := zY); exact zN)) (zC 6 (pv 6)) (nomark _)) (by refine zV ?_; exact (by refine ds_ret ?_; exact de_bl)) ds_nil)))))))); exact (by refine zV ?_; exact (by refine ds_ret ?_; exact de_bl)))))))))))
end
theorem andT_ff {f g : MB} {r : En} (e1 : f r = some false) : mAndT f g r = some false := by
  unfold mAndT; rw [e1, Option.bind_some, if_neg (by simp)]
theorem andT_tx {f g : MB} {r : En} {b : Bool} (e1 : f r = some true) (e2 : g r = some b) : mAndT f g r = some b := by
  unfold mAndT; rw [e1, Option.bind_some, if_pos rfl, e2]
theorem tru_of {f : ME} {r : En} {b : Bool} (e : f r = some (.bl b)) : mTru f r = some b := by unfold mTru; rw [e]; rfl
theorem comp_go {bd : D -> En -> Option En} {x : ME} {d y : D} {t out : List D} {r r1 : En} (h : bd d r = some r1) (e : x r1 = some y) (q : compL bd mTrue x t r1 = some out) : compL bd mTrue x (d :: t) r = some (y :: out) := by
  unfold compL
  rw [h, Option.bind_some]
  show (mTrue r1).bind _ = _
  unfold mTrue
  rw [Option.bind_some, if_pos rfl, e, Option.bind_some]
  show (compL bd mTrue x t r1).map _ = _
  rw [q]; rfl
theorem compI_go {bd : D -> En -> Option En} {c : MB} {x : ME} {d y : D} {t out : List D} {r r1 : En} (h : bd d r = some r1) (hc : c r1 = some true) (e : x r1 = some y) (q : compL bd c x t r1 = some out) : compL bd c x (d :: t) r = some (y :: out) := by
  unfold compL
  rw [h, Option.bind_some, hc, Option.bind_some, if_pos rfl, e, Option.bind_some, q]; rfl
theorem compI_no {bd : D -> En -> Option En} {c : MB} {x : ME} {d : D} {t : List D} {r r1 : En} {z : Option (List D)} (h : bd d r = some r1) (hc : c r1 = some false) (q : compL bd c x t r1 = z) : compL bd c x (d :: t) r = z := by
  unfold compL
  rw [h, Option.bind_some, hc, Option.bind_some, if_neg (by simp), q]
theorem ext_of {i : Nat} {f : ME} {r : En} {S m : List D} {d : D} (e : r[i]? = some (.o S)) (e2 : f r = some d) (e3 : itemsD d = some m) (h : S.length + m.length <= sizeLine) : mExt i f r = some (.non, r.set i (.o (S ++ m))) := by
  simp [mExt, mtOf, e, Sl.ml, putO, e2, e3, h]
theorem sSetX_of {i : Nat} {f : En -> Option (D × En)} {r r' r2 : En} {d : D} (e : f r = some (d, r')) (e2 : yJ i d r' = some r2) : sSetX i f r = some (.nx r2) := by
  unfold sSetX; rw [e]; show (yJ i d r').map Fl.nx = _; rw [e2]; rfl
theorem own_true {i : Nat} {r : En} {S : List D} {d : D} (e : r[i]? = some (.o (S ++ [d]))) : mTruB (mOwn i) r = some true := by
  unfold mTruB mOwn
  rw [e]
  show some (!(S ++ [d]).isEmpty) = _
  simp
theorem own_false {i : Nat} {r : En} (e : r[i]? = some (.o [])) : mTruB (mOwn i) r = some false := by
  unfold mTruB mOwn
  rw [e]; rfl
theorem callX0 {n i : Nat} {m : MF} {fs : ML} {r r' : En} {l es l' : List D} {d : D} {as : List Sl} (e1 : mtOf r i = some l) (e2 : fs r = some es) (hl : es.length + 1 = n) (e3 : m (.p l :: es.map .v) = some (.v d, as)) (e4 : as[0]? = some (.p l')) (e5 : putO i l' r = some r') : mCallX n m i (zP fs) r = some (d, r') := by
  unfold mCallX zP
  rw [e1, Option.bind_some, e2, Option.map_some, Option.bind_some, if_pos (by show ([] : List D).length + 1 + es.length = n; rw [List.length_nil]; omega)]
  show (m (zArgs [] l es)).bind _ = _
  rw [show zArgs [] l es = .p l :: es.map Sl.v from rfl, e3, Option.bind_some]
  show (match as[([] : List D).length]? with
    | some (.p l') => (putO i l' r).map fun r' => (d, r')
    | _ => none) = _
  rw [show ([] : List D).length = 0 from rfl, e4]
  show (putO i l' r).map _ = _
  rw [e5]; rfl
theorem mk_rt' {n N : Nat} {s : MS} {as : List Sl} {r' : En} {d : D} (e : s (as ++ List.replicate (N - n) .un) = some (.rt d r')) : mkF n N s as = some (.v d, r'.take n) := by
  unfold mkF; rw [e]; rfl
theorem mk_nx {n N : Nat} {s : MS} {as : List Sl} {r' : En} (e : s (as ++ List.replicate (N - n) .un) = some (.nx r')) : mkF n N s as = some (.v .non, r'.take n) := by
  unfold mkF; rw [e]; rfl
theorem sub_of {f g : ME} {r : En} {i j : Int} (e1 : f r = some (.int i)) (e2 : g r = some (.int j)) : zD subD f g r = some (.int (i - j)) := zO e1 e2 rfl
noncomputable abbrev Ws := List (List Nat)
noncomputable abbrev dw (l : Ws) : List D := l.map D.str
mutual
inductive Kd where
  | num
  | var (n : Int)
  | fn (a b : Kd)
  | rw (o : Bool) (fs : Fs) (tl : Option Int)
inductive Fs where
  | nil
  | cons (l : List Nat) (k : Kd) (r : Fs)
end
noncomputable def sNum : List Nat := [110, 117, 109]
noncomputable def sVar : List Nat := [118, 97, 114]
noncomputable def sFun : List Nat := [102, 117, 110]
noncomputable def sRec : List Nat := [114, 101, 99]
noncomputable def sOne : List Nat := [111, 110, 101]
noncomputable def sRow : List Nat := [114, 111, 119]
noncomputable def wrd (o : Bool) : List Nat := if o then sOne else sRec
noncomputable def tlD : Option Int -> D
  | none => .non
  | some i => .int i
mutual
noncomputable def Kd.ds : Kd -> D
  | .num => .tup [.str sNum]
  | .var n => .tup [.str sVar, .int n]
  | .fn a b => .tup [.str sFun, a.ds, b.ds]
  | .rw o fs tl => .tup [.str (wrd o), .tup [.str sRow, .tup fs.ds, tlD tl]]
noncomputable def Fs.ds : Fs -> List D
  | .nil => []
  | .cons l k r => .tup [.str l, k.ds] :: r.ds
end
noncomputable def Fs.kds : Fs -> List Kd
  | .nil => []
  | .cons _ k r => k :: r.kds
noncomputable def Fs.labs : Fs -> Ws
  | .nil => []
  | .cons l _ r => l :: r.labs
noncomputable def Kd.kids : Kd -> List Kd
  | .num => []
  | .var _ => []
  | .fn a b => [a, b]
  | .rw _ fs _ => fs.kds
noncomputable def Kd.isRw : Kd -> Bool
  | .rw _ _ _ => true
  | _ => false
theorem ds_len : ∀ fs : Fs, fs.ds.length = fs.kds.length
  | .nil => rfl
  | .cons _ _ r => by simp only [Fs.ds, Fs.kds, List.length_cons, ds_len r]
theorem row_eq (k : Kd) : ∃ as, F_has_row [.v k.ds] = some (.v (.bl k.isRw), as) := by
  refine mk_rt (r' := [.v k.ds]) ?_
  show g_has_row [.v k.ds] = _
  unfold g_has_row
  have tp : mTup (zA (mC (.str [114, 101, 99])) (zA (mC (.str [111, 110, 101])) zK)) [.v k.ds] = some (.tup [.str sRec, .str sOne]) := tup_of (zF zI (zF zI zS)) (by show 2 <= 100; decide)
  cases k with
  | num => exact ret_of (zO (zO (x := Kd.num.ds) rfl zI (at_zero _ _)) tp rfl)
  | var n => exact ret_of (zO (zO (x := (Kd.var n).ds) rfl zI (at_zero _ _)) tp rfl)
  | fn a b => exact ret_of (zO (zO (x := (Kd.fn a b).ds) rfl zI (at_zero _ _)) tp rfl)
  | rw o fs tl => cases o <;> exact ret_of (zO (zO (x := (Kd.rw _ fs tl).ds) rfl zI (at_zero _ _)) tp rfl)
theorem comp_kds : ∀ (fs : Fs) (x : Sl), fre x -> compL (yJ 0) mTrue (zD ixD (zB 0) (mC (.int 1))) fs.ds [x] = some (fs.kds.map Kd.ds)
  | .nil, _, _ => rfl
  | .cons l k r, x, hx => comp_go (r1 := [.v (.tup [.str l, k.ds])]) (yE (x := x) rfl hx) (zO (x := .tup [.str l, k.ds]) rfl zI (yC (j := 1) rfl)) (comp_kds r (.v (.tup [.str l, k.ds])) trivial)
theorem straight_eq {k : Kd} (h : k.kids.length <= 1000) : ∃ as, yI [.v k.ds] = some (.v (.lst (k.kids.map Kd.ds)), as) := by
  let R : En := [.v k.ds]
  refine mk_rt (r' := R) ?_
  show g_straight_in R = _
  unfold g_straight_in
  have hd : ∀ (w : List Nat) (l : List D), k.ds = .tup (.str w :: l) -> ∀ u : List Nat, mBl (zD eqA (zD ixD (zB 0) (mC (.int 0))) (mC (.str u))) R = some (decide (w = u)) := fun w l e u => bl_of (zO (zO (x := .tup (.str w :: l)) (by show some k.ds = _; rw [e]) zI (at_zero _ _)) zI rfl)
  have hr : mTru (zX 1 F_has_row (zA (zB 0) zK)) R = some k.isRw := tru_of (yO (p := .v (.bl k.isRw)) (zF rfl zS) rfl (row_eq k))
  cases k with
  | num => exact seq_ff (hd sNum [] rfl sFun) (seq_ff hr (ret_of (lstF_of zS (by show 0 <= 100; decide))))
  | var n => exact seq_ff (hd sVar [.int n] rfl sFun) (seq_ff hr (ret_of (lstF_of zS (by show 0 <= 100; decide))))
  | fn a b => exact seq_tt (hd sFun [a.ds, b.ds] rfl sFun) (ret_of (lstF_of (zF (zO (x := (Kd.fn a b).ds) rfl zI (yC (j := 1) rfl)) (zF (zO (x := (Kd.fn a b).ds) rfl zI (yC (j := 2) rfl)) zS)) (by show 2 <= 100; decide)))
  | rw o fs tl =>
    have e1 : mBl (zD eqA (zD ixD (zB 0) (mC (.int 0))) (mC (.str [102, 117, 110]))) R = some false := (hd (wrd o) [.tup [.str sRow, .tup fs.ds, tlD tl]] rfl sFun).trans (by cases o <;> rfl)
    refine seq_ff e1 (seq_tt hr (ret_of ?_))
    have it : mIt (zD ixD (zD ixD (zB 0) (mC (.int 1))) (mC (.int 1))) R = some fs.ds := by
      unfold mIt
      rw [zO (x := .tup [.str sRow, .tup fs.ds, tlD tl]) (zO (x := (Kd.rw o fs tl).ds) rfl zI (yC (j := 1) rfl)) zI (yC (j := 1) rfl)]; rfl
    have cp : mComp [] 1 (mIt (zD ixD (zD ixD (zB 0) (mC (.int 1))) (mC (.int 1)))) (yJ 0) (zD ixD (zB 0) (mC (.int 1))) R = some (fs.kds.map Kd.ds) := by
      unfold mComp mCompIf
      rw [it, Option.bind_some, if_pos (by rw [ds_len]; exact Nat.lt_of_le_of_lt h (by decide))]
      exact comp_kds fs .un trivial
    exact congrArg (Option.map D.lst) cp
noncomputable abbrev Fd := List Nat × D
noncomputable def fdd (p : Fd) : D := .tup [.str p.1, p.2]
noncomputable def kdd (p : Fd) : KD := (p.1, fdd p)
noncomputable def leF (a b : Fd) : Bool := !decide (b.1 < a.1)
theorem leF_iff (a b : Fd) : leF a b = true ↔ a.1 <= b.1 := by
  unfold leF
  rw [Bool.not_eq_true', decide_eq_false_iff_not]
  exact Iff.rfl
noncomputable def srtD (P : List Fd) : List Fd := P.mergeSort leF
theorem srtD_perm (P : List Fd) : (srtD P).Perm P := List.mergeSort_perm P leF
theorem srtD_up (P : List Fd) : (srtD P).Pairwise fun a b => a.1 <= b.1 :=
  (List.pairwise_mergeSort (le := leF) (fun a b c h1 h2 => (leF_iff a c).mpr (List.le_trans ((leF_iff a b).mp h1) ((leF_iff b c).mp h2))) (fun a b => by
    rw [Bool.or_eq_true]
    exact (List.le_total a.1 b.1).imp (leF_iff a b).mpr (leF_iff b a).mpr) P).imp fun {a b} z => (leF_iff a b).mp z
theorem key_inj {P : List Fd} (nd : (P.map (·.1)).Nodup) {a b : Fd} (ha : a ∈ P) (hb : b ∈ P) (e : a.1 = b.1) : a = b := by
  obtain ⟨i, hi, rfl⟩ := List.getElem_of_mem ha
  (obtain ⟨j, hj, rfl⟩ := List.getElem_of_mem hb)
  rcases Nat.lt_trichotomy i j with z | z | z
  · exact absurd (by rw [List.getElem_map, List.getElem_map]; exact e) (List.pairwise_iff_getElem.mp nd i j (by simpa using hi) (by simpa using hj) z)
  · subst z; rfl
  · exact absurd (by rw [List.getElem_map, List.getElem_map]; exact e.symm) (List.pairwise_iff_getElem.mp nd j i (by simpa using hj) (by simpa using hi) z)
theorem up_uniq {P Q : List Fd} (nd : (P.map (·.1)).Nodup) (pq : P.Perm Q) (hp : P.Pairwise fun a b => a.1 <= b.1) (hq : Q.Pairwise fun a b => a.1 <= b.1) : P = Q :=
  List.Perm.eq_of_pairwise (le := fun a b : Fd => a.1 <= b.1) (fun a b ha hb x y => key_inj nd ha (pq.mem_iff.mpr hb) (List.le_antisymm x y)) hp hq pq
theorem map_kdd (P : List Fd) : (P.map kdd).map (·.1) = P.map (·.1) /\ (P.map kdd).map (·.2) = P.map fdd := by
  constructor <;> rw [List.map_map] <;> rfl
theorem srtK_fdd {P : List Fd} (nd : (P.map (·.1)).Nodup) : srtK (P.map kdd) = (srtD P).map fdd := by
  rw [<- srtK_eq (m := (srtD P).map kdd) (by rw [(map_kdd P).1]; exact nd) ((srtD_perm P).map kdd) (by
    unfold upK
    rw [List.pairwise_map]
    exact (srtD_up P).imp fun {a b} z => z), (map_kdd _).2]
theorem label_eq (p : Fd) : keyOf F_label_of (fdd p) = some p.1 := by
  obtain ⟨as, e⟩ : ∃ as, F_label_of [.v (fdd p)] = some (.v (.str p.1), as) := by
    refine mk_rt (r' := [.v (fdd p)]) ?_
    show g_label_of [.v (fdd p)] = _
    unfold g_label_of
    exact ret_of (zO (x := .tup [.str p.1, p.2]) rfl zI (at_zero _ _))
  unfold keyOf
  rw [e]; rfl
theorem keysK_eq : ∀ P : List Fd, keysK F_label_of (P.map fdd) = some (P.map kdd)
  | [] => rfl
  | p :: r => by
    rw [List.map_cons]
    unfold keysK
    rw [label_eq p, Option.bind_some, keysK_eq r]; rfl
theorem keysP_eq : ∀ P : List Fd, keysP (P.map fdd) = some (P.map kdd)
  | [] => rfl
  | p :: r => by
    rw [List.map_cons]
    unfold keysP
    rw [show keyP (fdd p) = some p.1 from rfl, Option.bind_some, keysP_eq r]; rfl
theorem srtK_of {fl : ML} {r : En} {P : List Fd} (e : fl r = some (P.map fdd)) (h : P.length < 64) (nd : (P.map (·.1)).Nodup) : mSrtK F_label_of fl r = some ((srtD P).map fdd) := by
  unfold mSrtK
  rw [e, Option.bind_some, keysK_eq, Option.bind_some, if_pos ⟨by rw [List.length_map]; exact h, by rw [(map_kdd P).1]; exact nd⟩, srtK_fdd nd]
theorem srtP_of {fl : ML} {r : En} {P : List Fd} (e : fl r = some (P.map fdd)) (h : P.length < 64) (nd : (P.map (·.1)).Nodup) : mSrtP fl r = some ((srtD P).map fdd) := by
  unfold mSrtP
  rw [e, Option.bind_some, keysP_eq, Option.bind_some, if_pos ⟨by rw [List.length_map]; exact h, by rw [(map_kdd P).1]; exact nd⟩, srtK_fdd nd]
noncomputable def rowD (P : List Fd) (t : D) : D := .tup [.str sRow, .tup (P.map fdd), t]
theorem joined_eq {P G : List Fd} {t : D} (h : P.length + G.length < 64) (nd : ((P ++ G).map (·.1)).Nodup) : ∃ as, F_joined [.v (.lst (P.map fdd)), .v (rowD G t)] = some (.v (rowD (srtD (P ++ G)) t), as) := by
  let R0 : En := [.v (.lst (P.map fdd)), .v (rowD G t), .un]
  let R : En := [.v (.lst (P.map fdd)), .v (rowD G t), .v (.lst ((srtD (P ++ G)).map fdd))]
  refine mk_rt (r' := R) ?_
  show g_joined R0 = _
  unfold g_joined
  have ec : mCat (mIt (zB 0)) (mIt (zD ixD (zB 1) (mC (.int 1)))) R0 = some ((P ++ G).map fdd) := by
    have a : mIt (zB 0) R0 = some (P.map fdd) := rfl
    have b : mIt (zD ixD (zB 1) (mC (.int 1))) R0 = some (G.map fdd) := by
      unfold mIt
      rw [zO (x := rowD G t) rfl zI (yC (j := 1) rfl)]; rfl
    unfold mCat
    rw [a, Option.bind_some, b, Option.bind_some, if_pos (by rw [List.length_map, List.length_map]; exact Nat.le_trans (Nat.le_of_lt h) (by decide)), List.map_append]
  have es := srtK_of ec (by rw [List.length_append]; exact h) nd
  refine seq_set (r2 := R) (.lst ((srtD (P ++ G)).map fdd)) (congrArg (Option.map D.lst) es) rfl (ret_of ?_)
  exact tup_of (zF zI (zF (x := .tup ((srtD (P ++ G)).map fdd)) rfl (zF (zO (x := rowD G t) rfl zI (yC (j := 2) rfl)) zS))) (by show 3 <= 100; decide)
structure Sp where
  Vr : Int -> Prop
  Tr : Int -> Prop
  A : List Nat -> Prop
  B : List Nat -> Prop
  ap : ∀ l, A l -> ¬ B l
structure Fil (S : Sp) (ks : List Key) (l : List D) (fv : Int -> Option D) (fr : Int -> Option (List Fd × D)) : Prop where
  v : ∀ n, S.Vr n -> lookD ks l (.inl n) = fv n
  t : ∀ n, S.Tr n -> lookD ks l (.inl n) = (fr n).map fun q => rowD q.1 q.2
  few : ∀ n q, fr n = some q -> q.1.length <= 8
  nd : ∀ n q, fr n = some q -> (q.1.map (·.1)).Nodup /\ ∀ p ∈ q.1, S.B p.1
mutual
noncomputable def Kd.ok (S : Sp) : Kd -> Prop
  | .num => True
  | .var n => S.Vr n
  | .fn a b => a.ok S /\ b.ok S
  | .rw _ fs tl => fs.ok S /\ fs.labs.Nodup /\ fs.labs.Pairwise (· <= ·) /\ fs.labs.length <= 8 /\ ∀ t, tl = some t -> S.Tr t
noncomputable def Fs.ok (S : Sp) : Fs -> Prop
  | .nil => True
  | .cons l k r => S.A l /\ k.ok S /\ r.ok S
end
section
variable (fv : Int -> Option D) (fr : Int -> Option (List Fd × D))
noncomputable def bring (tl : Option Int) : List Fd × D := (tl.bind fr).getD ([], tlD tl)
mutual
noncomputable def Kd.fl : Kd -> D
  | .num => Kd.num.ds
  | .var n => (fv n).getD (Kd.var n).ds
  | .fn a b => .tup [.str sFun, a.fl, b.fl]
  | .rw o fs tl => .tup [.str (wrd o), rowD (srtD (fs.fl ++ (bring fr tl).1)) (bring fr tl).2]
noncomputable def Fs.fl : Fs -> List Fd
  | .nil => []
  | .cons l k r => (l, k.fl) :: r.fl
end
end
theorem labs_len : ∀ fs : Fs, fs.labs.length = fs.kds.length
  | .nil => rfl
  | .cons _ _ r => by simp only [Fs.labs, Fs.kds, List.length_cons, labs_len r]
section
variable {fv : Int -> Option D} {fr : Int -> Option (List Fd × D)} {S : Sp} {ks : List Key} {l : List D}
theorem fl_labs : ∀ fs : Fs, (fs.fl fv fr).map (·.1) = fs.labs
  | .nil => rfl
  | .cons _ _ r => by simp only [Fs.fl, Fs.labs, List.map_cons, fl_labs r]
theorem fl_len (fs : Fs) : (fs.fl fv fr).length = fs.labs.length := by rw [<- fl_labs (fv := fv) (fr := fr), List.length_map]
theorem labs_A : ∀ fs : Fs, fs.ok S -> ∀ l ∈ fs.labs, S.A l
  | .nil, _, l, h => by cases h
  | .cons l' k r, ok, l, h => by
    (rcases List.mem_cons.mp h with rfl | h)
    · exact ok.1
    · exact labs_A r ok.2.2 l h
theorem bring_ok (F : Fil S ks l fv fr) (tl : Option Int) : (bring fr tl).1.length <= 8 /\ ((bring fr tl).1.map (·.1)).Nodup /\ ∀ p ∈ (bring fr tl).1, S.B p.1 := by
  unfold bring
  cases e : tl.bind fr with
  | none => exact ⟨Nat.zero_le _, List.nodup_nil, by simp⟩
  | some q =>
    cases tl with
    | none => cases e
    | some t => exact ⟨F.few t q e, F.nd t q e⟩
theorem both_nd (F : Fil S ks l fv fr) {fs : Fs} {P : List Fd} (hP : P.map (·.1) = fs.labs) (ok : fs.ok S) (nd : fs.labs.Nodup) (tl : Option Int) : ((P ++ (bring fr tl).1).map (·.1)).Nodup := by
  have b := bring_ok F tl
  rw [List.map_append, hP]
  refine List.nodup_append.mpr ⟨nd, b.2.1, fun x hx y hy e => ?_⟩
  subst e
  obtain ⟨p, hp, rfl⟩ := List.mem_map.mp hy
  exact S.ap _ (labs_A fs ok _ hx) (b.2.2 p hp)
theorem comp_zip : ∀ (fs : Fs) (w : List D) (x y : Sl), fre x -> fre y -> w.length = fs.labs.length -> compL (bdSeq 2 (bdCons (yJ 0) (bdCons (yJ 1) bdNil))) mTrue (mTup (zA (zD ixD (zB 0) (mC (.int 0))) (zA (zB 1) zK))) (zipD fs.ds w) [x, y] = some ((fs.labs.zip w).map fdd)
  | .nil, w, _, _, _, _, _ => rfl
  | .cons l k r, [], _, _, _, _, h => by cases h
  | .cons l k r, d :: w, x, y, hx, hy, h => by
    show compL _ mTrue _ (.tup [.tup [.str l, k.ds], d] :: zipD r.ds w) _ = _
    exact comp_go (r1 := [.v (.tup [.str l, k.ds]), .v d]) (bdP (r1 := [.v (.tup [.str l, k.ds]), y]) (yE (x := x) rfl hx) (yE (x := y) rfl hy)) (tup_of (zF (zO (x := .tup [.str l, k.ds]) rfl zI (at_zero _ _)) (zF rfl zS)) (by show 2 <= 100; decide)) (comp_zip r w (.v (.tup [.str l, k.ds])) (.v d) trivial trivial (by simpa [Fs.labs] using h))
theorem zip_fl : ∀ fs : Fs, fs.labs.zip (fs.kds.map (Kd.fl fv fr)) = fs.fl fv fr
  | .nil => rfl
  | .cons l k r => by simp only [Fs.labs, Fs.kds, Fs.fl, List.map_cons, List.zip_cons_cons, zip_fl r]
theorem get_row (F : Fil S ks l fv fr) {tl : Option Int} (ht : ∀ t, tl = some t -> S.Tr t) {fd : MD} {fk fx : ME} {r : En} (e1 : fd r = some (ks, l)) (e2 : fk r = some (tlD tl)) (e3 : fx r = some (rowD [] (tlD tl))) : mGetO fd fk fx r = some (rowD (bring fr tl).1 (bring fr tl).2) := by
  unfold mGetO
  rw [e1, Option.bind_some, e2, Option.bind_some, e3, Option.bind_some]
  cases tl with
  | none => rfl
  | some t =>
    show some ((lookD ks l (.inl t)).getD _) = _
    rw [F.t t (ht t rfl)]
    unfold bring
    show some (((fr t).map _).getD _) = _
    rw [Option.bind_some]
    cases fr t with
    | none => rfl
    | some q => rfl
theorem rbrow_eq (F : Fil S ks l fv fr) {fs : Fs} {tl : Option Int} (ok : fs.ok S) (nd : fs.labs.Nodup) (few : fs.labs.length <= 8) (ht : ∀ t, tl = some t -> S.Tr t) :
    ∃ as, F_rebuilt_row [.v (.tup [.str sRow, .tup fs.ds, tlD tl]), .v (.lst (fs.kds.map (Kd.fl fv fr))), .v (.dct ks l)] = some (.v (rowD (srtD (fs.fl fv fr ++ (bring fr tl).1)) (bring fr tl).2), as) := by
  let row : D := .tup [.str sRow, .tup fs.ds, tlD tl]
  let w : List D := fs.kds.map (Kd.fl fv fr)
  let R0 : En := [.v row, .v (.lst w), .v (.dct ks l), .un]
  let R : En := [.v row, .v (.lst w), .v (.dct ks l), .v (.lst ((fs.fl fv fr).map fdd))]
  refine mk_rt (r' := R) ?_
  show g_rebuilt_row R0 = _
  unfold g_rebuilt_row
  have hw : w.length = fs.labs.length := by show (fs.kds.map _).length = _; rw [List.length_map, labs_len]
  have zp : mZipA (zD ixD (zB 0) (mC (.int 1))) (zB 1) R0 = some (zipD fs.ds w) := by
    unfold mZipA
    rw [zO (x := row) (d := .tup fs.ds) rfl zI (yC (j := 1) rfl)]; rfl
  have cp : mComp [] 2 (mZipA (zD ixD (zB 0) (mC (.int 1))) (zB 1)) (bdSeq 2 (bdCons (yJ 0) (bdCons (yJ 1) bdNil))) (mTup (zA (zD ixD (zB 0) (mC (.int 0))) (zA (zB 1) zK))) R0 = some ((fs.fl fv fr).map fdd) := by
    unfold mComp mCompIf
    rw [zp, Option.bind_some, if_pos ?_]
    · refine (comp_zip fs w .un .un trivial trivial hw).trans ?_
      rw [show w = fs.kds.map (Kd.fl fv fr) from rfl, zip_fl]
    · have : (zipD fs.ds w).length <= 8 := by
        unfold zipD
        rw [List.length_zipWith]
        have := ds_len fs
        have := labs_len fs
        omega
      exact Nat.lt_of_le_of_lt this (by decide)
  refine seq_set (r2 := R) (.lst ((fs.fl fv fr).map fdd)) (congrArg (Option.map D.lst) cp) rfl (ret_of ?_)
  have b := bring_ok F tl
  have gr := get_row F ht (fd := mAsD (zB 2)) (fk := zD ixD (zB 0) (mC (.int 2))) (fx := mTup (zA (mC (.str [114, 111, 119])) (zA (mTup zK) (zA (zD ixD (zB 0) (mC (.int 2))) zK)))) (r := R) rfl (zO (x := row) rfl zI (yC (j := 2) rfl)) (tup_of (zF zI (zF (tup_of zS (by show 0 <= 100; decide)) (zF (zO (x := row) rfl zI (yC (j := 2) rfl)) zS))) (by show 3 <= 100; decide))
  exact yO (p := .v (rowD (srtD (fs.fl fv fr ++ (bring fr tl).1)) (bring fr tl).2)) (zF rfl (zF gr zS)) rfl (joined_eq (by rw [fl_len]; omega) (both_nd F (fl_labs fs) ok nd tl))
theorem rebuilt_eq (F : Fil S ks l fv fr) {k : Kd} (ok : k.ok S) : ∃ as, F_rebuilt [.v k.ds, .v (.lst (k.kids.map (Kd.fl fv fr))), .v (.dct ks l)] = some (.v (k.fl fv fr), as) := by
  let R : En := [.v k.ds, .v (.lst (k.kids.map (Kd.fl fv fr))), .v (.dct ks l)]
  refine mk_rt (r' := R) ?_
  show g_rebuilt R = _
  unfold g_rebuilt
  have hd : ∀ (w : List Nat) (l : List D), k.ds = .tup (.str w :: l) -> ∀ u : List Nat, mBl (zD eqA (zD ixD (zB 0) (mC (.int 0))) (mC (.str u))) R = some (decide (w = u)) := fun w l e u => bl_of (zO (zO (x := .tup (.str w :: l)) (by show some k.ds = _; rw [e]) zI (at_zero _ _)) zI rfl)
  have hr : mTru (zX 1 F_has_row (zA (zB 0) zK)) R = some k.isRw := tru_of (yO (p := .v (.bl k.isRw)) (zF rfl zS) rfl (row_eq k))
  cases k with
  | num => exact seq_ff (hd sNum [] rfl sVar) (seq_ff (hd sNum [] rfl sFun) (seq_ff hr (ret_of rfl)))
  | var n =>
    refine seq_tt (hd sVar [.int n] rfl sVar) (ret_of ?_)
    unfold mGetO
    rw [show mAsD (zB 2) R = some (ks, l) from rfl, Option.bind_some, zO (x := (Kd.var n).ds) (d := .int n) rfl zI (yC (j := 1) rfl), Option.bind_some, show zB 0 R = some (Kd.var n).ds from rfl, Option.bind_some]
    show some ((lookD ks l (.inl n)).getD _) = _
    rw [F.v n ok]; rfl
  | fn a b =>
    refine seq_ff (hd sFun [a.ds, b.ds] rfl sVar) (seq_tt (hd sFun [a.ds, b.ds] rfl sFun) (ret_of ?_))
    exact tup_of (zF zI (zF (zO (x := .lst [a.fl fv fr, b.fl fv fr]) rfl zI (at_zero _ _)) (zF (zO (x := .lst [a.fl fv fr, b.fl fv fr]) rfl zI (yC (j := 1) rfl)) zS))) (by show 3 <= 100; decide)
  | rw o fs tl =>
    have hw : ∀ u : List Nat, u = sVar \/ u = sFun -> mBl (zD eqA (zD ixD (zB 0) (mC (.int 0))) (mC (.str u))) R = some false := fun u hu => (hd (wrd o) [.tup [.str sRow, .tup fs.ds, tlD tl]] rfl u).trans (by rcases hu with rfl | rfl <;> cases o <;> rfl)
    refine seq_ff (hw _ (.inl rfl)) (seq_ff (hw _ (.inr rfl)) (seq_tt hr (ret_of ?_)))
    have i0 : zD ixD (zB 0) (mC (.int 0)) R = some (.str (wrd o)) := zO (x := (Kd.rw o fs tl).ds) rfl zI (at_zero _ _)
    have i1 : zD ixD (zB 0) (mC (.int 1)) R = some (.tup [.str sRow, .tup fs.ds, tlD tl]) := zO (x := (Kd.rw o fs tl).ds) rfl zI (yC (j := 1) rfl)
    exact tup_of (zF i0 (zF (yO (p := .v (rowD (srtD (fs.fl fv fr ++ (bring fr tl).1)) (bring fr tl).2)) (zF i1 (zF rfl (zF rfl zS))) rfl (rbrow_eq F ok.1 ok.2.1 ok.2.2.2.1 ok.2.2.2.2)) zS)) (by show 2 <= 100; decide)
end
mutual
noncomputable def Kd.pre : Kd -> List Kd
  | .num => [.num]
  | .var n => [.var n]
  | .fn a b => .fn a b :: (a.pre ++ b.pre)
  | .rw o fs tl => .rw o fs tl :: fs.pre
noncomputable def Fs.pre : Fs -> List Kd
  | .nil => []
  | .cons _ k r => k.pre ++ r.pre
end
mutual
noncomputable def Kd.wd : Kd -> Prop
  | .num => True
  | .var _ => True
  | .fn a b => a.wd /\ b.wd
  | .rw _ fs _ => fs.kds.length <= 8 /\ fs.wd
noncomputable def Fs.wd : Fs -> Prop
  | .nil => True
  | .cons _ k r => k.wd /\ r.wd
end
theorem kids_len {k : Kd} (h : k.wd) : k.kids.length <= 8 := by
  cases k with
  | num => exact Nat.zero_le _
  | var n => exact Nat.zero_le _
  | fn a b => show 2 <= 8; decide
  | rw o fs tl => exact h.1
theorem pre_pos (k : Kd) : 1 <= k.pre.length := by cases k <;> simp [Kd.pre]
noncomputable def bodyS : MS := (yB (sSetX 3 (mPop 2))
 (yB (sX (mApp 1 (zB 3)))
 (sX (mExt 2 (mUn revD (zX 1 yI (zA (zB 3) zK)))))))
noncomputable abbrev wS (m : Nat) (E : D) (F S : List D) (x : Sl) : Option Fl := sWhile m (mTruB (mOwn 2)) bodyS [.v E, .o F, .o S, x]
theorem st_kd {E : D} {F S : List D} {x : Sl} {k : Kd} (hx : fre x) (h : k.wd) (hF : F.length <= 10000) (hS : S.length <= 10000) (m : Nat) : wS (m + 1) E F (S ++ [k.ds]) x = wS m E (F ++ [k.ds]) (S ++ (k.kids.map Kd.ds).reverse) (.v k.ds) := by
  refine while_go (own_true (S := S) (d := k.ds) rfl) ?_
  unfold bodyS
  have hl := kids_len h
  let R1 : En := [.v E, .o F, .o S, .v k.ds]
  let R2 : En := [.v E, .o (F ++ [k.ds]), .o S, .v k.ds]
  have pop : sSetX 3 (mPop 2) [.v E, .o F, .o (S ++ [k.ds]), x] = some (.nx R1) := sSetX_of (pop_of rfl) (yE (x := x) rfl hx)
  have ap : sX (mApp 1 (zB 3)) R1 = some (.nx R2) := sX_of (d := .non) (app_of rfl rfl (Nat.lt_of_le_of_lt hF (by decide)))
  have cc : zX 1 yI (zA (zB 3) zK) R2 = some (.lst (k.kids.map Kd.ds)) := yO (p := .v (.lst (k.kids.map Kd.ds))) (zF rfl zS) rfl (straight_eq (by omega))
  refine (yK pop).trans ((yK ap).trans ?_)
  exact sX_of (d := .non) (ext_of (S := S) (un_of cc rfl) rfl (by rw [List.length_reverse, List.length_map]; exact Nat.le_trans (by omega : _ <= 10008) (by decide)) (e := rfl))
mutual
theorem wi_v (E : D) : ∀ (k : Kd), k.wd -> ∀ (S F : List D) (x : Sl), fre x -> F.length + k.pre.length <= 5000 -> S.length + k.pre.length <= 5000 -> ∃ x', fre x' /\ ∀ m, wS (k.pre.length + m) E F (S ++ [k.ds]) x = wS m E (F ++ k.pre.map Kd.ds) S x'
  | .num, h, S, F, x, hx, hF, hS => by
    simp only [Kd.pre, List.length_cons, List.length_nil] at hF hS
    refine ⟨.v Kd.num.ds, trivial, fun m => ?_⟩
    rw [show Kd.num.pre.length + m = m + 1 by simp [Kd.pre]; omega, st_kd hx h (by omega) (by omega)]
    simp [Kd.pre, Kd.kids]
  | .var n, h, S, F, x, hx, hF, hS => by
    simp only [Kd.pre, List.length_cons, List.length_nil] at hF hS
    refine ⟨.v (Kd.var n).ds, trivial, fun m => ?_⟩
    rw [show (Kd.var n).pre.length + m = m + 1 by simp [Kd.pre]; omega, st_kd hx h (by omega) (by omega)]
    simp [Kd.pre, Kd.kids]
  | .fn a b, h, S, F, x, hx, hF, hS => by
    simp only [Kd.pre, List.length_cons, List.length_append] at hF hS
    have pb := pre_pos b
    obtain ⟨x1, f1, e1⟩ := wi_v E a h.1 (S ++ [b.ds]) (F ++ [(Kd.fn a b).ds]) (.v (Kd.fn a b).ds) trivial (by simp only [List.length_append, List.length_cons, List.length_nil]; omega) (by simp only [List.length_append, List.length_cons, List.length_nil]; omega)
    obtain ⟨x2, f2, e2⟩ := wi_v E b h.2 S (F ++ [(Kd.fn a b).ds] ++ a.pre.map Kd.ds) x1 f1 (by simp only [List.length_append, List.length_cons, List.length_nil, List.length_map]; omega) (by omega)
    refine ⟨x2, f2, fun m => ?_⟩
    rw [show (Kd.fn a b).pre.length + m = (a.pre.length + (b.pre.length + m)) + 1 by simp [Kd.pre]; omega, st_kd hx h (by omega) (by omega)]
    rw [show S ++ ((Kd.fn a b).kids.map Kd.ds).reverse = S ++ [b.ds] ++ [a.ds] by simp [Kd.kids], e1 (b.pre.length + m), e2 m]
    simp [Kd.pre]
  | .rw o fs tl, h, S, F, x, hx, hF, hS => by
    simp only [Kd.pre, List.length_cons] at hF hS
    obtain ⟨x1, f1, e1⟩ := wi_f E fs h.2 S (F ++ [(Kd.rw o fs tl).ds]) (.v (Kd.rw o fs tl).ds) trivial (by simp only [List.length_append, List.length_cons, List.length_nil]; omega) (by omega)
    refine ⟨x1, f1, fun m => ?_⟩
    rw [show (Kd.rw o fs tl).pre.length + m = (fs.pre.length + m) + 1 by simp [Kd.pre]; omega, st_kd hx h (by omega) (by omega)]
    rw [show S ++ ((Kd.rw o fs tl).kids.map Kd.ds).reverse = S ++ (fs.kds.map Kd.ds).reverse from rfl, e1 m]
    simp [Kd.pre]
theorem wi_f (E : D) : ∀ (fs : Fs), fs.wd -> ∀ (S F : List D) (x : Sl), fre x -> F.length + fs.pre.length <= 5000 -> S.length + fs.pre.length <= 5000 -> ∃ x', fre x' /\ ∀ m, wS (fs.pre.length + m) E F (S ++ (fs.kds.map Kd.ds).reverse) x = wS m E (F ++ fs.pre.map Kd.ds) S x'
  | .nil, h, S, F, x, hx, hF, hS => ⟨x, hx, fun m => by simp [Fs.pre, Fs.kds]⟩
  | .cons l k r, h, S, F, x, hx, hF, hS => by
    simp only [Fs.pre, List.length_append] at hF hS
    have hr : r.kds.length <= r.pre.length := kds_le r
    have pk := pre_pos k
    obtain ⟨x1, f1, e1⟩ := wi_v E k h.1 (S ++ (r.kds.map Kd.ds).reverse) F x hx (by omega) (by rw [List.length_append, List.length_reverse, List.length_map]; omega)
    obtain ⟨x2, f2, e2⟩ := wi_f E r h.2 S (F ++ k.pre.map Kd.ds) x1 f1 (by rw [List.length_append, List.length_map]; omega) (by omega)
    refine ⟨x2, f2, fun m => ?_⟩
    rw [show (Fs.cons l k r).pre.length + m = k.pre.length + (r.pre.length + m) by simp [Fs.pre]; omega]
    rw [show S ++ ((Fs.cons l k r).kds.map Kd.ds).reverse = S ++ (r.kds.map Kd.ds).reverse ++ [k.ds] by simp [Fs.kds], e1 (r.pre.length + m), e2 m]
    simp [Fs.pre]
theorem kds_le : ∀ r : Fs, r.kds.length <= r.pre.length
  | .nil => Nat.le_refl _
  | .cons _ k r => by have := kds_le r; have := pre_pos k; simp only [Fs.kds, Fs.pre, List.length_cons, List.length_append]; omega
end
theorem within_eq {k : Kd} (h : k.wd) (hs : k.pre.length <= 4000) : ∃ as, F_within [.v k.ds] = some (.f (k.pre.map Kd.ds), as) := by
  obtain ⟨x', fx, w⟩ := wi_v k.ds k h [] [] .un trivial (by simp only [List.length_nil]; omega) (by simp only [List.length_nil]; omega)
  have w1 := w (WF - k.pre.length - 1 + 1)
  rw [show k.pre.length + (WF - k.pre.length - 1 + 1) = WF by unfold WF; omega] at w1
  unfold wS at w1
  rw [while_end (own_false (i := 2) (by rfl)), List.nil_append, List.nil_append] at w1
  unfold bodyS at w1
  unfold F_within mkF g_within
  show ∃ as, (yB _ _ [.v k.ds, .un, .un, .un]).bind _ = _
  rw [yK (r' := [.v k.ds, .o [], .un, .un]) (by rfl), yK (r' := [.v k.ds, .o [], .o [k.ds], .un]) (by rfl), yK w1]
  exact ⟨_, rfl⟩
mutual
theorem Kd.ok_wd {S : Sp} : ∀ k : Kd, k.ok S -> k.wd
  | .num, _ => trivial
  | .var _, _ => trivial
  | .fn a b, h => ⟨a.ok_wd h.1, b.ok_wd h.2⟩
  | .rw _ fs _, h => ⟨by rw [<- labs_len]; exact h.2.2.2.1, fs.ok_wd h.1⟩
theorem Fs.ok_wd {S : Sp} : ∀ fs : Fs, fs.ok S -> fs.wd
  | .nil, _ => trivial
  | .cons _ k r, h => ⟨k.ok_wd h.2.1, r.ok_wd h.2.2⟩
end
theorem pops : ∀ (l w S : List D) (x : Sl), fre x -> w.length = l.length -> ∃ x', fre x' /\ compXL (yJ 1) (mPop 0) l [.p (S ++ w.reverse), x] = some (w, [.p S, x'])
  | [], [], S, x, hx, _ => ⟨x, hx, by simp [compXL]⟩
  | [], _ :: _, _, _, _, h => by cases h
  | _ :: _, [], _, _, _, h => by cases h
  | d :: l, y :: w, S, x, hx, h => by
    obtain ⟨x', fx, ih⟩ := pops l w S (.v d) trivial (by simpa using h)
    refine ⟨x', fx, ?_⟩
    unfold compXL
    rw [yE (x := x) rfl hx, Option.bind_some]
    have e : mPop 0 [.p (S ++ (y :: w).reverse), .v d] = some (y, [.p (S ++ w.reverse), .v d]) := by
      rw [List.reverse_cons, <- List.append_assoc]
      unfold mPop mtOf putO
      show (some (S ++ w.reverse ++ [y])).bind _ = _
      rw [Option.bind_some, List.length_append]
      simp
    show (mPop 0 [.p (S ++ (y :: w).reverse), .v d]).bind _ = _
    rw [e, Option.bind_some, ih]; rfl
noncomputable def bodyB : MS := (yB (sSetX 4 (mCompX 2 2 (mIt (zX 1 yI (zA (zB 3) zK))) (yJ 1) (mPop 0)))
 (sX (mApp 2 (zX 3 F_rebuilt (zA (zB 3) (zA (zB 4) (zA (zB 1) zK)))))))
section
variable {fv : Int -> Option D} {fr : Int -> Option (List Fd × D)} {S : Sp} {ks : List Key} {l : List D}
theorem bl_step (F : Fil S ks l fv fr) {k : Kd} (ok : k.ok S) (E : D) (T : List D) (x y : Sl) (hx : fre x) (hy : fre y) (hT : T.length <= 5000) (rest : List D) :
    forL (yJ 3) bodyB (k.ds :: rest) [.v E, .v (.dct ks l), .o (T ++ (k.kids.map (Kd.fl fv fr)).reverse), x, y] = forL (yJ 3) bodyB rest [.v E, .v (.dct ks l), .o (T ++ [k.fl fv fr]), .v k.ds, .v (.lst (k.kids.map (Kd.fl fv fr)))] := by
  have hl := kids_len (k.ok_wd ok)
  let w : List D := k.kids.map (Kd.fl fv fr)
  let R1 : En := [.v E, .v (.dct ks l), .o (T ++ w.reverse), .v k.ds, y]
  let R2 : En := [.v E, .v (.dct ks l), .o T, .v k.ds, .v (.lst w)]
  have cc : zX 1 yI (zA (zB 3) zK) R1 = some (.lst (k.kids.map Kd.ds)) := yO (p := .v (.lst (k.kids.map Kd.ds))) (zF rfl zS) rfl (straight_eq (by omega))
  obtain ⟨x', fx, pe⟩ := pops (k.kids.map Kd.ds) w T .un trivial (by show (k.kids.map _).length = _; rw [List.length_map, List.length_map])
  have cx : mCompX 2 2 (mIt (zX 1 yI (zA (zB 3) zK))) (yJ 1) (mPop 0) R1 = some (.lst w, [.v E, .v (.dct ks l), .o T, .v k.ds, y]) := by
    unfold mCompX
    rw [show mIt (zX 1 yI (zA (zB 3) zK)) R1 = some (k.kids.map Kd.ds) by unfold mIt; rw [cc]; rfl, Option.bind_some]
    show (some (T ++ w.reverse)).bind _ = _
    rw [Option.bind_some, if_pos (by rw [List.length_map]; exact Nat.lt_of_le_of_lt hl (by decide))]
    show (compXL (yJ 1) (mPop 0) (k.kids.map Kd.ds) [.p (T ++ w.reverse), .un]).bind _ = _
    rw [pe]; rfl
  have b : bodyB R1 = some (.nx [.v E, .v (.dct ks l), .o (T ++ [k.fl fv fr]), .v k.ds, .v (.lst w)]) := by
    unfold bodyB
    refine (yK (r' := R2) (sSetX_of cx (yE (x := y) rfl hy))).trans ?_
    exact sX_of (d := .non) (app_of (S := T) rfl (yO (p := .v (k.fl fv fr)) (zF rfl (zF rfl (zF rfl zS))) rfl (rebuilt_eq F ok)) (Nat.lt_of_le_of_lt hT (by decide)))
  exact for_go (r1 := R1) (yE (x := x) rfl hx) b
mutual
theorem bl_v (F : Fil S ks l fv fr) (E : D) : ∀ (k : Kd), k.ok S -> ∀ (T : List D) (x y : Sl), fre x -> fre y -> T.length + k.pre.length <= 5000 -> ∃ x' y', fre x' /\ fre y' /\ ∀ rest, forL (yJ 3) bodyB (k.pre.reverse.map Kd.ds ++ rest) [.v E, .v (.dct ks l), .o T, x, y] = forL (yJ 3) bodyB rest [.v E, .v (.dct ks l), .o (T ++ [k.fl fv fr]), x', y']
  | .num, ok, T, x, y, hx, hy, hT => ⟨.v Kd.num.ds, .v (.lst (Kd.num.kids.map (Kd.fl fv fr))), trivial, trivial, fun rest => by
    have := bl_step F (k := .num) ok E T x y hx hy (by omega) rest
    simp only [Kd.kids, List.map_nil, List.reverse_nil, List.append_nil] at this
    exact this⟩
  | .var n, ok, T, x, y, hx, hy, hT => ⟨.v (Kd.var n).ds, .v (.lst ((Kd.var n).kids.map (Kd.fl fv fr))), trivial, trivial, fun rest => by
    have := bl_step F (k := .var n) ok E T x y hx hy (by omega) rest
    simp only [Kd.kids, List.map_nil, List.reverse_nil, List.append_nil] at this
    exact this⟩
  | .fn a b, ok, T, x, y, hx, hy, hT => by
    simp only [Kd.pre, List.length_cons, List.length_append] at hT
    have pa := pre_pos a
    obtain ⟨x1, y1, f1, g1, e1⟩ := bl_v F E b ok.2 T x y hx hy (by omega)
    obtain ⟨x2, y2, f2, g2, e2⟩ := bl_v F E a ok.1 (T ++ [b.fl fv fr]) x1 y1 f1 g1 (by rw [List.length_append]; simp only [List.length_cons, List.length_nil]; omega)
    refine ⟨.v (Kd.fn a b).ds, .v (.lst ((Kd.fn a b).kids.map (Kd.fl fv fr))), trivial, trivial, fun rest => ?_⟩
    have st := bl_step F (k := .fn a b) ok E T x2 y2 f2 g2 (by omega) rest
    rw [show (Kd.fn a b).pre.reverse.map Kd.ds ++ rest = b.pre.reverse.map Kd.ds ++ (a.pre.reverse.map Kd.ds ++ ((Kd.fn a b).ds :: rest)) by simp [Kd.pre]]
    rw [e1, e2]
    rw [show T ++ [b.fl fv fr] ++ [a.fl fv fr] = T ++ ((Kd.fn a b).kids.map (Kd.fl fv fr)).reverse by simp [Kd.kids]]
    exact st
  | .rw o fs tl, ok, T, x, y, hx, hy, hT => by
    simp only [Kd.pre, List.length_cons] at hT
    obtain ⟨x1, y1, f1, g1, e1⟩ := bl_f F E fs ok.1 T x y hx hy (by omega)
    refine ⟨.v (Kd.rw o fs tl).ds, .v (.lst ((Kd.rw o fs tl).kids.map (Kd.fl fv fr))), trivial, trivial, fun rest => ?_⟩
    have st := bl_step F (k := .rw o fs tl) ok E T x1 y1 f1 g1 (by omega) rest
    rw [show (Kd.rw o fs tl).pre.reverse.map Kd.ds ++ rest = fs.pre.reverse.map Kd.ds ++ ((Kd.rw o fs tl).ds :: rest) by simp [Kd.pre]]
    rw [e1]
    exact st
theorem bl_f (F : Fil S ks l fv fr) (E : D) : ∀ (fs : Fs), fs.ok S -> ∀ (T : List D) (x y : Sl), fre x -> fre y -> T.length + fs.pre.length <= 5000 -> ∃ x' y', fre x' /\ fre y' /\ ∀ rest, forL (yJ 3) bodyB (fs.pre.reverse.map Kd.ds ++ rest) [.v E, .v (.dct ks l), .o T, x, y] = forL (yJ 3) bodyB rest [.v E, .v (.dct ks l), .o (T ++ (fs.kds.map (Kd.fl fv fr)).reverse), x', y']
  | .nil, ok, T, x, y, hx, hy, hT => ⟨x, y, hx, hy, fun rest => by simp [Fs.pre, Fs.kds]⟩
  | .cons l' k r, ok, T, x, y, hx, hy, hT => by
    simp only [Fs.pre, List.length_append] at hT
    have hk := kds_le r
    obtain ⟨x1, y1, f1, g1, e1⟩ := bl_f F E r ok.2.2 T x y hx hy (by omega)
    obtain ⟨x2, y2, f2, g2, e2⟩ := bl_v F E k ok.2.1 (T ++ (r.kds.map (Kd.fl fv fr)).reverse) x1 y1 f1 g1 (by rw [List.length_append, List.length_reverse, List.length_map]; omega)
    refine ⟨x2, y2, f2, g2, fun rest => ?_⟩
    rw [show (Fs.cons l' k r).pre.reverse.map Kd.ds ++ rest = r.pre.reverse.map Kd.ds ++ (k.pre.reverse.map Kd.ds ++ rest) by simp [Fs.pre], e1, e2]
    simp [Fs.kds]
end
theorem built_eq (F : Fil S ks l fv fr) {k : Kd} (ok : k.ok S) (hs : k.pre.length <= 4000) : ∃ as, F_built [.v (.lst (k.pre.map Kd.ds)), .v (.dct ks l)] = some (.v (k.fl fv fr), as) := by
  let E : D := .lst (k.pre.map Kd.ds)
  obtain ⟨x', y', fx, fy, lp⟩ := bl_v F E k ok [] .un .un trivial trivial (by simp only [List.length_nil]; omega)
  have lp := lp []
  rw [List.append_nil, List.nil_append] at lp
  let R : En := [.v E, .v (.dct ks l), .o [k.fl fv fr], x', y']
  have fe : sFor (yJ 3) (mIt (mUn revD (zB 0))) bodyB [.v E, .v (.dct ks l), .o [], .un, .un] = some (.nx R) := by
    unfold sFor
    rw [show mIt (mUn revD (zB 0)) [.v E, .v (.dct ks l), .o [], .un, .un] = some (k.pre.reverse.map Kd.ds) by
      show some ((k.pre.map Kd.ds).reverse) = _
      rw [List.map_reverse], Option.bind_some]
    exact lp
  unfold bodyB at fe
  refine mk_rt (r' := R) ?_
  show g_built [.v E, .v (.dct ks l), .un, .un, .un] = _
  unfold g_built
  exact (yK (r' := [.v E, .v (.dct ks l), .o [], .un, .un]) rfl).trans ((yK fe).trans (ret_of rfl))
theorem filled_eq (F : Fil S ks l fv fr) {k : Kd} (ok : k.ok S) (hs : k.pre.length <= 4000) : ∃ as, yG [.v k.ds, .v (.dct ks l)] = some (.v (k.fl fv fr), as) := by
  let R : En := [.v k.ds, .v (.dct ks l)]
  refine mk_rt (r' := R) ?_
  show g_filled R = _
  unfold g_filled
  obtain ⟨as, ew⟩ := within_eq (k.ok_wd ok) hs
  have cf : mOfF (mCallF 1 F_within (zA (zB 0) zK)) R = some (.lst (k.pre.map Kd.ds)) := by
    have a0 : zA (zB 0) zK R = some [k.ds] := zF rfl zS
    unfold mOfF mCallF
    rw [a0, Option.bind_some, if_pos (show ([k.ds] : List D).length = 1 from rfl), show F_within (([k.ds] : List D).map Sl.v) = some (.f (k.pre.map Kd.ds), as) from ew]; rfl
  exact ret_of (yO (p := .v (k.fl fv fr)) (zF cf (zF rfl zS)) rfl (built_eq F ok hs))
end
theorem big_eq {r : En} : zD yQ (zD powD (mC (.int 10)) (mC (.int 30))) (mC (.int 57)) r = some (.int 1000000000000000000000000000057) := by rfl
theorem mulB_of {f g : ME} {r : En} {i j : Int} (e1 : f r = some (.int i)) (e2 : g r = some (.int j)) (h : i.natAbs < 2 ^ 1000 /\ j.natAbs < 2 ^ 1000) : zD mulB f g r = some (.int (i * j)) := zO e1 e2 (if_pos h)
theorem small1000 {n : Nat} (h : n < 2 ^ 200) : n < 2 ^ 1000 := Nat.lt_of_lt_of_le h (by decide +kernel)
theorem mixed_eq (c : Int) {k : Int} (h0 : 0 <= k) (h1 : k <= 1000) : ∃ n : Int, 0 <= n /\ ∃ as, F__law_mixed [.v (.int c), .v (.int k)] = some (.v (.int n), as) := by
  let B : Int := 1000000000000000000000000000057
  let m1 : Int := c % B * 271828182845904523536028747135
  let m2 : Int := m1 + k * k * 314159265358979323846264338327
  have hb : 0 <= c % B /\ c % B < B := ⟨Int.emod_nonneg _ (by decide), Int.emod_lt_of_pos _ (by decide)⟩
  have hcb : (c % B).natAbs < 2 ^ 200 := by have h2 : c % B < 1000000000000000000000000000057 := hb.2; omega
  have hkk : 0 <= k * k /\ k * k <= 1000000 := ⟨Int.mul_nonneg h0 h0, by
    have := Int.mul_le_mul h1 h1 h0 (by omega)
    omega⟩
  refine ⟨(m2 + 577215664901532860606512090082) % B, Int.emod_nonneg _ (by decide), mk_rt (r' := [.v (.int c), .v (.int k), .v (.int B), .v (.int m2)]) ?_⟩
  show g__law_mixed [.v (.int c), .v (.int k), .un, .un] = _
  unfold g__law_mixed
  refine seq_set (r2 := [.v (.int c), .v (.int k), .v (.int B), .un]) (.int B) big_eq rfl ?_
  refine seq_set (r2 := [.v (.int c), .v (.int k), .v (.int B), .v (.int m1)]) (.int m1) (mulB_of (mod_of (i := c) (j := B) rfl rfl (by decide)) zI ⟨small1000 hcb, small1000 (by decide)⟩) rfl ?_
  refine seq_set (r2 := [.v (.int c), .v (.int k), .v (.int B), .v (.int m2)]) (.int m2) (add_of rfl (mulB_of (mul_of (i := k) (j := k) rfl rfl (by omega)) zI ⟨small1000 (by omega), small1000 (by decide)⟩)) rfl ?_
  exact ret_of (mod_of (add_of rfl zI) rfl (by decide))
theorem cell_eq (ns : List Int) (k : Nat) : ∃ as, F__law_cell_at [.v (.lst (ns.map D.int)), .v (.int (k : Int))] = some (.v (.int (ns.getD k 0)), as) := by
  let R : En := [.v (.lst (ns.map D.int)), .v (.int (k : Int))]
  refine mk_rt (r' := R) ?_
  show g__law_cell_at R = _
  unfold g__law_cell_at
  have c0 : mBl (zD ltA (zB 1) (mUn lenD (zB 0))) R = some (decide (k < ns.length)) := (bl_of (zO (x := .int (k : Int)) (y := .int (ns.length : Int)) (d := .bl (decide ((k : Int) < (ns.length : Int)))) rfl (un_of (x := .lst (ns.map D.int)) rfl (by show some (D.int ((ns.map D.int).length : Int)) = _; rw [List.length_map])) rfl)).trans (by congr 1; rw [decide_eq_decide]; omega)
  by_cases h : k < ns.length
  · refine seq_tt (c0.trans (by rw [decide_eq_true h])) (ret_of (zO (x := .lst (ns.map D.int)) rfl rfl ?_))
    rw [List.getD_eq_getElem?_getD, List.getElem?_eq_getElem h]
    exact yC (by simp [h])
  · refine seq_ff (c0.trans (by rw [decide_eq_false h])) (ret_of ?_)
    rw [List.getD_eq_getElem?_getD, List.getElem?_eq_none (by omega)]; rfl
noncomputable def kept : Ws := [[100, 101, 102], [102, 110], [100, 111], [101, 109, 112, 116, 121], [103, 101, 116], [119, 105, 116, 104], [112, 117, 116], [108, 101, 115, 115], [116, 97, 103], [119, 105, 100, 101], [99, 97, 115, 101], [110, 101, 118, 101, 114], [105, 102]]
theorem kept_noq : ∀ u ∈ kept, 113 ∉ u /\ 2 <= u.length /\ u.length <= 5 := by decide
theorem kept_one : ∀ u ∈ kept, ∀ v ∈ kept, u.length = v.length -> ∀ p, p < 5 -> u.take p = v.take p -> u.drop (p + 1) = v.drop (p + 1) -> u = v := by decide +kernel
noncomputable def red (w : List Nat) : List Nat := if w ∈ kept then List.replicate w.length 113 else w
theorem red_len (w : List Nat) : (red w).length = w.length := by
  unfold red; split
  · rw [List.length_replicate]
  · rfl
theorem red_low {w : List Nat} (h : ∀ c ∈ w, 97 <= c /\ c <= 122) : ∀ c ∈ red w, 97 <= c /\ c <= 122 := fun c hc => by
  unfold red at hc; split at hc
  · rw [(List.mem_replicate.mp hc).2]; decide
  · exact h c hc
noncomputable def wat (B : List Nat) (pl lg s : Nat) : List Nat := B.take pl ++ [s] ++ (B.take lg).drop (pl + 1)
theorem wat_parts {B : List Nat} {pl lg : Nat} (h8 : B.length = 8) (h1 : pl < lg) (h2 : lg <= 8) (s : Nat) : (wat B pl lg s).length = lg /\ (wat B pl lg s).take pl = B.take pl /\ (wat B pl lg s).drop (pl + 1) = (B.take lg).drop (pl + 1) := by
  have l1 : (B.take pl).length = pl := by rw [List.length_take]; omega
  have l2 : (B.take pl ++ [s]).length = pl + 1 := by rw [List.length_append, l1]; rfl
  unfold wat
  refine ⟨?_, ?_, ?_⟩
  · rw [List.length_append, l2, List.length_drop, List.length_take]; omega
  · rw [List.append_assoc, List.take_left' l1]
  · rw [List.drop_left' l2]
theorem wat_inj {B : List Nat} {pl lg s s' : Nat} (e : wat B pl lg s = wat B pl lg s') : s = s' := by
  unfold wat at e
  have := (List.append_inj e (by simp)).1
  have := (List.append_inj this rfl).2
  exact (List.cons.inj this).1
theorem one_kept {B : List Nat} {pl lg s s' : Nat} (h8 : B.length = 8) (h1 : pl < lg) (h2 : lg <= 8) (hk : wat B pl lg s ∈ kept) (e : List.replicate lg 113 = wat B pl lg s') : False := by
  have n := kept_noq _ hk
  have p := wat_parts h8 h1 h2 s
  have p' := wat_parts h8 h1 h2 s'
  rw [p.1] at n
  have all : ∀ x ∈ wat B pl lg s', x = 113 := fun x hx => by rw [<- e] at hx; exact (List.mem_replicate.mp hx).2
  rcases Nat.eq_zero_or_pos pl with z | z
  · subst z
    have hne : ((B.take lg).drop 1) ≠ [] := List.ne_nil_of_length_pos (by rw [List.length_drop, List.length_take]; omega)
    obtain ⟨x, hx⟩ := List.exists_mem_of_ne_nil _ hne
    have := all x (by unfold wat; exact List.mem_append_right _ hx)
    subst this
    exact n.1 (by unfold wat; exact List.mem_append_right _ hx)
  · have hne : B.take pl ≠ [] := List.ne_nil_of_length_pos (by rw [List.length_take]; omega)
    obtain ⟨x, hx⟩ := List.exists_mem_of_ne_nil _ hne
    have := all x (by unfold wat; exact List.mem_append_left _ (List.mem_append_left _ hx))
    subst this
    exact n.1 (by unfold wat; exact List.mem_append_left _ (List.mem_append_left _ hx))
theorem red_wat {B : List Nat} {pl lg s s' : Nat} (h8 : B.length = 8) (h1 : pl < lg) (h2 : lg <= 8) (hs : s ≠ s') : red (wat B pl lg s) ≠ red (wat B pl lg s') := fun e => by
  have p := wat_parts h8 h1 h2 s
  have p' := wat_parts h8 h1 h2 s'
  unfold red at e
  rw [p.1, p'.1] at e
  by_cases c : wat B pl lg s ∈ kept
  · rw [if_pos c] at e
    by_cases c' : wat B pl lg s' ∈ kept
    · have n := kept_noq _ c
      rw [p.1] at n
      exact hs (wat_inj (kept_one _ c _ c' (by rw [p.1, p'.1]) pl (by omega) (by rw [p.2.1, p'.2.1]) (by rw [p.2.2, p'.2.2])))
    · rw [if_neg c'] at e
      exact one_kept h8 h1 h2 c e
  · rw [if_neg c] at e
    by_cases c' : wat B pl lg s' ∈ kept
    · rw [if_pos c'] at e
      exact one_kept h8 h1 h2 c' e.symm
    · rw [if_neg c'] at e
      exact hs (wat_inj e)
noncomputable def ltr : List Nat := [97, 98, 99, 100, 101, 102, 103, 104, 105, 106, 107, 108, 109, 110, 111, 112, 113, 114, 115, 116, 117, 118, 119, 120, 121, 122]
theorem ltr_at : ∀ i, i < 26 -> ltr[i]? = some (97 + i) := by decide
theorem modnn (a : Int) : 0 <= a % 26 /\ a % 26 < 26 := ⟨Int.emod_nonneg _ (by decide), Int.emod_lt_of_pos _ (by decide)⟩
noncomputable def chr (a : Int) : Nat := 97 + (a % 26).toNat
theorem chr_ok (a : Int) : 97 <= chr a /\ chr a <= 122 := by have := modnn a; unfold chr; omega
theorem chr_of {f g : ME} {r : En} {a : Int} (e1 : f r = some (.str ltr)) (e2 : g r = some (.int a)) : zD ixD f (zD yL g (mC (.int 26))) r = some (.str [chr a]) := by
  have q := modnn a
  refine zO e1 (y := .int ((a % 26).toNat : Int)) ?_ ?_
  · rw [Int.toNat_of_nonneg q.1]; exact mod_of e2 zI (by decide)
  · show (if ltr.length <= sizeLine then (atI ltr ((a % 26).toNat : Int)).map (fun c => D.str [c]) else none) = _
    rw [if_pos (Nat.le_trans (by decide : ltr.length <= 100) (by decide)), yC (ltr_at _ (by omega))]; rfl
noncomputable def body1 : MS := (yB (sSet 6 (zD yQ (zB 6) (zD ixD (zB 1) (zD yL (zB 5) (mC (.int 26))))))
 (sSet 5 (zD yU (zB 5) (mC (.int 26)))))
theorem base_loop (N KT LG PL : D) : ∀ (l : List D) (t : List Nat) (q : Int) (x : Sl), fre x -> t.length + l.length <= 50 -> ∃ (t' : List Nat) (q' : Int) (x' : Sl), fre x' /\ t'.length = l.length /\ (∀ c ∈ t', 97 <= c /\ c <= 122) /\
    forL (yJ 7) body1 l [.v N, .v (.str ltr), .v KT, .v LG, .v PL, .v (.int q), .v (.str t), x, .un, .un, .un] = some (.nx [.v N, .v (.str ltr), .v KT, .v LG, .v PL, .v (.int q'), .v (.str (t ++ t')), x', .un, .un, .un])
  | [], t, q, x, hx, _ => ⟨[], q, x, hx, rfl, by simp, by simp [forL]⟩
  | d :: l, t, q, x, hx, h => by
    rw [List.length_cons] at h
    obtain ⟨t', q', x', fx, hl, hc, ih⟩ := base_loop N KT LG PL l (t ++ [chr q]) (q / 26) (.v d) trivial (by rw [List.length_append]; simp only [List.length_cons, List.length_nil]; omega)
    refine ⟨chr q :: t', q', x', fx, by rw [List.length_cons, List.length_cons, hl], fun c h => ?_, ?_⟩
    · (rcases List.mem_cons.mp h with rfl | h)
      · exact chr_ok q
      · exact hc c h
    · let R : En := [.v N, .v (.str ltr), .v KT, .v LG, .v PL, .v (.int q), .v (.str t), .v d, .un, .un, .un]
      let R2 : En := [.v N, .v (.str ltr), .v KT, .v LG, .v PL, .v (.int q), .v (.str (t ++ [chr q])), .v d, .un, .un, .un]
      let R3 : En := [.v N, .v (.str ltr), .v KT, .v LG, .v PL, .v (.int (q / 26)), .v (.str (t ++ [chr q])), .v d, .un, .un, .un]
      have b : body1 R = some (.nx R3) := by
        unfold body1
        refine (yK (r' := R2) (sSet_of (zO (x := .str t) rfl (chr_of rfl rfl) (str_add (by show _ + 1 <= _; omega))) rfl)).trans ?_
        exact sSet_of (fdiv_of (i := q) rfl zI (by decide)) rfl
      rw [for_go (r1 := R) (yE (x := x) rfl hx) b, ih, List.append_assoc]; rfl
noncomputable def word (B : List Nat) (pl lg : Nat) (q : Int) (k : Nat) : List Nat := if q / 26 % 4 = 1 then B.take (8 - k) else wat B pl lg (chr (q + 5 * (k : Int)))
noncomputable def body2 : MS := (yB (sSet 9 (zD ixD (zB 1) (zD yL (zD yQ (zB 5) (zD mulD (mC (.int 5)) (zB 7))) (mC (.int 26)))))
 (yB (sSet 10 (zD yQ (zD yQ (mSl (zB 6) oNone (oSome (zB 4))) (zB 9)) (mSl (zB 6) (oSome (zD yQ (zB 4) (mC (.int 1)))) (oSome (zB 3)))))
 (yB (sIf (mBl (zD eqA (zD yL (zD yU (zB 5) (mC (.int 26))) (mC (.int 4))) (mC (.int 1))))
 (sSet 10 (mSl (zB 6) oNone (oSome (zD subD (mC (.int 8)) (zB 7)))))
 sSkip)
 (yB (sIf (mBl (zD (inD false) (zB 10) (zB 2)))
 (sSet 10 (zD mulS (mC (.str [113])) (mUn lenD (zB 10))))
 sSkip)
 (sX (mApp 8 (zB 10)))))))
theorem any_eq (t : List Nat) : ∀ ss : Ws, ((ss.map D.str).any fun z => eqF z (.str t)) = decide (t ∈ ss)
  | [] => by simp
  | x :: ss => by
    rw [List.map_cons, List.any_cons, any_eq t ss]
    show (decide (x = t) || decide (t ∈ ss)) = _
    by_cases c : x = t
    · subst c; simp
    · have c' : ¬ t = x := fun e => c e.symm
      simp [c, c']
theorem in_of {w : List Nat} {l : Ws} : inD false (.str w) (.lst (dw l)) = some (.bl (decide (w ∈ l))) := by
  show (if flatD (.str w) = true /\ (l.map D.str).all flatD = true then some (D.bl ((l.map D.str).any fun z => eqF z (.str w))) else none) = _
  rw [if_pos ⟨rfl, by rw [List.all_map, List.all_eq_true]; exact fun _ _ => rfl⟩, any_eq]
theorem len_str {s : List Nat} (h : s.length <= 100) : lenD (.str s) = some (.int (s.length : Int)) := if_pos (Nat.le_trans h (by decide))
theorem sl_str {f : ME} {lo hi : MO} {r : En} {s : List Nat} {a b : Option Int} (e1 : f r = some (.str s)) (e2 : lo r = some a) (e3 : hi r = some b) (h : s.length <= 100) : mSl f lo hi r = some (.str (cutL s a b)) := sl_of e1 e2 e3 (if_pos (Nat.le_trans h (by decide)))
theorem word_len {B : List Nat} (h8 : B.length = 8) {pl lg : Nat} (h1 : pl < lg) (h2 : lg <= 8) (q : Int) (k : Nat) : (word B pl lg q k).length <= 8 := by
  unfold word; split
  · rw [List.length_take]; omega
  · rw [(wat_parts h8 h1 h2 _).1]; exact h2
theorem lab_loop (N : D) {B : List Nat} (h8 : B.length = 8) {pl lg : Nat} (h1 : pl < lg) (h2 : lg <= 8) (q : Int) : ∀ (n s : Nat) (Fd : List D) (x y z : Sl), fre x -> fre y -> fre z -> s + n <= 6 -> Fd.length + n <= 50 ->
    ∃ x' y' z', forL (yJ 7) body2 ((List.range' s n).map fun j => D.int ((0 : Int) + (j : Nat))) [.v N, .v (.str ltr), .v (.lst (dw kept)), .v (.int (lg : Int)), .v (.int (pl : Int)), .v (.int q), .v (.str B), x, .o Fd, y, z] = some (.nx [.v N, .v (.str ltr), .v (.lst (dw kept)), .v (.int (lg : Int)), .v (.int (pl : Int)), .v (.int q), .v (.str B), x', .o (Fd ++ (List.range' s n).map fun k => D.str (red (word B pl lg q k))), y', z'])
  | 0, s, Fd, x, y, z, _, _, _, _, _ => ⟨x, y, z, by simp [forL]⟩
  | n + 1, s, Fd, x, y, z, hx, hy, hz, hs, hF => by
    let w := word B pl lg q s
    have wl : w.length <= 8 := word_len h8 h1 h2 q s
    obtain ⟨x', y', z', ih⟩ := lab_loop N h8 h1 h2 q n (s + 1) (Fd ++ [.str (red w)]) (.v (.int (s : Int))) (.v (.str [chr (q + 5 * (s : Int))])) (.v (.str (red w))) trivial trivial trivial (by omega) (by rw [List.length_append]; simp only [List.length_cons, List.length_nil]; omega)
    refine ⟨x', y', z', ?_⟩
    rw [List.range'_succ, List.map_cons, List.map_cons, Int.zero_add]
    let fr' : Sl -> Sl -> Sl -> En := fun y z o => [.v N, .v (.str ltr), .v (.lst (dw kept)), .v (.int (lg : Int)), .v (.int (pl : Int)), .v (.int q), .v (.str B), .v (.int (s : Int)), o, y, z]
    let sg : List Nat := [chr (q + 5 * (s : Int))]
    let w0 := wat B pl lg (chr (q + 5 * (s : Int)))
    have e9 : zD ixD (zB 1) (zD yL (zD yQ (zB 5) (zD mulD (mC (.int 5)) (zB 7))) (mC (.int 26))) (fr' y z (.o Fd)) = some (.str sg) := chr_of rfl (add_of rfl (mul_of zI rfl (by omega)))
    have e10 : zD yQ (zD yQ (mSl (zB 6) oNone (oSome (zB 4))) (zB 9)) (mSl (zB 6) (oSome (zD yQ (zB 4) (mC (.int 1)))) (oSome (zB 3))) (fr' (.v (.str sg)) z (.o Fd)) = some (.str w0) := by
      have a1 : mSl (zB 6) oNone (oSome (zB 4)) (fr' (.v (.str sg)) z (.o Fd)) = some (.str (B.take pl)) := by
        rw [<- cut_to B pl]
        exact sl_str rfl rfl (osome_of rfl) (by omega)
      have a2 : mSl (zB 6) (oSome (zD yQ (zB 4) (mC (.int 1)))) (oSome (zB 3)) (fr' (.v (.str sg)) z (.o Fd)) = some (.str ((B.take lg).drop (pl + 1))) := by
        rw [<- cut_mid B (pl + 1) lg, Int.natCast_add]
        exact sl_str rfl (osome_of (add_of rfl zI)) (osome_of rfl) (by omega)
      exact zO (zO a1 rfl (str_add (by rw [List.length_take]; show _ + 1 <= _; omega))) a2 (str_add (by rw [List.length_append, List.length_drop, List.length_take, List.length_take]; show _ + 1 + _ <= _; omega))
    have c1 : mBl (zD eqA (zD yL (zD yU (zB 5) (mC (.int 26))) (mC (.int 4))) (mC (.int 1))) (fr' (.v (.str sg)) (.v (.str w0)) (.o Fd)) = some (decide (q / 26 % 4 = 1)) := bl_of (zO (mod_of (fdiv_of (i := q) rfl zI (by decide)) zI (by decide)) zI rfl)
    have i1 : sIf (mBl (zD eqA (zD yL (zD yU (zB 5) (mC (.int 26))) (mC (.int 4))) (mC (.int 1)))) (sSet 10 (mSl (zB 6) oNone (oSome (zD subD (mC (.int 8)) (zB 7))))) sSkip (fr' (.v (.str sg)) (.v (.str w0)) (.o Fd)) = some (.nx (fr' (.v (.str sg)) (.v (.str w)) (.o Fd))) := by
      by_cases h : q / 26 % 4 = 1
      · rw [sIf_t (c1.trans (by rw [decide_eq_true h]))]
        have ew : w = B.take (8 - s) := if_pos h
        rw [ew]
        refine sSet_of (d := .str (B.take (8 - s))) ?_ rfl
        rw [<- cut_to B (8 - s)]
        refine sl_str rfl rfl (osome_of ?_) (by omega)
        rw [show ((8 - s : Nat) : Int) = 8 - (s : Int) by omega]
        exact sub_of zI rfl
      · have ew : w = w0 := if_neg h
        rw [sIf_f (c1.trans (by rw [decide_eq_false h])), ew]; rfl
    have c2 : mBl (zD (inD false) (zB 10) (zB 2)) (fr' (.v (.str sg)) (.v (.str w)) (.o Fd)) = some (decide (w ∈ kept)) := bl_of (zO (x := .str w) (y := .lst (dw kept)) rfl rfl in_of)
    have i2 : sIf (mBl (zD (inD false) (zB 10) (zB 2))) (sSet 10 (zD mulS (mC (.str [113])) (mUn lenD (zB 10)))) sSkip (fr' (.v (.str sg)) (.v (.str w)) (.o Fd)) = some (.nx (fr' (.v (.str sg)) (.v (.str (red w))) (.o Fd))) := by
      by_cases h : w ∈ kept
      · rw [sIf_t (c2.trans (by rw [decide_eq_true h]))]
        have ew : red w = List.replicate w.length 113 := if_pos h
        rw [ew]
        refine sSet_of (d := .str (List.replicate w.length 113)) (zO zI (un_of (x := .str w) rfl (len_str (by omega))) ?_) rfl
        show (if (0 : Int) <= (w.length : Int) /\ (w.length : Int) <= 1000 then some (D.str (List.replicate (w.length : Int).toNat 113)) else none) = _
        rw [if_pos ⟨by omega, by omega⟩, Int.toNat_natCast]
      · have ew : red w = w := if_neg h
        rw [sIf_f (c2.trans (by rw [decide_eq_false h])), ew]; rfl
    have b : body2 (fr' y z (.o Fd)) = some (.nx (fr' (.v (.str sg)) (.v (.str (red w))) (.o (Fd ++ [.str (red w)])))) := by
      unfold body2
      refine (yK (r' := fr' (.v (.str sg)) z (.o Fd)) (sSet_of e9 (yE (x := y) rfl hy))).trans ((yK (r' := fr' (.v (.str sg)) (.v (.str w0)) (.o Fd)) (sSet_of e10 (yE (x := z) rfl hz))).trans ((yK i1).trans ((yK i2).trans ?_)))
      exact sX_of (d := .non) (app_of rfl rfl (Nat.lt_of_le_of_lt (by omega : Fd.length <= 50) (by decide)))
    refine (for_go (r1 := fr' y z (.o Fd)) (yE (x := x) rfl hx) b).trans (ih.trans ?_)
    simp [w]
structure LbOk (L : Ws) : Prop where
  len : L.length = 6
  nd : L.Nodup
  low : ∀ l ∈ L, ∀ c ∈ l, 97 <= c /\ c <= 122
theorem labels_eq (n : Int) : ∃ L, LbOk L /\ ∃ as, F__law_labels [.v (.int n)] = some (.f (dw L), as) := by
  have q8 : 0 <= n % 8 /\ n % 8 < 8 := ⟨Int.emod_nonneg _ (by decide), Int.emod_lt_of_pos _ (by decide)⟩
  obtain ⟨lg, elg⟩ : ∃ z : Nat, (z : Int) = 1 + n % 8 := ⟨(1 + n % 8).toNat, Int.toNat_of_nonneg (by omega)⟩
  have qp : 0 <= n / 8 % (lg : Int) /\ n / 8 % (lg : Int) < lg := ⟨Int.emod_nonneg _ (by omega), Int.emod_lt_of_pos _ (by omega)⟩
  obtain ⟨pl, epl⟩ : ∃ z : Nat, (z : Int) = n / 8 % (lg : Int) := ⟨(n / 8 % (lg : Int)).toNat, Int.toNat_of_nonneg qp.1⟩
  have h1 : pl < lg := by omega
  have h2 : lg <= 8 := by omega
  let rg : List D := (List.range 8).map fun k => .int ((0 : Int) + (k : Nat))
  obtain ⟨B, q, x1, fx1, hB, cB, lp1⟩ := base_loop (.int n) (.lst (dw kept)) (.int (lg : Int)) (.int (pl : Int)) rg [] (n / 64) .un trivial (by show 0 + 8 <= 50; decide)
  have h8 : B.length = 8 := by rw [hB]; rfl
  rw [List.nil_append] at lp1
  obtain ⟨x2, y2, z2, lp2⟩ := lab_loop (.int n) h8 h1 h2 q 6 0 [] x1 .un .un fx1 trivial trivial (by decide) (by decide)
  rw [List.nil_append] at lp2
  let L : Ws := (List.range' 0 6).map fun k => red (word B pl lg q k)
  have eL : ((List.range' 0 6).map fun k => D.str (red (word B pl lg q k))) = dw L := by show _ = L.map D.str; rw [List.map_map]; rfl
  rw [eL] at lp2
  have m6 : ∀ {i : Nat}, i ∈ List.range' 0 6 -> i < 6 := fun {i} h => by rw [List.mem_range'_1] at h; omega
  refine ⟨L, ⟨by rw [List.length_map, List.length_range'], ?_, fun l hl c hc => ?_⟩, ?_⟩
  · show List.Pairwise _ _
    rw [List.pairwise_map]
    refine List.Pairwise.imp_of_mem (R := fun i j => i < j) (fun {i j} hi hj hij e => ?_) List.pairwise_lt_range'
    have hi := m6 hi
    have hj := m6 hj
    unfold word at e
    by_cases c : q / 26 % 4 = 1
    · rw [if_pos c, if_pos c] at e
      have := congrArg List.length e
      rw [red_len, red_len, List.length_take, List.length_take] at this
      omega
    · rw [if_neg c, if_neg c] at e
      refine red_wat h8 h1 h2 (fun z => ?_) e
      unfold chr at z
      have a := modnn (q + 5 * (i : Int))
      have b := modnn (q + 5 * (j : Int))
      omega
  · obtain ⟨k, hk, rfl⟩ := List.mem_map.mp hl
    refine red_low (fun c hc => ?_) c hc
    unfold word at hc
    split at hc
    · exact cB c (List.mem_of_mem_take hc)
    · unfold wat at hc
      (rcases List.mem_append.mp hc with hc | hc)
      · rcases List.mem_append.mp hc with hc | hc
        · exact cB c (List.mem_of_mem_take hc)
        · rw [List.mem_singleton.mp hc]; exact chr_ok _
      · exact cB c (List.mem_of_mem_take (List.mem_of_mem_drop hc))
  · let K0 : D := .lst (dw kept)
    let R0 : En := [.v (.int n), .un, .un, .un, .un, .un, .un, .un, .un, .un, .un]
    let R1 : En := [.v (.int n), .v (.str ltr), .un, .un, .un, .un, .un, .un, .un, .un, .un]
    let R2 : En := [.v (.int n), .v (.str ltr), .v K0, .un, .un, .un, .un, .un, .un, .un, .un]
    let R3 : En := [.v (.int n), .v (.str ltr), .v K0, .v (.int (lg : Int)), .un, .un, .un, .un, .un, .un, .un]
    let R4 : En := [.v (.int n), .v (.str ltr), .v K0, .v (.int (lg : Int)), .v (.int (pl : Int)), .un, .un, .un, .un, .un, .un]
    let R5 : En := [.v (.int n), .v (.str ltr), .v K0, .v (.int (lg : Int)), .v (.int (pl : Int)), .v (.int (n / 64)), .un, .un, .un, .un, .un]
    let R6 : En := [.v (.int n), .v (.str ltr), .v K0, .v (.int (lg : Int)), .v (.int (pl : Int)), .v (.int (n / 64)), .v (.str []), .un, .un, .un, .un]
    let R7 : En := [.v (.int n), .v (.str ltr), .v K0, .v (.int (lg : Int)), .v (.int (pl : Int)), .v (.int q), .v (.str B), x1, .un, .un, .un]
    let R8 : En := [.v (.int n), .v (.str ltr), .v K0, .v (.int (lg : Int)), .v (.int (pl : Int)), .v (.int q), .v (.str B), x1, .o [], .un, .un]
    have f1 : sFor (yJ 7) (mRng1 (mC (.int 8))) body1 R6 = some (.nx R7) := by
      unfold sFor
      rw [rng_of (n := 8) rfl (by decide), Option.bind_some]
      exact lp1
    have f2 : sFor (yJ 7) (mRng1 (mC (.int 6))) body2 R8 = some (.nx [.v (.int n), .v (.str ltr), .v K0, .v (.int (lg : Int)), .v (.int (pl : Int)), .v (.int q), .v (.str B), x2, .o (dw L), y2, z2]) := by
      unfold sFor
      rw [rng_of (n := 6) rfl (by decide), Option.bind_some, List.range_eq_range']
      exact lp2
    unfold body1 at f1
    unfold body2 at f2
    have e : g__law_labels R0 = some (.rf (dw L) [.v (.int n), .v (.str ltr), .v K0, .v (.int (lg : Int)), .v (.int (pl : Int)), .v (.int q), .v (.str B), x2, .o (dw L), y2, z2]) := by
      unfold g__law_labels
      refine seq_set (r2 := R1) (.str ltr) zI rfl (seq_set (r2 := R2) K0 rfl rfl (seq_set (r2 := R3) (.int (lg : Int)) (by rw [elg]; exact add_of zI (mod_of rfl zI (by decide))) rfl ?_))
      refine seq_set (r2 := R4) (.int (pl : Int)) (by rw [epl]; exact mod_of (fdiv_of rfl zI (by decide)) rfl (by omega)) rfl ?_
      refine seq_set (r2 := R5) (.int (n / 64)) (fdiv_of rfl zI (by decide)) rfl (seq_set (r2 := R6) (.str []) zI rfl ?_)
      exact (yK f1).trans ((yK (r' := R8) rfl).trans ((yK f2).trans rfl))
    unfold F__law_labels mkF
    show ∃ as, (g__law_labels R0).bind _ = _
    rw [e]
    exact ⟨_, rfl⟩
structure Ly (n : Nat) (d : D) : Prop where
  ok : okD d = true
  can : PyData.canLay0 (toP d) = true
  dp : PyData.depth (toP d) <= n
theorem Ly.mono {n m : Nat} {d : D} (h : Ly n d) (hn : n <= m) : Ly m d := ⟨h.ok, h.can, Nat.le_trans h.dp hn⟩
theorem Ly.lay {n m : Nat} {d : D} (h : Ly n d) (hn : n <= m) : layN m d = true := by
  unfold layN
  rw [h.ok, h.can, decide_eq_true (Nat.le_trans h.dp hn)]; rfl
theorem ly_int (i : Int) : Ly 0 (.int i) := ⟨rfl, rfl, by simp [toP, PyData.depth]⟩
theorem ly_non : Ly 0 .non := ⟨rfl, rfl, by simp [toP, PyData.depth]⟩
theorem ly_str {s : List Nat} (h : ∀ c ∈ s, 97 <= c /\ c <= 122) : Ly 0 (.str s) := by
  refine ⟨rfl, ?_, by simp [toP, PyData.depth]⟩
  show PyData.strOk ⟨s.toArray⟩ = true
  unfold PyData.strOk
  rw [Array.all_eq_true_iff_forall_mem]
  intro c hc
  have := h c (by simpa using hc)
  simp only [decide_eq_true_eq]
  omega
theorem ly_all {n : Nat} : ∀ l : List D, (∀ d ∈ l, Ly n d) -> okDs l = true /\ PyData.canLayAll0 (toPs l) = true /\ PyData.depthAll (toPs l) <= n
  | [], _ => ⟨rfl, rfl, by simp [toPs, PyData.depthAll]⟩
  | d :: l, h => by
    obtain ⟨a, b, c⟩ := ly_all l fun e he => h e (by simp [he])
    have hd := h d (by simp)
    refine ⟨by simp only [okDs, hd.ok, a, Bool.and_true], by simp only [toPs, PyData.canLayAll0, hd.can, b, Bool.and_true], ?_⟩
    simp only [toPs, PyData.depthAll]
    have := hd.dp
    omega
theorem ly_tup {n : Nat} {l : List D} (h : ∀ d ∈ l, Ly n d) : Ly (n + 1) (.tup l) := by
  obtain ⟨a, b, c⟩ := ly_all l h
  refine ⟨a, b, ?_⟩
  simp only [toP, PyData.depth]
  omega
theorem ly1 {n : Nat} {a : D} (ha : Ly n a) : Ly (n + 1) (.tup [a]) := ly_tup fun d h => by rw [List.mem_singleton.mp h]; exact ha
theorem ly2 {n : Nat} {a b : D} (ha : Ly n a) (hb : Ly n b) : Ly (n + 1) (.tup [a, b]) := ly_tup fun d h => by
  (rcases List.mem_cons.mp h with rfl | h)
  · exact ha
  · rw [List.mem_singleton.mp h]; exact hb
theorem ly3 {n : Nat} {a b c : D} (ha : Ly n a) (hb : Ly n b) (hc : Ly n c) : Ly (n + 1) (.tup [a, b, c]) := ly_tup fun d h => by
  (rcases List.mem_cons.mp h with rfl | h)
  · exact ha
  · (rcases List.mem_cons.mp h with rfl | h)
    · exact hb
    · rw [List.mem_singleton.mp h]; exact hc
theorem ly_word (o : Bool) : Ly 0 (.str (wrd o)) := by cases o <;> exact ly_str (by decide)
theorem ly_num : Ly 1 (.tup [.str sNum]) := ly1 (ly_str (by decide))
theorem ly_var (i : Int) : Ly 1 (.tup [.str sVar, .int i]) := ly2 (ly_str (by decide)) (ly_int i)
noncomputable def LyF (n : Nat) (P : List Fd) : Prop := ∀ p ∈ P, (∀ c ∈ p.1, 97 <= c /\ c <= 122) /\ Ly n p.2
theorem ly_row {n : Nat} {P : List Fd} {t : D} (h : LyF n P) (ht : Ly 0 t) : Ly (n + 3) (rowD P t) := by
  refine ly3 ((ly_str (by decide)).mono (Nat.zero_le _)) (ly_tup fun d hd => ?_) (ht.mono (Nat.zero_le _))
  obtain ⟨p, hp, rfl⟩ := List.mem_map.mp hd
  exact ly2 ((ly_str (h p hp).1).mono (Nat.zero_le _)) (h p hp).2
theorem ly_fun {n : Nat} {a b : D} (ha : Ly n a) (hb : Ly n b) : Ly (n + 1) (.tup [.str sFun, a, b]) := ly3 ((ly_str (by decide)).mono (Nat.zero_le _)) ha hb
theorem pick3 {a b c : D} {P : D -> Prop} (ha : P a) (hb : P b) (hc : P c) : ∀ i, i < 3 -> ∃ d, P d /\ ([a, b, c] : List D)[i]? = some d
  | 0, _ => ⟨a, ha, rfl⟩
  | 1, _ => ⟨b, hb, rfl⟩
  | 2, _ => ⟨c, hc, rfl⟩
  | i + 3, h => absurd h (by omega)
theorem pick_of {f g h k : ME} {r : En} {a b c : D} {n : Int} {P : D -> Prop} (e1 : f r = some a) (e2 : g r = some b) (e3 : h r = some c) (e4 : k r = some (.int n)) (ha : P a) (hb : P b) (hc : P c) : ∃ d, P d /\ zD ixD (mOfF (yR (zA f (zA g (zA h zK))))) (zD yL k (mC (.int 3))) r = some d := by
  have q : 0 <= n % 3 /\ n % 3 < 3 := ⟨Int.emod_nonneg _ (by decide), Int.emod_lt_of_pos _ (by decide)⟩
  obtain ⟨d, hd, e⟩ := pick3 ha hb hc (n % 3).toNat (by omega)
  refine ⟨d, hd, zO (y := .int ((n % 3).toNat : Int)) (lstF_of (zF e1 (zF e2 (zF e3 zS))) (by show 3 <= 100; decide)) ?_ (yC e)⟩
  rw [Int.toNat_of_nonneg q.1]; exact mod_of e4 zI (by decide)
theorem getD_mem {L : Ws} {i : Nat} (h : i < L.length) : L.getD i [] ∈ L := by
  rw [List.getD_eq_getElem?_getD, List.getElem?_eq_getElem h]; exact List.getElem_mem h
theorem getD_inj {L : Ws} (nd : L.Nodup) {i j : Nat} (hi : i < L.length) (hj : j < L.length) (hij : i ≠ j) : L.getD i [] ≠ L.getD j [] := by
  have e : ∀ {i : Nat} (hl : i < L.length), L.getD i [] = L[i] := fun hl => by rw [List.getD_eq_getElem?_getD, List.getElem?_eq_getElem hl]; rfl
  rw [e hi, e hj]
  rcases Nat.lt_or_gt_of_ne hij with z | z
  · exact List.pairwise_iff_getElem.mp nd i j hi hj z
  · exact fun q => List.pairwise_iff_getElem.mp nd j i hj hi z q.symm
mutual
noncomputable def Kd.dp : Kd -> Nat
  | .num => 0
  | .var _ => 0
  | .fn a b => max a.dp b.dp + 1
  | .rw _ fs _ => fs.dp + 1
noncomputable def Fs.dp : Fs -> Nat
  | .nil => 0
  | .cons _ k r => max k.dp r.dp
end
theorem pop_p {i : Nat} {r : En} {S : List D} {d : D} (e : r[i]? = some (.p (S ++ [d]))) : mPop i r = some (d, r.set i (.p S)) := by
  simp [mPop, mtOf, e, Sl.ml, putO]
theorem app_p {i : Nat} {f : ME} {r : En} {S : List D} {d : D} (e : r[i]? = some (.p S)) (e2 : f r = some d) (h : S.length < sizeLine) : mApp i f r = some (.non, r.set i (.p (S ++ [d]))) := by
  simp [mApp, mtOf, e, Sl.ml, putO, e2, h]
noncomputable abbrev Fk := List Nat × Kd
noncomputable def toFs : List Fk -> Fs
  | [] => .nil
  | p :: r => .cons p.1 p.2 (toFs r)
noncomputable def leU (a b : Fk) : Bool := !decide (b.1 < a.1)
noncomputable def srtU (U : List Fk) : List Fk := U.mergeSort leU
theorem yF (U : List Fk) : (srtU U).Perm U := List.mergeSort_perm U leU
theorem srtU_up (U : List Fk) : (srtU U).Pairwise fun a b => a.1 <= b.1 := by
  have iff : ∀ a b : Fk, leU a b = true ↔ a.1 <= b.1 := fun a b => by
    unfold leU
    rw [Bool.not_eq_true', decide_eq_false_iff_not]
    exact Iff.rfl
  exact (List.pairwise_mergeSort (le := leU) (fun a b c h1 h2 => (iff a c).mpr (List.le_trans ((iff a b).mp h1) ((iff b c).mp h2))) (fun a b => by
    rw [Bool.or_eq_true]
    exact (List.le_total a.1 b.1).imp (iff a b).mpr (iff b a).mpr) U).imp fun {a b} z => (iff a b).mp z
theorem srt_map (g : Kd -> D) {U : List Fk} (nd : (U.map (·.1)).Nodup) : srtD (U.map fun p => (p.1, g p.2)) = (srtU U).map fun p => (p.1, g p.2) := by
  have e : ∀ V : List Fk, (V.map fun p => ((p.1, g p.2) : Fd)).map (·.1) = V.map (·.1) := fun V => by rw [List.map_map]; rfl
  refine up_uniq ?_ ((srtD_perm _).trans ((yF U).symm.map _)) (srtD_up _) ?_
  · exact ((srtD_perm _).map _).nodup_iff.mpr (by rw [e]; exact nd)
  · rw [List.pairwise_map]; exact srtU_up U
theorem toFs_ds : ∀ U : List Fk, (toFs U).ds = (U.map fun p => ((p.1, p.2.ds) : Fd)).map fdd
  | [] => rfl
  | p :: r => by simp only [toFs, Fs.ds, List.map_cons, toFs_ds r, fdd]
theorem toFs_labs : ∀ U : List Fk, (toFs U).labs = U.map (·.1)
  | [] => rfl
  | p :: r => by simp only [toFs, Fs.labs, List.map_cons, toFs_labs r]
theorem toFs_ok {S : Sp} : ∀ U : List Fk, (∀ p ∈ U, S.A p.1 /\ p.2.ok S) -> (toFs U).ok S
  | [], _ => trivial
  | p :: r, h => ⟨(h p (by simp)).1, (h p (by simp)).2, toFs_ok r fun q hq => h q (by simp [hq])⟩
theorem toFs_dp {n : Nat} : ∀ U : List Fk, (∀ p ∈ U, p.2.dp <= n) -> (toFs U).dp <= n
  | [], _ => Nat.zero_le _
  | p :: r, h => Nat.max_le.mpr ⟨h p (by simp), toFs_dp r fun q hq => h q (by simp [hq])⟩
noncomputable def szs (P : List Kd) : Nat := (P.map fun k => k.pre.length).sum
theorem toFs_pre : ∀ U : List Fk, (toFs U).pre.length = szs (U.map (·.2))
  | [] => rfl
  | p :: r => by
    have := toFs_pre r
    simp only [toFs, Fs.pre, List.length_append, szs, List.map_cons, List.sum_cons] at this ⊢
    omega
theorem szs_perm {P Q : List Kd} (h : P.Perm Q) : szs P = szs Q := (h.map _).sum_nat
theorem appX_of {i : Nat} {f : En -> Option (D × En)} {r0 r1 : En} {l0 l : List D} {d : D} (e0 : mtOf r0 i = some l0) (e : f r0 = some (d, r1)) (e1 : r1[i]? = some (.p l)) (h : l.length < sizeLine) : mAppX i f r0 = some (.non, r1.set i (.p (l ++ [d]))) := by
  unfold mAppX
  rw [e, Option.bind_some, e0, Option.bind_some]
  simp [mtOf, e1, Sl.ml, putO, h]
theorem tl_ly (tl : Option Int) : Ly 0 (tlD tl) := by cases tl <;> first | exact ly_non | exact ly_int _
mutual
theorem Kd.ly {S : Sp} (low : ∀ l, S.A l -> ∀ c ∈ l, 97 <= c /\ c <= 122) : ∀ k : Kd, k.ok S -> Ly (4 * k.dp + 1) k.ds
  | .num, _ => ly_num
  | .var n, _ => ly_var n
  | .fn x y, h => (ly_fun ((x.ly low h.1).mono (m := 4 * max x.dp y.dp + 1) (by omega)) ((y.ly low h.2).mono (by omega))).mono (by simp only [Kd.dp]; omega)
  | .rw o fs tl, h => by
    refine (ly2 (n := 4 * fs.dp + 4) ((ly_word o).mono (Nat.zero_le _)) (ly3 ((ly_str (by decide)).mono (Nat.zero_le _)) (ly_tup (n := 4 * fs.dp + 2) fun d hd => fs.ly low h.1 d hd) ((tl_ly tl).mono (Nat.zero_le _)))).mono (by simp only [Kd.dp]; omega)
theorem Fs.ly {S : Sp} (low : ∀ l, S.A l -> ∀ c ∈ l, 97 <= c /\ c <= 122) : ∀ fs : Fs, fs.ok S -> ∀ d ∈ fs.ds, Ly (4 * fs.dp + 2) d
  | .nil, _, d, hd => by cases hd
  | .cons l k r, h, d, hd => by
    simp only [Fs.dp]
    (rcases List.mem_cons.mp hd with rfl | hd)
    · exact (ly2 (n := 4 * k.dp + 1) ((ly_str (low l h.1)).mono (Nat.zero_le _)) (k.ly low h.2.1)).mono (by omega)
    · exact (r.ly low h.2.2 d hd).mono (by omega)
end
theorem key_injU {P : List Fk} (nd : (P.map (·.1)).Nodup) {a b : Fk} (ha : a ∈ P) (hb : b ∈ P) (e : a.1 = b.1) : a = b := by
  obtain ⟨i, hi, rfl⟩ := List.getElem_of_mem ha
  (obtain ⟨j, hj, rfl⟩ := List.getElem_of_mem hb)
  rcases Nat.lt_trichotomy i j with z | z | z
  · exact absurd (by rw [List.getElem_map, List.getElem_map]; exact e) (List.pairwise_iff_getElem.mp nd i j (by simpa using hi) (by simpa using hj) z)
  · subst z; rfl
  · exact absurd (by rw [List.getElem_map, List.getElem_map]; exact e.symm) (List.pairwise_iff_getElem.mp nd j i (by simpa using hj) (by simpa using hi) z)
theorem up_uniqU {P Q : List Fk} (nd : (P.map (·.1)).Nodup) (pq : P.Perm Q) (hp : P.Pairwise fun a b => a.1 <= b.1) (hq : Q.Pairwise fun a b => a.1 <= b.1) : P = Q :=
  List.Perm.eq_of_pairwise (le := fun a b : Fk => a.1 <= b.1) (fun a b ha hb x y => key_injU nd ha (pq.mem_iff.mpr hb) (List.le_antisymm x y)) hp hq pq
theorem srtU_of_perm {P Q : List Fk} (nd : (P.map (·.1)).Nodup) (pq : P.Perm Q) : srtU P = srtU Q :=
  up_uniqU (((yF P).map _).nodup_iff.mpr nd) ((yF P).trans (pq.trans (yF Q).symm)) (srtU_up P) (srtU_up Q)
theorem srtU_id {P : List Fk} (nd : (P.map (·.1)).Nodup) (h : P.Pairwise fun a b => a.1 <= b.1) : srtU P = P :=
  up_uniqU (((yF P).map _).nodup_iff.mpr nd) (yF P) (srtU_up P) h
noncomputable abbrev FV := Int -> Option Kd
noncomputable abbrev FR := Int -> Option (List Fk × Option Int)
noncomputable def brg (fr : FR) (tl : Option Int) : List Fk × Option Int := (tl.bind fr).getD ([], tl)
section
variable (fv : FV) (fr : FR)
mutual
noncomputable def Kd.fk : Kd -> Kd
  | .num => .num
  | .var n => (fv n).getD (.var n)
  | .fn a b => .fn a.fk b.fk
  | .rw o fs tl => .rw o (toFs (srtU (fs.fk ++ (brg fr tl).1))) (brg fr tl).2
noncomputable def Fs.fk : Fs -> List Fk
  | .nil => []
  | .cons l k r => (l, k.fk) :: r.fk
end
end
noncomputable def fdK (p : Fk) : Fd := (p.1, p.2.ds)
noncomputable def fvD (fv : FV) : Int -> Option D := fun n => (fv n).map Kd.ds
noncomputable def frD (fr : FR) : Int -> Option (List Fd × D) := fun n => (fr n).map fun q => (q.1.map fdK, tlD q.2)
theorem brg_D (fr : FR) (tl : Option Int) : bring (frD fr) tl = ((brg fr tl).1.map fdK, tlD (brg fr tl).2) := by
  unfold bring brg frD
  cases tl with
  | none => rfl
  | some t =>
    show (((fr t).map _)).getD _ = _
    rw [Option.bind_some]
    cases fr t <;> rfl
section
variable {fv : FV} {fr : FR}
theorem fk_labs : ∀ fs : Fs, (fs.fk fv fr).map (·.1) = fs.labs
  | .nil => rfl
  | .cons _ _ r => by simp only [Fs.fk, Fs.labs, List.map_cons, fk_labs r]
structure Brg (S : Sp) (fr : FR) : Prop where
  nd : ∀ t q, fr t = some q -> (q.1.map (·.1)).Nodup /\ ∀ p ∈ q.1, S.B p.1
theorem brg_ok {S : Sp} (F : Brg S fr) (tl : Option Int) : ((brg fr tl).1.map (·.1)).Nodup /\ ∀ p ∈ (brg fr tl).1, S.B p.1 := by
  unfold brg
  cases e : tl.bind fr with
  | none => exact ⟨List.nodup_nil, by simp⟩
  | some q =>
    cases tl with
    | none => cases e
    | some t => exact F.nd t q e
theorem brg_nd {S : Sp} (F : Brg S fr) {fs : Fs} {P : List Fk} (hP : P.map (·.1) = fs.labs) (ok : fs.ok S) (nd : fs.labs.Nodup) (tl : Option Int) : ((P ++ (brg fr tl).1).map (·.1)).Nodup := by
  have b := brg_ok F tl
  rw [List.map_append, hP]
  refine List.nodup_append.mpr ⟨nd, b.1, fun x hx y hy e => ?_⟩
  subst e
  obtain ⟨p, hp, rfl⟩ := List.mem_map.mp hy
  exact S.ap _ (labs_A fs ok _ hx) (b.2 p hp)
mutual
theorem Kd.fk_ds {S : Sp} (F : Brg S fr) : ∀ k : Kd, k.ok S -> (k.fk fv fr).ds = k.fl (fvD fv) (frD fr)
  | .num, _ => rfl
  | .var n, _ => by
    show ((fv n).getD (.var n)).ds = ((fv n).map Kd.ds).getD _
    cases fv n <;> rfl
  | .fn a b, h => by
    show D.tup [.str sFun, (a.fk fv fr).ds, (b.fk fv fr).ds] = .tup [.str sFun, a.fl _ _, b.fl _ _]
    rw [a.fk_ds F h.1, b.fk_ds F h.2]
  | .rw o fs tl, h => by
    show D.tup [.str (wrd o), .tup [.str sRow, .tup (toFs (srtU (fs.fk fv fr ++ (brg fr tl).1))).ds, tlD (brg fr tl).2]] = .tup [.str (wrd o), rowD (srtD (fs.fl (fvD fv) (frD fr) ++ (bring (frD fr) tl).1)) (bring (frD fr) tl).2]
    have e := srt_map Kd.ds (brg_nd (P := fs.fk fv fr) F (fk_labs fs) h.1 h.2.1 tl)
    rw [brg_D, <- fs.fk_ds F h.1]
    show _ = D.tup [.str (wrd o), .tup [.str sRow, .tup ((srtD ((fs.fk fv fr).map fdK ++ (brg fr tl).1.map fdK)).map fdd), tlD (brg fr tl).2]]
    rw [<- List.map_append, toFs_ds]
    unfold fdK
    rw [e]
theorem Fs.fk_ds {S : Sp} (F : Brg S fr) : ∀ fs : Fs, fs.ok S -> (fs.fk fv fr).map fdK = fs.fl (fvD fv) (frD fr)
  | .nil, _ => rfl
  | .cons l k r, h => by
    show fdK (l, k.fk fv fr) :: (r.fk fv fr).map fdK = (l, k.fl _ _) :: r.fl _ _
    rw [r.fk_ds F h.2.2]
    unfold fdK
    rw [k.fk_ds F h.2.1]
end
end
theorem toFs_fk (fv : FV) (fr : FR) : ∀ U : List Fk, (toFs U).fk fv fr = U.map fun p => (p.1, p.2.fk fv fr)
  | [] => rfl
  | p :: r => by simp only [toFs, Fs.fk, List.map_cons, toFs_fk fv fr r]
noncomputable def two (v1 : FV) (v2 : FV) (r2 : FR) : FV := fun n => match v1 n with
  | some k => some (k.fk v2 r2)
  | none => v2 n
noncomputable def twoR (r1 : FR) (v2 : FV) (r2 : FR) : FR := fun n => match r1 n with
  | some q => some (srtU ((q.1.map fun p => (p.1, p.2.fk v2 r2)) ++ (brg r2 q.2).1), (brg r2 q.2).2)
  | none => r2 n
section
variable {v1 v2 : FV} {r1 r2 : FR}
theorem nd3 {A B C : Ws} (a : A.Nodup) (b : B.Nodup) (c : C.Nodup) (ab : ∀ x ∈ A, x ∉ B) (ac : ∀ x ∈ A, x ∉ C) (bc : ∀ x ∈ B, x ∉ C) : (A ++ B ++ C).Nodup := by
  refine List.nodup_append.mpr ⟨List.nodup_append.mpr ⟨a, b, fun x hx y hy e => ab x hx (e ▸ hy)⟩, c, fun x hx y hy e => ?_⟩
  subst e
  (rcases List.mem_append.mp hx with hx | hx)
  · exact ac x hx hy
  · exact bc x hx hy
theorem row_two {A B1 B2 : List Nat -> Prop} {W : List Fk} (wn : (W.map (·.1)).Nodup) (wa : ∀ p ∈ W, A p.1) (ab : ∀ l, A l -> ¬ B1 l) (ac : ∀ l, A l -> ¬ B2 l) (bc : ∀ l, B1 l -> ¬ B2 l)
    (h1 : ∀ t q, r1 t = some q -> (q.1.map (·.1)).Nodup /\ ∀ p ∈ q.1, B1 p.1) (h2 : ∀ t q, r2 t = some q -> (q.1.map (·.1)).Nodup /\ ∀ p ∈ q.1, B2 p.1) (tl : Option Int) :
    srtU ((srtU (W ++ (brg r1 tl).1)).map (fun p => ((p.1, p.2.fk v2 r2) : Fk)) ++ (brg r2 (brg r1 tl).2).1) = srtU (W.map (fun p => ((p.1, p.2.fk v2 r2) : Fk)) ++ (brg (twoR r1 v2 r2) tl).1) /\ (brg r2 (brg r1 tl).2).2 = (brg (twoR r1 v2 r2) tl).2 := by
  let g : Fk -> Fk := fun p => (p.1, p.2.fk v2 r2)
  have gl : ∀ V : List Fk, (V.map g).map (·.1) = V.map (·.1) := fun V => by rw [List.map_map]; rfl
  have b1 : ((brg r1 tl).1.map (·.1)).Nodup /\ ∀ p ∈ (brg r1 tl).1, B1 p.1 := brg_ok (S := ⟨fun _ => True, fun _ => True, fun _ => False, B1, fun _ h => h.elim⟩) ⟨h1⟩ tl
  have b2 : ((brg r2 (brg r1 tl).2).1.map (·.1)).Nodup /\ ∀ p ∈ (brg r2 (brg r1 tl).2).1, B2 p.1 := brg_ok (S := ⟨fun _ => True, fun _ => True, fun _ => False, B2, fun _ h => h.elim⟩) ⟨h2⟩ (brg r1 tl).2
  generalize e1 : brg r1 tl = q1 at *
  generalize e2 : brg r2 q1.2 = q2 at *
  have nn : ((((W ++ q1.1).map g) ++ q2.1).map (·.1)).Nodup := by
    rw [List.map_append, gl, List.map_append]
    refine nd3 wn b1.1 b2.1 (fun x hx hy => ?_) (fun x hx hy => ?_) (fun x hx hy => ?_)
    · obtain ⟨p, hp, rfl⟩ := List.mem_map.mp hx
      obtain ⟨p', hp', e⟩ := List.mem_map.mp hy
      exact ab _ (wa p hp) (e ▸ b1.2 p' hp')
    · obtain ⟨p, hp, rfl⟩ := List.mem_map.mp hx
      obtain ⟨p', hp', e⟩ := List.mem_map.mp hy
      exact ac _ (wa p hp) (e ▸ b2.2 p' hp')
    · obtain ⟨p, hp, rfl⟩ := List.mem_map.mp hx
      obtain ⟨p', hp', e⟩ := List.mem_map.mp hy
      exact bc _ (b1.2 p hp) (e ▸ b2.2 p' hp')
  have pp : ((srtU (W ++ q1.1)).map g ++ q2.1).Perm ((W ++ q1.1).map g ++ q2.1) := ((yF _).map g).append_right _
  have key : brg (twoR r1 v2 r2) tl = (srtU (q1.1.map g ++ q2.1), q2.2) \/ (q1.1 = [] /\ brg (twoR r1 v2 r2) tl = q2) := by
    cases tl with
    | none =>
      right
      subst e1
      exact ⟨rfl, e2⟩
    | some t =>
      cases er : r1 t with
      | none =>
        have : q1 = ([], some t) := by rw [<- e1]; unfold brg; rw [Option.bind_some, er]; rfl
        right
        refine ⟨by rw [this], ?_⟩
        rw [<- e2, this]
        unfold brg
        rw [Option.bind_some]
        show (twoR r1 v2 r2 t).getD _ = ((some t).bind r2).getD _
        unfold twoR
        rw [er]; rfl
      | some q =>
        have : q1 = q := by rw [<- e1]; unfold brg; rw [Option.bind_some, er]; rfl
        subst this
        left
        unfold brg
        rw [Option.bind_some]
        unfold twoR
        rw [er]
        show (srtU (q1.1.map g ++ (brg r2 q1.2).1), (brg r2 q1.2).2) = _
        rw [e2]
  have done : ∀ Z : List Fk, Z.Perm (q1.1.map g ++ q2.1) -> srtU ((srtU (W ++ q1.1)).map g ++ q2.1) = srtU (W.map g ++ Z) := fun Z hZ => by
    refine srtU_of_perm ((pp.map _).nodup_iff.mpr nn) (pp.trans ?_)
    rw [List.map_append, List.append_assoc]
    exact (hZ.symm).append_left _
  rcases key with k | ⟨k1, k2⟩
  · rw [k]; exact ⟨done _ (yF _), rfl⟩
  · rw [k2]; exact ⟨done _ (by rw [k1]; exact List.Perm.refl _), rfl⟩
mutual
theorem Kd.fk_fk {S : Sp} {B1 B2 : List Nat -> Prop} (ab : ∀ l, S.A l -> ¬ B1 l) (ac : ∀ l, S.A l -> ¬ B2 l) (bc : ∀ l, B1 l -> ¬ B2 l) (h1 : ∀ t q, r1 t = some q -> (q.1.map (·.1)).Nodup /\ ∀ p ∈ q.1, B1 p.1) (h2 : ∀ t q, r2 t = some q -> (q.1.map (·.1)).Nodup /\ ∀ p ∈ q.1, B2 p.1) : ∀ k : Kd, k.ok S -> (k.fk v1 r1).fk v2 r2 = k.fk (two v1 v2 r2) (twoR r1 v2 r2)
  | .num, _ => rfl
  | .var n, _ => by
    show ((v1 n).getD (.var n)).fk v2 r2 = (two v1 v2 r2 n).getD (.var n)
    unfold two
    cases v1 n <;> rfl
  | .fn a b, h => by
    show Kd.fn ((a.fk v1 r1).fk v2 r2) ((b.fk v1 r1).fk v2 r2) = .fn (a.fk _ _) (b.fk _ _)
    rw [a.fk_fk ab ac bc h1 h2 h.1, b.fk_fk ab ac bc h1 h2 h.2]
  | .rw o fs tl, h => by
    have ef := fs.fk_fk ab ac bc h1 h2 h.1
    obtain ⟨x, y⟩ := row_two (v2 := v2) (W := fs.fk v1 r1) (A := S.A) (by rw [fk_labs]; exact h.2.1) (fun p hp => labs_A fs h.1 p.1 (by rw [<- fk_labs (fv := v1) (fr := r1)]; exact List.mem_map_of_mem hp)) ab ac bc h1 h2 tl
    show Kd.rw o (toFs (srtU ((toFs (srtU (fs.fk v1 r1 ++ (brg r1 tl).1))).fk v2 r2 ++ (brg r2 (brg r1 tl).2).1))) (brg r2 (brg r1 tl).2).2 = .rw o (toFs (srtU (fs.fk (two v1 v2 r2) (twoR r1 v2 r2) ++ (brg (twoR r1 v2 r2) tl).1))) (brg (twoR r1 v2 r2) tl).2
    rw [toFs_fk, x, y, ef]
theorem Fs.fk_fk {S : Sp} {B1 B2 : List Nat -> Prop} (ab : ∀ l, S.A l -> ¬ B1 l) (ac : ∀ l, S.A l -> ¬ B2 l) (bc : ∀ l, B1 l -> ¬ B2 l) (h1 : ∀ t q, r1 t = some q -> (q.1.map (·.1)).Nodup /\ ∀ p ∈ q.1, B1 p.1) (h2 : ∀ t q, r2 t = some q -> (q.1.map (·.1)).Nodup /\ ∀ p ∈ q.1, B2 p.1) : ∀ fs : Fs, fs.ok S -> (fs.fk v1 r1).map (fun p => ((p.1, p.2.fk v2 r2) : Fk)) = fs.fk (two v1 v2 r2) (twoR r1 v2 r2)
  | .nil, _ => rfl
  | .cons l k r, h => by
    show (l, (k.fk v1 r1).fk v2 r2) :: (r.fk v1 r1).map _ = (l, k.fk _ _) :: r.fk _ _
    rw [k.fk_fk ab ac bc h1 h2 h.2.1, r.fk_fk ab ac bc h1 h2 h.2.2]
end
end
theorem nd_len : ∀ {l L : Ws}, l.Nodup -> (∀ x ∈ l, x ∈ L) -> l.length <= L.length
  | [], L, _, _ => Nat.zero_le _
  | x :: l, L, nd, h => by
    rw [List.nodup_cons] at nd
    have hx := h x (by simp)
    have := nd_len (l := l) (L := L.erase x) nd.2 fun y hy => (List.mem_erase_of_ne (fun e => nd.1 (by rw [<- e]; exact hy) : y ≠ x)).mpr (h y (by simp [hy]))
    rw [List.length_erase_of_mem hx] at this
    have := List.length_pos_of_mem hx
    rw [List.length_cons]; omega
structure Fok (S S' : Sp) (fv : FV) (fr : FR) : Prop where
  vr : ∀ n, S.Vr n -> S'.Vr n
  tr : ∀ n, S.Tr n -> S'.Tr n
  a : ∀ l, S.A l -> S'.A l
  b : ∀ l, S.B l -> S'.A l
  v : ∀ n k, fv n = some k -> k.ok S'
  r : ∀ t q, fr t = some q -> (∀ p ∈ q.1, p.2.ok S') /\ ∀ u, q.2 = some u -> S'.Tr u
  g : Brg S fr
  few : ∀ l : Ws, l.Nodup -> (∀ x ∈ l, S'.A x) -> l.length <= 8
section
variable {fv : FV} {fr : FR} {S S' : Sp}
theorem brg_r {P : List Fk × Option Int -> Prop} (h0 : ∀ tl, P ([], tl)) (h : ∀ t q, fr t = some q -> P q) (tl : Option Int) : P (brg fr tl) := by
  unfold brg
  cases e : tl.bind fr with
  | none => exact h0 tl
  | some q =>
    cases tl with
    | none => cases e
    | some t => exact h t q e
theorem brg_t (F : Fok S S' fv fr) {tl : Option Int} (ht : ∀ t, tl = some t -> S.Tr t) : ∀ u, (brg fr tl).2 = some u -> S'.Tr u := by
  intro u
  unfold brg
  cases tl with
  | none => exact fun e => by cases e
  | some t =>
    rw [Option.bind_some]
    cases e : fr t with
    | none =>
      intro z
      have z' : t = u := Option.some.inj z
      rw [<- z']
      exact F.tr t (ht t rfl)
    | some q => exact fun z => (F.r t q e).2 u z
mutual
theorem Kd.fk_ok (F : Fok S S' fv fr) : ∀ k : Kd, k.ok S -> (k.fk fv fr).ok S'
  | .num, _ => trivial
  | .var n, h => by
    show ((fv n).getD (.var n)).ok S'
    cases e : fv n with
    | none => exact F.vr n h
    | some k => exact F.v n k e
  | .fn a b, h => ⟨a.fk_ok F h.1, b.fk_ok F h.2⟩
  | .rw o fs tl, h => by
    have hf := fs.fk_ok F h.1
    have nd := brg_nd (P := fs.fk fv fr) F.g (fk_labs fs) h.1 h.2.1 tl
    have hG : ∀ p ∈ (brg fr tl).1, S'.A p.1 /\ p.2.ok S' := fun p hp => ⟨F.b _ ((brg_ok F.g tl).2 p hp), brg_r (fr := fr) (P := fun q => ∀ p ∈ q.1, p.2.ok S') (fun _ p hp => by cases hp) (fun t q e => (F.r t q e).1) tl p hp⟩
    have hU : ∀ p ∈ srtU (fs.fk fv fr ++ (brg fr tl).1), S'.A p.1 /\ p.2.ok S' := fun p hp => (List.mem_append.mp ((yF _).mem_iff.mp hp)).elim (hf p) (hG p)
    have n2 : (((srtU (fs.fk fv fr ++ (brg fr tl).1))).map (·.1)).Nodup := ((yF _).map _).nodup_iff.mpr nd
    refine ⟨toFs_ok _ hU, ?_, ?_, ?_, brg_t F h.2.2.2.2⟩
    · rw [toFs_labs]; exact n2
    · rw [toFs_labs, List.pairwise_map]; exact srtU_up _
    · rw [toFs_labs]
      exact F.few _ n2 fun x hx => by obtain ⟨p, hp, rfl⟩ := List.mem_map.mp hx; exact (hU p hp).1
theorem Fs.fk_ok (F : Fok S S' fv fr) : ∀ fs : Fs, fs.ok S -> ∀ p ∈ fs.fk fv fr, S'.A p.1 /\ p.2.ok S'
  | .nil, _, p, hp => by cases hp
  | .cons l k r, h, p, hp => by
    rcases List.mem_cons.mp hp with rfl | hp
    · exact ⟨F.a l h.1, k.fk_ok F h.2.1⟩
    · exact r.fk_ok F h.2.2 p hp
end
theorem szs_app (P Q : List Kd) : szs (P ++ Q) = szs P + szs Q := by
  unfold szs; rw [List.map_append, List.sum_append]
mutual
theorem Kd.fk_sz (hv : ∀ n k, fv n = some k -> k.pre.length <= 10) (hr : ∀ t q, fr t = some q -> szs (q.1.map (·.2)) <= 9) : ∀ k : Kd, (k.fk fv fr).pre.length <= 10 * k.pre.length
  | .num => by show 1 <= 10 * 1; decide
  | .var n => by
    show ((fv n).getD (.var n)).pre.length <= 10 * 1
    cases e : fv n with
    | none => show 1 <= _; decide
    | some k => exact hv n k e
  | .fn a b => by
    have h1 := a.fk_sz hv hr
    have h2 := b.fk_sz hv hr
    show (Kd.fn (a.fk fv fr) (b.fk fv fr) :: ((a.fk fv fr).pre ++ (b.fk fv fr).pre)).length <= 10 * (Kd.fn a b :: (a.pre ++ b.pre)).length
    rw [List.length_cons, List.length_append, List.length_cons, List.length_append]; omega
  | .rw o fs tl => by
    have h1 := fs.fk_sz hv hr
    have h2 : szs ((brg fr tl).1.map (·.2)) <= 9 := brg_r (fr := fr) (P := fun q => szs (q.1.map (·.2)) <= 9) (fun _ => Nat.zero_le _) hr tl
    show (_ :: (toFs (srtU (fs.fk fv fr ++ (brg fr tl).1))).pre).length <= 10 * (_ :: fs.pre).length
    rw [List.length_cons, List.length_cons, toFs_pre, szs_perm ((yF _).map _), List.map_append, szs_app]; omega
theorem Fs.fk_sz (hv : ∀ n k, fv n = some k -> k.pre.length <= 10) (hr : ∀ t q, fr t = some q -> szs (q.1.map (·.2)) <= 9) : ∀ fs : Fs, szs ((fs.fk fv fr).map (·.2)) <= 10 * fs.pre.length
  | .nil => Nat.le_refl _
  | .cons l k r => by
    have h1 := k.fk_sz hv hr
    have h2 := r.fk_sz hv hr
    show szs (k.fk fv fr :: (r.fk fv fr).map (·.2)) <= 10 * (k.pre ++ r.pre).length
    unfold szs at *
    rw [List.map_cons, List.sum_cons, List.length_append]; omega
end
mutual
theorem Kd.fk_dp (hv : ∀ n k, fv n = some k -> k.dp <= 2) (hr : ∀ t q, fr t = some q -> ∀ p ∈ q.1, p.2.dp <= 2) : ∀ k : Kd, (k.fk fv fr).dp <= k.dp + 2
  | .num => Nat.zero_le _
  | .var n => by
    show ((fv n).getD (.var n)).dp <= 0 + 2
    cases e : fv n with
    | none => exact Nat.zero_le _
    | some k => exact hv n k e
  | .fn a b => by
    have h1 := a.fk_dp hv hr
    have h2 := b.fk_dp hv hr
    show max (a.fk fv fr).dp (b.fk fv fr).dp + 1 <= max a.dp b.dp + 1 + 2
    omega
  | .rw o fs tl => by
    have h1 := fs.fk_dp hv hr
    have h2 : ∀ p ∈ (brg fr tl).1, p.2.dp <= 2 := brg_r (fr := fr) (P := fun q => ∀ p ∈ q.1, p.2.dp <= 2) (fun _ p hp => by cases hp) hr tl
    show (toFs (srtU (fs.fk fv fr ++ (brg fr tl).1))).dp + 1 <= fs.dp + 1 + 2
    have := toFs_dp (n := fs.dp + 2) (srtU (fs.fk fv fr ++ (brg fr tl).1)) fun p hp => (List.mem_append.mp ((yF _).mem_iff.mp hp)).elim (h1 p) fun hp => Nat.le_trans (h2 p hp) (by omega)
    omega
theorem Fs.fk_dp (hv : ∀ n k, fv n = some k -> k.dp <= 2) (hr : ∀ t q, fr t = some q -> ∀ p ∈ q.1, p.2.dp <= 2) : ∀ fs : Fs, ∀ p ∈ fs.fk fv fr, p.2.dp <= fs.dp + 2
  | .nil, p, hp => by cases hp
  | .cons l k r, p, hp => by
    have h1 := k.fk_dp hv hr
    show p.2.dp <= max k.dp r.dp + 2
    rcases List.mem_cons.mp hp with rfl | hp
    · show (k.fk fv fr).dp <= _; omega
    · have := r.fk_dp hv hr p hp; omega
end
noncomputable def Fs.toL : Fs -> List Fk
  | .nil => []
  | .cons l k r => (l, k) :: r.toL
theorem toL_fs : ∀ fs : Fs, toFs fs.toL = fs
  | .nil => rfl
  | .cons l k r => by show Fs.cons l k (toFs r.toL) = _; rw [toL_fs r]
theorem toL_labs : ∀ fs : Fs, fs.toL.map (·.1) = fs.labs
  | .nil => rfl
  | .cons l k r => by show l :: r.toL.map (·.1) = _; rw [toL_labs r]; rfl
mutual
theorem Kd.fk_same (hv : ∀ n k, fv n = some k -> k = .var n) (hr : ∀ t q, fr t = some q -> q = ([], some t)) : ∀ k : Kd, k.ok S -> k.fk fv fr = k
  | .num, _ => rfl
  | .var n, _ => by
    show (fv n).getD (.var n) = _
    cases e : fv n with
    | none => rfl
    | some k => exact hv n k e
  | .fn a b, h => by show Kd.fn (a.fk fv fr) (b.fk fv fr) = _; rw [a.fk_same hv hr h.1, b.fk_same hv hr h.2]
  | .rw o fs tl, h => by
    have e : brg fr tl = ([], tl) := by
      unfold brg
      cases tl with
      | none => rfl
      | some t =>
        rw [Option.bind_some]
        cases e : fr t with
        | none => rfl
        | some q => rw [hr t q e]; rfl
    show Kd.rw o (toFs (srtU (fs.fk fv fr ++ (brg fr tl).1))) (brg fr tl).2 = _
    rw [e, fs.fk_same hv hr h.1, List.append_nil, srtU_id (by rw [toL_labs]; exact h.2.1) (by
      have := h.2.2.1
      rw [<- toL_labs] at this
      exact List.pairwise_map.mp this), toL_fs]
theorem Fs.fk_same (hv : ∀ n k, fv n = some k -> k = .var n) (hr : ∀ t q, fr t = some q -> q = ([], some t)) : ∀ fs : Fs, fs.ok S -> fs.fk fv fr = fs.toL
  | .nil, _ => rfl
  | .cons l k r, h => by show (l, k.fk fv fr) :: r.fk fv fr = (l, k) :: r.toL; rw [k.fk_same hv hr h.2.1, r.fk_same hv hr h.2.2]
end
end
noncomputable def spA (b : Int) (A : Ws) : Sp where
  Vr := fun n => (n - b) % 2 = 0
  Tr := fun n => (n - b) % 2 = 1
  A := fun l => l ∈ A
  B := fun _ => False
  ap := fun _ _ h => h
mutual
theorem Kd.ok_mono {S S' : Sp} (v : ∀ n, S.Vr n -> S'.Vr n) (t : ∀ n, S.Tr n -> S'.Tr n) (a : ∀ l, S.A l -> S'.A l) : ∀ k : Kd, k.ok S -> k.ok S'
  | .num, _ => trivial
  | .var n, h => v n h
  | .fn x y, h => ⟨x.ok_mono v t a h.1, y.ok_mono v t a h.2⟩
  | .rw o fs tl, h => ⟨fs.ok_mono v t a h.1, h.2.1, h.2.2.1, h.2.2.2.1, fun u e => t u (h.2.2.2.2 u e)⟩
theorem Fs.ok_mono {S S' : Sp} (v : ∀ n, S.Vr n -> S'.Vr n) (t : ∀ n, S.Tr n -> S'.Tr n) (a : ∀ l, S.A l -> S'.A l) : ∀ fs : Fs, fs.ok S -> fs.ok S'
  | .nil, _ => trivial
  | .cons l k r, h => ⟨a l h.1, k.ok_mono v t a h.2.1, r.ok_mono v t a h.2.2⟩
end
noncomputable def bk (hk : Kd) : Nat -> Kd
  | 0 => hk
  | _ => .fn hk hk
noncomputable def cndF : MB := (mBl (zD eqA (zD yL (zD yU (zB 0) (zD ixD (mOfF (yR (zA (mC (.int 180)) (zA (mC (.int 360)) zK)))) (zB 3))) (mC (.int 2))) (mC (.int 1))))
noncomputable def eltF : ME := (mTup (zA (zD ixD (zB 1) (zB 3)) (zA (zD ixD (mOfF (yR (zA (zB 2) (zA (mTup (zA (mC (.str [102, 117, 110])) (zA (zB 2) (zA (zB 2) zK)))) zK)))) (zB 3)) zK)))
theorem div2 {r : En} : ∀ (k : Nat), k < 2 -> r[3]? = some (.v (.int (k : Int))) -> ∃ m : Int, (0 < m /\ m < 1073741824) /\ zD ixD (mOfF (yR (zA (mC (.int 180)) (zA (mC (.int 360)) zK)))) (zB 3) r = some (.int m) := fun k hk e => by
  have el : mOfF (yR (zA (mC (.int 180)) (zA (mC (.int 360)) zK))) r = some (.lst [.int 180, .int 360]) := lstF_of (zF zI (zF zI zS)) (by show 2 <= 100; decide)
  match k, hk, e with
  | 0, _, e => exact ⟨180, by decide, zO el (var_of e) (yC (j := 0) rfl)⟩
  | 1, _, e => exact ⟨360, by decide, zO el (var_of e) (yC (j := 1) rfl)⟩
  | k + 2, h, _ => exact absurd h (by omega)
theorem kind2 {r : En} {hk : Kd} (h2 : r[2]? = some (.v hk.ds)) : ∀ (k : Nat), k < 2 -> r[3]? = some (.v (.int (k : Int))) -> zD ixD (mOfF (yR (zA (zB 2) (zA (mTup (zA (mC (.str [102, 117, 110])) (zA (zB 2) (zA (zB 2) zK)))) zK)))) (zB 3) r = some (bk hk k).ds := fun k hk' e => by
  have el : mOfF (yR (zA (zB 2) (zA (mTup (zA (mC (.str [102, 117, 110])) (zA (zB 2) (zA (zB 2) zK)))) zK))) r = some (.lst [hk.ds, (Kd.fn hk hk).ds]) := lstF_of (zF (var_of h2) (zF (tup_of (zF zI (zF (var_of h2) (zF (var_of h2) zS))) (by show 3 <= 100; decide)) zS)) (by show 2 <= 100; decide)
  match k, hk', e with
  | 0, _, e => exact zO el (var_of e) (yC (j := 0) rfl)
  | 1, _, e => exact zO el (var_of e) (yC (j := 1) rfl)
  | k + 2, h, _ => exact absurd h (by omega)
theorem comp_flds (n : Int) {L : Ws} (h3 : L.length = 2) (hk : Kd) : ∀ (m s : Nat) (x : Sl), fre x -> s + m <= 2 -> ∃ U : List Fk, compL (yJ 3) cndF eltF ((List.range' s m).map fun j => D.int ((0 : Int) + (j : Nat))) [.v (.int n), .v (.lst (dw L)), .v hk.ds, x] = some ((U.map fdK).map fdd) /\ (U.map (·.1)).Sublist ((List.range' s m).map fun k => L.getD k []) /\ U.length <= m /\ ∀ p ∈ U, ∃ j, p.2 = bk hk j
  | 0, s, x, _, _ => ⟨[], rfl, List.Sublist.refl _, Nat.le_refl _, by simp⟩
  | m + 1, s, x, hx, h => by
    obtain ⟨P, e1, e2, e3, e4⟩ := comp_flds n h3 hk m (s + 1) (.v (.int (s : Int))) trivial (by omega)
    rw [List.range'_succ, List.map_cons, List.map_cons, Int.zero_add]
    let R : En := [.v (.int n), .v (.lst (dw L)), .v hk.ds, .v (.int (s : Int))]
    obtain ⟨dv, hdv, edv⟩ := div2 (r := R) s (by omega) rfl
    have cc : cndF R = some (decide (n / dv % 2 = 1)) := bl_of (zO (mod_of (fdiv_of (i := n) rfl edv hdv) zI (by decide)) zI rfl)
    have hs : s < L.length := by omega
    have ee : eltF R = some (fdd (fdK (L.getD s [], bk hk s))) := tup_of (zF (zO (x := .lst (dw L)) rfl rfl (yC (by rw [List.getElem?_map, List.getElem?_eq_getElem hs, List.getD_eq_getElem?_getD, List.getElem?_eq_getElem hs]; rfl))) (zF (kind2 rfl s (by omega) rfl) zS)) (by show 2 <= 100; decide)
    by_cases c : n / dv % 2 = 1
    · refine ⟨(L.getD s [], bk hk s) :: P, compI_go (r1 := R) (yE (x := x) rfl hx) (cc.trans (by rw [decide_eq_true c])) ee e1, ?_, by rw [List.length_cons]; omega, fun p hp => ?_⟩
      · rw [List.map_cons]; exact e2.cons_cons _
      · (rcases List.mem_cons.mp hp with rfl | hp)
        · exact ⟨s, rfl⟩
        · exact e4 p hp
    · exact ⟨P, compI_no (r1 := R) (yE (x := x) rfl hx) (cc.trans (by rw [decide_eq_false c])) e1, e2.cons _, by omega, e4⟩
theorem range2 {L : Ws} (h3 : L.length = 2) : (List.range' 0 2).map (fun k => L.getD k []) = L := by
  refine List.ext_getElem (by simp [h3]) fun i h1 h2 => ?_
  simp [h2]
structure Row (b : Int) (M : Ws) (G : List Fk) (t : Option Int) : Prop where
  few : G.length <= 2
  nd : (G.map (·.1)).Nodup
  up : G.Pairwise fun a b => a.1 <= b.1
  mem : ∀ p ∈ G, p.1 ∈ M
  ok : ∀ p ∈ G, p.2.ok (spA b M) /\ p.2.pre.length <= 3 /\ p.2.dp <= 1
  tl : ∀ u, t = some u -> (u - b) % 2 = 1
theorem bringing_eq (n b : Int) {M : Ws} (h2 : M.length = 2) (nM : M.Nodup) : ∃ (G : List Fk) (t : Option Int), Row b M G t /\ ∃ as, F__law_bringing [.v (.int n), .v (.lst (dw M)), .v (.int b)] = some (.v (rowD (G.map fdK) (tlD t)), as) := by
  let R0 : En := [.v (.int n), .v (.lst (dw M)), .v (.int b), .un, .un, .un, .un]
  have m4 : 0 <= n / 3 % 4 /\ n / 3 % 4 < 4 := ⟨Int.emod_nonneg _ (by decide), Int.emod_lt_of_pos _ (by decide)⟩
  obtain ⟨td, ⟨t, rfl, ht⟩, et⟩ : ∃ d, (∃ t : Option Int, d = tlD t /\ ∀ u, t = some u -> (u - b) % 2 = 1) /\ zD ixD (mOfF (yR (zA (mC .non) (zA (zD yQ (zD yQ (zB 2) (mC (.int 1))) (zD mulD (mC (.int 2)) (zD yL (zD yU (zB 0) (mC (.int 3))) (mC (.int 4))))) (zA (zD yQ (zD yQ (zB 2) (mC (.int 1001))) (zD mulD (mC (.int 2)) (zD yL (zD yU (zB 0) (mC (.int 3))) (mC (.int 4))))) zK))))) (zD yL (zB 0) (mC (.int 3))) R0 = some d :=
    pick_of (P := fun d => ∃ t : Option Int, d = tlD t /\ ∀ u, t = some u -> (u - b) % 2 = 1) zI (add_of (i := b + 1) (add_of rfl zI) (mul_of zI (mod_of (fdiv_of rfl zI (by decide)) zI (by decide)) (by decide))) (add_of (i := b + 1001) (add_of rfl zI) (mul_of zI (mod_of (fdiv_of rfl zI (by decide)) zI (by decide)) (by decide))) rfl ⟨none, rfl, fun u e => by cases e⟩ ⟨some _, rfl, fun u e => by cases e; omega⟩ ⟨some _, rfl, fun u e => by cases e; omega⟩
  let R1 : En := [.v (.int n), .v (.lst (dw M)), .v (.int b), .v (tlD t), .un, .un, .un]
  let pl : Int := 2 * (n / 12 % 5)
  have epl : zD mulD (mC (.int 2)) (zD yL (zD yU (zB 0) (mC (.int 12))) (mC (.int 5))) R1 = some (.int pl) := mul_of zI (mod_of (fdiv_of rfl zI (by decide)) zI (by decide)) (by decide)
  let R2 : En := [.v (.int n), .v (.lst (dw M)), .v (.int b), .v (tlD t), .v (.int pl), .un, .un]
  obtain ⟨hd, ⟨hk, rfl, hkp, hko⟩, eh⟩ : ∃ d, (∃ k : Kd, d = k.ds /\ (k.pre.length = 1 /\ k.dp = 0) /\ k.ok (spA b M)) /\ zD ixD (mOfF (yR (zA (mTup (zA (mC (.str [110, 117, 109])) zK)) (zA (mTup (zA (mC (.str [118, 97, 114])) (zA (zD yQ (zB 2) (zB 4)) zK))) (zA (mTup (zA (mC (.str [118, 97, 114])) (zA (zD yQ (zD yQ (zB 2) (mC (.int 1000))) (zB 4)) zK))) zK))))) (zD yL (zD yU (zB 0) (mC (.int 60))) (mC (.int 3))) R2 = some d :=
    pick_of (P := fun d => ∃ k : Kd, d = k.ds /\ (k.pre.length = 1 /\ k.dp = 0) /\ k.ok (spA b M)) (a := Kd.num.ds) (b := (Kd.var (b + pl)).ds) (c := (Kd.var (b + 1000 + pl)).ds) (n := n / 60) (tup_of (zF zI zS) (by show 1 <= 100; decide)) (tup_of (zF zI (zF (add_of rfl rfl) zS)) (by show 2 <= 100; decide)) (tup_of (zF zI (zF (add_of (add_of rfl zI) rfl) zS)) (by show 2 <= 100; decide)) (fdiv_of rfl zI (by decide))
      ⟨.num, rfl, ⟨rfl, rfl⟩, trivial⟩ ⟨.var (b + pl), rfl, ⟨rfl, rfl⟩, by show (b + 2 * (n / 12 % 5) - b) % 2 = 0; omega⟩ ⟨.var (b + 1000 + pl), rfl, ⟨rfl, rfl⟩, by show (b + 1000 + 2 * (n / 12 % 5) - b) % 2 = 0; omega⟩
  let R3 : En := [.v (.int n), .v (.lst (dw M)), .v (.int b), .v (tlD t), .v (.int pl), .v hk.ds, .un]
  obtain ⟨U, ec, es, el, ev⟩ := comp_flds n h2 hk 2 0 .un trivial (by decide)
  rw [range2 h2] at es
  have nd : (U.map (·.1)).Nodup := es.nodup nM
  let R4 : En := [.v (.int n), .v (.lst (dw M)), .v (.int b), .v (tlD t), .v (.int pl), .v hk.ds, .v (.lst ((U.map fdK).map fdd))]
  have eK : (U.map fdK).map (·.1) = U.map (·.1) := by rw [List.map_map]; rfl
  have mem : ∀ p ∈ U, p.1 ∈ M := fun p hp => es.subset (List.mem_map.mpr ⟨p, hp, rfl⟩)
  have ee : srtD (U.map fdK) = (srtU U).map fdK := srt_map Kd.ds nd
  refine ⟨srtU U, t, ⟨by rw [(yF U).length_eq]; exact el, ((yF U).map _).nodup_iff.mpr nd, srtU_up U, fun p hp => mem p ((yF U).mem_iff.mp hp), fun p hp => ?_, ht⟩, mk_rt (r' := R4) ?_⟩
  · obtain ⟨j, ej⟩ := ev p ((yF U).mem_iff.mp hp)
    rw [ej]
    cases j with
    | zero => exact ⟨hko, by show hk.pre.length <= 3; omega, by show hk.dp <= 1; omega⟩
    | succ j => exact ⟨⟨hko, hko⟩, by show (Kd.fn hk hk :: (hk.pre ++ hk.pre)).length <= 3; rw [List.length_cons, List.length_append]; omega, by show max hk.dp hk.dp + 1 <= 1; omega⟩
  · show g__law_bringing R0 = _
    unfold g__law_bringing
    have cp : mCompIf [0, 1, 5] 4 (mRng1 (mC (.int 2))) (yJ 3) cndF eltF R3 = some ((U.map fdK).map fdd) := by
      unfold mCompIf
      rw [rng_of (n := 2) rfl (by decide), Option.bind_some, if_pos (by rw [List.length_map, List.length_range]; decide), List.range_eq_range']
      exact ec
    unfold cndF eltF at cp
    refine seq_set (r2 := R1) (tlD t) et rfl (seq_set (r2 := R2) (.int pl) epl rfl (seq_set (r2 := R3) hk.ds eh rfl (seq_set (r2 := R4) (.lst ((U.map fdK).map fdd)) (congrArg (Option.map D.lst) cp) rfl (ret_of ?_))))
    have sp := srtP_of (r := R4) (P := U.map fdK) (fl := mAsL (zB 6)) rfl (by rw [List.length_map]; omega) (by rw [eK]; exact nd)
    have tp : mTupOf (mSrtP (mAsL (zB 6))) R4 = some (.tup (((srtU U).map fdK).map fdd)) := by
      rw [<- ee]; exact congrArg (Option.map D.tup) sp
    exact tup_of (zF zI (zF tp (zF rfl zS))) (by show 3 <= 100; decide)
inductive Ent where
  | kd (k : Kd)
  | row (G : List Fk) (t : Option Int)
noncomputable def entD : Ent -> D
  | .kd k => k.ds
  | .row G t => rowD (G.map fdK) (tlD t)
noncomputable abbrev En1 := Int × Ent
noncomputable def eks (E : List En1) : List Key := E.map fun e => Sum.inl e.1
noncomputable def els (E : List En1) : List D := E.map fun e => entD e.2
theorem put_new {E : List En1} {k : Int} (h : ∀ e ∈ E, e.1 ≠ k) (v : Ent) : putD (eks E) (els E) (.inl k) (entD v) = (eks (E ++ [(k, v)]), els (E ++ [(k, v)])) := by
  unfold putD
  have : ((eks E).any fun j => decide (j = Sum.inl k)) = false := by
    rw [List.any_eq_false]
    intro x hx
    obtain ⟨e, he, rfl⟩ := List.mem_map.mp hx
    rw [decide_eq_true_eq]
    exact fun z => h e he (Sum.inl.inj z)
  rw [this, if_neg Bool.false_ne_true]
  unfold eks els
  rw [List.map_append, List.map_append]; rfl
noncomputable def yM : List En1 -> Int -> Option Ent
  | [], _ => none
  | e :: E, n => if e.1 = n then some e.2 else yM E n
theorem lookD_E (n : Int) : ∀ E : List En1, lookD (eks E) (els E) (.inl n) = (yM E n).map entD
  | [] => rfl
  | e :: E => by
    show (if (Sum.inl e.1 : Key) = .inl n then some (entD e.2) else lookD (eks E) (els E) (.inl n)) = _
    unfold yM
    by_cases h : e.1 = n
    · rw [if_pos h, if_pos (by rw [h])]; rfl
    · rw [if_neg h, if_neg (fun z => h (Sum.inl.inj z)), lookD_E n E]
theorem lookE_mem {n : Int} {v : Ent} : ∀ {E : List En1}, yM E n = some v -> (n, v) ∈ E
  | [], h => by cases h
  | e :: E, h => by
    unfold yM at h
    split at h
    · rename_i c; cases h; rw [<- c]; exact List.mem_cons_self
    · exact List.mem_cons_of_mem _ (lookE_mem h)
theorem dset_of {i : Nat} {fk fe : ME} {r : En} {E : List En1} {k : Int} {v : Ent} (e1 : fe r = some (entD v)) (e2 : fk r = some (.int k)) (er : r[i]? = some (.d (eks E) (els E))) (h : ∀ e ∈ E, e.1 ≠ k) (hl : E.length <= 100) : sDSet i fk fe r = some (.nx (r.set i (.d (eks (E ++ [(k, v)])) (els (E ++ [(k, v)]))))) := by
  unfold sDSet
  rw [e1, Option.bind_some, e2, Option.bind_some]
  show (match r[i]? with
    | some (.d ks l) => if ks.length < sizeLine then some (Fl.nx (r.set i (.d (putD ks l (.inl k) (entD v)).1 (putD ks l (.inl k) (entD v)).2))) else none
    | _ => none) = _
  rw [er]
  show (if (eks E).length < sizeLine then _ else none) = _
  rw [if_pos (by unfold eks; rw [List.length_map]; exact Nat.lt_of_le_of_lt hl (by decide)), put_new h v]
theorem cut_from {α : Type} (s : List α) (k : Nat) : cutL s (some (k : Int)) none = s.drop k := by
  unfold cutL
  rw [HT.sIx_nat, HT.sIx_none]
  by_cases h : k <= s.length
  · rw [Nat.min_eq_left h, List.take_of_length_le (by rw [List.length_drop]; exact Nat.le_refl _)]
  · rw [List.drop_of_length_le (by omega : s.length <= min k s.length), List.drop_of_length_le (by omega : s.length <= k)]; simp
noncomputable def Good (b : Int) (M : Ws) (n : Int) : Ent -> Prop
  | .kd k => (n - b) % 2 = 0 /\ k.ok (spA b M) /\ k.pre.length <= 10 /\ k.dp <= 2
  | .row G t => (n - b) % 2 = 1 /\ Row b M G t
theorem szs_le {n : Nat} : ∀ P : List Kd, (∀ k ∈ P, k.pre.length <= n) -> szs P <= n * P.length
  | [], _ => Nat.zero_le _
  | k :: P, h => by
    have h1 := h k (by simp)
    have h2 := szs_le P fun x hx => h x (by simp [hx])
    unfold szs at *
    rw [List.map_cons, List.sum_cons, List.length_cons, Nat.mul_succ]; omega
theorem Row.szs {b : Int} {M : Ws} {G : List Fk} {t : Option Int} (h : Row b M G t) : szs (G.map (·.2)) <= 9 := by
  have := szs_le (n := 3) (G.map (·.2)) fun k hk => by
    obtain ⟨p, hp, rfl⟩ := List.mem_map.mp hk
    exact (h.ok p hp).2.1
  rw [List.length_map] at this
  have := h.few
  omega
theorem Row.one {b : Int} {M : Ws} {G : List Fk} {t : Option Int} (o : Bool) (h : Row b M G t) : (Kd.rw o (toFs G) t).ok (spA b M) /\ (Kd.rw o (toFs G) t).pre.length <= 10 /\ (Kd.rw o (toFs G) t).dp <= 2 := by
  refine ⟨⟨toFs_ok _ fun p hp => ⟨h.mem p hp, (h.ok p hp).1⟩, by rw [toFs_labs]; exact h.nd, by rw [toFs_labs, List.pairwise_map]; exact h.up, by rw [toFs_labs, List.length_map]; have := h.few; omega, h.tl⟩, ?_, ?_⟩
  · show (_ :: (toFs G).pre).length <= 10
    rw [List.length_cons, toFs_pre]
    have := h.szs; omega
  · show (toFs G).dp + 1 <= 2
    have := toFs_dp (n := 1) G fun p hp => (h.ok p hp).2.2
    omega
noncomputable def key (b : Int) (k : Nat) : Int := if k < 5 then b + 2 * (k : Int) else b + 1 + 2 * ((k : Int) - 5)
theorem key_inj' {b : Int} {j k : Nat} (h : j < k) : key b j ≠ key b k := by
  unfold key
  split <;> split <;> omega
noncomputable def bodyF : MS := (yB (sSet 6 (zX 2 F__law_mixed (zA (zX 2 F__law_cell_at (zA (zB 0) (zA (zD yL (zB 5) (mC (.int 3))) zK))) (zA (zD yQ (zB 5) (zB 1)) zK))))
 (yB (sSet 7 (zX 3 F__law_bringing (zA (zD yU (zB 6) (mC (.int 6))) (zA (zB 2) (zA (zB 3) zK)))))
 (sIf (mAndT (mBl (zD gtD (zD yL (zB 6) (mC (.int 3))) (mC (.int 0)))) (mBl (zD ltA (zB 5) (mC (.int 5)))))
 (sDSet 4 (zD yQ (zB 3) (zD mulD (mC (.int 2)) (zB 5))) (zD ixD (mOfF (yR (zA (mIf (mBl (zD gtD (mUn lenD (zD ixD (zB 7) (mC (.int 1)))) (mC (.int 0)))) (zD ixD (zD ixD (zD ixD (zB 7) (mC (.int 1))) (mC (.int 0))) (mC (.int 1))) (mTup (zA (mC (.str [110, 117, 109])) zK))) (zA (mTup (zA (mC (.str [111, 110, 101])) (zA (zB 7) zK))) zK)))) (zD yL (zD yU (zB 6) (mC (.int 3))) (mC (.int 2)))))
 (sIf (mBl (zD gtD (zD yL (zB 6) (mC (.int 3))) (mC (.int 0))))
 (sDSet 4 (zD yQ (zD yQ (zB 3) (mC (.int 1))) (zD mulD (mC (.int 2)) (zD subD (zB 5) (mC (.int 5))))) (zB 7))
 sSkip))))
theorem if_t {c : MB} {f g : ME} {r : En} (e : c r = some true) : mIf c f g r = f r := by unfold mIf; rw [e]; rfl
theorem if_f {c : MB} {f g : ME} {r : En} (e : c r = some false) : mIf c f g r = g r := by unfold mIf; rw [e]; rfl
section
variable {ns : List Int} {M : Ws} {b : Int}
theorem one_of {r : En} {G : List Fk} {t : Option Int} (hG : Row b M G t) (h7 : r[7]? = some (.v (rowD (G.map fdK) (tlD t)))) (z : Int) (h6 : r[6]? = some (.v (.int z))) (n : Int) (hn : (n - b) % 2 = 0) : ∃ v : Ent, Good b M n v /\ zD ixD (mOfF (yR (zA (mIf (mBl (zD gtD (mUn lenD (zD ixD (zB 7) (mC (.int 1)))) (mC (.int 0)))) (zD ixD (zD ixD (zD ixD (zB 7) (mC (.int 1))) (mC (.int 0))) (mC (.int 1))) (mTup (zA (mC (.str [110, 117, 109])) zK))) (zA (mTup (zA (mC (.str [111, 110, 101])) (zA (zB 7) zK))) zK)))) (zD yL (zD yU (zB 6) (mC (.int 3))) (mC (.int 2))) r = some (entD v) := by
  have i1 : zD ixD (zB 7) (mC (.int 1)) r = some (.tup ((G.map fdK).map fdd)) := zO (x := rowD (G.map fdK) (tlD t)) (var_of h7) zI (yC (j := 1) rfl)
  have cl : mBl (zD gtD (mUn lenD (zD ixD (zB 7) (mC (.int 1)))) (mC (.int 0))) r = some (decide (0 < (G.length : Int))) := gt_of (un_of i1 (by show some (D.int (((G.map fdK).map fdd).length : Int)) = _; rw [List.length_map, List.length_map])) zI
  obtain ⟨k, hk, ek⟩ : ∃ k : Kd, (k.ok (spA b M) /\ k.pre.length <= 10 /\ k.dp <= 2) /\ mIf (mBl (zD gtD (mUn lenD (zD ixD (zB 7) (mC (.int 1)))) (mC (.int 0)))) (zD ixD (zD ixD (zD ixD (zB 7) (mC (.int 1))) (mC (.int 0))) (mC (.int 1))) (mTup (zA (mC (.str [110, 117, 109])) zK)) r = some k.ds := by
    cases G with
    | nil => exact ⟨.num, ⟨trivial, by show 1 <= 10; decide, Nat.zero_le _⟩, (if_f cl).trans (tup_of (zF zI zS) (by show 1 <= 100; decide))⟩
    | cons p G =>
      obtain ⟨o1, o2, o3⟩ := hG.ok p (by simp)
      refine ⟨p.2, ⟨o1, by omega, by omega⟩, (if_t (cl.trans (by rw [decide_eq_true (by rw [List.length_cons]; omega)]))).trans ?_⟩
      exact zO (x := .tup [.str p.1, p.2.ds]) (zO i1 zI (at_zero _ _)) zI (yC (j := 1) rfl)
  have on : mTup (zA (mC (.str [111, 110, 101])) (zA (zB 7) zK)) r = some (Kd.rw true (toFs G) t).ds := by
    refine (tup_of (zF zI (zF (var_of h7) zS)) (by show 2 <= 100; decide)).trans ?_
    show some (D.tup [.str sOne, .tup [.str sRow, .tup ((G.map fdK).map fdd), tlD t]]) = some (.tup [.str (wrd true), .tup [.str sRow, .tup (toFs G).ds, tlD t]])
    rw [toFs_ds]; rfl
  have el := lstF_of (zF ek (zF on zS)) (by show 2 <= 100; decide)
  have ei : zD yL (zD yU (zB 6) (mC (.int 3))) (mC (.int 2)) r = some (.int (z / 3 % 2)) := mod_of (fdiv_of (var_of h6) zI (by decide)) zI (by decide)
  rcases (by omega : z / 3 % 2 = 0 \/ z / 3 % 2 = 1) with h | h
  · exact ⟨.kd k, ⟨hn, hk⟩, zO el (y := .int ((0 : Nat) : Int)) (ei.trans (by rw [h]; rfl)) (yC (j := 0) rfl)⟩
  · exact ⟨.kd (.rw true (toFs G) t), ⟨hn, hG.one true⟩, zO el (y := .int ((1 : Nat) : Int)) (ei.trans (by rw [h]; rfl)) (yC (j := 1) rfl)⟩
theorem fil_loop (h2 : M.length = 2) (nM : M.Nodup) {pl : Nat} (hpl : pl <= 500) : ∀ (n s : Nat) (E : List En1) (x y w : Sl), fre x -> fre y -> fre w -> s + n <= 9 -> E.length + n <= 50 -> (∀ e ∈ E, Good b M e.1 e.2) -> (∀ e ∈ E, ∃ k : Nat, k < s /\ e.1 = key b k) ->
    ∃ (E' : List En1) (x' y' w' : Sl), fre x' /\ fre y' /\ fre w' /\ E'.length <= E.length + n /\ (∀ e ∈ E', Good b M e.1 e.2) /\ (∀ e ∈ E', ∃ k : Nat, k < s + n /\ e.1 = key b k) /\ ((E.map (·.1)).Nodup -> (E'.map (·.1)).Nodup) /\
      forL (yJ 5) bodyF ((List.range' s n).map fun j => D.int ((0 : Int) + (j : Nat))) [.v (.lst (ns.map D.int)), .v (.int (pl : Int)), .v (.lst (dw M)), .v (.int b), .d (eks E) (els E), x, y, w] = some (.nx [.v (.lst (ns.map D.int)), .v (.int (pl : Int)), .v (.lst (dw M)), .v (.int b), .d (eks E') (els E'), x', y', w'])
  | 0, s, E, x, y, w, hx, hy, hw, _, _, h1, h2' => ⟨E, x, y, w, hx, hy, hw, Nat.le_refl _, h1, h2', id, by simp [forL]⟩
  | n + 1, s, E, x, y, w, hx, hy, hw, hs, hE, h1, h2' => by
    let fr' : Sl -> Sl -> Sl -> En := fun d y w => [.v (.lst (ns.map D.int)), .v (.int (pl : Int)), .v (.lst (dw M)), .v (.int b), d, .v (.int (s : Int)), y, w]
    let dE : Sl := .d (eks E) (els E)
    obtain ⟨z, hz, em⟩ := mixed_eq (ns.getD (s % 3) 0) (k := (s : Int) + (pl : Int)) (by omega) (by omega)
    obtain ⟨G, t, hG, eG⟩ := bringing_eq (z / 6) b h2 nM
    let rw' : D := rowD (G.map fdK) (tlD t)
    let R : En := fr' dE (.v (.int z)) (.v rw')
    have ez : zX 2 F__law_mixed (zA (zX 2 F__law_cell_at (zA (zB 0) (zA (zD yL (zB 5) (mC (.int 3))) zK))) (zA (zD yQ (zB 5) (zB 1)) zK)) (fr' dE y w) = some (.int z) := by
      have m3 : zD yL (zB 5) (mC (.int 3)) (fr' dE y w) = some (.int ((s % 3 : Nat) : Int)) := (mod_of (i := (s : Int)) (j := 3) rfl zI (by decide)).trans (by congr 2)
      exact yO (p := .v (.int z)) (zF (yO (p := .v (.int (ns.getD (s % 3) 0))) (zF rfl (zF m3 zS)) rfl (cell_eq ns (s % 3))) (zF (add_of (i := (s : Int)) (j := (pl : Int)) rfl rfl) zS)) rfl em
    have er : zX 3 F__law_bringing (zA (zD yU (zB 6) (mC (.int 6))) (zA (zB 2) (zA (zB 3) zK))) (fr' dE (.v (.int z)) w) = some rw' := yO (p := .v rw') (zF (fdiv_of rfl zI (by decide)) (zF rfl (zF rfl zS))) rfl eG
    have go : ∀ {h : MS} {q : Option Fl}, h R = q -> yB (sSet 6 (zX 2 F__law_mixed (zA (zX 2 F__law_cell_at (zA (zB 0) (zA (zD yL (zB 5) (mC (.int 3))) zK))) (zA (zD yQ (zB 5) (zB 1)) zK)))) (yB (sSet 7 (zX 3 F__law_bringing (zA (zD yU (zB 6) (mC (.int 6))) (zA (zB 2) (zA (zB 3) zK))))) h) (fr' dE y w) = q := fun e =>
      seq_set (r2 := fr' dE (.v (.int z)) w) (.int z) ez (yE (x := y) rfl hy) (seq_set (r2 := R) rw' er (yE (x := w) rfl hw) e)
    have c1 : mBl (zD gtD (zD yL (zB 6) (mC (.int 3))) (mC (.int 0))) R = some (decide (0 < z % 3)) := gt_of (mod_of rfl zI (by decide)) zI
    have c2 : mBl (zD ltA (zB 5) (mC (.int 5))) R = some (decide ((s : Int) < 5)) := bl_of (zO (x := .int (s : Int)) rfl zI rfl)
    rw [List.range'_succ, List.map_cons, Int.zero_add]
    by_cases c : 0 < z % 3
    · obtain ⟨v, gv, bd⟩ : ∃ v : Ent, Good b M (key b s) v /\ bodyF (fr' dE y w) = some (.nx (fr' (.d (eks (E ++ [(key b s, v)])) (els (E ++ [(key b s, v)]))) (.v (.int z)) (.v rw'))) := by
        have fresh : ∀ e ∈ E, e.1 ≠ key b s := fun e he => by
          obtain ⟨k, hk, ek⟩ := h2' e he
          rw [ek]; exact key_inj' hk
        by_cases c5 : s < 5
        · have ke : key b s = b + 2 * (s : Int) := by unfold key; rw [if_pos c5]
          obtain ⟨v, gv, ev⟩ := one_of (r := R) hG rfl z rfl (b + 2 * (s : Int)) (by omega)
          rw [ke] at fresh ⊢
          refine ⟨v, gv, ?_⟩
          unfold bodyF
          exact go ((sIf_t (andT_tx (c1.trans (by rw [decide_eq_true c])) (c2.trans (by rw [decide_eq_true (by omega)])))).trans (dset_of (i := 4) (v := v) ev (add_of rfl (mul_of zI rfl (by decide))) rfl fresh (by omega)))
        · have ke : key b s = b + 1 + 2 * ((s : Int) - 5) := by unfold key; rw [if_neg c5]
          rw [ke] at fresh ⊢
          refine ⟨.row G t, ⟨by omega, hG⟩, ?_⟩
          unfold bodyF
          exact go ((sIf_f (andT_tx (c1.trans (by rw [decide_eq_true c])) (c2.trans (by rw [decide_eq_false (by omega)])))).trans ((sIf_t (c1.trans (by rw [decide_eq_true c]))).trans (dset_of (i := 4) (v := .row G t) rfl (add_of (add_of rfl zI) (mul_of zI (sub_of rfl zI) (by decide))) rfl fresh (by omega))))
      obtain ⟨E', x', y', w', fx, fy, fw, a1, a2, a3, a4, ih⟩ := fil_loop h2 nM hpl n (s + 1) (E ++ [(key b s, v)]) (.v (.int (s : Int))) (.v (.int z)) (.v rw') trivial trivial trivial (by omega) (by rw [List.length_append]; simp only [List.length_cons, List.length_nil]; omega)
        (fun q hq => by
          (rcases List.mem_append.mp hq with hq | hq)
          · exact h1 q hq
          · rw [List.mem_singleton.mp hq]; exact gv)
        (fun q hq => by
          (rcases List.mem_append.mp hq with hq | hq)
          · obtain ⟨k, hk, e⟩ := h2' q hq; exact ⟨k, by omega, e⟩
          · rw [List.mem_singleton.mp hq]; exact ⟨s, by omega, rfl⟩)
      refine ⟨E', x', y', w', fx, fy, fw, by rw [List.length_append] at a1; simp only [List.length_cons, List.length_nil] at a1; omega, a2, fun q hq => by obtain ⟨k, hk, e⟩ := a3 q hq; exact ⟨k, by omega, e⟩, fun nd => a4 ?_, ?_⟩
      · rw [List.map_append]
        refine List.nodup_append.mpr ⟨nd, by simp, fun x hx y hy e => ?_⟩
        obtain ⟨q, hq, rfl⟩ := List.mem_map.mp hx
        obtain ⟨k, hk, ek⟩ := h2' q hq
        rw [List.mem_singleton.mp hy, ek] at e
        exact key_inj' hk e
      · exact (for_go (r1 := fr' dE y w) (yE (x := x) rfl hx) bd).trans ih
    · obtain ⟨E', x', y', w', fx, fy, fw, a1, a2, a3, a4, ih⟩ := fil_loop h2 nM hpl n (s + 1) E (.v (.int (s : Int))) (.v (.int z)) (.v rw') trivial trivial trivial (by omega) (by omega) h1 (fun q hq => by obtain ⟨k, hk, e⟩ := h2' q hq; exact ⟨k, by omega, e⟩)
      refine ⟨E', x', y', w', fx, fy, fw, by omega, a2, fun q hq => by obtain ⟨k, hk, e⟩ := a3 q hq; exact ⟨k, by omega, e⟩, a4, ?_⟩
      have bd : bodyF (fr' dE y w) = some (.nx R) := by
        unfold bodyF
        exact go ((sIf_f (andT_ff (c1.trans (by rw [decide_eq_false c])))).trans ((sIf_f (c1.trans (by rw [decide_eq_false c]))).trans rfl))
      exact (for_go (r1 := fr' dE y w) (yE (x := x) rfl hx) bd).trans ih
theorem filling_eq (ns : List Int) (b : Int) (h2 : M.length = 2) (nM : M.Nodup) {pl : Nat} (hpl : pl <= 500) : ∃ E : List En1, E.length <= 9 /\ (E.map (·.1)).Nodup /\ (∀ e ∈ E, Good b M e.1 e.2) /\ (∀ e ∈ E, ∃ k : Nat, k < 9 /\ e.1 = key b k) /\ ∃ as, F__law_filling [.v (.lst (ns.map D.int)), .v (.int (pl : Int)), .v (.lst (dw M)), .v (.int b)] = some (.g (eks E) (els E), as) := by
  obtain ⟨E, x, y, w, _, _, _, a1, a2, a3, a4, lp⟩ := fil_loop (ns := ns) (b := b) h2 nM hpl 9 0 [] .un .un .un trivial trivial trivial (by decide) (by decide) (fun e he => by cases he) (fun e he => by cases he)
  refine ⟨E, by simpa using a1, a4 List.nodup_nil, a2, by simpa using a3, ?_⟩
  have fo : sFor (yJ 5) (mRng1 (mC (.int 9))) bodyF [.v (.lst (ns.map D.int)), .v (.int (pl : Int)), .v (.lst (dw M)), .v (.int b), .d [] [], .un, .un, .un] = some (.nx [.v (.lst (ns.map D.int)), .v (.int (pl : Int)), .v (.lst (dw M)), .v (.int b), .d (eks E) (els E), x, y, w]) := by
    unfold sFor
    rw [rng_of (n := 9) rfl (by decide), Option.bind_some, List.range_eq_range']
    exact lp
  unfold bodyF at fo
  unfold F__law_filling mkF g__law_filling
  show ∃ as, (yB _ _ [.v (.lst (ns.map D.int)), .v (.int (pl : Int)), .v (.lst (dw M)), .v (.int b), .un, .un, .un, .un]).bind _ = _
  rw [yK (r' := [.v (.lst (ns.map D.int)), .v (.int (pl : Int)), .v (.lst (dw M)), .v (.int b), .d [] [], .un, .un, .un]) (by rfl), yK fo]
  exact ⟨_, rfl⟩
end
theorem leaf_eq (n b : Int) (M : Ws) : ∃ k : Kd, k.ok (spA b M) /\ k.dp = 0 /\ k.pre.length = 1 /\ ∃ as, F__law_leaf [.v (.int n), .v (.int b)] = some (.v k.ds, as) := by
  let R0 : En := [.v (.int n), .v (.int b)]
  have c0 : mBl (zD eqA (zD yL (zB 0) (mC (.int 3))) (mC (.int 0))) R0 = some (decide (n % 3 = 0)) := bl_of (zO (mod_of (i := n) rfl zI (by decide)) zI rfl)
  by_cases c : n % 3 = 0
  · refine ⟨.num, trivial, rfl, rfl, mk_rt (r' := R0) ?_⟩
    show g__law_leaf R0 = _
    unfold g__law_leaf
    exact seq_tt (c0.trans (by rw [decide_eq_true c])) (ret_of (tup_of (zF zI zS) (by show 1 <= 100; decide)))
  · refine ⟨.var (b + 2 * (n / 3 % 5)), by show (b + 2 * (n / 3 % 5) - b) % 2 = 0; omega, rfl, rfl, mk_rt (r' := R0) ?_⟩
    show g__law_leaf R0 = _
    unfold g__law_leaf
    exact seq_ff (c0.trans (by rw [decide_eq_false c])) (ret_of (tup_of (zF zI (zF (add_of rfl (mul_of zI (mod_of (fdiv_of rfl zI (by decide)) zI (by decide)) (by decide))) zS)) (by show 2 <= 100; decide)))
noncomputable def lab2 (M : Ws) (q : Int) (k : Nat) : List Nat := M.getD ((q + (k : Int)) % 2).toNat []
theorem mod2 (a : Int) : 0 <= a % 2 /\ a % 2 < 2 := ⟨Int.emod_nonneg _ (by decide), Int.emod_lt_of_pos _ (by decide)⟩
theorem lab2_nd {M : Ws} (h3 : M.length = 2) (nd : M.Nodup) (q : Int) {m : Nat} (hm : m <= 2) : ((List.range' 0 m).map (lab2 M q)).Nodup := by
  unfold List.Nodup
  rw [List.pairwise_map]
  refine List.Pairwise.imp_of_mem (R := fun i j => i < j) (fun {i j} hi hj hij => ?_) List.pairwise_lt_range'
  rw [List.mem_range'_1] at hi hj
  have a := mod2 (q + (i : Int))
  have b := mod2 (q + (j : Int))
  exact getD_inj nd (by omega) (by omega) (by omega)
noncomputable def bodyO : MS := (sX (mAppX 4 (mTupX (xaCons (zD ixD (zB 2) (zD yL (zD yQ (zD yU (zB 1) (mC (.int 4))) (zB 5)) (mUn lenD (zB 2)))) (xaLast (mPop 0))))))
theorem appO_of {i : Nat} {f : En -> Option (D × En)} {r0 r1 : En} {l0 l : List D} {d : D} (e0 : mtOf r0 i = some l0) (e : f r0 = some (d, r1)) (e1 : r1[i]? = some (.o l)) (h : l.length < sizeLine) : mAppX i f r0 = some (.non, r1.set i (.o (l ++ [d]))) := by
  unfold mAppX
  rw [e, Option.bind_some, e0, Option.bind_some]
  simp [mtOf, e1, Sl.ml, putO, h]
theorem of_loop {M : Ws} (h3 : M.length = 2) (n : Int) (Y : D) : ∀ (m s : Nat) (P : List Kd) (U : List Fk) (x : Sl), fre x -> m <= P.length -> s + m <= 2 -> U.length + m <= 50 ->
    ∃ (P' : List Kd) (V : List Fk) (x' : Sl), P = P' ++ (V.map (·.2)).reverse /\ V.length = m /\ V.map (·.1) = (List.range' s m).map (lab2 M (n / 4)) /\
      forL (yJ 5) bodyO ((List.range' s m).map fun j => D.int ((0 : Int) + (j : Nat))) [.p (P.map Kd.ds), .v (.int n), .v (.lst (dw M)), .v Y, .o ((U.map fdK).map fdd), x]
        = some (.nx [.p (P'.map Kd.ds), .v (.int n), .v (.lst (dw M)), .v Y, .o (((U ++ V).map fdK).map fdd), x'])
  | 0, s, P, U, x, _, _, _, _ => ⟨P, [], x, by simp, rfl, rfl, by simp [forL]⟩
  | m + 1, s, P, U, x, hx, hm, hs, hU => by
    obtain ⟨P0, k, rfl⟩ : ∃ P0 k, P = P0 ++ [k] := by
      rcases List.eq_nil_or_concat P with h | ⟨P0, k, h⟩
      · subst h; simp at hm
      · exact ⟨P0, k, by rw [h, List.concat_eq_append]⟩
    let lb := lab2 M (n / 4) s
    obtain ⟨P', V, x', e1, e2, e3, ih⟩ := of_loop h3 n Y m (s + 1) P0 (U ++ [(lb, k)]) (.v (.int (s : Int))) trivial (by rw [List.length_append] at hm; simp at hm; exact hm) (by omega) (by rw [List.length_append]; simp only [List.length_cons, List.length_nil]; omega)
    refine ⟨P', (lb, k) :: V, x', by rw [e1]; simp, by rw [List.length_cons, e2], by rw [List.range'_succ, List.map_cons, List.map_cons, e3], ?_⟩
    rw [List.range'_succ, List.map_cons, Int.zero_add]
    let uf : List D := (U.map fdK).map fdd
    let fr' : List Kd -> List D -> En := fun P a => [.p (P.map Kd.ds), .v (.int n), .v (.lst (dw M)), .v Y, .o a, .v (.int (s : Int))]
    have lu : uf.length <= 50 := by
      show ((U.map _).map _).length <= 50
      (rw [List.length_map, List.length_map]; omega)
    have pp : mPop 0 (fr' (P0 ++ [k]) uf) = some (k.ds, fr' P0 uf) := by
      refine pop_p (S := P0.map Kd.ds) (d := k.ds) ?_
      show some (Sl.p ((P0 ++ [k]).map Kd.ds)) = _
      rw [List.map_append]; rfl
    have q3 := mod2 (n / 4 + (s : Int))
    have hi : ((n / 4 + (s : Int)) % 2).toNat < M.length := by omega
    have el : zD ixD (zB 2) (zD yL (zD yQ (zD yU (zB 1) (mC (.int 4))) (zB 5)) (mUn lenD (zB 2))) (fr' (P0 ++ [k]) uf) = some (.str lb) := by
      refine zO (x := .lst (dw M)) (y := .int (((n / 4 + (s : Int)) % 2).toNat : Int)) rfl ?_ (yC ?_)
      · rw [Int.toNat_of_nonneg q3.1]
        refine mod_of (add_of (fdiv_of rfl zI (by decide)) rfl) (un_of (x := .lst (dw M)) rfl ?_) (by decide)
        show some (D.int ((dw M).length : Int)) = _
        rw [List.length_map, h3]; rfl
      · show (dw M)[((n / 4 + (s : Int)) % 2).toNat]? = some (D.str (M.getD ((n / 4 + (s : Int)) % 2).toNat []))
        rw [List.getElem?_map, List.getElem?_eq_getElem hi, List.getD_eq_getElem?_getD, List.getElem?_eq_getElem hi]; rfl
    have tx : mTupX (xaCons (zD ixD (zB 2) (zD yL (zD yQ (zD yU (zB 1) (mC (.int 4))) (zB 5)) (mUn lenD (zB 2)))) (xaLast (mPop 0))) (fr' (P0 ++ [k]) uf) = some (fdd (lb, k.ds), fr' P0 uf) := by
      unfold mTupX xaCons xaLast
      rw [el, Option.bind_some, pp]; rfl
    have b : bodyO (fr' (P0 ++ [k]) uf) = some (.nx (fr' P0 (uf ++ [fdd (lb, k.ds)]))) := by
      unfold bodyO
      exact sX_of (d := .non) (appO_of (i := 4) (l0 := uf) (l := uf) rfl tx rfl (Nat.lt_of_le_of_lt lu (by decide)))
    refine (for_go (r1 := fr' (P0 ++ [k]) uf) (yE (x := x) rfl hx) b).trans ?_
    have u1 : uf ++ [fdd (lb, k.ds)] = ((U ++ [(lb, k)]).map fdK).map fdd := by rw [List.map_append, List.map_append]; rfl
    show forL _ _ _ [.p (P0.map Kd.ds), .v (.int n), .v (.lst (dw M)), .v Y, .o (uf ++ [fdd (lb, k.ds)]), .v (.int (s : Int))] = _
    rw [u1, ih, List.append_assoc]; rfl
theorem fields_eq (n : Int) {M : Ws} (h2 : M.length = 2) (nM : M.Nodup) (P : List Kd) (hP : P.length <= 1000) : ∃ (P' : List Kd) (V : List Fk) (as : List Sl), P = P' ++ (V.map (·.2)).reverse /\ V.length <= 2 /\ (V.map (·.1)).Nodup /\ (∀ p ∈ V, p.1 ∈ M) /\ as[0]? = some (.p (P'.map Kd.ds)) /\
    F__law_fields [.p (P.map Kd.ds), .v (.int n), .v (.lst (dw M))] = some (.v (.tup (((srtU V).map fdK).map fdd)), as) := by
  have q4 : 0 <= n % 4 /\ n % 4 < 4 := ⟨Int.emod_nonneg _ (by decide), Int.emod_lt_of_pos _ (by decide)⟩
  let R0 : En := [.p (P.map Kd.ds), .v (.int n), .v (.lst (dw M)), .un, .un, .un]
  let mi : Int := least3 (P.length : Int) (n % 4) 2
  have hmi : 0 <= mi /\ mi <= 2 /\ mi <= P.length := by
    show 0 <= least3 _ _ _ /\ least3 _ _ _ <= 2 /\ least3 _ _ _ <= _
    unfold least3
    split <;> split <;> omega
  obtain ⟨m, em⟩ : ∃ m : Nat, (m : Int) = mi := ⟨mi.toNat, Int.toNat_of_nonneg hmi.1⟩
  have e1 : mMin3 (zA (mLenB (mOwn 0)) (zA (zD yL (zB 1) (mC (.int 4))) (zA (mUn lenD (zB 2)) zK))) R0 = some (.int (m : Int)) := by
    rw [em]
    have a : zA (mLenB (mOwn 0)) (zA (zD yL (zB 1) (mC (.int 4))) (zA (mUn lenD (zB 2)) zK)) R0 = some [.int (P.length : Int), .int (n % 4), .int 2] := by
      refine zF ?_ (zF (mod_of rfl zI (by decide)) (zF (un_of (x := .lst (dw M)) rfl ?_) zS))
      · show some (D.int ((P.map Kd.ds).length : Int)) = _; rw [List.length_map]
      · show some (D.int ((dw M).length : Int)) = _; rw [List.length_map, h2]; rfl
    unfold mMin3
    rw [a]; rfl
  obtain ⟨P', V, x', p1, p2, p3, lp⟩ := of_loop h2 n (.int (m : Int)) m 0 P [] .un trivial (by omega) (by omega) (by simp only [List.length_nil]; omega)
  rw [List.nil_append] at lp
  have nd : (V.map (·.1)).Nodup := by rw [p3]; exact lab2_nd h2 nM _ (by omega)
  let R : En := [.p (P'.map Kd.ds), .v (.int n), .v (.lst (dw M)), .v (.int (m : Int)), .o ((V.map fdK).map fdd), x']
  refine ⟨P', V, R.take 3, p1, by omega, nd, fun p hp => ?_, rfl, ?_⟩
  · have : p.1 ∈ V.map (·.1) := List.mem_map_of_mem hp
    rw [p3] at this
    obtain ⟨j, _, e⟩ := List.mem_map.mp this
    rw [<- e]
    have := mod2 (n / 4 + (j : Int))
    exact getD_mem (by omega)
  · refine mk_rt' (n := 3) (N := 6) ?_
    show g__law_fields R0 = _
    unfold g__law_fields
    have fo : sFor (yJ 5) (mRng1 (zB 3)) bodyO [.p (P.map Kd.ds), .v (.int n), .v (.lst (dw M)), .v (.int (m : Int)), .o [], .un] = some (.nx R) := by
      unfold sFor
      rw [rng_of (n := m) rfl (by omega), Option.bind_some, List.range_eq_range']
      exact lp
    unfold bodyO at fo
    refine seq_set (r2 := [.p (P.map Kd.ds), .v (.int n), .v (.lst (dw M)), .v (.int (m : Int)), .un, .un]) (.int (m : Int)) e1 rfl ?_
    refine (yK (r' := [.p (P.map Kd.ds), .v (.int n), .v (.lst (dw M)), .v (.int (m : Int)), .o [], .un]) rfl).trans ((yK fo).trans (ret_of ?_))
    have eK : (V.map fdK).map (·.1) = V.map (·.1) := by rw [List.map_map]; rfl
    have sp := srtP_of (r := R) (P := V.map fdK) (fl := mOwn 4) rfl (by rw [List.length_map]; omega) (by rw [eK]; exact nd)
    have ee : srtD (V.map fdK) = (srtU V).map fdK := srt_map Kd.ds nd
    rw [<- ee]; exact congrArg (Option.map D.tup) sp
theorem szs_snoc (P : List Kd) (k : Kd) : szs (P ++ [k]) = szs P + k.pre.length := by
  rw [szs_app]; unfold szs; simp
theorem szs_rev (P : List Kd) : szs P.reverse = szs P := szs_perm (List.reverse_perm P)
section
variable {b : Int} {M : Ws}
theorem step_eq (h2 : M.length = 2) (nM : M.Nodup) (n : Int) {P : List Kd} {m : Nat} (hP : ∀ k ∈ P, k.ok (spA b M) /\ k.dp <= m) (hl : P.length <= 1000) :
    ∃ (P2 : List Kd) (as : List Sl), (∀ k ∈ P2, k.ok (spA b M) /\ k.dp <= m + 1) /\ szs P2 = szs P + 1 /\ P2.length <= P.length + 1 /\ as[0]? = some (.p (P2.map Kd.ds)) /\
      F__law_stepped [.p (P.map Kd.ds), .v (.int n), .v (.lst (dw M)), .v (.int b)] = some (.v .non, as) := by
  let w : Int := n % 8
  let q : Int := n / 8
  have qw : 0 <= w /\ w < 8 := ⟨Int.emod_nonneg _ (by decide), Int.emod_lt_of_pos _ (by decide)⟩
  let fr' : List Kd -> Sl -> Sl -> Sl -> En := fun P a b' c => [.p (P.map Kd.ds), .v (.int n), .v (.lst (dw M)), .v (.int b), .v (.int w), .v (.int q), a, b', c]
  let R : En := fr' P .un .un .un
  have pl : ∀ (P : List Kd), (P.map Kd.ds).length = P.length := fun P => List.length_map _
  have fin : ∀ (P2 : List Kd) (r' : En), (∀ k ∈ P2, k.ok (spA b M) /\ k.dp <= m + 1) -> szs P2 = szs P + 1 -> P2.length <= P.length + 1 -> r'[0]? = some (.p (P2.map Kd.ds)) -> g__law_stepped [.p (P.map Kd.ds), .v (.int n), .v (.lst (dw M)), .v (.int b), .un, .un, .un, .un, .un] = some (.nx r') -> ∃ (P2 : List Kd) (as : List Sl), (∀ k ∈ P2, k.ok (spA b M) /\ k.dp <= m + 1) /\ szs P2 = szs P + 1 /\ P2.length <= P.length + 1 /\ as[0]? = some (.p (P2.map Kd.ds)) /\
      F__law_stepped [.p (P.map Kd.ds), .v (.int n), .v (.lst (dw M)), .v (.int b)] = some (.v .non, as) := fun P2 r' a1 a2 a3 a4 a5 => ⟨P2, r'.take 4, a1, a2, a3, by rw [List.getElem?_take, if_pos (by decide)]; exact a4, mk_nx (n := 4) (N := 9) a5⟩
  have start : ∀ {h : MS} {z}, h R = z -> yB (sSet 4 (zD yL (zB 1) (mC (.int 8)))) (yB (sSet 5 (zD yU (zB 1) (mC (.int 8)))) h) [.p (P.map Kd.ds), .v (.int n), .v (.lst (dw M)), .v (.int b), .un, .un, .un, .un, .un] = z := fun e =>
    seq_set (r2 := [.p (P.map Kd.ds), .v (.int n), .v (.lst (dw M)), .v (.int b), .v (.int w), .un, .un, .un, .un]) (.int w) (mod_of rfl zI (by decide)) rfl (seq_set (r2 := R) (.int q) (fdiv_of rfl zI (by decide)) rfl e)
  have c3 : mBl (zD eqA (zB 4) (mC (.int 3))) R = some (decide (w = 3)) := bl_of (zO (x := .int w) rfl zI rfl)
  have cl : mBl (zD gtD (mLenB (mOwn 0)) (mC (.int 1))) R = some (decide (1 < (P.length : Int))) := gt_of (by show some (D.int ((P.map Kd.ds).length : Int)) = _; rw [pl]) zI
  have cg : mBl (zD gtD (zB 4) (mC (.int 3))) R = some (decide (3 < w)) := gt_of rfl zI
  by_cases hA1 : w = 3 /\ 1 < P.length
  · obtain ⟨P0, f, la, rfl⟩ : ∃ P0 f la, P = P0 ++ [f] ++ [la] := by
      rcases List.eq_nil_or_concat P with h | ⟨P1, la, h⟩
      · subst h; simp at hA1
      · rw [List.concat_eq_append] at h
        rcases List.eq_nil_or_concat P1 with h' | ⟨P0, f, h'⟩
        · subst h' h; simp at hA1
        · rw [List.concat_eq_append] at h'; exact ⟨P0, f, la, by rw [h, h']⟩
    have of := hP f (by simp)
    have ol := hP la (by simp)
    refine fin (P0 ++ [.fn f la]) (fr' (P0 ++ [.fn f la]) (.v la.ds) .un .un) (fun k hk => ?_) ?_ (by simp) rfl ?_
    · rcases List.mem_append.mp hk with hk | hk
      · have := hP k (by simp [hk]); exact ⟨this.1, Nat.le_succ_of_le this.2⟩
      · rw [List.mem_singleton.mp hk]
        exact ⟨⟨of.1, ol.1⟩, Nat.succ_le_succ (Nat.max_le.mpr ⟨of.2, ol.2⟩)⟩
    · rw [szs_snoc, szs_snoc, szs_snoc]
      show _ + (Kd.fn f la :: (f.pre ++ la.pre)).length = _
      rw [List.length_cons, List.length_append]; omega
    · unfold g__law_stepped
      refine start ((sIf_t (andT_tx (c3.trans (by rw [decide_eq_true hA1.1])) (cl.trans (by rw [decide_eq_true (by omega)])))).trans ?_)
      have p1 : sSetX 6 (mPop 0) (fr' (P0 ++ [f] ++ [la]) .un .un .un) = some (.nx (fr' (P0 ++ [f]) (.v la.ds) .un .un)) := by
        refine sSetX_of (pop_p (S := (P0 ++ [f]).map Kd.ds) (d := la.ds) ?_) rfl
        show some (Sl.p ((P0 ++ [f] ++ [la]).map Kd.ds)) = _
        rw [List.map_append (l₁ := P0 ++ [f])]; rfl
      have p2 : mPop 0 (fr' (P0 ++ [f]) (.v la.ds) .un .un) = some (f.ds, fr' P0 (.v la.ds) .un .un) := by
        refine pop_p (S := P0.map Kd.ds) (d := f.ds) ?_
        show some (Sl.p ((P0 ++ [f]).map Kd.ds)) = _
        rw [List.map_append]; rfl
      have tx : mTupX (xaCons (mC (.str [102, 117, 110])) (mMidX (mPop 0) (zA (zB 6) zK))) (fr' (P0 ++ [f]) (.v la.ds) .un .un) = some ((Kd.fn f la).ds, fr' P0 (.v la.ds) .un .un) := by
        unfold mTupX xaCons mMidX
        rw [zI, Option.bind_some, p2]; rfl
      refine (yK p1).trans ((sX_of (d := .non) (appX_of (i := 0) (l0 := (P0 ++ [f]).map Kd.ds) (l := P0.map Kd.ds) rfl tx rfl (by rw [pl]; simp at hl; exact Nat.lt_of_le_of_lt (by omega : P0.length <= 1000) (by decide)))).trans ?_)
      show some (Fl.nx [.p (P0.map Kd.ds ++ [(Kd.fn f la).ds]), .v (.int n), .v (.lst (dw M)), .v (.int b), .v (.int w), .v (.int q), .v la.ds, .un, .un]) = some (Fl.nx [.p ((P0 ++ [Kd.fn f la]).map Kd.ds), .v (.int n), .v (.lst (dw M)), .v (.int b), .v (.int w), .v (.int q), .v la.ds, .un, .un])
      rw [List.map_append]; rfl
  · have na : mAndT (mBl (zD eqA (zB 4) (mC (.int 3)))) (mBl (zD gtD (mLenB (mOwn 0)) (mC (.int 1)))) R = some false := by
      by_cases h : w = 3
      · exact andT_tx (c3.trans (by rw [decide_eq_true h])) (cl.trans (by rw [decide_eq_false (by omega)]))
      · exact andT_ff (c3.trans (by rw [decide_eq_false h]))
    by_cases h4 : 3 < w
    · obtain ⟨td, ⟨tl, etl, htl⟩, et⟩ : ∃ d, (∃ tl : Option Int, d = tlD tl /\ ∀ t, tl = some t -> (t - b) % 2 = 1) /\ zD ixD (mOfF (yR (zA (mC .non) (zA (mC .non) (zA (zD yQ (zD yQ (zB 3) (mC (.int 1))) (zD mulD (mC (.int 2)) (zD yL (zD yU (zB 5) (mC (.int 3))) (mC (.int 4))))) zK))))) (zD yL (zB 5) (mC (.int 3))) R = some d :=
        pick_of (P := fun d => ∃ tl : Option Int, d = tlD tl /\ ∀ t, tl = some t -> (t - b) % 2 = 1) zI zI (add_of (i := b + 1) (add_of rfl zI) (mul_of zI (mod_of (fdiv_of rfl zI (by decide)) zI (by decide)) (by decide))) rfl ⟨none, rfl, fun t e => by cases e⟩ ⟨none, rfl, fun t e => by cases e⟩ ⟨some _, rfl, fun t e => by cases e; omega⟩
      subst etl
      let R9 : En := fr' P .un (.v (tlD tl)) .un
      obtain ⟨P', V, as, p1, p2, p3, p4, p5, p6⟩ := fields_eq (q / 12) h2 nM P hl
      let fd : D := .tup (((srtU V).map fdK).map fdd)
      let Ra : En := fr' P' .un (.v (tlD tl)) (.v fd)
      have ec : mCallX 3 F__law_fields 0 (zP (zA (zD yU (zB 5) (mC (.int 12))) (zA (zB 2) zK))) R9 = some (fd, fr' P' .un (.v (tlD tl)) .un) := callX0 (l := P.map Kd.ds) (es := [.int (q / 12), .lst (dw M)]) (as := as) (l' := P'.map Kd.ds) rfl (zF (fdiv_of rfl zI (by decide)) (zF rfl zS)) rfl p6 p5 rfl
      have q2 : 0 <= w % 2 /\ w % 2 < 2 := mod2 w
      obtain ⟨o, ew⟩ : ∃ o : Bool, zD ixD (mOfF (yR (zA (mC (.str [114, 101, 99])) (zA (mC (.str [111, 110, 101])) zK)))) (zD yL (zB 4) (mC (.int 2))) Ra = some (.str (wrd o)) := by
        have el : mOfF (yR (zA (mC (.str [114, 101, 99])) (zA (mC (.str [111, 110, 101])) zK))) Ra = some (.lst [.str sRec, .str sOne]) := lstF_of (zF zI (zF zI zS)) (by show 2 <= 100; decide)
        have ei : zD yL (zB 4) (mC (.int 2)) Ra = some (.int (w % 2)) := mod_of rfl zI (by decide)
        rcases (by omega : w % 2 = 0 \/ w % 2 = 1) with h | h
        · exact ⟨false, zO el (y := .int ((0 : Nat) : Int)) (ei.trans (by rw [h]; rfl)) (yC (j := 0) rfl)⟩
        · exact ⟨true, zO el (y := .int ((1 : Nat) : Int)) (ei.trans (by rw [h]; rfl)) (yC (j := 1) rfl)⟩
      let k : Kd := .rw o (toFs (srtU V)) tl
      have memV : ∀ p ∈ srtU V, p.2 ∈ P /\ p.1 ∈ M := fun p hp => by
        have hp' := (yF V).mem_iff.mp hp
        refine ⟨?_, p4 p hp'⟩
        rw [p1]
        exact List.mem_append.mpr (.inr (List.mem_reverse.mpr (List.mem_map_of_mem hp')))
      have sub : ∀ x ∈ P', x ∈ P := fun x hx => by rw [p1]; exact List.mem_append.mpr (.inl hx)
      have lenP : P'.length <= P.length := by rw [p1, List.length_append]; omega
      refine fin (P' ++ [k]) (fr' (P' ++ [k]) .un (.v (tlD tl)) (.v fd)) (fun x hx => ?_) ?_ (by rw [List.length_append]; simp only [List.length_cons, List.length_nil]; omega) rfl ?_
      · rcases List.mem_append.mp hx with hx | hx
        · have := hP x (sub x hx); exact ⟨this.1, Nat.le_succ_of_le this.2⟩
        · rw [List.mem_singleton.mp hx]
          refine ⟨⟨toFs_ok _ fun p hp => ⟨(memV p hp).2, (hP p.2 (memV p hp).1).1⟩, ?_, ?_, ?_, htl⟩, ?_⟩
          · rw [toFs_labs]; exact ((yF V).map _).nodup_iff.mpr p3
          · rw [toFs_labs, List.pairwise_map]; exact srtU_up V
          · rw [toFs_labs, List.length_map, (yF V).length_eq]; omega
          · show (toFs (srtU V)).dp + 1 <= m + 1
            have := toFs_dp (n := m) (srtU V) fun p hp => (hP p.2 (memV p hp).1).2
            omega
      · rw [szs_snoc]
        show _ + (_ :: (toFs (srtU V)).pre).length = _
        have e : szs P = szs P' + szs (V.map (·.2)) := by rw [p1, szs_app, szs_rev]
        rw [List.length_cons, toFs_pre, szs_perm ((yF V).map _), e]; omega
      · unfold g__law_stepped
        refine start ((sIf_f na).trans ((sIf_t (cg.trans (by rw [decide_eq_true h4]))).trans ?_))
        refine seq_set (r2 := R9) (tlD tl) et rfl ((yK (r' := Ra) (sSetX_of ec rfl)).trans ?_)
        have ek : mTup (zA (zD ixD (mOfF (yR (zA (mC (.str [114, 101, 99])) (zA (mC (.str [111, 110, 101])) zK)))) (zD yL (zB 4) (mC (.int 2)))) (zA (mTup (zA (mC (.str [114, 111, 119])) (zA (zB 8) (zA (zB 7) zK)))) zK)) Ra = some k.ds := by
          refine (tup_of (zF ew (zF (tup_of (zF zI (zF rfl (zF rfl zS))) (by show 3 <= 100; decide)) zS)) (by show 2 <= 100; decide)).trans ?_
          show some (D.tup [.str (wrd o), .tup [.str sRow, .tup (((srtU V).map fdK).map fdd), tlD tl]]) = some (.tup [.str (wrd o), .tup [.str sRow, .tup (toFs (srtU V)).ds, tlD tl]])
          rw [toFs_ds]; rfl
        refine (sX_of (d := .non) (app_p (i := 0) (S := P'.map Kd.ds) rfl ek (by rw [pl]; exact Nat.lt_of_le_of_lt (by omega : P'.length <= 1000) (by decide)))).trans ?_
        show some (Fl.nx [.p (P'.map Kd.ds ++ [k.ds]), .v (.int n), .v (.lst (dw M)), .v (.int b), .v (.int w), .v (.int q), .un, .v (tlD tl), .v fd]) = some (Fl.nx [.p ((P' ++ [k]).map Kd.ds), .v (.int n), .v (.lst (dw M)), .v (.int b), .v (.int w), .v (.int q), .un, .v (tlD tl), .v fd])
        rw [List.map_append]; rfl
    · obtain ⟨k, k1, k2, k3, ek⟩ := leaf_eq q b M
      refine fin (P ++ [k]) (fr' (P ++ [k]) .un .un .un) (fun x hx => ?_) (by rw [szs_snoc, k3]) (by rw [List.length_append]; simp only [List.length_cons, List.length_nil]; omega) rfl ?_
      · rcases List.mem_append.mp hx with hx | hx
        · have := hP x hx; exact ⟨this.1, Nat.le_succ_of_le this.2⟩
        · rw [List.mem_singleton.mp hx]; exact ⟨k1, by rw [k2]; exact Nat.zero_le _⟩
      · unfold g__law_stepped
        refine start ((sIf_f na).trans ((sIf_f (cg.trans (by rw [decide_eq_false h4]))).trans ?_))
        refine (sX_of (d := .non) (app_p (i := 0) (S := P.map Kd.ds) rfl (yO (p := .v k.ds) (zF rfl (zF rfl zS)) rfl ek) (by rw [pl]; exact Nat.lt_of_le_of_lt hl (by decide)))).trans ?_
        show some (Fl.nx [.p (P.map Kd.ds ++ [k.ds]), .v (.int n), .v (.lst (dw M)), .v (.int b), .v (.int w), .v (.int q), .un, .un, .un]) = some (Fl.nx [.p ((P ++ [k]).map Kd.ds), .v (.int n), .v (.lst (dw M)), .v (.int b), .v (.int w), .v (.int q), .un, .un, .un])
        rw [List.map_append]; rfl
theorem len_szs : ∀ P : List Kd, P.length <= szs P
  | [] => Nat.le_refl _
  | k :: P => by
    have := len_szs P
    have := pre_pos k
    unfold szs at *
    rw [List.length_cons, List.map_cons, List.sum_cons]; omega
theorem one_szs {k : Kd} : ∀ {P : List Kd}, k ∈ P -> k.pre.length <= szs P
  | [], h => by cases h
  | x :: P, h => by
    unfold szs
    (rw [List.map_cons, List.sum_cons])
    (rcases List.mem_cons.mp h with rfl | h)
    · omega
    · have := one_szs h
      unfold szs at this; omega
noncomputable def bodyP : MS := (sX (mCallX 4 F__law_stepped 3 (zP (zA (zX 2 F__law_mixed (zA (zB 5) (zA (zD yQ (zB 4) (mC (.int 3))) zK))) (zA (zB 1) (zA (zB 2) zK))))))
theorem pile_loop (h2 : M.length = 2) (nM : M.Nodup) (A0 : D) : ∀ (cs : List Int) (s : Nat) (P : List Kd) (m : Nat) (x y : Sl), fre x -> fre y -> s + cs.length <= 500 -> szs P + cs.length <= 500 -> (∀ k ∈ P, k.ok (spA b M) /\ k.dp <= m) ->
    ∃ (P' : List Kd) (x' y' : Sl), (∀ k ∈ P', k.ok (spA b M) /\ k.dp <= m + cs.length) /\ szs P' = szs P + cs.length /\
      forL (bdSeq 2 (bdCons (yJ 4) (bdCons (yJ 5) bdNil))) bodyP (((cs.map D.int).zipIdx s).map fun p => D.tup [.int (p.2 : Nat), p.1]) [.v A0, .v (.lst (dw M)), .v (.int b), .o (P.map Kd.ds), x, y] = some (.nx [.v A0, .v (.lst (dw M)), .v (.int b), .o (P'.map Kd.ds), x', y'])
  | [], s, P, m, x, y, hx, hy, _, _, hP => ⟨P, x, y, hP, rfl, by simp [forL]⟩
  | c :: cs, s, P, m, x, y, hx, hy, hs, hz, hP => by
    rw [List.length_cons] at hs hz
    obtain ⟨z, _, em⟩ := mixed_eq c (k := (s : Int) + 3) (by omega) (by omega)
    have pl := len_szs P
    obtain ⟨P2, as, a1, a2, a3, a4, a5⟩ := step_eq h2 nM z hP (by omega)
    obtain ⟨P', x', y', e1, e2, ih⟩ := pile_loop h2 nM A0 cs (s + 1) P2 (m + 1) (.v (.int (s : Int))) (.v (.int c)) trivial trivial (by omega) (by omega) a1
    refine ⟨P', x', y', fun k hk => ⟨(e1 k hk).1, by have := (e1 k hk).2; rw [List.length_cons]; omega⟩, by rw [e2, a2, List.length_cons]; omega, ?_⟩
    rw [List.map_cons, List.zipIdx_cons, List.map_cons]
    let R : En := [.v A0, .v (.lst (dw M)), .v (.int b), .o (P.map Kd.ds), .v (.int (s : Int)), .v (.int c)]
    have ec : mCallX 4 F__law_stepped 3 (zP (zA (zX 2 F__law_mixed (zA (zB 5) (zA (zD yQ (zB 4) (mC (.int 3))) zK))) (zA (zB 1) (zA (zB 2) zK)))) R = some (.non, [.v A0, .v (.lst (dw M)), .v (.int b), .o (P2.map Kd.ds), .v (.int (s : Int)), .v (.int c)]) := callX0 (l := P.map Kd.ds) (es := [.int z, .lst (dw M), .int b]) (as := as) (l' := P2.map Kd.ds) rfl (zF (yO (p := .v (.int z)) (zF rfl (zF (add_of rfl zI) zS)) rfl em) (zF rfl (zF rfl zS))) rfl a5 a4 rfl
    have bd : bodyP R = some (.nx [.v A0, .v (.lst (dw M)), .v (.int b), .o (P2.map Kd.ds), .v (.int (s : Int)), .v (.int c)]) := by
      unfold bodyP
      exact sX_of ec
    exact (for_go (r1 := R) (bdP (r1 := [.v A0, .v (.lst (dw M)), .v (.int b), .o (P.map Kd.ds), .v (.int (s : Int)), y]) (yE (x := x) rfl hx) (yE (x := y) rfl hy)) bd).trans ih
theorem pile_eq (h2 : M.length = 2) (nM : M.Nodup) (cs : List Int) (hc : cs.length <= 60) : ∃ P : List Kd, (∀ k ∈ P, k.ok (spA b M) /\ k.dp <= 60 /\ k.pre.length <= 60) /\ ∃ as, F__law_pile [.v (.lst (cs.map D.int)), .v (.lst (dw M)), .v (.int b)] = some (.f (P.map Kd.ds), as) := by
  obtain ⟨P, x, y, h1, hz, lp⟩ := pile_loop (b := b) h2 nM (.lst (cs.map D.int)) cs 0 [] 0 .un .un trivial trivial (by omega) (by show 0 + _ <= 500; omega) (fun k hk => by cases hk)
  have hz' : szs P <= 60 := by rw [hz]; show 0 + cs.length <= 60; omega
  refine ⟨P, fun k hk => ⟨(h1 k hk).1, by have := (h1 k hk).2; omega, by have := one_szs hk; omega⟩, ?_⟩
  have fo : sFor (bdSeq 2 (bdCons (yJ 4) (bdCons (yJ 5) bdNil))) (mEnum (zB 0)) bodyP [.v (.lst (cs.map D.int)), .v (.lst (dw M)), .v (.int b), .o [], .un, .un] = some (.nx [.v (.lst (cs.map D.int)), .v (.lst (dw M)), .v (.int b), .o (P.map Kd.ds), x, y]) := lp
  unfold bodyP at fo
  unfold F__law_pile mkF g__law_pile
  show ∃ as, (yB _ _ [.v (.lst (cs.map D.int)), .v (.lst (dw M)), .v (.int b), .un, .un, .un]).bind _ = _
  rw [yK (r' := [.v (.lst (cs.map D.int)), .v (.lst (dw M)), .v (.int b), .o [], .un, .un]) (by rfl), yK fo]
  exact ⟨_, rfl⟩
end
noncomputable def tlI : Option Int -> List Int
  | none => []
  | some t => [t]
noncomputable def Kd.owns : Kd -> List Int
  | .var n => [n]
  | .rw _ _ tl => tlI tl
  | _ => []
theorem owns_eq (k : Kd) : ∃ as, F_own_numbers [.v k.ds] = some (.v (.lst (k.owns.map D.int)), as) := by
  let R : En := [.v k.ds]
  refine mk_rt (r' := R) ?_
  show g_own_numbers R = _
  unfold g_own_numbers
  have hd : ∀ (w : List Nat) (l : List D), k.ds = .tup (.str w :: l) -> ∀ u : List Nat, mBl (zD eqA (zD ixD (zB 0) (mC (.int 0))) (mC (.str u))) R = some (decide (w = u)) := fun w l e u => bl_of (zO (zO (x := .tup (.str w :: l)) (by show some k.ds = _; rw [e]) zI (at_zero _ _)) zI rfl)
  have hr : mTru (zX 1 F_has_row (zA (zB 0) zK)) R = some k.isRw := tru_of (yO (p := .v (.bl k.isRw)) (zF rfl zS) rfl (row_eq k))
  cases k with
  | num => exact seq_ff (hd sNum [] rfl sVar) (seq_ff (andT_ff hr) (ret_of (lstF_of zS (by show 0 <= 100; decide))))
  | var n => exact seq_tt (hd sVar [.int n] rfl sVar) (ret_of (lstF_of (zF (zO (x := (Kd.var n).ds) rfl zI (yC (j := 1) rfl)) zS) (by show 1 <= 100; decide)))
  | fn a b => exact seq_ff (hd sFun [a.ds, b.ds] rfl sVar) (seq_ff (andT_ff hr) (ret_of (lstF_of zS (by show 0 <= 100; decide))))
  | rw o fs tl =>
    have e1 : mBl (zD eqA (zD ixD (zB 0) (mC (.int 0))) (mC (.str [118, 97, 114]))) R = some false := (hd (wrd o) [.tup [.str sRow, .tup fs.ds, tlD tl]] rfl sVar).trans (by cases o <;> rfl)
    have e2 : zD ixD (zD ixD (zB 0) (mC (.int 1))) (mC (.int 2)) R = some (tlD tl) := zO (x := .tup [.str sRow, .tup fs.ds, tlD tl]) (zO (x := (Kd.rw o fs tl).ds) rfl zI (yC (j := 1) rfl)) zI (yC (j := 2) rfl)
    cases tl with
    | none => exact seq_ff e1 (seq_ff (andT_tx hr (bl_of (zO e2 zI rfl))) (ret_of (lstF_of zS (by show 0 <= 100; decide))))
    | some t => exact seq_ff e1 (seq_tt (andT_tx hr (bl_of (zO e2 zI rfl))) (ret_of (lstF_of (zF e2 zS) (by show 1 <= 100; decide))))
noncomputable def AllI (ks : List Key) : Prop := ∀ k ∈ ks, ∃ i : Int, k = .inl i
noncomputable def bodyN : MS := (yB (sSetX 3 (mPop 2))
 (sIf (mTru (mUn (instD "int") (zB 3)))
 (sDSet 1 (zB 3) (mC (.bl true)))
 (sX (mExt 2 (mUn revD (zD yQ (zX 1 yI (zA (zB 3) zK)) (zX 1 F_own_numbers (zA (zB 3) zK))))))))
noncomputable abbrev wN (m : Nat) (E : D) (ks : List Key) (l S : List D) (x : Sl) : Option Fl := sWhile m (mTruB (mOwn 2)) bodyN [.v E, .d ks l, .o S, x]
theorem owns_len (k : Kd) : k.owns.length <= 1 := by
  cases k with
  | rw o fs tl => cases tl <;> first | exact Nat.zero_le _ | exact Nat.le_refl _
  | num => exact Nat.zero_le _
  | var n => exact Nat.le_refl _
  | fn a b => exact Nat.zero_le _
theorem ds_tup (k : Kd) : ∃ l, k.ds = .tup l := by cases k <;> exact ⟨_, rfl⟩
theorem st_kd' {E : D} {ks : List Key} {l S : List D} {x : Sl} {k : Kd} (hx : fre x) (h : k.wd) (hS : S.length <= 10000) (m : Nat) : wN (m + 1) E ks l (S ++ [k.ds]) x = wN m E ks l (S ++ ((k.kids.map Kd.ds) ++ (k.owns.map D.int)).reverse) (.v k.ds) := by
  refine while_go (own_true (S := S) (d := k.ds) rfl) ?_
  unfold bodyN
  have hl := kids_len h
  have ho := owns_len k
  let R1 : En := [.v E, .d ks l, .o S, .v k.ds]
  have pop : sSetX 3 (mPop 2) [.v E, .d ks l, .o (S ++ [k.ds]), x] = some (.nx R1) := sSetX_of (pop_of rfl) (yE (x := x) rfl hx)
  have cc : zX 1 yI (zA (zB 3) zK) R1 = some (.lst (k.kids.map Kd.ds)) := yO (p := .v (.lst (k.kids.map Kd.ds))) (zF rfl zS) rfl (straight_eq (by omega))
  have co : zX 1 F_own_numbers (zA (zB 3) zK) R1 = some (.lst (k.owns.map D.int)) := yO (p := .v (.lst (k.owns.map D.int))) (zF rfl zS) rfl (owns_eq k)
  have ca : zD yQ (zX 1 yI (zA (zB 3) zK)) (zX 1 F_own_numbers (zA (zB 3) zK)) R1 = some (.lst ((k.kids.map Kd.ds) ++ (k.owns.map D.int))) := ladd cc co (by rw [List.length_map, List.length_map]; omega)
  have ci : mTru (mUn (instD "int") (zB 3)) R1 = some false := by
    obtain ⟨l', e⟩ := ds_tup k
    refine tru_of (un_of (x := .tup l') (by show some k.ds = _; rw [e]) rfl)
  refine (yK pop).trans ((sIf_f ci).trans ?_)
  exact sX_of (d := .non) (ext_of (S := S) (un_of ca rfl) rfl (by rw [List.length_reverse, List.length_append, List.length_map, List.length_map]; exact Nat.le_trans (by omega : _ <= 10009) (by decide)) (e := rfl))
theorem st_int {E : D} {ks : List Key} {l S : List D} {x : Sl} {n : Int} (hx : fre x) (hk : ks.length <= 1000) (ha : AllI ks) : ∃ ks' l', AllI ks' /\ ks'.length <= ks.length + 1 /\ ∀ m, wN (m + 1) E ks l (S ++ [.int n]) x = wN m E ks' l' S (.v (.int n)) := by
  refine ⟨(putD ks l (.inl n) (.bl true)).1, (putD ks l (.inl n) (.bl true)).2, ?_, ?_, fun m => ?_⟩
  · unfold putD
    split
    · exact ha
    · intro k hk
      (rcases List.mem_append.mp hk with hk | hk)
      · exact ha k hk
      · exact ⟨n, List.mem_singleton.mp hk⟩
  · unfold putD
    split
    · exact Nat.le_succ _
    · show (ks ++ [_]).length <= _
      rw [List.length_append]; exact Nat.le_refl _
  · refine while_go (own_true (S := S) (d := .int n) rfl) ?_
    unfold bodyN
    let R1 : En := [.v E, .d ks l, .o S, .v (.int n)]
    have pop : sSetX 3 (mPop 2) [.v E, .d ks l, .o (S ++ [.int n]), x] = some (.nx R1) := sSetX_of (pop_of rfl) (yE (x := x) rfl hx)
    have ci : mTru (mUn (instD "int") (zB 3)) R1 = some true := tru_of (un_of (x := .int n) rfl rfl)
    refine (yK pop).trans ((sIf_t ci).trans ?_)
    unfold sDSet
    show (if ks.length < sizeLine then _ else none) = _
    rw [if_pos (Nat.lt_of_le_of_lt hk (by decide))]; rfl
mutual
theorem nu_v (E : D) : ∀ (k : Kd), k.wd -> ∀ (S : List D) (ks : List Key) (l : List D) (x : Sl), fre x -> AllI ks -> ks.length + k.pre.length <= 900 -> S.length + 2 * k.pre.length <= 5000 -> ∃ c ks' l' x', c <= 2 * k.pre.length /\ fre x' /\ AllI ks' /\ ks'.length <= ks.length + k.pre.length /\ ∀ m, wN (c + m) E ks l (S ++ [k.ds]) x = wN m E ks' l' S x'
  | .num, h, S, ks, l, x, hx, ha, hk, hS => by
    refine ⟨1, ks, l, .v Kd.num.ds, by show 1 <= 2 * 1; decide, trivial, ha, Nat.le_add_right _ _, fun m => ?_⟩
    rw [Nat.add_comm 1 m, st_kd' hx h (by omega)]
    simp [Kd.kids, Kd.owns]
  | .var n, h, S, ks, l, x, hx, ha, hk, hS => by
    have hp : (Kd.var n).pre.length = 1 := rfl
    obtain ⟨ks', l', a1, a2, e⟩ := st_int (E := E) (ks := ks) (l := l) (S := S) (x := .v (Kd.var n).ds) (n := n) trivial (by omega) ha
    refine ⟨2, ks', l', .v (.int n), by omega, trivial, a1, by omega, fun m => ?_⟩
    rw [show 2 + m = (m + 1) + 1 by omega, st_kd' hx h (by omega)]
    rw [show S ++ (((Kd.var n).kids.map Kd.ds) ++ ((Kd.var n).owns.map D.int)).reverse = S ++ [.int n] from rfl, e m]
  | .fn a b, h, S, ks, l, x, hx, ha, hk, hS => by
    have hp : (Kd.fn a b).pre.length = a.pre.length + b.pre.length + 1 := by simp [Kd.pre]
    have pb := pre_pos b
    obtain ⟨c1, ks1, l1, x1, b1, f1, a1, g1, e1⟩ := nu_v E a h.1 (S ++ [b.ds]) ks l (.v (Kd.fn a b).ds) trivial ha (by omega) (by rw [List.length_append]; simp only [List.length_cons, List.length_nil]; omega)
    obtain ⟨c2, ks2, l2, x2, b2, f2, a2, g2, e2⟩ := nu_v E b h.2 S ks1 l1 x1 f1 a1 (by omega) (by omega)
    refine ⟨c1 + c2 + 1, ks2, l2, x2, by omega, f2, a2, by omega, fun m => ?_⟩
    rw [show c1 + c2 + 1 + m = (c1 + (c2 + m)) + 1 by omega, st_kd' hx h (by omega)]
    rw [show S ++ (((Kd.fn a b).kids.map Kd.ds) ++ ((Kd.fn a b).owns.map D.int)).reverse = S ++ [b.ds] ++ [a.ds] by simp [Kd.kids, Kd.owns], e1, e2]
  | .rw o fs tl, h, S, ks, l, x, hx, ha, hk, hS => by
    have hp : (Kd.rw o fs tl).pre.length = fs.pre.length + 1 := by simp [Kd.pre]
    cases tl with
    | none =>
      obtain ⟨c1, ks1, l1, x1, b1, f1, a1, g1, e1⟩ := nu_f E fs h.2 S ks l (.v (Kd.rw o fs none).ds) trivial ha (by omega) (by omega)
      refine ⟨c1 + 1, ks1, l1, x1, by omega, f1, a1, by omega, fun m => ?_⟩
      rw [show c1 + 1 + m = (c1 + m) + 1 by omega, st_kd' hx h (by omega)]
      rw [show S ++ (((Kd.rw o fs none).kids.map Kd.ds) ++ ((Kd.rw o fs none).owns.map D.int)).reverse = S ++ (fs.kds.map Kd.ds).reverse by simp [Kd.kids, Kd.owns, tlI], e1]
    | some t =>
      obtain ⟨c1, ks1, l1, x1, b1, f1, a1, g1, e1⟩ := nu_f E fs h.2 (S ++ [.int t]) ks l (.v (Kd.rw o fs (some t)).ds) trivial ha (by omega) (by rw [List.length_append]; simp only [List.length_cons, List.length_nil]; omega)
      obtain ⟨ks2, l2, a2, g2, e2⟩ := st_int (E := E) (ks := ks1) (l := l1) (S := S) (x := x1) (n := t) f1 (by omega) a1
      refine ⟨c1 + 1 + 1, ks2, l2, .v (.int t), by omega, trivial, a2, by omega, fun m => ?_⟩
      rw [show c1 + 1 + 1 + m = (c1 + (m + 1)) + 1 by omega, st_kd' hx h (by omega)]
      rw [show S ++ (((Kd.rw o fs (some t)).kids.map Kd.ds) ++ ((Kd.rw o fs (some t)).owns.map D.int)).reverse = S ++ [.int t] ++ (fs.kds.map Kd.ds).reverse by simp [Kd.kids, Kd.owns, tlI], e1, e2]
theorem nu_f (E : D) : ∀ (fs : Fs), fs.wd -> ∀ (S : List D) (ks : List Key) (l : List D) (x : Sl), fre x -> AllI ks -> ks.length + fs.pre.length <= 900 -> S.length + 2 * fs.pre.length <= 5000 -> ∃ c ks' l' x', c <= 2 * fs.pre.length /\ fre x' /\ AllI ks' /\ ks'.length <= ks.length + fs.pre.length /\ ∀ m, wN (c + m) E ks l (S ++ (fs.kds.map Kd.ds).reverse) x = wN m E ks' l' S x'
  | .nil, h, S, ks, l, x, hx, ha, hk, hS => ⟨0, ks, l, x, Nat.zero_le _, hx, ha, Nat.le_add_right _ _, fun m => by simp [Fs.kds]⟩
  | .cons lb k r, h, S, ks, l, x, hx, ha, hk, hS => by
    have hp : (Fs.cons lb k r).pre.length = k.pre.length + r.pre.length := by simp [Fs.pre]
    have hr : r.kds.length <= r.pre.length := kds_le r
    obtain ⟨c1, ks1, l1, x1, b1, f1, a1, g1, e1⟩ := nu_v E k h.1 (S ++ (r.kds.map Kd.ds).reverse) ks l x hx ha (by omega) (by rw [List.length_append, List.length_reverse, List.length_map]; omega)
    obtain ⟨c2, ks2, l2, x2, b2, f2, a2, g2, e2⟩ := nu_f E r h.2 S ks1 l1 x1 f1 a1 (by omega) (by omega)
    refine ⟨c1 + c2, ks2, l2, x2, by omega, f2, a2, by omega, fun m => ?_⟩
    rw [show c1 + c2 + m = c1 + (c2 + m) by omega]
    rw [show S ++ ((Fs.cons lb k r).kds.map Kd.ds).reverse = S ++ (r.kds.map Kd.ds).reverse ++ [k.ds] by simp [Fs.kds], e1, e2]
end
theorem keys_int : ∀ {ks : List Key}, AllI ks -> ∃ ns : List Int, ks.map dKey = ns.map D.int /\ ns.length = ks.length
  | [], _ => ⟨[], rfl, rfl⟩
  | k :: ks, h => by
    obtain ⟨ns, e, el⟩ := keys_int (ks := ks) fun x hx => h x (by simp [hx])
    obtain ⟨i, rfl⟩ := h k (by simp)
    exact ⟨i :: ns, by rw [List.map_cons, List.map_cons, e]; rfl, by rw [List.length_cons, List.length_cons, el]⟩
theorem numbers_eq {k : Kd} (h : k.wd) (hs : k.pre.length <= 60) : ∃ ns : List Int, ns.length <= 60 /\ ∃ as, F_numbers [.v k.ds] = some (.v (.lst (ns.map D.int)), as) := by
  obtain ⟨c, ks, l, x, b1, f1, a1, g1, w⟩ := nu_v k.ds k h [] [] [] .un trivial (fun _ h => by cases h) (by simp only [List.length_nil]; omega) (by simp only [List.length_nil]; omega)
  obtain ⟨ns, en, el⟩ := keys_int a1
  have w1 := w (WF - c - 1 + 1)
  rw [show c + (WF - c - 1 + 1) = WF by unfold WF; omega] at w1
  unfold wN at w1
  rw [while_end (own_false (i := 2) (by rfl)), List.nil_append] at w1
  unfold bodyN at w1
  refine ⟨ns, by rw [el]; simp only [List.length_nil] at g1; omega, mk_rt (r' := [.v k.ds, .d ks l, .o [], x]) ?_⟩
  show g_numbers [.v k.ds, .un, .un, .un] = _
  unfold g_numbers
  refine (yK (r' := [.v k.ds, .d [] [], .un, .un]) rfl).trans ((yK (r' := [.v k.ds, .d [] [], .o [k.ds], .un]) rfl).trans ((yK w1).trans (ret_of ?_)))
  show some (D.lst (ks.map dKey)) = _
  rw [en]
noncomputable def fvE (E : List En1) : FV := fun n => match yM E n with
  | some (.kd k) => some k
  | _ => none
noncomputable def frE (E : List En1) : FR := fun n => match yM E n with
  | some (.row G t) => some (G, t)
  | _ => none
noncomputable def Fit (S : Sp) (b n : Int) : Ent -> Prop
  | .kd _ => (n - b) % 2 = 0
  | .row G _ => (n - b) % 2 = 1 /\ G.length <= 8 /\ (G.map (·.1)).Nodup /\ ∀ p ∈ G, S.B p.1
theorem fr_fit {S : Sp} {b : Int} {E : List En1} (h : ∀ e ∈ E, Fit S b e.1 e.2) {n : Int} {q : List Fk × Option Int} (e : frE E n = some q) : q.1.length <= 8 /\ (q.1.map (·.1)).Nodup /\ ∀ p ∈ q.1, S.B p.1 := by
  unfold frE at e
  split at e
  · rename_i G t hl
    cases e
    exact (h _ (lookE_mem hl)).2
  · cases e
theorem brg_of {S : Sp} {b : Int} {E : List En1} (h : ∀ e ∈ E, Fit S b e.1 e.2) : Brg S (frE E) := ⟨fun t q e => (fr_fit h e).2⟩
theorem fil_of {S : Sp} {b : Int} {E : List En1} (h : ∀ e ∈ E, Fit S b e.1 e.2) (hV : ∀ n, S.Vr n -> (n - b) % 2 = 0) (hT : ∀ n, S.Tr n -> (n - b) % 2 = 1) : Fil S (eks E) (els E) (fvD (fvE E)) (frD (frE E)) where
  v := fun n hn => by
    have := hV n hn
    rw [lookD_E]
    unfold fvD fvE
    cases e : yM E n with
    | none => rfl
    | some v =>
      have hf := h _ (lookE_mem e)
      cases v with
      | kd k => rfl
      | row G t => exact absurd hf.1 (by show ¬ (n - b) % 2 = 1; omega)
  t := fun n hn => by
    have := hT n hn
    rw [lookD_E]
    unfold frD frE
    cases e : yM E n with
    | none => rfl
    | some v =>
      have hf := h _ (lookE_mem e)
      cases v with
      | kd k => exact absurd (show (n - b) % 2 = 0 from hf) (by omega)
      | row G t => rfl
  few := fun n q e => by
    unfold frD at e
    obtain ⟨q', e1, rfl⟩ := Option.map_eq_some_iff.mp e
    rw [List.length_map]; exact (fr_fit h e1).1
  nd := fun n q e => by
    unfold frD at e
    obtain ⟨q', e1, rfl⟩ := Option.map_eq_some_iff.mp e
    obtain ⟨_, a, b⟩ := fr_fit h e1
    refine ⟨by rw [List.map_map]; exact a, fun p hp => ?_⟩
    obtain ⟨p', hp', rfl⟩ := List.mem_map.mp hp
    exact b p' hp'
theorem Good.fit {S : Sp} {b : Int} {M : Ws} {n : Int} {v : Ent} (h : Good b M n v) (hB : ∀ l ∈ M, S.B l) : Fit S b n v := by
  cases v with
  | kd k => exact h.1
  | row G t => exact ⟨h.1, by have := h.2.few; omega, h.2.nd, fun p hp => hB _ (h.2.mem p hp)⟩
theorem shift {b : Int} {M : Ws} {k : Kd} (h : k.ok (spA (b + 1000) M)) : k.ok (spA b M) := k.ok_mono (S := spA (b + 1000) M) (S' := spA b M) (fun n hn => by show (n - b) % 2 = 0; have : (n - (b + 1000)) % 2 = 0 := hn; omega) (fun n hn => by show (n - b) % 2 = 1; have : (n - (b + 1000)) % 2 = 1 := hn; omega) (fun _ h => h) h
theorem Good.shift {b : Int} {M : Ws} {n : Int} {v : Ent} (h : Good (b + 1000) M n v) : Good b M n v := by
  cases v with
  | kd k => exact ⟨by have := h.1; omega, K13.shift h.2.1, h.2.2⟩
  | row G t => exact ⟨by have := h.1; omega, ⟨h.2.few, h.2.nd, h.2.up, h.2.mem, fun p hp => ⟨K13.shift (h.2.ok p hp).1, (h.2.ok p hp).2⟩, fun u e => by have := h.2.tl u e; omega⟩⟩
theorem fok_of {S S' : Sp} {b : Int} {M : Ws} {E : List En1} (h : ∀ e ∈ E, Good b M e.1 e.2) (hB : ∀ l ∈ M, S.B l) (vr : ∀ n, S.Vr n -> S'.Vr n) (tr : ∀ n, S.Tr n -> S'.Tr n) (a : ∀ l, S.A l -> S'.A l) (hb : ∀ l, S.B l -> S'.A l) (pv : ∀ n, (n - b) % 2 = 0 -> S'.Vr n) (pt : ∀ n, (n - b) % 2 = 1 -> S'.Tr n) (few : ∀ l : Ws, l.Nodup -> (∀ x ∈ l, S'.A x) -> l.length <= 8) : Fok S S' (fvE E) (frE E) where
  vr := vr
  tr := tr
  a := a
  b := hb
  v := fun n k e => by
    unfold fvE at e
    split at e
    · rename_i k' hl
      cases e
      exact k.ok_mono pv pt (fun l hl => hb l (hB l hl)) (h _ (lookE_mem hl)).2.1
    · cases e
  r := fun n q e => by
    unfold frE at e
    split at e
    · rename_i G t hl
      cases e
      have g := (h _ (lookE_mem hl)).2
      exact ⟨fun p hp => p.2.ok_mono pv pt (fun l hl => hb l (hB l hl)) (g.ok p hp).1, fun u eu => pt u (g.tl u eu)⟩
    · cases e
  g := brg_of fun e he => (h e he).fit hB
  few := few
theorem sz_of {b : Int} {M : Ws} {E : List En1} (h : ∀ e ∈ E, Good b M e.1 e.2) : (∀ n k, fvE E n = some k -> k.pre.length <= 10 /\ k.dp <= 2) /\ ∀ t q, frE E t = some q -> szs (q.1.map (·.2)) <= 9 /\ ∀ p ∈ q.1, p.2.dp <= 2 := by
  refine ⟨fun n k e => ?_, fun n q e => ?_⟩
  · unfold fvE at e
    split at e
    · rename_i k' hl; cases e; exact (h _ (lookE_mem hl)).2.2
    · cases e
  · unfold frE at e
    split at e
    · rename_i G t hl
      cases e
      have g := (h _ (lookE_mem hl)).2
      exact ⟨g.szs, fun p hp => Nat.le_trans (g.ok p hp).2.2 (by decide)⟩
    · cases e
theorem good_ly {b : Int} {M : Ws} (low : ∀ l ∈ M, ∀ c ∈ l, 97 <= c /\ c <= 122) {n : Int} {v : Ent} (h : Good b M n v) : Ly 20 (entD v) := by
  cases v with
  | kd k => exact (k.ly (S := spA b M) low h.2.1).mono (by have := h.2.2.2; omega)
  | row G t =>
    refine (ly_row (n := 10) (fun p hp => ?_) (tl_ly t)).mono (by decide)
    obtain ⟨q, hq, rfl⟩ := List.mem_map.mp hp
    exact ⟨low _ (h.2.mem q hq), (q.2.ly (S := spA b M) low (h.2.ok q hq).1).mono (by have := (h.2.ok q hq).2.2; omega)⟩
theorem items_cons (e : En1) (E : List En1) : itemsL (eks (e :: E)) (els (e :: E)) = .tup [.int e.1, entD e.2] :: itemsL (eks E) (els E) := rfl
noncomputable def bodyA1 : MS := (sIf (mAndT (mBl (zD (neN 400) (zB 6) (mTup (zA (mC (.str [110, 117, 109])) zK)))) (mHasD true (zB 2) (mDct 4)))
 (sDSet 5 (zB 2) (zB 6))
 sSkip)
section
variable {b : Int}
theorem loop1 {M : Ws} (low : ∀ l ∈ M, ∀ c ∈ l, 97 <= c /\ c <= 122) (A0 A1 A3 : D) (E1 : List En1) : ∀ (Rs E : List En1) (x y : Sl), fre x -> fre y -> E.length + Rs.length <= 50 -> (Rs.map (·.1)).Nodup -> (∀ e ∈ Rs, Good b M e.1 e.2) -> (∀ e ∈ E, Good b M e.1 e.2) -> (∀ e ∈ E, ∀ f ∈ Rs, e.1 ≠ f.1) -> (∀ e ∈ E, yM E1 e.1 = none) ->
    ∃ (E' : List En1) (x' y' : Sl), fre x' /\ fre y' /\ E'.length <= 50 /\ (∀ e ∈ E', Good b M e.1 e.2) /\ (∀ e ∈ E', yM E1 e.1 = none) /\
      forL (bdSeq 2 (bdCons (yJ 2) (bdCons (yJ 6) bdNil))) bodyA1 (itemsL (eks Rs) (els Rs)) [.v A0, .v A1, x, .v A3, .d (eks E1) (els E1), .d (eks E) (els E), y, .un, .un] = some (.nx [.v A0, .v A1, x', .v A3, .d (eks E1) (els E1), .d (eks E') (els E'), y', .un, .un])
  | [], E, x, y, hx, hy, hl, _, _, h1, _, h3 => ⟨E, x, y, hx, hy, by omega, h1, h3, rfl⟩
  | e :: Rs, E, x, y, hx, hy, hl, nd, hR, h1, h2, h3 => by
    (rw [List.map_cons, List.nodup_cons] at nd)
    rw [List.length_cons] at hl
    have ge := hR e (by simp)
    let R : En := [.v A0, .v A1, .v (.int e.1), .v A3, .d (eks E1) (els E1), .d (eks E) (els E), .v (entD e.2), .un, .un]
    have tn : mTup (zA (mC (.str [110, 117, 109])) zK) R = some Kd.num.ds := tup_of (zF zI zS) (by show 1 <= 100; decide)
    obtain ⟨c1, ec1⟩ : ∃ c, neN 400 (entD e.2) Kd.num.ds = some (.bl c) := by
      have l1 := (good_ly low ge).lay (m := 400) (by decide)
      have l2 := (ly_num).lay (m := 400) (by decide)
      unfold neN
      rw [l1, show layN 400 Kd.num.ds = true from l2]
      exact ⟨_, rfl⟩
    have ch : mHasD true (zB 2) (mDct 4) R = some (!(yM E1 e.1).isSome) := by
      unfold mHasD
      rw [show zB 2 R = some (.int e.1) from rfl, Option.bind_some, show mDct 4 R = some (eks E1, els E1) from rfl, Option.bind_some]
      show some (if true = true then !(lookD (eks E1) (els E1) (.inl e.1)).isSome else _) = _
      rw [lookD_E, Option.isSome_map]; rfl
    have cc : mAndT (mBl (zD (neN 400) (zB 6) (mTup (zA (mC (.str [110, 117, 109])) zK)))) (mHasD true (zB 2) (mDct 4)) R = some (c1 && !(yM E1 e.1).isSome) := by
      cases c1 with
      | true => exact andT_tx (bl_of (zO rfl tn ec1)) ch
      | false => exact andT_ff (bl_of (zO rfl tn ec1))
    have bdg : bdSeq 2 (bdCons (yJ 2) (bdCons (yJ 6) bdNil)) (.tup [.int e.1, entD e.2]) [.v A0, .v A1, x, .v A3, .d (eks E1) (els E1), .d (eks E) (els E), y, .un, .un] = some R := bdP (r1 := [.v A0, .v A1, .v (.int e.1), .v A3, .d (eks E1) (els E1), .d (eks E) (els E), y, .un, .un]) (yE (x := x) rfl hx) (yE (x := y) rfl hy)
    rw [items_cons]
    by_cases c : (c1 && !(yM E1 e.1).isSome) = true
    · have hn : yM E1 e.1 = none := by
        rw [Bool.and_eq_true] at c
        cases q : yM E1 e.1 with
        | none => rfl
        | some v => rw [q] at c; exact absurd c.2 (by simp)
      obtain ⟨E', x', y', a1, a2, a3, a4, a5, ih⟩ := loop1 low A0 A1 A3 E1 Rs (E ++ [e]) (.v (.int e.1)) (.v (entD e.2)) trivial trivial (by rw [List.length_append]; simp only [List.length_cons, List.length_nil]; omega) nd.2 (fun f hf => hR f (by simp [hf]))
        (fun f hf => by
          rcases List.mem_append.mp hf with hf | hf
          · exact h1 f hf
          · rw [List.mem_singleton.mp hf]; exact ge)
        (fun f hf g hg => by
          rcases List.mem_append.mp hf with hf | hf
          · exact h2 f hf g (by simp [hg])
          · rw [List.mem_singleton.mp hf]; exact fun z => nd.1 (z ▸ List.mem_map_of_mem hg))
        (fun f hf => by
          rcases List.mem_append.mp hf with hf | hf
          · exact h3 f hf
          · rw [List.mem_singleton.mp hf]; exact hn)
      refine ⟨E', x', y', a1, a2, a3, a4, a5, ?_⟩
      have bd : bodyA1 R = some (.nx [.v A0, .v A1, .v (.int e.1), .v A3, .d (eks E1) (els E1), .d (eks (E ++ [e])) (els (E ++ [e])), .v (entD e.2), .un, .un]) := by
        unfold bodyA1
        exact (sIf_t (cc.trans (by rw [c]))).trans (dset_of (i := 5) (k := e.1) (v := e.2) rfl rfl rfl (fun f hf => h2 f hf e (by simp)) (by omega))
      exact (for_go (r1 := R) bdg bd).trans ih
    · obtain ⟨E', x', y', a1, a2, a3, a4, a5, ih⟩ := loop1 low A0 A1 A3 E1 Rs E (.v (.int e.1)) (.v (entD e.2)) trivial trivial (by omega) nd.2 (fun f hf => hR f (by simp [hf])) h1 (fun f hf g hg => h2 f hf g (by simp [hg])) h3
      refine ⟨E', x', y', a1, a2, a3, a4, a5, ?_⟩
      have bd : bodyA1 R = some (.nx R) := by
        unfold bodyA1
        exact (sIf_f (cc.trans (by rw [Bool.not_eq_true] at c; rw [c]))).trans rfl
      exact (for_go (r1 := R) bdg bd).trans ih
end
noncomputable def fillE (v2 : FV) (r2 : FR) : Ent -> Ent
  | .kd k => .kd (k.fk v2 r2)
  | .row G t => .row (srtU ((G.map fun p => (p.1, p.2.fk v2 r2)) ++ (brg r2 t).1)) (brg r2 t).2
noncomputable def fE (v2 : FV) (r2 : FR) (e : En1) : En1 := (e.1, fillE v2 r2 e.2)
section
variable {S : Sp} {ks : List Key} {l : List D} {v2 : FV} {r2 : FR}
theorem filledK (F : Fil S ks l (fvD v2) (frD r2)) (B : Brg S r2) {k : Kd} (ok : k.ok S) (hs : k.pre.length <= 4000) : ∃ as, yG [.v k.ds, .v (.dct ks l)] = some (.v (k.fk v2 r2).ds, as) := by
  rw [k.fk_ds B ok]; exact filled_eq F ok hs
theorem of_row_eq (F : Fil S ks l (fvD v2) (frD r2)) (B : Brg S r2) {G : List Fk} {t : Option Int} (ok : (Kd.rw false (toFs G) t).ok S) (hs : (Kd.rw false (toFs G) t).pre.length <= 4000) : ∃ as, F__law_of_row [.v (rowD (G.map fdK) (tlD t)), .v (.dct ks l)] = some (.v (entD (fillE v2 r2 (.row G t))), as) := by
  let k : Kd := .rw false (toFs G) t
  let R : En := [.v (rowD (G.map fdK) (tlD t)), .v (.dct ks l)]
  refine mk_rt (r' := R) ?_
  show g__law_of_row R = _
  unfold g__law_of_row
  have ek : mTup (zA (mC (.str [114, 101, 99])) (zA (zB 0) zK)) R = some k.ds := by
    refine (tup_of (zF zI (zF rfl zS)) (by show 2 <= 100; decide)).trans ?_
    show some (D.tup [.str sRec, .tup [.str sRow, .tup ((G.map fdK).map fdd), tlD t]]) = some (.tup [.str (wrd false), .tup [.str sRow, .tup (toFs G).ds, tlD t]])
    rw [toFs_ds]; rfl
  have ef : zX 2 yG (zA (mTup (zA (mC (.str [114, 101, 99])) (zA (zB 0) zK))) (zA (zB 1) zK)) R = some (k.fk v2 r2).ds := yO (p := .v (k.fk v2 r2).ds) (zF ek (zF rfl zS)) rfl (filledK F B ok hs)
  refine ret_of (zO ef zI ?_)
  have e1 : (k.fk v2 r2).ds = .tup [.str sRec, entD (fillE v2 r2 (.row G t))] := by
    show D.tup [.str (wrd false), .tup [.str sRow, .tup (toFs (srtU ((toFs G).fk v2 r2 ++ (brg r2 t).1))).ds, tlD (brg r2 t).2]] = .tup [.str sRec, .tup [.str sRow, .tup (((srtU ((G.map fun p => (p.1, p.2.fk v2 r2)) ++ (brg r2 t).1)).map fdK).map fdd), tlD (brg r2 t).2]]
    rw [toFs_fk, toFs_ds]; rfl
  rw [e1]
  exact yC (j := 1) rfl
end
noncomputable def bodyA2 : MS := (sIf (mBl (zD eqA (zD ixD (zB 6) (mC (.int 0))) (mC (.str [114, 111, 119]))))
 (sDSet 7 (zB 2) (zX 2 F__law_of_row (zA (zB 6) (zA (zB 5) zK))))
 (sDSet 7 (zB 2) (zX 2 yG (zA (zB 6) (zA (zB 5) zK)))))
section
variable {b : Int} {S : Sp} {E2 : List En1}
theorem loop2 {M : Ws} (pv : ∀ n, (n - b) % 2 = 0 -> S.Vr n) (pt : ∀ n, (n - b) % 2 = 1 -> S.Tr n) (pa : ∀ l ∈ M, S.A l) (F : Fil S (eks E2) (els E2) (fvD (fvE E2)) (frD (frE E2))) (B : Brg S (frE E2)) (A0 A1 A3 A4 : D) : ∀ (Rs E : List En1) (x y : Sl), fre x -> fre y -> E.length + Rs.length <= 100 -> (Rs.map (·.1)).Nodup -> (∀ e ∈ Rs, Good b M e.1 e.2) -> (∀ e ∈ E, ∀ f ∈ Rs, e.1 ≠ f.1) ->
    ∃ (x' y' : Sl), fre x' /\ fre y' /\
      forL (bdSeq 2 (bdCons (yJ 2) (bdCons (yJ 6) bdNil))) bodyA2 (itemsL (eks Rs) (els Rs)) [.v A0, .v A1, x, .v A3, .v A4, .v (.dct (eks E2) (els E2)), y, .d (eks E) (els E), .un] = some (.nx [.v A0, .v A1, x', .v A3, .v A4, .v (.dct (eks E2) (els E2)), y', .d (eks (E ++ Rs.map (fE (fvE E2) (frE E2)))) (els (E ++ Rs.map (fE (fvE E2) (frE E2)))), .un])
  | [], E, x, y, hx, hy, hl, _, _, _ => ⟨x, y, hx, hy, by rw [List.map_nil, List.append_nil]; rfl⟩
  | e :: Rs, E, x, y, hx, hy, hl, nd, hR, h2 => by
    (rw [List.map_cons, List.nodup_cons] at nd)
    rw [List.length_cons] at hl
    have ge := hR e (by simp)
    let R : En := [.v A0, .v A1, .v (.int e.1), .v A3, .v A4, .v (.dct (eks E2) (els E2)), .v (entD e.2), .d (eks E) (els E), .un]
    have bdg : bdSeq 2 (bdCons (yJ 2) (bdCons (yJ 6) bdNil)) (.tup [.int e.1, entD e.2]) [.v A0, .v A1, x, .v A3, .v A4, .v (.dct (eks E2) (els E2)), y, .d (eks E) (els E), .un] = some R := bdP (r1 := [.v A0, .v A1, .v (.int e.1), .v A3, .v A4, .v (.dct (eks E2) (els E2)), y, .d (eks E) (els E), .un]) (yE (x := x) rfl hx) (yE (x := y) rfl hy)
    let e' : En1 := fE (fvE E2) (frE E2) e
    obtain ⟨x', y', a1, a2, ih⟩ := loop2 pv pt pa F B A0 A1 A3 A4 Rs (E ++ [e']) (.v (.int e.1)) (.v (entD e.2)) trivial trivial (by rw [List.length_append]; simp only [List.length_cons, List.length_nil]; omega) nd.2 (fun f hf => hR f (by simp [hf]))
      (fun f hf g hg => by
        rcases List.mem_append.mp hf with hf | hf
        · exact h2 f hf g (by simp [hg])
        · rw [List.mem_singleton.mp hf]; exact fun z => nd.1 (z ▸ List.mem_map_of_mem hg))
    refine ⟨x', y', a1, a2, ?_⟩
    have fresh : ∀ f ∈ E, f.1 ≠ e.1 := fun f hf => h2 f hf e (by simp)
    have c0 : ∀ (w : List Nat) (l : List D), entD e.2 = .tup (.str w :: l) -> mBl (zD eqA (zD ixD (zB 6) (mC (.int 0))) (mC (.str [114, 111, 119]))) R = some (decide (w = sRow)) := fun w l q => bl_of (zO (zO (x := .tup (.str w :: l)) (by show some (entD e.2) = _; rw [q]) zI (at_zero _ _)) zI rfl)
    have bd : bodyA2 R = some (.nx [.v A0, .v A1, .v (.int e.1), .v A3, .v A4, .v (.dct (eks E2) (els E2)), .v (entD e.2), .d (eks (E ++ [e'])) (els (E ++ [e'])), .un]) := by
      unfold bodyA2
      obtain ⟨n, v⟩ := e
      cases v with
      | kd k =>
        have ok : k.ok S := k.ok_mono pv pt pa ge.2.1
        have ef : zX 2 yG (zA (zB 6) (zA (zB 5) zK)) R = some (entD (fillE (fvE E2) (frE E2) (.kd k))) := yO (p := .v (k.fk (fvE E2) (frE E2)).ds) (zF rfl (zF rfl zS)) rfl (filledK F B ok (by have := ge.2.2.1; omega))
        have cf : mBl (zD eqA (zD ixD (zB 6) (mC (.int 0))) (mC (.str [114, 111, 119]))) R = some false := by
          cases k with
          | num => exact (c0 sNum [] rfl).trans rfl
          | var n => exact (c0 sVar _ rfl).trans rfl
          | fn a b => exact (c0 sFun _ rfl).trans rfl
          | rw o fs tl => exact (c0 (wrd o) _ rfl).trans (by cases o <;> rfl)
        exact (sIf_f cf).trans (dset_of (i := 7) (fk := zB 2) (k := n) (v := fillE (fvE E2) (frE E2) (.kd k)) ef rfl rfl fresh (by omega))
      | row G t =>
        have hg : Row b M G t := ge.2
        obtain ⟨o1, o2, _⟩ := hg.one false
        have ef : zX 2 F__law_of_row (zA (zB 6) (zA (zB 5) zK)) R = some (entD (fillE (fvE E2) (frE E2) (.row G t))) := yO (p := .v (entD (fillE (fvE E2) (frE E2) (.row G t)))) (zF rfl (zF rfl zS)) rfl (of_row_eq F B (Kd.ok_mono pv pt pa _ o1) (by omega))
        exact (sIf_t ((c0 sRow _ rfl).trans rfl)).trans (dset_of (i := 7) (fk := zB 2) (k := n) (v := fillE (fvE E2) (frE E2) (.row G t)) ef rfl rfl fresh (by omega))
    rw [items_cons]
    refine (for_go (r1 := R) bdg bd).trans ?_
    rw [ih, List.map_cons, List.append_assoc]; rfl
end
theorem lookE_app (n : Int) (F : List En1) : ∀ E : List En1, yM (E ++ F) n = match yM E n with
    | some v => some v
    | none => yM F n
  | [] => rfl
  | e :: E => by
    have a : yM (e :: E) n = if e.1 = n then some e.2 else yM E n := rfl
    show (if e.1 = n then some e.2 else yM (E ++ F) n) = _
    rw [a]
    by_cases h : e.1 = n
    · rw [if_pos h, if_pos h]
    · rw [if_neg h, if_neg h]; exact lookE_app n F E
theorem lookE_map (v2 : FV) (r2 : FR) (n : Int) : ∀ E : List En1, yM (E.map (fE v2 r2)) n = (yM E n).map (fillE v2 r2)
  | [] => rfl
  | e :: E => by
    have a : yM (e :: E) n = if e.1 = n then some e.2 else yM E n := rfl
    show (if e.1 = n then some (fillE v2 r2 e.2) else yM (E.map (fE v2 r2)) n) = _
    rw [a]
    by_cases h : e.1 = n
    · rw [if_pos h, if_pos h]; rfl
    · rw [if_neg h, if_neg h]; exact lookE_map v2 r2 n E
theorem look_both {E1 E2 : List En1} (h : ∀ e ∈ E2, yM E1 e.1 = none) (n : Int) : yM (E2 ++ E1.map (fE (fvE E2) (frE E2))) n = match yM E1 n with
    | some v => some (fillE (fvE E2) (frE E2) v)
    | none => yM E2 n := by
  rw [lookE_app, lookE_map]
  cases q : yM E2 n with
  | none => cases yM E1 n <;> rfl
  | some w => rw [h _ (lookE_mem q)]
theorem both_v {E1 E2 : List En1} (h : ∀ e ∈ E2, yM E1 e.1 = none) : fvE (E2 ++ E1.map (fE (fvE E2) (frE E2))) = two (fvE E1) (fvE E2) (frE E2) := funext fun n => by
  have hb := look_both h n
  have hn : ∀ v, yM E1 n = some v -> yM E2 n = none := fun v q => by
    cases q2 : yM E2 n with
    | none => rfl
    | some w => have := h _ (lookE_mem q2); rw [q] at this; cases this
  show (match yM (E2 ++ E1.map (fE (fvE E2) (frE E2))) n with
    | some (.kd k) => some k
    | _ => none) = (match (match yM E1 n with
      | some (.kd k) => some k
      | _ => none) with
    | some k => some (k.fk (fvE E2) (frE E2))
    | none => fvE E2 n)
  rw [hb]
  cases q : yM E1 n with
  | none => rfl
  | some v =>
    cases v with
    | kd k => rfl
    | row G t =>
      show none = fvE E2 n
      unfold fvE
      rw [hn _ q]
theorem both_r {E1 E2 : List En1} (h : ∀ e ∈ E2, yM E1 e.1 = none) : frE (E2 ++ E1.map (fE (fvE E2) (frE E2))) = twoR (frE E1) (fvE E2) (frE E2) := funext fun n => by
  have hb := look_both h n
  have hn : ∀ v, yM E1 n = some v -> yM E2 n = none := fun v q => by
    cases q2 : yM E2 n with
    | none => rfl
    | some w => have := h _ (lookE_mem q2); rw [q] at this; cases this
  show (match yM (E2 ++ E1.map (fE (fvE E2) (frE E2))) n with
    | some (.row G t) => some (G, t)
    | _ => none) = (match (match yM E1 n with
      | some (.row G t) => some (G, t)
      | _ => none) with
    | some q => some (srtU ((q.1.map fun p => (p.1, p.2.fk (fvE E2) (frE E2))) ++ (brg (frE E2) q.2).1), (brg (frE E2) q.2).2)
    | none => frE E2 n)
  rw [hb]
  cases q : yM E1 n with
  | none => rfl
  | some v =>
    cases v with
    | row G t => rfl
    | kd k =>
      show none = frE E2 n
      unfold frE
      rw [hn _ q]
noncomputable def sv (b n : Int) : Ent := if (n - b) % 2 = 0 then .kd (.var n) else .row [] (some n)
noncomputable def Sm (b : Int) (ks : List Key) (l : List D) : Prop := ks.length = l.length /\ ∀ (i : Nat) (n : Int) (d : D), ks[i]? = some (.inl n) -> l[i]? = some d -> d = entD (sv b n)
theorem sm_put {b : Int} {ks : List Key} {l : List D} (h : Sm b ks l) (n : Int) : Sm b (putD ks l (.inl n) (entD (sv b n))).1 (putD ks l (.inl n) (entD (sv b n))).2 /\ (putD ks l (.inl n) (entD (sv b n))).1.length <= ks.length + 1 := by
  obtain ⟨h1, h2⟩ := h
  unfold putD
  split
  · refine ⟨⟨by show ks.length = (List.zipWith _ ks l).length; rw [List.length_zipWith, <- h1, Nat.min_self], fun i m d e1 e2 => ?_⟩, Nat.le_succ _⟩
    simp only at e1 e2
    rw [List.getElem?_zipWith, e1] at e2
    cases e3 : l[i]? with
    | none => rw [e3] at e2; cases e2
    | some d' =>
      rw [e3] at e2
      have e4 : (if (Sum.inl m : Key) = .inl n then entD (sv b n) else d') = d := Option.some.inj e2
      by_cases q : (Sum.inl m : Key) = .inl n
      · rw [if_pos q] at e4
        rw [<- e4, Sum.inl.inj q]
      · rw [if_neg q] at e4
        rw [<- e4]; exact h2 i m d' e1 e3
  · refine ⟨⟨by simp only [List.length_append, List.length_cons, List.length_nil]; omega, fun i m d e1 e2 => ?_⟩, by rw [List.length_append]; exact Nat.le_refl _⟩
    simp only at e1 e2
    rw [List.getElem?_append] at e1 e2
    by_cases hi : i < ks.length
    · rw [if_pos hi] at e1
      rw [if_pos (by omega)] at e2
      exact h2 i m d e1 e2
    · rw [if_neg hi] at e1
      rw [if_neg (by omega)] at e2
      rw [<- h1] at e2
      cases j : i - ks.length with
      | zero => rw [j] at e1 e2; cases e1; cases e2; rfl
      | succ j' => rw [j] at e1; cases e1
theorem look_at : ∀ {ks : List Key} {l : List D} {k : Key} {d : D}, lookD ks l k = some d -> ∃ i : Nat, ks[i]? = some k /\ l[i]? = some d
  | [], _, k, d, h => by unfold lookD at h; cases h
  | _ :: _, [], k, d, h => by unfold lookD at h; cases h
  | k' :: ks, d' :: l, k, d, h => by
    have h' : (if k' = k then some d' else lookD ks l k) = some d := h
    by_cases q : k' = k
    · rw [if_pos q] at h'
      exact ⟨0, by rw [q]; rfl, h'⟩
    · rw [if_neg q] at h'
      obtain ⟨i, a, b⟩ := look_at h'
      exact ⟨i + 1, by simpa using a, by simpa using b⟩
noncomputable def fvS (ks : List Key) (l : List D) : FV := fun n => if (lookD ks l (.inl n)).isSome then some (.var n) else none
noncomputable def frS (ks : List Key) (l : List D) : FR := fun n => if (lookD ks l (.inl n)).isSome then some ([], some n) else none
theorem fil_same {b : Int} {ks : List Key} {l : List D} (h : Sm b ks l) (A : Ws) : Fil (spA b A) ks l (fvD (fvS ks l)) (frD (frS ks l)) where
  v := fun n hn => by
    have hn' : (n - b) % 2 = 0 := hn
    unfold fvD fvS
    cases e : lookD ks l (.inl n) with
    | none => rfl
    | some d =>
      obtain ⟨i, e1, e2⟩ := look_at e
      rw [h.2 i n d e1 e2]
      unfold sv
      rw [if_pos hn']; rfl
  t := fun n hn => by
    have hn' : (n - b) % 2 = 1 := hn
    unfold frD frS
    cases e : lookD ks l (.inl n) with
    | none => rfl
    | some d =>
      obtain ⟨i, e1, e2⟩ := look_at e
      rw [h.2 i n d e1 e2]
      unfold sv
      rw [if_neg (by omega)]; rfl
  few := fun n q e => by
    unfold frD frS at e
    obtain ⟨q', e1, rfl⟩ := Option.map_eq_some_iff.mp e
    split at e1
    · cases e1; exact Nat.zero_le _
    · cases e1
  nd := fun n q e => by
    unfold frD frS at e
    obtain ⟨q', e1, rfl⟩ := Option.map_eq_some_iff.mp e
    split at e1
    · cases e1; exact ⟨List.nodup_nil, fun p hp => by cases hp⟩
    · cases e1
theorem brg_same {b : Int} {ks : List Key} {l : List D} (A : Ws) : Brg (spA b A) (frS ks l) := ⟨fun t q e => by
  unfold frS at e
  split at e
  · cases e; exact ⟨List.nodup_nil, fun p hp => by cases hp⟩
  · cases e⟩
theorem same_fk {b : Int} {ks : List Key} {l : List D} (A : Ws) {k : Kd} (ok : k.ok (spA b A)) : k.fk (fvS ks l) (frS ks l) = k := Kd.fk_same (S := spA b A) (fun n k' e => by
  unfold fvS at e
  split at e
  · cases e; rfl
  · cases e) (fun t q e => by
  unfold frS at e
  split at e
  · cases e; rfl
  · cases e) k ok
noncomputable def bodyA3 : MS := (sDSet 8 (zB 2) (zD ixD (mOfF (yR (zA (mTup (zA (mC (.str [118, 97, 114])) (zA (zB 2) zK))) (zA (mTup (zA (mC (.str [114, 111, 119])) (zA (mTup zK) (zA (zB 2) zK)))) zK)))) (zD yL (zD subD (zB 2) (zB 3)) (mC (.int 2)))))
theorem loop3 (b : Int) (A0 A1 A4 A5 A6 A7 : D) : ∀ (ns : List Int) (ks : List Key) (l : List D) (x : Sl), fre x -> Sm b ks l -> ks.length + ns.length <= 500 ->
    ∃ (ks' : List Key) (l' : List D) (x' : Sl), fre x' /\ Sm b ks' l' /\
      forL (yJ 2) bodyA3 (ns.map D.int) [.v A0, .v A1, x, .v (.int b), .v A4, .v A5, .v A6, .v A7, .d ks l] = some (.nx [.v A0, .v A1, x', .v (.int b), .v A4, .v A5, .v A6, .v A7, .d ks' l'])
  | [], ks, l, x, hx, h, _ => ⟨ks, l, x, hx, h, rfl⟩
  | n :: ns, ks, l, x, hx, h, hl => by
    rw [List.length_cons] at hl
    obtain ⟨h1, h2⟩ := sm_put h n
    obtain ⟨ks', l', x', a1, a2, ih⟩ := loop3 b A0 A1 A4 A5 A6 A7 ns _ _ (.v (.int n)) trivial h1 (by omega)
    refine ⟨ks', l', x', a1, a2, ?_⟩
    let R : En := [.v A0, .v A1, .v (.int n), .v (.int b), .v A4, .v A5, .v A6, .v A7, .d ks l]
    have el : mOfF (yR (zA (mTup (zA (mC (.str [118, 97, 114])) (zA (zB 2) zK))) (zA (mTup (zA (mC (.str [114, 111, 119])) (zA (mTup zK) (zA (zB 2) zK)))) zK))) R = some (.lst [(Kd.var n).ds, rowD [] (.int n)]) := lstF_of (zF (tup_of (zF zI (zF rfl zS)) (by show 2 <= 100; decide)) (zF (tup_of (zF zI (zF (tup_of zS (by show 0 <= 100; decide)) (zF rfl zS))) (by show 3 <= 100; decide)) zS)) (by show 2 <= 100; decide)
    have ei : zD yL (zD subD (zB 2) (zB 3)) (mC (.int 2)) R = some (.int ((n - b) % 2)) := mod_of (sub_of rfl rfl) zI (by decide)
    have ev : zD ixD (mOfF (yR (zA (mTup (zA (mC (.str [118, 97, 114])) (zA (zB 2) zK))) (zA (mTup (zA (mC (.str [114, 111, 119])) (zA (mTup zK) (zA (zB 2) zK)))) zK)))) (zD yL (zD subD (zB 2) (zB 3)) (mC (.int 2))) R = some (entD (sv b n)) := by
      unfold sv
      have := mod2 (n - b)
      by_cases q : (n - b) % 2 = 0
      · rw [if_pos q]; exact zO el (y := .int ((0 : Nat) : Int)) (ei.trans (by rw [q]; rfl)) (yC (j := 0) rfl)
      · rw [if_neg q]; exact zO el (y := .int ((1 : Nat) : Int)) (ei.trans (by rw [show (n - b) % 2 = 1 by omega]; rfl)) (yC (j := 1) rfl)
    have bd : bodyA3 R = some (.nx [.v A0, .v A1, .v (.int n), .v (.int b), .v A4, .v A5, .v A6, .v A7, .d (putD ks l (.inl n) (entD (sv b n))).1 (putD ks l (.inl n) (entD (sv b n))).2]) := by
      unfold bodyA3 sDSet
      rw [ev, Option.bind_some, show zB 2 R = some (.int n) from rfl, Option.bind_some]
      show (if ks.length < sizeLine then _ else none) = _
      rw [if_pos (Nat.lt_of_le_of_lt (by omega : ks.length <= 500) (by decide))]; rfl
    rw [List.map_cons]
    exact (for_go (r1 := R) (yE (x := x) rfl hx) bd).trans ih
theorem setD_fre {i : Nat} {ks : List Key} {l : List D} {r : En} {x : Sl} (e : r[i]? = some x) (h : fre x) : setD i ks l r = some (r.set i (.d ks l)) := by
  unfold setD
  rw [e]
  cases x <;> first | rfl | cases h
noncomputable def bodyA4 : MS := (yB (sIf (mBl (zD (neN 400) (zX 2 yG (zA (zX 2 yG (zA (zB 6) (zA (zB 4) zK))) (zA (zB 5) zK))) (zX 2 yG (zA (zB 6) (zA (zB 7) zK)))))
 (sRet (mC (.bl false)))
 sSkip)
 (yB (sOwnD 8 mD0)
 (yB (sFor (yJ 2) (mIt (zX 1 F_numbers (zA (zB 6) zK)))
 (sDSet 8 (zB 2) (zD ixD (mOfF (yR (zA (mTup (zA (mC (.str [118, 97, 114])) (zA (zB 2) zK))) (zA (mTup (zA (mC (.str [114, 111, 119])) (zA (mTup zK) (zA (zB 2) zK)))) zK)))) (zD yL (zD subD (zB 2) (zB 3)) (mC (.int 2))))))
 (sFz 8 (sIf (mBl (zD (neN 400) (zX 2 yG (zA (zB 6) (zA (zB 8) zK))) (zB 6)))
 (sRet (mC (.bl false)))
 sSkip)))))
theorem loop4 {b : Int} {A : Ws} (low : ∀ l ∈ A, ∀ c ∈ l, 97 <= c /\ c <= 122) (A0 A1 D1 D2 Db : D) : ∀ (P : List Kd) (x y z : Sl), fre x -> fre y -> fre z -> (∀ k ∈ P, k.ok (spA b A) /\ k.dp <= 60 /\ k.pre.length <= 60 /\ ∃ d1 d2, (∃ as, yG [.v k.ds, .v D1] = some (.v d1, as)) /\ (∃ as, yG [.v d1, .v D2] = some (.v d2, as)) /\ (∃ as, yG [.v k.ds, .v Db] = some (.v d2, as)) /\ layN 400 d2 = true) ->
    ∃ x' y' z', forL (yJ 6) bodyA4 (P.map Kd.ds) [.v A0, .v A1, x, .v (.int b), .v D1, .v D2, y, .v Db, z] = some (.nx [.v A0, .v A1, x', .v (.int b), .v D1, .v D2, y', .v Db, z'])
  | [], x, y, z, _, _, _, _ => ⟨x, y, z, rfl⟩
  | k :: P, x, y, z, hx, hy, hz, hP => by
    obtain ⟨ok, dp, sz, d1, d2, f1, f2, f3, ly⟩ := hP k (by simp)
    obtain ⟨ns, hn, en⟩ := numbers_eq (k.ok_wd ok) sz
    obtain ⟨ks, l, x2, fx2, sm, lp⟩ := loop3 b A0 A1 D1 D2 k.ds Db ns [] [] x hx ⟨rfl, fun i n d e _ => by cases e⟩ (by simp only [List.length_nil]; omega)
    obtain ⟨x', y', z', ih⟩ := loop4 low A0 A1 D1 D2 Db P x2 (.v k.ds) (.v (.dct ks l)) fx2 trivial trivial fun q hq => hP q (by simp [hq])
    refine ⟨x', y', z', ?_⟩
    let fr' : Sl -> Sl -> En := fun x z => [.v A0, .v A1, x, .v (.int b), .v D1, .v D2, .v k.ds, .v Db, z]
    have c1 : mBl (zD (neN 400) (zX 2 yG (zA (zX 2 yG (zA (zB 6) (zA (zB 4) zK))) (zA (zB 5) zK))) (zX 2 yG (zA (zB 6) (zA (zB 7) zK)))) (fr' x z) = some false := bl_of (zO (x := d2) (y := d2) (yO (p := .v d2) (zF (yO (p := .v d1) (zF rfl (zF rfl zS)) rfl f1) (zF rfl zS)) rfl f2) (yO (p := .v d2) (zF rfl (zF rfl zS)) rfl f3) (eqN_refl ly).2)
    have ow : sOwnD 8 mD0 (fr' x z) = some (.nx (fr' x (.d [] []))) := by
      unfold sOwnD
      show (setD 8 [] [] (fr' x z)).map Fl.nx = _
      rw [setD_fre (x := z) rfl hz]; rfl
    have fo : sFor (yJ 2) (mIt (zX 1 F_numbers (zA (zB 6) zK))) bodyA3 (fr' x (.d [] [])) = some (.nx (fr' x2 (.d ks l))) := by
      have cn : zX 1 F_numbers (zA (zB 6) zK) (fr' x (.d [] [])) = some (.lst (ns.map D.int)) := yO (p := .v (.lst (ns.map D.int))) (l := [k.ds]) (zF rfl zS) rfl en
      unfold sFor
      rw [show mIt (zX 1 F_numbers (zA (zB 6) zK)) (fr' x (.d [] [])) = some (ns.map D.int) by
        unfold mIt
        rw [cn]; rfl, Option.bind_some]
      exact lp
    unfold bodyA3 at fo
    have lk := (k.ly (S := spA b A) low ok).lay (m := 400) (by omega)
    have fs : ∃ as, yG [.v k.ds, .v (.dct ks l)] = some (.v k.ds, as) := by
      have := filledK (fil_same sm A) (brg_same A) ok (by omega)
      rw [same_fk A ok] at this
      exact this
    have c2 : mBl (zD (neN 400) (zX 2 yG (zA (zB 6) (zA (zB 8) zK))) (zB 6)) (fr' x2 (.v (.dct ks l))) = some false := bl_of (zO (x := k.ds) (y := k.ds) (yO (p := .v k.ds) (zF rfl (zF rfl zS)) rfl fs) rfl (eqN_refl lk).2)
    have bd : bodyA4 (fr' x z) = some (.nx (fr' x2 (.v (.dct ks l)))) := by
      unfold bodyA4
      refine (yK (r' := fr' x z) ((sIf_f c1).trans rfl)).trans ((yK ow).trans ((yK fo).trans ?_))
      unfold sFz
      show sIf _ _ _ (fr' x2 (.v (.dct ks l))) = _
      exact (sIf_f c2).trans rfl
    rw [List.map_cons]
    exact (for_go (r1 := fr' x z) (yE (x := y) rfl hy) bd).trans ih
theorem callF_of {n : Nat} {m : MF} {fl : ML} {r : En} {l : List D} {q : List D} (e : fl r = some l) (hl : l.length = n) (h : ∃ as, m (l.map .v) = some (.f q, as)) : mOfF (mCallF n m fl) r = some (.lst q) := by
  obtain ⟨as, h⟩ := h
  unfold mOfF mCallF
  rw [e, Option.bind_some, if_pos hl, h]; rfl
theorem callD_of {n : Nat} {m : MF} {fl : ML} {r : En} {l : List D} {ks : List Key} {q : List D} (e : fl r = some l) (hl : l.length = n) (h : ∃ as, m (l.map .v) = some (.g ks q, as)) : mCallD n m fl r = some (ks, q) := by
  obtain ⟨as, h⟩ := h
  unfold mCallD
  rw [e, Option.bind_some, if_pos hl, h]; rfl
theorem seq_ownD {i : Nat} {f : MD} {h : MS} {r r2 : En} {ks : List Key} {l : List D} {z : Option Fl} (e : f r = some (ks, l)) (e2 : setD i ks l r = some r2) (q : h r2 = z) : yB (sOwnD i f) h r = z := by
  rw [yK (r' := r2) (by
    unfold sOwnD
    rw [e, Option.bind_some]
    show (setD i ks l r).map Fl.nx = _
    rw [e2]; rfl)]
  exact q
theorem for_of {bd : D -> En -> Option En} {it : ML} {g : MS} {r : En} {l : List D} {z : Option Fl} (e1 : it r = some l) (e2 : forL bd g l r = z) : sFor bd it g r = z := by
  unfold sFor; rw [e1, Option.bind_some]; exact e2
noncomputable def spL (b : Int) (A B : Ws) (ap : ∀ l ∈ A, l ∉ B) : Sp where
  Vr := fun n => (n - b) % 2 = 0
  Tr := fun n => (n - b) % 2 = 1
  A := fun l => l ∈ A
  B := fun l => l ∈ B
  ap := ap
theorem lookE_none {n : Int} : ∀ {E : List En1}, yM E n = none -> ∀ f ∈ E, f.1 ≠ n
  | [], _, f, hf => by cases hf
  | e :: E, h, f, hf => by
    have h' : (if e.1 = n then some e.2 else yM E n) = none := h
    by_cases q : e.1 = n
    · rw [if_pos q] at h'; cases h'
    · rw [if_neg q] at h'
      rcases List.mem_cons.mp hf with rfl | hf
      · exact q
      · exact lookE_none h' f hf
theorem fill_fit {b : Int} {A B1 B2 : Ws} {E2 : List En1} (bc : ∀ l ∈ B1, l ∉ B2) {ap1 : ∀ l ∈ A, l ∉ B1 ++ B2} {ap2 : ∀ l ∈ A ++ B1, l ∉ B2} (fit2 : ∀ e ∈ E2, Fit (spL b (A ++ B1) B2 ap2) b e.1 e.2) (g2 : ∀ e ∈ E2, Good b B2 e.1 e.2) {n : Int} {v : Ent} (g : Good b B1 n v) : Fit (spL b A (B1 ++ B2) ap1) b n (fillE (fvE E2) (frE E2) v) := by
  cases v with
  | kd k => exact g.1
  | row G t =>
    let f : Fk -> Fk := fun p => (p.1, p.2.fk (fvE E2) (frE E2))
    have hb := brg_ok (brg_of fit2) t
    have hlen : (brg (frE E2) t).1.length <= 2 := brg_r (fr := frE E2) (P := fun q => q.1.length <= 2) (fun _ => Nat.zero_le _) (fun u q e => by
      unfold frE at e
      split at e
      · rename_i G' t' hl; cases e; exact (g2 _ (lookE_mem hl)).2.few
      · cases e) t
    have gl : (G.map f).map (·.1) = G.map (·.1) := by rw [List.map_map]; rfl
    have nd : ((G.map f ++ (brg (frE E2) t).1).map (·.1)).Nodup := by
      rw [List.map_append, gl]
      refine List.nodup_append.mpr ⟨g.2.nd, hb.1, fun x hx y hy e => ?_⟩
      subst e
      obtain ⟨p, hp, rfl⟩ := List.mem_map.mp hx
      obtain ⟨q, hq, e⟩ := List.mem_map.mp hy
      exact bc _ (g.2.mem p hp) (e ▸ hb.2 q hq)
    refine ⟨g.1, ?_, ((yF _).map _).nodup_iff.mpr nd, fun p hp => ?_⟩
    · rw [(yF _).length_eq, List.length_append, List.length_map]
      have := g.2.few
      omega
    · rcases List.mem_append.mp ((yF _).mem_iff.mp hp) with hp | hp
      · obtain ⟨q, hq, rfl⟩ := List.mem_map.mp hp
        exact List.mem_append.mpr (.inl (g.2.mem q hq))
      · exact List.mem_append.mpr (.inr (hb.2 p hp))
theorem key_far {b : Int} {j k : Nat} (hj : j < 9) (hk : k < 9) : key (b + 1000) j ≠ key b k := by
  unfold key
  split <;> split <;> omega
theorem law_math (ns : List Int) (hl : ns.length <= 63) : ∃ as, F_law [.v (.lst (ns.map .int))] = some (.v (.bl true), as) := by
  let sc : D := .lst (ns.map .int)
  obtain ⟨z0, _, m0⟩ := mixed_eq (ns.getD 0 0) (k := ((0 : Nat) : Int)) (by decide) (by decide)
  obtain ⟨L, hL, eL⟩ := labels_eq z0
  obtain ⟨z, hz, m1⟩ := mixed_eq (ns.getD 1 0) (k := ((1 : Nat) : Int)) (by decide) (by decide)
  have c0 := cell_eq ns 0
  have c1 := cell_eq ns 1
  let DL : D := .lst (dw L)
  let R2 : En := [.v sc, .v DL, .v (.int z), .un, .un, .un, .un, .un, .un]
  obtain ⟨b, eb⟩ : ∃ b : Int, zD ixD (mOfF (yR (zA (mC (.int 0)) (zA (zD yL (zD yU (zB 2) (mC (.int 2))) (zD powD (mC (.int 10)) (mC (.int 15)))) zK)))) (zD yL (zB 2) (mC (.int 2))) R2 = some (.int b) := by
    have el : mOfF (yR (zA (mC (.int 0)) (zA (zD yL (zD yU (zB 2) (mC (.int 2))) (zD powD (mC (.int 10)) (mC (.int 15)))) zK))) R2 = some (.lst [.int 0, .int (z / 2 % 1000000000000000)]) := lstF_of (zF zI (zF (mod_of (j := 1000000000000000) (fdiv_of (i := z) rfl zI (by decide)) rfl (by decide)) zS)) (by show 2 <= 100; decide)
    have ei : zD yL (zB 2) (mC (.int 2)) R2 = some (.int (z % 2)) := mod_of rfl zI (by decide)
    rcases (by omega : z % 2 = 0 \/ z % 2 = 1) with h | h
    · exact ⟨_, zO el (y := .int ((0 : Nat) : Int)) (ei.trans (by rw [h]; rfl)) (yC (j := 0) rfl)⟩
    · exact ⟨_, zO el (y := .int ((1 : Nat) : Int)) (ei.trans (by rw [h]; rfl)) (yC (j := 1) rfl)⟩
  obtain ⟨A, hA⟩ : ∃ A, A = L.take 2 := ⟨_, rfl⟩
  obtain ⟨B1, hB1⟩ : ∃ B1, B1 = (L.take 4).drop 2 := ⟨_, rfl⟩
  obtain ⟨B2, hB2⟩ : ∃ B2, B2 = L.drop 4 := ⟨_, rfl⟩
  have lA : A.length = 2 := by rw [hA, List.length_take, hL.len]; rfl
  have lB1 : B1.length = 2 := by rw [hB1, List.length_drop, List.length_take, hL.len]; rfl
  have lB2 : B2.length = 2 := by rw [hB2, List.length_drop, hL.len]
  have eLL : A ++ B1 ++ B2 = L := by
    have e1 : (L.take 4).take 2 = L.take 2 := by rw [List.take_take]; rfl
    rw [hA, hB1, hB2, <- e1, List.take_append_drop, List.take_append_drop]
  have nd : (A ++ B1 ++ B2).Nodup := by rw [eLL]; exact hL.nd
  obtain ⟨nAB, nB2, d3⟩ := List.nodup_append.mp nd
  obtain ⟨nA, nB1, d2⟩ := List.nodup_append.mp nAB
  have ab : ∀ l ∈ A, l ∉ B1 := fun l h1 h2 => d2 l h1 l h2 rfl
  have ac : ∀ l ∈ A, l ∉ B2 := fun l h1 h2 => d3 l (List.mem_append.mpr (.inl h1)) l h2 rfl
  have bc : ∀ l ∈ B1, l ∉ B2 := fun l h1 h2 => d3 l (List.mem_append.mpr (.inr h1)) l h2 rfl
  have lowL : ∀ l ∈ A ++ B1 ++ B2, ∀ c ∈ l, 97 <= c /\ c <= 122 := fun l h => hL.low l (by rw [<- eLL]; exact h)
  have lowA : ∀ l ∈ A, ∀ c ∈ l, 97 <= c /\ c <= 122 := fun l h => lowL l (List.mem_append.mpr (.inl (List.mem_append.mpr (.inl h))))
  have lowB2 : ∀ l ∈ B2, ∀ c ∈ l, 97 <= c /\ c <= 122 := fun l h => lowL l (List.mem_append.mpr (.inr h))
  have ap1 : ∀ l ∈ A, l ∉ B1 ++ B2 := fun l h1 h2 => (List.mem_append.mp h2).elim (ab l h1) (ac l h1)
  have ap2 : ∀ l ∈ A ++ B1, l ∉ B2 := fun l h1 h2 => (List.mem_append.mp h1).elim (fun h => ac l h h2) (fun h => bc l h h2)
  obtain ⟨E1, n1, nd1, g1, k1, e1⟩ := filling_eq ns b lB1 nB1 (pl := 70) (by decide)
  obtain ⟨E2, n2, nd2, g2, k2, e2⟩ := filling_eq ns (b + 1000) lB2 nB2 (pl := 90) (by decide)
  obtain ⟨E3, n3, nd3, g3, k3, e3⟩ := filling_eq ns b lB2 nB2 (pl := 110) (by decide)
  obtain ⟨E', x1, y1, fx1, fy1, lE', gE', noE', lp1⟩ := loop1 (b := b) lowB2 sc DL (.int b) E1 E3 E2 (.v (.int z)) .un trivial trivial (by omega) nd3 g3 (fun e he => (g2 e he).shift)
    (fun e he f hf => by
      obtain ⟨j, hj, ej⟩ := k2 e he
      obtain ⟨k, hk, ek⟩ := k3 f hf
      rw [ej, ek]; exact key_far hj hk)
    (fun e he => by
      cases q : yM E1 e.1 with
      | none => rfl
      | some v =>
        obtain ⟨j, hj, ej⟩ := k2 e he
        obtain ⟨k, hk, ek⟩ := k1 _ (lookE_mem q)
        exact absurd (ej.symm.trans ek) (key_far hj hk))
  let S1 : Sp := spL b A B1 ab
  let S2 : Sp := spL b (A ++ B1) B2 ap2
  let Sb : Sp := spL b A (B1 ++ B2) ap1
  let S3 : Sp := spA b (A ++ B1 ++ B2)
  have fit1 : ∀ e ∈ E1, Fit S1 b e.1 e.2 := fun e he => (g1 e he).fit fun l h => h
  have fit2 : ∀ e ∈ E', Fit S2 b e.1 e.2 := fun e he => (gE' e he).fit fun l h => h
  have F1 := fil_of fit1 (fun _ h => h) (fun _ h => h)
  have F2 := fil_of fit2 (fun _ h => h) (fun _ h => h)
  have few : ∀ (W : Ws), W.length <= 6 -> ∀ l : Ws, l.Nodup -> (∀ x ∈ l, x ∈ W) -> l.length <= 8 := fun W hW l n h => Nat.le_trans (nd_len n h) (by omega)
  have fok1 : Fok S1 S2 (fvE E1) (frE E1) := fok_of g1 (fun l h => h) (fun _ h => h) (fun _ h => h) (fun l h => List.mem_append.mpr (.inl h)) (fun l h => List.mem_append.mpr (.inr h)) (fun _ h => h) (fun _ h => h) (few (A ++ B1) (by rw [List.length_append]; omega))
  have fok2 : Fok S2 S3 (fvE E') (frE E') := fok_of gE' (fun l h => h) (fun _ h => h) (fun _ h => h) (fun l h => List.mem_append.mpr (.inl h)) (fun l h => List.mem_append.mpr (.inr h)) (fun _ h => h) (fun _ h => h) (few (A ++ B1 ++ B2) (by rw [List.length_append, List.length_append]; omega))
  obtain ⟨x2, y2, fx2, fy2, lp2⟩ := loop2 (b := b) (S := S2) (E2 := E') (M := B1) (fun _ h => h) (fun _ h => h) (fun l h => List.mem_append.mpr (.inr h)) F2 (brg_of fit2) sc DL (.int b) (.dct (eks E1) (els E1)) E1 E' x1 y1 fx1 fy1 (by omega) nd1 g1 (fun e he f hf => (lookE_none (noE' e he) f hf).symm)
  let Eb : List En1 := E' ++ E1.map (fE (fvE E') (frE E'))
  have fitb : ∀ e ∈ Eb, Fit Sb b e.1 e.2 := fun e he => by
    (rcases List.mem_append.mp he with he | he)
    · exact (gE' e he).fit fun l h => List.mem_append.mpr (.inr h)
    · obtain ⟨f, hf, rfl⟩ := List.mem_map.mp he
      exact fill_fit bc fit2 gE' (g1 f hf)
  have Fb := fil_of fitb (fun _ h => h) (fun _ h => h)
  let cs : List Int := (ns.take 63).drop 3
  have hcs : cs.length <= 60 := by show ((ns.take 63).drop 3).length <= 60; rw [List.length_drop, List.length_take]; omega
  obtain ⟨P, hP, eP⟩ := pile_eq (b := b) lA nA cs hcs
  have all : ∀ k ∈ P, k.ok (spA b A) /\ k.dp <= 60 /\ k.pre.length <= 60 /\ ∃ d1 d2, (∃ as, yG [.v k.ds, .v (.dct (eks E1) (els E1))] = some (.v d1, as)) /\ (∃ as, yG [.v d1, .v (.dct (eks E') (els E'))] = some (.v d2, as)) /\ (∃ as, yG [.v k.ds, .v (.dct (eks Eb) (els Eb))] = some (.v d2, as)) /\ layN 400 d2 = true := fun k hk => by
    obtain ⟨ok, dp, sz⟩ := hP k hk
    have ok1 : k.ok S1 := k.ok_mono (S := spA b A) (S' := S1) (fun _ h => h) (fun _ h => h) (fun _ h => h) ok
    have okb : k.ok Sb := k.ok_mono (S := spA b A) (S' := Sb) (fun _ h => h) (fun _ h => h) (fun _ h => h) ok
    have okk1 : (k.fk (fvE E1) (frE E1)).ok S2 := k.fk_ok fok1 ok1
    have okk2 : ((k.fk (fvE E1) (frE E1)).fk (fvE E') (frE E')).ok S3 := Kd.fk_ok fok2 _ okk1
    obtain ⟨s1, s2⟩ := sz_of g1
    obtain ⟨s3, s4⟩ := sz_of gE'
    have z1 : (k.fk (fvE E1) (frE E1)).pre.length <= 10 * k.pre.length := k.fk_sz (fun n q e => (s1 n q e).1) (fun n q e => (s2 n q e).1)
    have dp1 := k.fk_dp (fv := fvE E1) (fr := frE E1) (fun n q e => (s1 n q e).2) (fun n q e => (s2 n q e).2)
    have dp2 := (k.fk (fvE E1) (frE E1)).fk_dp (fv := fvE E') (fr := frE E') (fun n q e => (s3 n q e).2) (fun n q e => (s4 n q e).2)
    have ee := k.fk_fk (S := S1) (v1 := fvE E1) (v2 := fvE E') (r1 := frE E1) (r2 := frE E') (B1 := fun l => l ∈ B1) (B2 := fun l => l ∈ B2) ab ac bc (fun t q e => (fr_fit fit1 e).2) (fun t q e => (fr_fit fit2 e).2) ok1
    refine ⟨ok, dp, sz, _, _, filledK F1 (brg_of fit1) ok1 (by omega), filledK F2 (brg_of fit2) okk1 (by omega), ?_, (Kd.ly (S := S3) lowL _ okk2).lay (m := 400) (by omega)⟩
    have := filledK Fb (brg_of fitb) okb (by omega)
    rw [both_v noE', both_r noE', <- ee] at this
    exact this
  obtain ⟨x4, y4, z4, lp4⟩ := loop4 (b := b) (A := A) lowA sc DL (.dct (eks E1) (els E1)) (.dct (eks E') (els E')) (.dct (eks Eb) (els Eb)) P x2 y2 .un fx2 fy2 trivial all
  have sl1 : ∀ r : En, r[1]? = some (.v DL) -> mSl (zB 1) (oSome (mC (.int 2))) (oSome (mC (.int 4))) r = some (.lst (dw B1)) := fun r hr => by
    refine sl_of (a := some ((2 : Nat) : Int)) (b := some ((4 : Nat) : Int)) (x := DL) (var_of hr) (osome_of zI) (osome_of zI) ?_
    show some (D.lst (cutL (dw L) (some ((2 : Nat) : Int)) (some ((4 : Nat) : Int)))) = _
    rw [cut_mid, hB1, show dw ((L.take 4).drop 2) = ((dw L).take 4).drop 2 by show List.map D.str _ = _; rw [List.map_drop, List.map_take]]
  have sl2 : ∀ r : En, r[1]? = some (.v DL) -> mSl (zB 1) (oSome (mC (.int 4))) oNone r = some (.lst (dw B2)) := fun r hr => by
    refine sl_of (a := some ((4 : Nat) : Int)) (b := none) (x := DL) (var_of hr) (osome_of zI) rfl ?_
    show some (D.lst (cutL (dw L) (some ((4 : Nat) : Int)) none)) = _
    rw [cut_from, hB2, show dw (L.drop 4) = (dw L).drop 4 from List.map_drop]
  have sl0 : ∀ r : En, r[1]? = some (.v DL) -> mSl (zB 1) oNone (oSome (mC (.int 2))) r = some (.lst (dw A)) := fun r hr => by
    refine sl_of (a := none) (b := some ((2 : Nat) : Int)) (x := DL) (var_of hr) rfl (osome_of zI) ?_
    show some (D.lst (cutL (dw L) none (some ((2 : Nat) : Int)))) = _
    rw [cut_to, hA, show dw (L.take 2) = (dw L).take 2 from List.map_take]
  have slS : ∀ r : En, r[0]? = some (.v sc) -> mSl (zB 0) (oSome (mC (.int 3))) (oSome (mC (.int 63))) r = some (.lst (cs.map D.int)) := fun r hr => by
    refine sl_of (a := some ((3 : Nat) : Int)) (b := some ((63 : Nat) : Int)) (x := sc) (var_of hr) (osome_of zI) (osome_of zI) ?_
    show some (D.lst (cutL (ns.map D.int) (some ((3 : Nat) : Int)) (some ((63 : Nat) : Int)))) = _
    rw [cut_mid]
    show _ = some (D.lst (List.map D.int ((ns.take 63).drop 3)))
    rw [List.map_drop, List.map_take]
  let R3 : En := [.v sc, .v DL, .v (.int z), .v (.int b), .un, .un, .un, .un, .un]
  let R4 : En := [.v sc, .v DL, .v (.int z), .v (.int b), .d (eks E1) (els E1), .un, .un, .un, .un]
  let R5 : En := [.v sc, .v DL, .v (.int z), .v (.int b), .d (eks E1) (els E1), .d (eks E2) (els E2), .un, .un, .un]
  let R6 : En := [.v sc, .v DL, x1, .v (.int b), .d (eks E1) (els E1), .d (eks E') (els E'), y1, .un, .un]
  let R7 : En := [.v sc, .v DL, x1, .v (.int b), .d (eks E1) (els E1), .d (eks E') (els E'), y1, .d (eks E') (els E'), .un]
  let R8 : En := [.v sc, .v DL, x2, .v (.int b), .v (.dct (eks E1) (els E1)), .v (.dct (eks E') (els E')), y2, .d (eks Eb) (els Eb), .un]
  let R9 : En := [.v sc, .v DL, x4, .v (.int b), .v (.dct (eks E1) (els E1)), .v (.dct (eks E') (els E')), y4, .v (.dct (eks Eb) (els Eb)), z4]
  refine mk_rt (r' := R9) ?_
  show g_law [.v sc, .un, .un, .un, .un, .un, .un, .un, .un] = _
  unfold g_law
  refine seq_set (r2 := [.v sc, .v DL, .un, .un, .un, .un, .un, .un, .un]) DL (callF_of (l := [.int z0]) (zF (yO (p := .v (.int z0)) (l := [.int (ns.getD 0 0), .int ((0 : Nat) : Int)]) (zF (yO (p := .v (.int (ns.getD 0 0))) (l := [sc, .int ((0 : Nat) : Int)]) (zF rfl (zF zI zS)) rfl c0) (zF zI zS)) rfl m0) zS) rfl eL) rfl ?_
  refine seq_set (r2 := R2) (.int z) (yO (p := .v (.int z)) (l := [.int (ns.getD 1 0), .int ((1 : Nat) : Int)]) (zF (yO (p := .v (.int (ns.getD 1 0))) (l := [sc, .int ((1 : Nat) : Int)]) (zF rfl (zF zI zS)) rfl c1) (zF zI zS)) rfl m1) rfl ?_
  refine seq_set (r2 := R3) (.int b) eb rfl ?_
  refine seq_ownD (r2 := R4) (callD_of (l := [sc, .int ((70 : Nat) : Int), .lst (dw B1), .int b]) (zF rfl (zF zI (zF (sl1 R3 rfl) (zF rfl zS)))) rfl e1) rfl ?_
  refine seq_ownD (r2 := R5) (callD_of (l := [sc, .int ((90 : Nat) : Int), .lst (dw B2), .int (b + 1000)]) (zF rfl (zF zI (zF (sl2 R4 rfl) (zF (add_of rfl zI) zS)))) rfl e2) rfl ?_
  have it1 : mItF (mCallD 4 F__law_filling (zA (zB 0) (zA (mC (.int 110)) (zA (mSl (zB 1) (oSome (mC (.int 4))) oNone) (zA (zB 3) zK))))) R5 = some (itemsL (eks E3) (els E3)) := by
    unfold mItF
    have cd : mCallD 4 F__law_filling (zA (zB 0) (zA (mC (.int 110)) (zA (mSl (zB 1) (oSome (mC (.int 4))) oNone) (zA (zB 3) zK)))) R5 = some (eks E3, els E3) := callD_of (l := [sc, .int ((110 : Nat) : Int), .lst (dw B2), .int b]) (zF rfl (zF zI (zF (sl2 R5 rfl) (zF rfl zS)))) rfl e3
    rw [cd]; rfl
  refine (yK (r' := R6) ?_).trans ?_
  · unfold bodyA1 at lp1
    exact for_of it1 lp1
  refine seq_ownD (r2 := R7) (ks := eks E') (l := els E') rfl rfl ?_
  refine (yK (r' := R8) ?_).trans ?_
  · unfold bodyA2 at lp2
    unfold sFz sForD
    exact lp2
  refine (yK (r' := R9) ?_).trans (ret_of rfl)
  unfold bodyA4 at lp4
  have itp : mIt (mOfF (mCallF 3 F__law_pile (zA (mSl (zB 0) (oSome (mC (.int 3))) (oSome (mC (.int 63)))) (zA (mSl (zB 1) oNone (oSome (mC (.int 2)))) (zA (zB 3) zK))))) [.v sc, .v DL, x2, .v (.int b), .v (.dct (eks E1) (els E1)), .v (.dct (eks E') (els E')), y2, .v (.dct (eks Eb) (els Eb)), .un] = some (P.map Kd.ds) := by
    unfold mIt
    rw [callF_of (l := [.lst (cs.map D.int), .lst (dw A), .int b]) (n := 3) (zF (slS _ rfl) (zF (sl0 _ rfl) (zF rfl zS))) rfl eP]; rfl
  unfold sFz
  show sFor _ _ _ [.v sc, .v DL, x2, .v (.int b), .v (.dct (eks E1) (els E1)), .v (.dct (eks E') (els E')), y2, .v (.dct (eks Eb) (els Eb)), .un] = _
  exact for_of itp lp4
theorem len1 {α : Type} {l : List α} (h : l.length = 1) : ∃ a0, l = [a0] := List.length_eq_one_iff.mp h
theorem len2 {α : Type} {l : List α} (h : l.length = 2) : ∃ a0 a1, l = [a0, a1] := by
  cases l with
  | nil => cases h
  | cons a0 l => obtain ⟨a1, rfl⟩ := len1 (Nat.succ.inj h); exact ⟨a0, a1, rfl⟩
theorem len3 {α : Type} {l : List α} (h : l.length = 3) : ∃ a0 a1 a2, l = [a0, a1, a2] := by
  cases l with
  | nil => cases h
  | cons a0 l => obtain ⟨a1, a2, rfl⟩ := len2 (Nat.succ.inj h); exact ⟨a0, a1, a2, rfl⟩
theorem len4 {α : Type} {l : List α} (h : l.length = 4) : ∃ a0 a1 a2 a3, l = [a0, a1, a2, a3] := by
  cases l with
  | nil => cases h
  | cons a0 l => obtain ⟨a1, a2, a3, rfl⟩ := len3 (Nat.succ.inj h); exact ⟨a0, a1, a2, a3, rfl⟩
noncomputable def DfOk (K : Fg) (n : Str) (st : Stmt) : Prop := ∃ (f : Addr) (od an : Option Addr) (sl : Array (Option Value)) (oc kV dc pm cd ct : Value), PySem.W.nsIn K mainGlobals n = some (some (.ref f)) /\ K.lookup f = some ⟨oc, od, .func (PySem.W.fnOf n n (defArgs st) (defBody st) (zZ st) .none kV dc pm an cd ct), sl⟩ /\ PySem.W.codeIn K cd n = true /\ PySem.W.keepIn K (.ref f) = true
theorem dfo {K : Fg} {n : Str} {st : Stmt} {f : Addr} {od an : Option Addr} {sl : Array (Option Value)} {oc kV dc pm cd ct : Value} (a : PySem.W.nsIn K mainGlobals n = some (some (.ref f))) (l : K.lookup f = some ⟨oc, od, .func (PySem.W.fnOf n n (defArgs st) (defBody st) (zZ st) .none kV dc pm an cd ct), sl⟩) (c : PySem.W.codeIn K cd n = true) (k : PySem.W.keepIn K (.ref f) = true) : DfOk K n st := ⟨f, od, an, sl, oc, kV, dc, pm, cd, ct, a, l, c, k⟩
theorem deo {K : Fg} {h : Heap} {mg : Str -> Option Value} {n : Str} {i : Nat} {ps : List Str} (X : K.In h) (G : h.Ns mainGlobals mg) (D : DfOk K n (top i)) (hb : ∀ {f : Addr} {d : FuncData}, Fun K n n (top i) f d -> Binds K d ps []) : Nonempty (De K mg n i ps) := by
  obtain ⟨f, _, _, _, _, _, _, _, _, _, a, l, c, k⟩ := D
  have F := fun_mk (st := top i) l c k
  exact ⟨⟨f, _, F, PySem.W.mg_of X G a, hb F⟩⟩
theorem law_sp {K : Fg} (hm : ∀ ns : List Int, ns.length <= 63 -> ∃ as, F_law [.v (.lst (ns.map .int))] = some (.v (.bl true), as)) (H : Hp) (a : Addr) (ns : List Int) (hl : ns.length <= 63) (hS : SqL K H a (ns.map V.int)) : spD K 1 F_law [.ref a] H (fun v _ => v = .bl true) (fun _ _ _ => False) := by
  have il : ∀ l : List Int, IsL K (fun _ => False) H (l.map D.int) (l.map V.int) := fun l => by
    induction l with
    | nil => exact IsL.nil
    | cons x l ih => exact .cons (by rw [Is.int_iff]) ih
  obtain ⟨as, e⟩ := hm ns hl
  refine ⟨fun _ => False, [.v (.lst (ns.map .int))], _, as, rfl, R.args (ds := [.lst (ns.map .int)]) noF (.cons (by rw [Is.lst_iff]; exact ⟨a, _, rfl, hS.imp (fun z => ⟨id, z⟩) id, il ns⟩) .nil), fun i l => ?_, e, fun v H' _ iv => by rw [Is.bl_iff] at iv; exact iv⟩
  cases i with
  | zero => exact ⟨(fun z => by cases z), (fun z => by cases z), (fun _ z => by cases z)⟩
  | succ i => exact ⟨(fun z => by cases z), (fun z => by cases z), (fun _ z => by cases z)⟩
theorem all_mk {l : PySem.W.OpenLaw} {w : World} {K : Fg} {h : Heap} {mg : Str -> Option Value} {fa : Addr} (X : K.In h) (G : h.Ns mainGlobals mg) (hfa : mg "law" = some (.ref fa))
    (D0 : DfOk K "has_row" (top 1))
    (D1 : DfOk K "straight_in" (top 2))
    (D2 : DfOk K "within" (top 3))
    (D3 : DfOk K "own_numbers" (top 5))
    (D4 : DfOk K "numbers" (top 4))
    (D5 : DfOk K "label_of" (top 11))
    (D6 : DfOk K "joined" (top 10))
    (D7 : DfOk K "rebuilt_row" (top 9))
    (D8 : DfOk K "rebuilt" (top 8))
    (D9 : DfOk K "built" (top 7))
    (D10 : DfOk K "filled" (top 6))
    (D11 : DfOk K "_law_cell_at" (top 13))
    (D12 : DfOk K "_law_mixed" (top 14))
    (D13 : DfOk K "_law_labels" (top 15))
    (D14 : DfOk K "_law_leaf" (top 16))
    (D15 : DfOk K "_law_fields" (top 17))
    (D16 : DfOk K "_law_stepped" (top 18))
    (D17 : DfOk K "_law_pile" (top 19))
    (D18 : DfOk K "_law_bringing" (top 20))
    (D19 : DfOk K "_law_filling" (top 21))
    (D20 : DfOk K "_law_of_row" (top 22))
    (D21 : DfOk K "law" (top 23))
    (z_dict : PySem.W.nsIn K mainGlobals "dict" = some none)
    (z_enumerate : PySem.W.nsIn K mainGlobals "enumerate" = some none)
    (z_int : PySem.W.nsIn K mainGlobals "int" = some none)
    (z_isinstance : PySem.W.nsIn K mainGlobals "isinstance" = some none)
    (z_len : PySem.W.nsIn K mainGlobals "len" = some none)
    (z_list : PySem.W.nsIn K mainGlobals "list" = some none)
    (z_min : PySem.W.nsIn K mainGlobals "min" = some none)
    (z_range : PySem.W.nsIn K mainGlobals "range" = some none)
    (z_sorted : PySem.W.nsIn K mainGlobals "sorted" = some none)
    (z_tuple : PySem.W.nsIn K mainGlobals "tuple" = some none)
    (z_zip : PySem.W.nsIn K mainGlobals "zip" = some none) :
    ∃ fd : FuncData, (∀ (s : Shared) (v : Value), BindsTo s fd ⟨[v], []⟩ [("_law_script", v)]) /\ ∀ base : Heap, K.In base -> base.Ns mainGlobals mg -> FnOk l.prog w K mg base CX0 30 fa fd ["_law_script"] (spD K 1 F_law) := by
  obtain ⟨f21, _, _, _, _, _, _, _, _, _, a21, l21, c21, k21⟩ := D21
  have e := hfa.symm.trans (PySem.W.mg_of X G a21)
  cases e
  have F21 := fun_mk (st := top 23) l21 c21 k21
  have b21 := F21.binds (ps := ["_law_script"]) fun _ _ _ _ _ _ us hl => by obtain ⟨_, rfl⟩ := len1 hl; rfl
  exact ⟨_, fun s v => .of_eq rfl, fun base _ _ => ok_law ⟨Classical.choice (deo (ps := ["kind"]) X G D0 fun F => F.binds (ps := ["kind"]) fun _ _ _ _ _ _ us hl => by obtain ⟨_, rfl⟩ := len1 hl; rfl),
    Classical.choice (deo (ps := ["kind"]) X G D1 fun F => F.binds (ps := ["kind"]) fun _ _ _ _ _ _ us hl => by obtain ⟨_, rfl⟩ := len1 hl; rfl),
    Classical.choice (deo (ps := ["K"]) X G D2 fun F => F.binds (ps := ["K"]) fun _ _ _ _ _ _ us hl => by obtain ⟨_, rfl⟩ := len1 hl; rfl),
    Classical.choice (deo (ps := ["kind"]) X G D3 fun F => F.binds (ps := ["kind"]) fun _ _ _ _ _ _ us hl => by obtain ⟨_, rfl⟩ := len1 hl; rfl),
    Classical.choice (deo (ps := ["K"]) X G D4 fun F => F.binds (ps := ["K"]) fun _ _ _ _ _ _ us hl => by obtain ⟨_, rfl⟩ := len1 hl; rfl),
    Classical.choice (deo (ps := ["field"]) X G D5 fun F => F.binds (ps := ["field"]) fun _ _ _ _ _ _ us hl => by obtain ⟨_, rfl⟩ := len1 hl; rfl),
    Classical.choice (deo (ps := ["fields", "row"]) X G D6 fun F => F.binds (ps := ["fields", "row"]) fun _ _ _ _ _ _ us hl => by obtain ⟨_, _, rfl⟩ := len2 hl; rfl),
    Classical.choice (deo (ps := ["row", "inner", "filling"]) X G D7 fun F => F.binds (ps := ["row", "inner", "filling"]) fun _ _ _ _ _ _ us hl => by obtain ⟨_, _, _, rfl⟩ := len3 hl; rfl),
    Classical.choice (deo (ps := ["kind", "inner", "filling"]) X G D8 fun F => F.binds (ps := ["kind", "inner", "filling"]) fun _ _ _ _ _ _ us hl => by obtain ⟨_, _, _, rfl⟩ := len3 hl; rfl),
    Classical.choice (deo (ps := ["found", "filling"]) X G D9 fun F => F.binds (ps := ["found", "filling"]) fun _ _ _ _ _ _ us hl => by obtain ⟨_, _, rfl⟩ := len2 hl; rfl),
    Classical.choice (deo (ps := ["K", "filling"]) X G D10 fun F => F.binds (ps := ["K", "filling"]) fun _ _ _ _ _ _ us hl => by obtain ⟨_, _, rfl⟩ := len2 hl; rfl),
    Classical.choice (deo (ps := ["_law_script", "_law_k"]) X G D11 fun F => F.binds (ps := ["_law_script", "_law_k"]) fun _ _ _ _ _ _ us hl => by obtain ⟨_, _, rfl⟩ := len2 hl; rfl),
    Classical.choice (deo (ps := ["_law_cell", "_law_k"]) X G D12 fun F => F.binds (ps := ["_law_cell", "_law_k"]) fun _ _ _ _ _ _ us hl => by obtain ⟨_, _, rfl⟩ := len2 hl; rfl),
    Classical.choice (deo (ps := ["_law_number"]) X G D13 fun F => F.binds (ps := ["_law_number"]) fun _ _ _ _ _ _ us hl => by obtain ⟨_, rfl⟩ := len1 hl; rfl),
    Classical.choice (deo (ps := ["_law_number", "_law_base"]) X G D14 fun F => F.binds (ps := ["_law_number", "_law_base"]) fun _ _ _ _ _ _ us hl => by obtain ⟨_, _, rfl⟩ := len2 hl; rfl),
    Classical.choice (deo (ps := ["_law_pile_here", "_law_number", "_law_labels_here"]) X G D15 fun F => F.binds (ps := ["_law_pile_here", "_law_number", "_law_labels_here"]) fun _ _ _ _ _ _ us hl => by obtain ⟨_, _, _, rfl⟩ := len3 hl; rfl),
    Classical.choice (deo (ps := ["_law_pile_here", "_law_number", "_law_labels_here", "_law_base"]) X G D16 fun F => F.binds (ps := ["_law_pile_here", "_law_number", "_law_labels_here", "_law_base"]) fun _ _ _ _ _ _ us hl => by obtain ⟨_, _, _, _, rfl⟩ := len4 hl; rfl),
    Classical.choice (deo (ps := ["_law_cells", "_law_labels_here", "_law_base"]) X G D17 fun F => F.binds (ps := ["_law_cells", "_law_labels_here", "_law_base"]) fun _ _ _ _ _ _ us hl => by obtain ⟨_, _, _, rfl⟩ := len3 hl; rfl),
    Classical.choice (deo (ps := ["_law_number", "_law_labels_here", "_law_base"]) X G D18 fun F => F.binds (ps := ["_law_number", "_law_labels_here", "_law_base"]) fun _ _ _ _ _ _ us hl => by obtain ⟨_, _, _, rfl⟩ := len3 hl; rfl),
    Classical.choice (deo (ps := ["_law_script", "_law_place", "_law_labels_here", "_law_base"]) X G D19 fun F => F.binds (ps := ["_law_script", "_law_place", "_law_labels_here", "_law_base"]) fun _ _ _ _ _ _ us hl => by obtain ⟨_, _, _, _, rfl⟩ := len4 hl; rfl),
    Classical.choice (deo (ps := ["_law_row", "_law_filling_here"]) X G D20 fun F => F.binds (ps := ["_law_row", "_law_filling_here"]) fun _ _ _ _ _ _ us hl => by obtain ⟨_, _, rfl⟩ := len2 hl; rfl),
    ⟨_, _, F21, PySem.W.mg_of X G a21, b21⟩, PySem.W.mg_none_of X G z_dict, PySem.W.mg_none_of X G z_enumerate, PySem.W.mg_none_of X G z_int, PySem.W.mg_none_of X G z_isinstance, PySem.W.mg_none_of X G z_len, PySem.W.mg_none_of X G z_list, PySem.W.mg_none_of X G z_min, PySem.W.mg_none_of X G z_range, PySem.W.mg_none_of X G z_sorted, PySem.W.mg_none_of X G z_tuple, PySem.W.mg_none_of X G z_zip⟩⟩
theorem walk {l : PySem.W.OpenLaw} {q : Program} {loose : List Str} {XP : (Str -> Option Value) -> Heap -> Prop} {YP : World -> Heap -> Prop} {d : DefRec} {K : Params -> Fg} (hm : ∀ ns : List Int, ns.length <= 63 -> ∃ as, F_law [.v (.lst (ns.map .int))] = some (.v (.bl true), as)) (hn : l.most = some 63) (hdf : d.params.defaults = [])
    (hY : ∀ (w : World) (h : Heap), YP w h -> (K w.params).In h)
    (F : ∀ (w : World) (mg : Str -> Option Value) (fa : Addr) (h : Heap), (K w.params).In h -> h.Ns mainGlobals mg -> mg d.name = some (.ref fa) ->
      ∃ fd : FuncData, (∀ (s : Shared) (u : Value), BindsTo s fd ⟨[u], []⟩ [("_law_script", u)]) /\ ∀ base : Heap, (K w.params).In base -> base.Ns mainGlobals mg -> FnOk l.prog w (K w.params) mg base CX0 30 fa fd ["_law_script"] (spD (K w.params) 1 F_law)) :
    PySem.W.WalkO q loose XP YP l.row.toRowW d [] (fun f vs => PySem.call f vs) :=
  L2.walk_ofK (n := 63) (k := 30) (x := "_law_script") (CX := CX0) (sp := fun K => spD K 1 F_law) hn (by decide) hdf ⟨rfl, by decide, by decide⟩ hY F (fun K H a ns hl _ hS => law_sp hm H a ns hl hS) fun _ _ _ _ z => z
end K13
open PyProof.Rows PySem PySem.W
set_option maxRecDepth 100000 in
set_option maxHeartbeats 0 in
theorem PySem.Challenge.cw_fieldrows_k13_filled_twice_holds : PySem.Challenge.rw_fieldrows_k13_filled_twice.Holds := by
  w_on; o_law; k_head; (case hw => w_witness2)
  k_fill
  refine K13.walk (l := PySem.Challenge.rw_fieldrows_k13_filled_twice) K13.law_math rfl rfl (fun w h Y => PySem.W.kIn_of Y) ?F
  case F =>
    intro w mg fa h KX G hmg
    refine' K13.all_mk KX G hmg (K13.dfo ?a0 ?l0 ?c0 ?k0) (K13.dfo ?a1 ?l1 ?c1 ?k1) (K13.dfo ?a2 ?l2 ?c2 ?k2) (K13.dfo ?a3 ?l3 ?c3 ?k3) (K13.dfo ?a4 ?l4 ?c4 ?k4) (K13.dfo ?a5 ?l5 ?c5 ?k5) (K13.dfo ?a6 ?l6 ?c6 ?k6) (K13.dfo ?a7 ?l7 ?c7 ?k7) (K13.dfo ?a8 ?l8 ?c8 ?k8) (K13.dfo ?a9 ?l9 ?c9 ?k9) (K13.dfo ?a10 ?l10 ?c10 ?k10) (K13.dfo ?a11 ?l11 ?c11 ?k11) (K13.dfo ?a12 ?l12 ?c12 ?k12) (K13.dfo ?a13 ?l13 ?c13 ?k13) (K13.dfo ?a14 ?l14 ?c14 ?k14) (K13.dfo ?a15 ?l15 ?c15 ?k15) (K13.dfo ?a16 ?l16 ?c16 ?k16) (K13.dfo ?a17 ?l17 ?c17 ?k17) (K13.dfo ?a18 ?l18 ?c18 ?k18) (K13.dfo ?a19 ?l19 ?c19 ?k19) (K13.dfo ?a20 ?l20 ?c20 ?k20) (K13.dfo ?a21 ?l21 ?c21 ?k21) ?z_dict ?z_enumerate ?z_int ?z_isinstance ?z_len ?z_list ?z_min ?z_range ?z_sorted ?z_tuple ?z_zip
    (case a0 => k_is)
    (case l0 => k_is)
    (case c0 => k_is)
    (case k0 => k_is)
    (case a1 => k_is)
    (case l1 => k_is)
    (case c1 => k_is)
    (case k1 => k_is)
    (case a2 => k_is)
    (case l2 => k_is)
    (case c2 => k_is)
    (case k2 => k_is)
    (case a3 => k_is)
    (case l3 => k_is)
    (case c3 => k_is)
    (case k3 => k_is)
    (case a4 => k_is)
    (case l4 => k_is)
    (case c4 => k_is)
    (case k4 => k_is)
    (case a5 => k_is)
    (case l5 => k_is)
    (case c5 => k_is)
    (case k5 => k_is)
    (case a6 => k_is)
    (case l6 => k_is)
    (case c6 => k_is)
    (case k6 => k_is)
    (case a7 => k_is)
    (case l7 => k_is)
    (case c7 => k_is)
    (case k7 => k_is)
    (case a8 => k_is)
    (case l8 => k_is)
    (case c8 => k_is)
    (case k8 => k_is)
    (case a9 => k_is)
    (case l9 => k_is)
    (case c9 => k_is)
    (case k9 => k_is)
    (case a10 => k_is)
    (case l10 => k_is)
    (case c10 => k_is)
    (case k10 => k_is)
    (case a11 => k_is)
    (case l11 => k_is)
    (case c11 => k_is)
    (case k11 => k_is)
    (case a12 => k_is)
    (case l12 => k_is)
    (case c12 => k_is)
    (case k12 => k_is)
    (case a13 => k_is)
    (case l13 => k_is)
    (case c13 => k_is)
    (case k13 => k_is)
    (case a14 => k_is)
    (case l14 => k_is)
    (case c14 => k_is)
    (case k14 => k_is)
    (case a15 => k_is)
    (case l15 => k_is)
    (case c15 => k_is)
    (case k15 => k_is)
    (case a16 => k_is)
    (case l16 => k_is)
    (case c16 => k_is)
    (case k16 => k_is)
    (case a17 => k_is)
    (case l17 => k_is)
    (case c17 => k_is)
    (case k17 => k_is)
    (case a18 => k_is)
    (case l18 => k_is)
    (case c18 => k_is)
    (case k18 => k_is)
    (case a19 => k_is)
    (case l19 => k_is)
    (case c19 => k_is)
    (case k19 => k_is)
    (case a20 => k_is)
    (case l20 => k_is)
    (case c20 => k_is)
    (case k20 => k_is)
    (case a21 => k_is)
    (case l21 => k_is)
    (case c21 => k_is)
    (case k21 => k_is)
    (case z_dict => k_is)
    (case z_enumerate => k_is)
    (case z_int => k_is)
    (case z_isinstance => k_is)
    (case z_len => k_is)
    (case z_list => k_is)
    (case z_min => k_is)
    (case z_range => k_is)
    (case z_sorted => k_is)
    (case z_tuple => k_is)
    (case z_zip => k_is)
