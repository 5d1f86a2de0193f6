import PyProof.Rows.All
import Wide.All
import OpenK.AllK
import Wide.FinOn
import PySem.Challenge.RW_fieldrows_k05_programs_read
import Lean
set_option Elab.async false
set_option compiler.extract_closed false
set_option linter.all false
set_option maxRecDepth 100000
set_option maxHeartbeats 4100000
noncomputable abbrev Fg := PySem.W.Frag
namespace L2
open PySem PySem.Spec PyProof.Rows
noncomputable abbrev Key := Sum Int Str
noncomputable def keyIs : Key -> Value -> Bool
  | .inl k, v => Value.isInt k v
  | .inr x, v => Value.isStrOf x v
noncomputable def keyH (w : World) : Key -> Int
  | .inl k => hashInt k
  | .inr x => hashStr w x
theorem qH : ∀ {k : Key} {v : Value}, keyIs k v = true -> (∃ i t, k = Sum.inl i /\ v = Value.int i t) \/ (∃ x t, k = Sum.inr x /\ v = Value.str x t)
  | .inl i, v, h => by
    obtain ⟨t, e⟩ := Value.isInt_shape (k := i) (v := v) h
    exact .inl ⟨i, t, rfl, e⟩
  | .inr x, v, h => by
    obtain ⟨t, e⟩ := Value.isStrOf_shape (x := x) (v := v) h
    exact .inr ⟨x, t, rfl, e⟩
theorem key_ll (a b : Int) : decide ((Sum.inl a : Key) = Sum.inl b) = (a == b) := by
  by_cases e : a = b
  · subst e; simp
  · have h : ¬ (Sum.inl a : Key) = Sum.inl b := fun q => e (Sum.inl.inj q)
    rw [decide_eq_false h]
    exact (beq_eq_false_iff_ne.mpr e).symm
theorem key_rr (a b : Str) : decide ((Sum.inr a : Key) = Sum.inr b) = decide (a = b) := by
  by_cases e : a = b
  · subst e; simp
  · have h : ¬ (Sum.inr a : Key) = Sum.inr b := fun q => e (Sum.inr.inj q)
    rw [decide_eq_false h, decide_eq_false e]
theorem key_lr (a : Int) (b : Str) : decide ((Sum.inl a : Key) = Sum.inr b) = false := decide_eq_false (fun q => nomatch q)
theorem key_rl (a : Str) (b : Int) : decide ((Sum.inr a : Key) = Sum.inl b) = false := decide_eq_false (fun q => nomatch q)
noncomputable def mixKind (prog : Program) (w : World) : PySem.KeyKind prog w Key where
  is := keyIs
  hash := keyH w
  inj := fun v a b ha hb => by
    rcases qH ha with ⟨i, t, rfl, rfl⟩ | ⟨x, t, rfl, rfl⟩
    · rcases qH hb with ⟨j, u, rfl, e⟩ | ⟨y, u, rfl, e⟩
      · injection e with e1 _; rw [e1]
      · exact nomatch e
    · rcases qH hb with ⟨j, u, rfl, e⟩ | ⟨y, u, rfl, e⟩
      · exact nomatch e
      · injection e with e1 _; rw [e1]
  byValue := fun k v h => by
    rcases qH h with ⟨i, t, rfl, rfl⟩ | ⟨x, t, rfl, rfl⟩ <;> rfl
  pyHash := fun hv h => by
    rcases qH hv with ⟨i, t, rfl, rfl⟩ | ⟨x, t, rfl, rfl⟩
    · exact wpAny_pyHash_int h
    · exact wpAny_pyHash_str h
  eqBool := fun hu hv h => by
    rcases qH hu with ⟨i, t, rfl, rfl⟩ | ⟨x, t, rfl, rfl⟩
    · rcases qH hv with ⟨j, u, rfl, rfl⟩ | ⟨y, u, rfl, rfl⟩
      · rw [key_ll] at h; exact wpAny_eqBool_int h
      · rw [key_lr] at h; exact SeqAt.EqAt.int_str i t y u _ _ _ _ h
    · rcases qH hv with ⟨j, u, rfl, rfl⟩ | ⟨y, u, rfl, rfl⟩
      · rw [key_rl] at h; exact SeqAt.EqAt.str_int x t j u _ _ _ _ h
      · rw [key_rr] at h; exact wpAny_eqBool_str h
  «strs» := fun k x t v h => by
    rcases qH h with ⟨i, u, rfl, e⟩ | ⟨y, u, rfl, e⟩
    · exact nomatch e
    · injection e with e1 _
      subst e1
      cases v <;> rfl
end L2
namespace L2
open PySem PySem.Spec PyProof.Rows
inductive V where
  | non | bl (b : Bool) | int (i : Int) | str (x : Str) | byt (b : Array UInt8) | flt (b : UInt64) | ref (a : Addr) | ty (n : String)
  deriving DecidableEq
noncomputable def wU : V -> Value -> Prop
  | .non, u => u = Value.none
  | .bl b, u => u = Value.bool b
  | .int i, u => ∃ t, u = Value.int i t
  | .str x, u => ∃ t, u = Value.str x t
  | .byt b, u => ∃ t, u = Value.bytes b t
  | .flt b, u => ∃ t, u = Value.float b t
  | .ref a, u => u = Value.ref a
  | .ty n, u => u = Value.type n
noncomputable abbrev yU : List V -> List Value -> Prop := Paired wU
theorem yU.length {xs : List V} {us : List Value} (r : yU xs us) : xs.length = us.length := Paired.length r
theorem yU.get : ∀ {xs : List V} {us : List Value} {i : Nat} {x : V}, yU xs us -> xs[i]? = some x -> ∃ u, us[i]? = some u /\ wU x u
  | _, _, _, _, .nil, e => by simp at e
  | _, _, 0, _, .cons r _, e => by simp at e; subst e; exact ⟨_, rfl, r⟩
  | _, _, i + 1, x, .cons _ t, e => by
    obtain ⟨u, h1, h2⟩ := yU.get (i := i) (x := x) t (by simpa using e)
    exact ⟨u, by simpa using h1, h2⟩
theorem yU.append : ∀ {xs ys : List V} {us ws : List Value}, yU xs us -> yU ys ws -> yU (xs ++ ys) (us ++ ws)
  | _, _, _, _, .nil, s => s
  | _, _, _, _, .cons r t, s => .cons r (yU.append t s)
theorem yU.take : ∀ {xs : List V} {us : List Value} (n : Nat), yU xs us -> yU (xs.take n) (us.take n)
  | _, _, 0, _ => .nil
  | _, _, _ + 1, .nil => .nil
  | _, _, n + 1, .cons r t => .cons r (yU.take n t)
theorem yU.drop : ∀ {xs : List V} {us : List Value} (n : Nat), yU xs us -> yU (xs.drop n) (us.drop n)
  | _, _, 0, r => r
  | _, _, _ + 1, .nil => .nil
  | _, _, n + 1, .cons _ t => yU.drop n t
noncomputable def RelO : Option V -> Option Value -> Prop
  | some v, some u => wU v u
  | none, none => True
  | _, _ => False
noncomputable def KV {κ : Type} : List (κ × V) -> List (κ × Value) -> Prop := Paired fun (p : κ × V) (q : κ × Value) => p.1 = q.1 /\ wU p.2 q.2
noncomputable def kV : Key -> V
  | .inl i => .int i
  | .inr x => .str x
inductive HO where
  | lst (xs : List V)
  | tup (xs : List V)
  | dK (kvs : List (Key × V)) | dT (kvs : List (List Key × V))
  | set (S : Int -> Bool) (n : Nat)
  | ins (C dx : Addr) (fs : List (Str × V))
  | own (x : Addr)
  | xd (fs : List (Str × V))
  | met (f x : Addr)
  | rng (lo hi : Int)
  | frz (o : Obj) (u : HO)
  | tbl (ps : Array Value)
  | ext (φ : Heap -> Prop)
noncomputable abbrev Hp := Addr -> Option HO
noncomputable def upd (H : Hp) (a : Addr) (o : HO) : Hp := fun b => if b = a then some o else H b
theorem xK {H : Hp} {a : Addr} {o : HO} : upd H a o a = some o := by unfold upd; rw [if_pos rfl]
theorem xH {H : Hp} {a b : Addr} {o : HO} (h : b ≠ a) : upd H a o b = H b := by unfold upd; rw [if_neg h]
theorem qM {H : Hp} {a b : Addr} {o : HO} (h : H a = some o) (h' : H b = none) : a ≠ b := by
  intro e; subst e; rw [h] at h'; cases h'
noncomputable def qOf (ps : Array Value) : Str := match (ps[0]? : Option Value) with
  | some (.str q _) => q
  | _ => ""
noncomputable def IsCd (q : Str) (o : Obj) : Prop := ∃ vs t, o.data = .fields vs /\ vs[1]? = some (.str q t)
noncomputable def TabOk (H : Hp) (h : Heap) (a : Addr) (q : Str) : Prop := ∃ ts : Array Value, h.get? a = some (PySem.W.tabObj ts) /\ TriplesOk ts.toList /\ ∀ pos cv, codeAmong pos ts.toList = some cv -> ∃ c oc u, cv = .ref c /\ H c = some (.frz oc u) /\ IsCd q oc
section
variable (P : Program) (w : World)
noncomputable def ObjOk (H : Hp) (h : Heap) (a : Addr) : HO -> Prop
  | .lst xs => xs.length <= sizeLine /\ ∃ (its : List Value) (n : Nat), yU xs its /\ h.get? a = some { cls := .type "list", data := .seq its.toArray n }
  | .tup xs => xs.length <= sizeLine /\ ∃ its : List Value, yU xs its /\ IsTup h a its.toArray
  | .dK kvs => kvs.length <= sizeLine /\ (a == sysModules) = false /\ ∃ vs, KV kvs vs /\ h.DictOf (mixKind P w) a vs
  | .dT kvs => kvs.length <= sizeLine /\ (a == sysModules) = false /\ ∃ xs : List (List Key × Addr × Value),
      Paired (fun (p : List Key × V) (q : List Key × Addr × Value) => p.1 = q.1 /\ H q.2.1 = some (.tup (p.1.map kV)) /\ wU p.2 q.2.2) kvs xs /\
      ∃ o es ep, h.get? a = some o /\ o.ExactDict /\ o.data = .dict es ep /\ es.toList = xs.map (entryOfKey (tupleKind (mixKind P w))) /\ (xs.map (·.1)).Nodup
  | .set S n => h.SetOf (intKind P w) a S n
  | .ins C dx fs => H dx = some (.own a) /\ fs.length <= 1000 /\ dx ≠ a /\ h.get? a = some (PySem.W.instObj C dx) /\
      ∃ mA, h.Ns1 dx mA /\ (∀ f, RelO (fs.lookup f) (mA f)) /\ PySem.Within mA (fs.map (·.1))
  | .own _ => ∃ o, h.get? a = some o
  | .xd fs => ∃ mA, h.Ns1 a mA /\ ∀ f, RelO (fs.lookup f) (mA f)
  | .rng lo hi => ∃ t u v, h.get? a = some { cls := .type "range", data := .fields #[.int lo t, .int hi u, .int 1 v] }
  | .frz o u => h.get? a = some o /\ ObjOk H h a u
  | .tbl ps => TabOk H h a (qOf ps)
  | .met f x => h.get? a = some (PySem.W.methodObj (.ref f) (.ref x))
  | .ext φ => φ h /\ (∃ o, h.get? a = some o) /\ ∀ h1 h2 : Heap, φ h1 -> (∀ o, h1.get? a = some o -> h2.get? a = some o) -> φ h2
noncomputable def HOk (H : Hp) (h : Heap) : Prop := ∀ a o, H a = some o -> ObjOk P w H h a o
end
section
variable {P : Program} {w : World} {H H' : Hp} {h h' : Heap} {a : Addr} {o : HO}
theorem ObjOk.lt (x : ObjOk P w H h a o) : a < h.objs.size := by
  cases o with
  | lst xs => obtain ⟨_, _, _, _, e⟩ := x; exact Heap.lt_size e
  | tup xs => obtain ⟨_, _, _, p⟩ := x; exact p.lt
  | dK kvs => obtain ⟨_, _, _, _, o, _, _, e, _⟩ := x; exact Heap.lt_size e
  | dT kvs => obtain ⟨_, _, _, _, o, _, _, e, _⟩ := x; exact Heap.lt_size e
  | set S n => obtain ⟨o, _, _, _, e, _⟩ := x; exact Heap.lt_size e
  | ins C dx fs => obtain ⟨_, _, _, e, _⟩ := x; exact Heap.lt_size e
  | own y => obtain ⟨_, e⟩ := x; exact Heap.lt_size e
  | xd fs => obtain ⟨_, ⟨_, _, _, e, _⟩, _⟩ := x; exact Heap.lt_size e
  | rng lo hi => obtain ⟨_, _, _, e⟩ := x; exact Heap.lt_size e
  | frz ob u => obtain ⟨e, _⟩ := x; exact Heap.lt_size e
  | tbl ps => obtain ⟨_, e, _⟩ := x; exact Heap.lt_size e
  | met f y => exact Heap.lt_size (show h.get? a = some _ from x)
  | ext φ => obtain ⟨_, ⟨_, e⟩, _⟩ := x; exact Heap.lt_size e
theorem Paired.mapP {α β : Type} {F G : α -> β -> Prop} : ∀ {l₁ : List α} {l₂ : List β}, Paired F l₁ l₂ -> (∀ a b, F a b -> G a b) -> Paired G l₁ l₂
  | _, _, .nil, _ => .nil
  | _, _, .cons r t, f => .cons (f _ _ r) (Paired.mapP t f)
theorem ObjOk.stay (x : ObjOk P w H h a o) (k : ∀ b u, (b = a \/ H b = some (.own a)) -> h.get? b = some u -> h'.get? b = some u)
    (ho : ∀ b, H b = some (.own a) -> H' b = some (.own a)) (ht : ∀ b xs, H b = some (.tup xs) -> H' b = some (.tup xs)) (hf : ∀ b o u, H b = some (.frz o u) -> H' b = some (.frz o u)) : ObjOk P w H' h' a o := by
  induction o with
  | lst xs => obtain ⟨z, its, n, r, e⟩ := x; exact ⟨z, its, n, r, k _ _ (.inl rfl) e⟩
  | tup xs => obtain ⟨z, its, r, ob, e, c⟩ := x; exact ⟨z, its, r, ob, k _ _ (.inl rfl) e, c⟩
  | dK kvs => obtain ⟨z, y, vs, r, ob, es, ep, e, c⟩ := x; exact ⟨z, y, vs, r, ob, es, ep, k _ _ (.inl rfl) e, c⟩
  | dT kvs =>
    obtain ⟨z, y, xs, r, ob, es, ep, e, c⟩ := x
    exact ⟨z, y, xs, Paired.mapP r fun p q z => ⟨z.1, ht _ _ z.2.1, z.2.2⟩, ob, es, ep, k _ _ (.inl rfl) e, c⟩
  | set S n => obtain ⟨ob, es, ep, t, e, c⟩ := x; exact ⟨ob, es, ep, t, k _ _ (.inl rfl) e, c⟩
  | ins C dx fs =>
    obtain ⟨d, z, ne, e, mA, ⟨od, es, ep, e2, c⟩, r⟩ := x
    exact ⟨ho _ d, z, ne, k _ _ (.inl rfl) e, mA, ⟨od, es, ep, k _ _ (.inr d) e2, c⟩, r⟩
  | own y => obtain ⟨ob, e⟩ := x; exact ⟨ob, k _ _ (.inl rfl) e⟩
  | xd fs => obtain ⟨mA, ⟨od, es, ep, e, c⟩, r⟩ := x; exact ⟨mA, ⟨od, es, ep, k _ _ (.inl rfl) e, c⟩, r⟩
  | rng lo hi => obtain ⟨t, u, v, e⟩ := x; exact ⟨t, u, v, k _ _ (.inl rfl) e⟩
  | frz ob u ih => obtain ⟨e, q⟩ := x; exact ⟨k _ _ (.inl rfl) e, ih q⟩
  | tbl ps => obtain ⟨ts, e, z, r⟩ := x; exact ⟨ts, k _ _ (.inl rfl) e, z, fun p v q => let ⟨c, oc, u, e1, e2, e3⟩ := r p v q; ⟨c, oc, u, e1, hf _ _ _ e2, e3⟩⟩
  | met f y =>
    have e : h.get? a = some (PySem.W.methodObj (.ref f) (.ref y)) := x
    show h'.get? a = some (PySem.W.methodObj (.ref f) (.ref y))
    exact k a _ (.inl rfl) e
  | ext φ => obtain ⟨p, ⟨o, e⟩, st⟩ := x; exact ⟨st _ _ p fun o q => k _ _ (.inl rfl) q, ⟨o, k _ _ (.inl rfl) e⟩, st⟩
theorem HOk.lt (x : HOk P w H h) (e : H a = some o) : a < h.objs.size := (x a o e).lt
theorem HOk.fresh (x : HOk P w H h) (e : h.objs.size <= a) : H a = none := by
  cases q : H a with
  | none => rfl
  | some u => exact absurd (Nat.lt_of_lt_of_le (x.lt q) e) (Nat.lt_irrefl _)
theorem HOk.kept (x : HOk P w H h) (k : ∀ b u, h.get? b = some u -> h'.get? b = some u) : HOk P w H h' := fun a o e =>
  (x a o e).stay (fun b u _ q => k b u q) (fun _ q => q) (fun _ _ q => q) fun _ _ _ q => q
theorem HOk.laid (x : HOk P w H h) (k : ∀ b u, h.get? b = some u -> h'.get? b = some u) (hp : h.objs.size <= a) (new : ObjOk P w (upd H a o) h' a o) : HOk P w (upd H a o) h' := fun b u e => by
  have hn := x.fresh hp
  by_cases hb : b = a
  · subst hb; rw [xK] at e; cases e; exact new
  · rw [xH hb] at e
    exact (x b u e).stay (fun c v _ q => k c v q) (fun c q => by rw [xH (qM q hn)]; exact q) (fun c xs q => by rw [xH (qM q hn)]; exact q) fun c o u q => by rw [xH (qM q hn)]; exact q
end
noncomputable def Rd (H : Hp) (a : Addr) (u : HO) : Prop := H a = some u \/ ∃ o, H a = some (.frz o u)
theorem Rd.ok {P : Program} {w : World} {H : Hp} {h : Heap} {a : Addr} {u : HO} (r : Rd H a u) (x : HOk P w H h) : ObjOk P w H h a u := by
  rcases r with r | ⟨o, r⟩
  · exact x a u r
  · obtain ⟨_, q⟩ := x a _ r
    exact q
noncomputable def Mut : Option HO -> Prop
  | some (.lst _) => True
  | some (.dK _) => True
  | some (.dT _) => True
  | some (.set _ _) => True
  | some (.ins _ _ _) => True
  | some (.ext _) => True
  | _ => False
section
variable {P : Program} {w : World} {H : Hp} {h h' : Heap} {x e : Addr} {o' : HO}
theorem HOk.write (ok : HOk P w H h) (mu : Mut (H x)) (he : e = x \/ H e = some (.own x)) (k : ∀ b u, b ≠ e -> h.get? b = some u -> h'.get? b = some u) (heo : ∃ u, h'.get? e = some u)
    (new : ObjOk P w (upd H x o') h' x o') : HOk P w (upd H x o') h' := fun b u q => by
  have nown : ∀ c y, H c = some (.own y) -> c ≠ x := fun c y r z => by subst z; rw [r] at mu; exact mu
  have ntup : ∀ c xs, H c = some (.tup xs) -> c ≠ x := fun c xs r z => by subst z; rw [r] at mu; exact mu
  by_cases hb : b = x
  · subst hb; rw [xK] at q; cases q; exact new
  · rw [xH hb] at q
    by_cases hbe : b = e
    · have q' : H b = some (.own x) := by
        rcases he with z | z
        · exact absurd (hbe.trans z) hb
        · rw [hbe]; exact z
      rw [q] at q'; cases q'
      obtain ⟨v, hv⟩ := heo
      exact ⟨v, by rw [hbe]; exact hv⟩
    · refine (ok b u q).stay (fun c v hc r => k c v ?_ r) (fun c r => by rw [xH (nown c b r)]; exact r) (fun c xs r => by rw [xH (ntup c xs r)]; exact r) fun c o u r => by rw [xH (fun z => by subst z; rw [r] at mu; exact mu)]; exact r
      rcases hc with rfl | hc
      · exact hbe
      · rintro rfl
        rcases he with z | z
        · exact nown c b hc z
        · rw [hc] at z; cases z; exact hb rfl
end
structure Un (fs ex : List Addr) (H H' : Hp) (h h' : Heap) : Prop where
  keep : ∀ b o, h.get? b = some o -> H b = none -> b ∉ fs -> b ∉ ex -> h'.get? b = some o
  slot : ∀ b o, h.get? b = some o -> H b = none -> b ∈ fs -> b ∉ ex -> ∃ sl, h'.get? b = some { o with slots := sl }
  free : ∀ b o, h.get? b = some o -> H b = none -> b ∉ ex -> H' b = none
  there : ∀ b o, h.get? b = some o -> b ∉ ex -> ∃ o', h'.get? b = some o'
  tups : ∀ b xs, H b = some (.tup xs) -> H' b = some (.tup xs)
  frzs : ∀ b o u, H b = some (.frz o u) -> H' b = some (.frz o u)
  tbls : ∀ b ps, H b = some (.tbl ps) -> ∃ more, H' b = some (.tbl (ps ++ more))
section
variable {fs fs' ex ex' : List Addr} {H H1 H2 : Hp} {h h1 h2 h' : Heap} {a x e : Addr} {o : HO}
theorem Un.any (u : Un fs ex H H1 h h1) {b : Addr} {ob : Obj} (q : h.get? b = some ob) (n : H b = none) (hx : b ∉ ex) : ∃ sl, h1.get? b = some { ob with slots := sl } := by
  by_cases hb : b ∈ fs
  · exact u.slot b ob q n hb hx
  · exact ⟨ob.slots, u.keep b ob q n hb hx⟩
theorem Un.kept (k : ∀ b u, h.get? b = some u -> h'.get? b = some u) : Un fs ex H H h h' :=
  ⟨fun b ob q _ _ _ => k b ob q, fun b ob q _ _ _ => ⟨ob.slots, k b ob q⟩, fun _ _ _ n _ => n, fun b ob q _ => ⟨ob, k b ob q⟩, fun _ _ q => q, fun _ _ _ q => q, fun _ ps q => ⟨#[], by rw [q]; simp⟩⟩
theorem Un.refl : Un fs ex H H h h := Un.kept fun _ _ q => q
theorem Un.laid (k : ∀ b u, h.get? b = some u -> h'.get? b = some u) (hp : h.objs.size <= a) (hn : H a = none) : Un fs ex H (upd H a o) h h' where
  keep := fun b u q _ _ _ => k b u q
  slot := fun b u q _ _ _ => ⟨u.slots, k b u q⟩
  free := fun b u q n _ => by rw [xH (Nat.ne_of_lt (Nat.lt_of_lt_of_le (Heap.lt_size q) hp))]; exact n
  there := fun b u q _ => ⟨u, k b u q⟩
  tups := fun b xs q => by rw [xH (qM q hn)]; exact q
  frzs := fun b u xs q => by rw [xH (qM q hn)]; exact q
  tbls := fun b ps q => ⟨#[], by rw [xH (qM q hn), q]; simp⟩
theorem Un.write (mu : Mut (H x)) (he : e = x \/ H e = some (.own x)) (k : ∀ b u, b ≠ e -> h.get? b = some u -> h'.get? b = some u) (heo : ∃ u, h'.get? e = some u) : Un fs ex H (upd H x o) h h' := by
  have hx : ∀ b, H b = none -> b ≠ x := fun b n z => by subst z; rw [n] at mu; exact mu
  have hb : ∀ b, H b = none -> b ≠ e := fun b n z => by
    subst z
    rcases he with r | r
    · exact hx b n r
    · rw [n] at r; cases r
  have hm : ∀ b u, H b = some u -> ¬ Mut (some u) -> b ≠ x := fun b u q nm z => by subst z; rw [q] at mu; exact nm mu
  refine ⟨fun b u q n _ _ => k b u (hb b n) q, fun b u q n _ _ => ⟨u.slots, k b u (hb b n) q⟩, fun b u q n _ => by rw [xH (hx b n)]; exact n, fun b u q _ => ?_,
    fun b xs q => by rw [xH (hm b _ q fun z => z)]; exact q, fun b u xs q => by rw [xH (hm b _ q fun z => z)]; exact q, fun b ps q => ⟨#[], by rw [xH (hm b _ q fun z => z), q]; simp⟩⟩
  by_cases hbe : b = e
  · subst hbe; exact heo
  · exact ⟨u, k b u hbe q⟩
end
noncomputable def trk (h : Heap) (H : Hp) : List Addr := (List.range h.objs.size).filter fun a => (H a).isSome
noncomputable def hidT (h : Heap) (H : Hp) : Heap := PySem.W.hideAll h (trk h H)
theorem hidT_size (h : Heap) (H : Hp) : (hidT h H).objs.size = h.objs.size := PySem.W.hideAll_size _ _
theorem hidT_get {h : Heap} {H : Hp} {b : Addr} {o : Obj} (e : h.get? b = some o) (n : H b = none) : (hidT h H).get? b = some o :=
  PySem.W.hideAll_get _ e fun hm => by
    have q : (H b).isSome = true := (List.mem_filter.mp hm).2
    rw [n] at q; simp at q
theorem of_hidT {h : Heap} {H : Hp} {b : Addr} {o : Obj} (e : (hidT h H).get? b = some o) : h.get? b = some o /\ H b = none := by
  have e' : h.get? b = some o := PySem.W.of_hideAll (trk h H) e
  refine ⟨e', ?_⟩
  cases q : H b with
  | none => rfl
  | some x =>
    have hm : b ∈ trk h H := List.mem_filter.mpr ⟨List.mem_range.mpr (Heap.lt_size e'), by simp [q]⟩
    have z : (hidT h H).get? b = none := PySem.W.hideAll_none (trk h H) hm
    rw [z] at e; cases e
end L2
namespace L2
open PySem PySem.Spec PyProof.Rows
structure Mod (K : Fg) (mg : Str -> Option Value) (base : Heap) : Prop where
  kin : K.In base
  glob : base.Ns mainGlobals mg
  blt : ∃ mb, base.Ns builtinsNs mb /\ ∀ x : Str, x ≠ "__name__" -> mb x = bootBuiltins x
  nolimit : base.NoLimit
structure Cx where
  prog : Program
  w : World
  K : Fg
  mg : Str -> Option Value
  base : Heap
  A : Around
  N : List Str
  s₀ : Shared
  H₀ : Hp
  env : Env
  outer : List Env
  stack : List Env
  ex : List Addr
  fn : Str -> Bool
  calm : Bool
  pn : List (Addr × Obj)
  xe : Value -> Shared -> Prop
noncomputable def frs (l : List Env) : List Addr := l.filterMap (·.frame)
noncomputable abbrev Cx.fs (X : Cx) : List Addr := frs X.outer
noncomputable def Vis (sc : Scope) (x : Str) : Prop := sc.names.lookup x = some .local \/ sc.names.lookup x = some .cell \/ sc.names.lookup x = some .free
noncomputable def Loc (sc : Scope) (x : Str) : Prop := sc.names.lookup x = some .local \/ sc.names.lookup x = some .cell
noncomputable def Look (env : Env) (h : Heap) (m : Str -> Option Value) (x : Str) (u : Value) : Prop :=
  (env.kindOf x = some .local /\ m x = some u) \/ ((env.kindOf x = some .cell \/ env.kindOf x = some .free) /\ ∃ c, env.cells.lookup x = some c /\ h.IsCell c (some u))
noncomputable def TabIn (K : Fg) (H : Hp) : Prop := True
structure FrF (K : Fg) (l : List Env) (H : Hp) : Prop where
  fr : ∀ b ∈ frs l, H b = none
  tb : TabIn K H
structure Cx.Ok (X : Cx) : Prop where
  mod : Mod X.K X.mg X.base
  kind : X.env.scope.kind = .function
  glob : X.env.globals = mainGlobals
  blt : X.env.builtins = builtinsNs
  above : X.s₀.heap.objs.size <= X.env.locals
  inj : ∀ x y c, X.env.cells.lookup x = some c -> X.env.cells.lookup y = some c -> x = y
  has : ∀ x, (X.env.kindOf x = some .cell \/ X.env.kindOf x = some .free) -> ∃ c, X.env.cells.lookup x = some c
  cab : ∀ x c, X.fn x = true -> X.env.cells.lookup x = some c -> X.s₀.heap.objs.size <= c
  hd : X.calm = true -> X.A.handled = none
  frames : X.A.frames = some X.stack
  stk : X.stack = X.outer \/ (X.stack = X.env :: X.outer /\ X.env.frame = some X.env.locals)
  exf : ∀ b ∈ X.ex, b ≠ X.env.locals /\ ∀ x c, X.env.cells.lookup x = some c -> c ≠ b
  bs : ∀ b o, X.base.get? b = some o -> X.s₀.heap.get? b = some o /\ X.H₀ b = none
  bsz : X.base.objs.size <= X.s₀.heap.objs.size
  noex : ∀ b o, X.base.get? b = some o -> b ∉ X.ex
  exfs : ∀ b ∈ X.ex, b ∉ X.fs
  funs : X.s₀.heap.FunFrames X.base X.outer
  frf : FrF X.K X.outer X.H₀
structure Inv (X : Cx) (pins : List (Addr × Obj)) (σ : List (Option V)) (H : Hp) (s : Shared) : Prop where
  ok : X.Ok
  os : s.os = X.s₀.os
  bare : AllBare s.gens
  base : Un X.fs X.ex X.H₀ H X.s₀.heap s.heap
  loc : ∃ m, s.heap.Ns X.env.locals m /\ ∀ (i : Nat) (x : Str) (v : V), X.N[i]? = some x -> σ[i]? = some (some v) -> Vis X.env.scope x -> ∃ u, wU v u /\ Look X.env s.heap m x u
  cell : ∀ x c, X.env.cells.lookup x = some c -> ∃ v, s.heap.IsCell c v
  free : H X.env.locals = none
  freeC : ∀ x c, X.env.cells.lookup x = some c -> H c = none
  pin : ∀ p ∈ X.pn ++ pins, s.heap.get? p.1 = some p.2 /\ H p.1 = none /\ p.1 ≠ X.env.locals /\ p.1 ∉ X.fs /\ ∀ v, p.2.data ≠ .cell v
  hok : HOk X.prog X.w H s.heap
  len : σ.length = X.N.length
section
variable {X : Cx} {pins : List (Addr × Obj)} {σ : List (Option V)} {H H' : Hp} {s : Shared} {h' : Heap}
theorem Cx.Ok.nofr (ok : X.Ok) {b : Addr} {o : Obj} (e : X.base.get? b = some o) : b ∉ X.fs := fun hb => by
  have := (ok.funs.mem hb).1
  rw [e] at this; cases this
theorem Inv.bs (I : Inv X pins σ H s) : ∀ b o, X.base.get? b = some o -> s.heap.get? b = some o /\ H b = none := fun b o e =>
  ⟨I.base.keep b o (I.ok.bs b o e).1 (I.ok.bs b o e).2 (I.ok.nofr e) (I.ok.noex b o e), I.base.free b o (I.ok.bs b o e).1 (I.ok.bs b o e).2 (I.ok.noex b o e)⟩
theorem Inv.bk (I : Inv X pins σ H s) : ∀ b o, X.base.get? b = some o -> s.heap.get? b = some o := fun b o e => (I.bs b o e).1
theorem Inv.mod (I : Inv X pins σ H s) : Mod X.K X.mg X.base := I.ok.mod
theorem Inv.kIn (I : Inv X pins σ H s) : X.K.In s.heap := I.ok.mod.kin.keeps I.bk
theorem Inv.lt (I : Inv X pins σ H s) : X.env.locals < s.heap.objs.size := let ⟨_, hn, _⟩ := I.loc; hn.lt
theorem Inv.sz (I : Inv X pins σ H s) : X.s₀.heap.objs.size <= s.heap.objs.size := Nat.le_trans I.ok.above (Nat.le_of_lt I.lt)
theorem Inv.nofs (I : Inv X pins σ H s) {a : Addr} (h : s.heap.objs.size <= a) : a ∉ X.fs := fun hb => by
  obtain ⟨_, o, ho, _⟩ := I.ok.funs.mem hb
  exact absurd (Nat.lt_of_lt_of_le (Heap.lt_size ho) (Nat.le_trans I.sz h)) (Nat.lt_irrefl _)
theorem Inv.cne (I : Inv X pins σ H s) : ∀ x c, X.env.cells.lookup x = some c -> c ≠ X.env.locals := fun x c e z => by
  obtain ⟨v, o, ho, hd⟩ := I.cell x c e
  obtain ⟨m, ⟨o', es, ep, ho', hd', _⟩, _⟩ := I.loc
  rw [z, ho'] at ho; cases ho; rw [hd'] at hd; cases hd
theorem Inv.funs (I : Inv X pins σ H s) : s.heap.FunFrames X.base X.outer := by
  have all : ∀ (l : List Env), (∀ b ∈ frs l, b ∈ X.fs) -> X.s₀.heap.FunFrames X.base l -> s.heap.FunFrames X.base l := by
    intro l
    induction l with
    | nil => intro _ _; trivial
    | cons env r ih =>
      intro hs hl
      obtain ⟨hk, ⟨L, o, hf, hn, ho, hd⟩, hr⟩ := hl
      have hL : L ∈ X.fs := hs L (by unfold frs; rw [List.filterMap_cons, hf]; exact List.mem_cons_self)
      obtain ⟨sl, e⟩ := I.base.slot L o ho (I.ok.frf.fr L hL) hL fun z => I.ok.exfs L z hL
      exact ⟨hk, ⟨L, _, hf, hn, e, hd⟩, ih (fun b hb => hs b (by unfold frs; rw [List.filterMap_cons, hf]; exact List.mem_cons_of_mem _ hb)) hr⟩
  exact all X.outer (fun _ hb => hb) I.ok.funs
theorem Inv.stack (I : Inv X pins σ H s) : s.heap.FunFrames X.base X.stack := by
  rcases I.ok.stk with e | ⟨e, hf⟩
  · rw [e]; exact I.funs
  · rw [e]
    obtain ⟨m, hn, _⟩ := I.loc
    refine .cons (by rw [I.ok.kind]; decide) hf hn ?_ I.funs
    exact Heap.get?_none_of_le (Nat.le_trans I.ok.bsz I.ok.above)
theorem Inv.stkSub (I : Inv X pins σ H s) : ∀ b ∈ frs X.stack, b ∈ X.env.locals :: X.fs := fun b hb => by
  rcases I.ok.stk with e | ⟨e, hf⟩
  · rw [e] at hb; exact List.mem_cons_of_mem _ hb
  · rw [e] at hb
    unfold frs at hb
    rw [List.filterMap_cons, hf] at hb
    exact hb
theorem Inv.stkFree (I : Inv X pins σ H s) : ∀ b ∈ frs X.stack, H b = none := fun b hb => by
  rcases List.mem_cons.mp (I.stkSub b hb) with e | hb
  · rw [e]; exact I.free
  · obtain ⟨_, o, ho, _⟩ := I.ok.funs.mem hb
    exact I.base.free b o ho (I.ok.frf.fr b hb) fun z => I.ok.exfs b z hb
theorem Inv.tabIn (I : Inv X pins σ H s) : TabIn X.K H :=
  trivial
theorem Inv.step {g' : Array GenState} {t' : Nat} {d' : Drawn} {ch : List Addr} (I : Inv X pins σ H s)
    (hch : ∀ b ∈ ch, (b ∈ X.ex \/ X.s₀.heap.objs.size <= b) /\ b ≠ X.env.locals /\ (∀ x c, X.env.cells.lookup x = some c -> c ≠ b) /\ ∀ p ∈ X.pn ++ pins, p.1 ≠ b)
    (keep : ∀ b o, b ≠ X.env.locals -> b ∉ X.fs -> b ∉ ch -> s.heap.get? b = some o -> H b = none -> h'.get? b = some o)
    (slot : ∀ b o, b ≠ X.env.locals -> b ∈ X.fs -> b ∉ ch -> s.heap.get? b = some o -> H b = none -> ∃ sl, h'.get? b = some { o with slots := sl }) (free : ∀ b o, b ∉ ch -> s.heap.get? b = some o -> H b = none -> H' b = none)
    (there : ∀ b o, b ∉ ch -> s.heap.get? b = some o -> ∃ o', h'.get? b = some o')
    (tups : ∀ b xs, H b = some (.tup xs) -> H' b = some (.tup xs)) (frzs : ∀ b o u, H b = some (.frz o u) -> H' b = some (.frz o u)) (tbls : ∀ b ps, H b = some (.tbl ps) -> ∃ more, H' b = some (.tbl (ps ++ more)))
    (ns : ∀ m, s.heap.Ns X.env.locals m -> h'.Ns X.env.locals m) (hok : HOk X.prog X.w H' h') (hg : AllBare g') :
    Inv X pins σ H' { s with heap := h', gens := g', drawn := d', toks := t' } := by
  have neL : ∀ b o, X.s₀.heap.get? b = some o -> b ≠ X.env.locals := fun b o e => Nat.ne_of_lt (Nat.lt_of_lt_of_le (Heap.lt_size e) I.ok.above)
  have neC : ∀ b o, X.s₀.heap.get? b = some o -> b ∉ X.ex -> b ∉ ch := fun b o e hx hb => by
    rcases (hch b hb).1 with z | z
    · exact hx z
    · exact absurd (Nat.lt_of_lt_of_le (Heap.lt_size e) z) (Nat.lt_irrefl _)
  have cellK : ∀ x c, X.env.cells.lookup x = some c -> ∀ v, s.heap.IsCell c v -> h'.IsCell c v := fun x c e v ⟨o, ho, hd⟩ => by
    have nch : c ∉ ch := fun z => (hch c z).2.2.1 x c e rfl
    by_cases hc : c ∈ X.fs
    · obtain ⟨sl, q⟩ := slot c o (I.cne x c e) hc nch ho (I.freeC x c e)
      exact ⟨_, q, hd⟩
    · exact ⟨o, keep c o (I.cne x c e) hc nch ho (I.freeC x c e), hd⟩
  refine ⟨I.ok, I.os, hg, ⟨fun b o e n hb hx => ?_, fun b o e n hb hx => ?_, fun b o e n hx => ?_, fun b o e hx => ?_, fun b xs e => tups b xs (I.base.tups b xs e), fun b o xs e => frzs b o xs (I.base.frzs b o xs e), fun b ps e => ?_⟩, ?_, fun x c e => ?_, ?_, fun x c e => ?_, fun p hp => ?_, hok, I.len⟩
  · exact keep b o (neL b o e) hb (neC b o e hx) (I.base.keep b o e n hb hx) (I.base.free b o e n hx)
  · obtain ⟨sl, e1⟩ := I.base.slot b o e n hb hx
    obtain ⟨sl', e2⟩ := slot b _ (neL b o e) hb (neC b o e hx) e1 (I.base.free b o e n hx)
    exact ⟨sl', e2⟩
  · obtain ⟨o', e1⟩ := I.base.there b o e hx
    exact free b o' (neC b o e hx) e1 (I.base.free b o e n hx)
  · obtain ⟨o', e1⟩ := I.base.there b o e hx
    exact there b o' (neC b o e hx) e1
  · obtain ⟨m1, e1⟩ := I.base.tbls b ps e
    obtain ⟨m2, e2⟩ := tbls b _ e1
    exact ⟨m1 ++ m2, by rw [e2, Array.append_assoc]⟩
  · obtain ⟨m, hn, hl⟩ := I.loc
    refine ⟨m, ns m hn, fun i x v e1 e2 e3 => ?_⟩
    obtain ⟨u, r, l⟩ := hl i x v e1 e2 e3
    refine ⟨u, r, ?_⟩
    rcases l with l | ⟨k, c, e, z⟩
    · exact .inl l
    · exact .inr ⟨k, c, e, cellK x c e _ z⟩
  · obtain ⟨v, z⟩ := I.cell x c e
    exact ⟨v, cellK x c e v z⟩
  · obtain ⟨m, ⟨o, _, _, ho, _⟩, _⟩ := I.loc
    exact free _ o (fun z => (hch _ z).2.1 rfl) ho I.free
  · obtain ⟨v, o, ho, hd⟩ := I.cell x c e
    exact free c o (fun z => (hch c z).2.2.1 x c e rfl) ho (I.freeC x c e)
  · obtain ⟨e, n, ne, nf, d⟩ := I.pin p hp
    have nch : p.1 ∉ ch := fun z => (hch p.1 z).2.2.2 p hp rfl
    exact ⟨keep p.1 p.2 ne nf nch e n, free p.1 p.2 nch e n, ne, nf, d⟩
theorem Inv.un {t' : Nat} (I : Inv X pins σ H s) (u : Un X.fs [] H H' s.heap h') (hok : HOk X.prog X.w H' h') : Inv X pins σ H' { s with heap := h', toks := t' } := by
  obtain ⟨m, ⟨o, es, ep, ho, r⟩, _⟩ := id I.loc
  obtain ⟨sl, hL⟩ := u.any ho I.free (by simp)
  exact I.step (g' := s.gens) (d' := s.drawn) (ch := []) (fun _ z => nomatch z) (fun b o _ hb _ e n => u.keep b o e n hb (by simp)) (fun b o _ hb _ e n => u.slot b o e n hb (by simp)) (fun b o _ e n => u.free b o e n (by simp)) (fun b o _ e => u.there b o e (by simp)) u.tups u.frzs u.tbls (fun m' hm => by
    obtain ⟨o', es', ep', ho', r'⟩ := hm
    rw [ho] at ho'; cases ho'
    exact ⟨_, es', ep', hL, r'⟩) hok I.bare
theorem Inv.call {g' : Array GenState} {t' : Nat} {d' : Drawn} {ch : List Addr} (I : Inv X pins σ H s) (u : Un (frs X.stack) ch H H' s.heap h') (hok : HOk X.prog X.w H' h') (hg : AllBare g')
    (hch : ∀ b ∈ ch, (b ∈ X.ex \/ X.s₀.heap.objs.size <= b) /\ b ≠ X.env.locals /\ (∀ x c, X.env.cells.lookup x = some c -> c ≠ b) /\ ∀ p ∈ X.pn ++ pins, p.1 ≠ b) :
    Inv X pins σ H' { s with heap := h', gens := g', drawn := d', toks := t' } := by
  obtain ⟨m, ⟨o, es, ep, ho, r⟩, _⟩ := id I.loc
  obtain ⟨sl, hL⟩ := u.any ho I.free fun z => (hch _ z).2.1 rfl
  exact I.step (ch := ch) hch (fun b o hL hb hc e n => u.keep b o e n (fun z => (List.mem_cons.mp (I.stkSub b z)).elim hL hb) hc) (fun b o _ _ hc e n => u.any e n hc) (fun b o hc e n => u.free b o e n hc) (fun b o hc e => u.there b o e hc) u.tups u.frzs u.tbls (fun m' hm => by
    obtain ⟨o', es', ep', ho', r'⟩ := hm
    rw [ho] at ho'; cases ho'
    exact ⟨_, es', ep', hL, r'⟩) hok hg
theorem Inv.turned {t' : Nat} {it : Addr} (I : Inv X pins σ H s) (k : ∀ b o, b ≠ it -> s.heap.get? b = some o -> h'.get? b = some o) (hn : H it = none) (hL : it ≠ X.env.locals)
    (h1 : it ∈ X.ex \/ X.s₀.heap.objs.size <= it) (h2 : ∀ x c, X.env.cells.lookup x = some c -> c ≠ it) (h3 : ∀ p ∈ X.pn ++ pins, p.1 ≠ it) : Inv X pins σ H { s with heap := h', toks := t' } := by
  have nit : ∀ b u, H b = some u -> b ≠ it := fun b u e z => by rw [z, hn] at e; cases e
  refine I.step (g' := s.gens) (d' := s.drawn) (ch := [it]) (fun b hb => ?_) (fun b o _ _ hc e _ => k b o (fun z => hc (by simp [z])) e) (fun b o _ _ hc e _ => ⟨o.slots, k b o (fun z => hc (by simp [z])) e⟩) (fun _ _ _ _ n => n)
    (fun b o hc e => ⟨o, k b o (fun z => hc (by simp [z])) e⟩) (fun _ _ e => e) (fun _ _ _ e => e) (fun b ps e => ⟨#[], by rw [e]; simp⟩) (fun m hm => ?_) (fun b u e => ?_) I.bare
  · have e : b = it := by simpa using hb
    subst e
    exact ⟨h1, hL, h2, h3⟩
  · obtain ⟨o, es, ep, ho, r⟩ := hm
    exact ⟨o, es, ep, k _ o (Ne.symm hL) ho, r⟩
  · refine (I.hok b u e).stay (fun c v hc q => k c v ?_ q) (fun _ q => q) (fun _ _ q => q) fun _ _ _ q => q
    rcases hc with z | z
    · rw [z]; exact nit b u e
    · exact nit c _ z
theorem Inv.tok (I : Inv X pins σ H s) (t : Nat) : Inv X pins σ H { s with toks := t } := I.un (h' := s.heap) (t' := t) Un.refl I.hok
theorem Inv.kept {t' : Nat} (I : Inv X pins σ H s) (k : ∀ b u, s.heap.get? b = some u -> h'.get? b = some u) : Inv X pins σ H { s with heap := h', toks := t' } := I.un (Un.kept k) (I.hok.kept k)
theorem Inv.laid {a : Addr} {o : HO} {t' : Nat} (I : Inv X pins σ H s) (k : ∀ b u, s.heap.get? b = some u -> h'.get? b = some u) (hp : s.heap.objs.size <= a) (new : ObjOk X.prog X.w (upd H a o) h' a o) :
    Inv X pins σ (upd H a o) { s with heap := h', toks := t' } := I.un (Un.laid k hp (I.hok.fresh hp)) (I.hok.laid k hp new)
theorem Inv.write {x e : Addr} {o : HO} {t' : Nat} (I : Inv X pins σ H s) (mu : Mut (H x)) (he : e = x \/ H e = some (.own x)) (k : ∀ b u, b ≠ e -> s.heap.get? b = some u -> h'.get? b = some u) (heo : ∃ u, h'.get? e = some u)
    (new : ObjOk X.prog X.w (upd H x o) h' x o) : Inv X pins σ (upd H x o) { s with heap := h', toks := t' } := I.un (Un.write mu he k heo) (I.hok.write mu he k heo new)
theorem Inv.pins_of {pins' : List (Addr × Obj)} (I : Inv X pins σ H s) (h : ∀ p ∈ pins', s.heap.get? p.1 = some p.2 /\ H p.1 = none /\ p.1 ≠ X.env.locals /\ p.1 ∉ X.fs /\ ∀ v, p.2.data ≠ .cell v) : Inv X pins' σ H s :=
  ⟨I.ok, I.os, I.bare, I.base, I.loc, I.cell, I.free, I.freeC, fun p hp => (List.mem_append.mp hp).elim (fun z => I.pin p (List.mem_append_left _ z)) (h p), I.hok, I.len⟩
theorem nodup_ix {N : List Str} (hN : N.Nodup) {i j : Nat} {x : Str} (a : N[i]? = some x) (b : N[j]? = some x) : i = j := by
  obtain ⟨h1, e1⟩ := List.getElem?_eq_some_iff.mp a
  obtain ⟨h2, e2⟩ := List.getElem?_eq_some_iff.mp b
  exact (List.getElem_inj hN).mp (e1.trans e2.symm)
theorem store_ok2 {M : Model} {A : Around} {E : Value -> Shared -> Prop} {i : Nat} {x : Str} {v : V} {u : Value} {Q : Unit -> Shared -> Prop} (I : Inv X pins σ H s) (hN : X.N.Nodup) (hi : X.N[i]? = some x) (hx : Loc X.env.scope x) (r : wU v u)
    (h : ∀ s', Inv X pins (σ.set i (some v)) H s' -> (∃ a, Heap.SameBut a s.heap s'.heap /\ (a = X.env.locals \/ X.env.cells.lookup x = some a)) -> Q () s') (hf : X.fn x = true \/ X.env.scope.names.lookup x = some .local := by first | exact .inl rfl | exact .inr rfl | assumption) : wpAny M A (storeName X.env x u) Q E s := by
  obtain ⟨m, hn, hl⟩ := id I.loc
  have hcls : (X.env.scope.kind == .class || (X.env.scope.kind == .module && X.env.locals != X.env.globals)) = false := by rw [I.ok.kind]; rfl
  have hiσ : i < σ.length := by rw [I.len]; exact (List.getElem?_eq_some_iff.mp hi).1
  have cne := I.cne
  have tracked : ∀ {a : Addr} {h' : Heap}, (∃ o, s.heap.get? a = some o /\ H a = none) -> Heap.SameBut a s.heap h' -> HOk X.prog X.w H h' := fun {a h'} ha hs b ob e => by
    obtain ⟨_, _, hfree⟩ := ha
    refine (I.hok b ob e).stay (fun c w' hc q => (hs.2 c ?_).trans q) (fun _ q => q) (fun _ _ q => q) fun _ _ _ q => q
    rintro rfl
    rcases hc with rfl | hc
    · rw [hfree] at e; cases e
    · rw [hfree] at hc; cases hc
  rcases hx with hk | hk
  · refine wpAny_storeName_local hk hn (fun h' hn' hs => ?_) hcls
    obtain ⟨oL, _, _, hoL, _⟩ := id hn
    refine h _ ⟨I.ok, I.os, I.bare, ⟨fun b o e n hb hx => ?_, fun b o e n hb hx => ?_, I.base.free, fun b o e hx => ?_, I.base.tups, I.base.frzs, I.base.tbls⟩, ⟨_, hn', fun j y v' e1 e2 e3 => ?_⟩, fun y c e => ?_, I.free, I.freeC, fun p hp => ?_, tracked ⟨oL, hoL, I.free⟩ hs, by simpa using I.len⟩ ⟨_, hs, .inl rfl⟩
    · exact (hs.2 b (Nat.ne_of_lt (Nat.lt_of_lt_of_le (Heap.lt_size e) I.ok.above))).trans (I.base.keep b o e n hb hx)
    · obtain ⟨sl, e1⟩ := I.base.slot b o e n hb hx
      exact ⟨sl, (hs.2 b (Nat.ne_of_lt (Nat.lt_of_lt_of_le (Heap.lt_size e) I.ok.above))).trans e1⟩
    · obtain ⟨o', e1⟩ := I.base.there b o e hx
      exact ⟨o', (hs.2 b (Nat.ne_of_lt (Nat.lt_of_lt_of_le (Heap.lt_size e) I.ok.above))).trans e1⟩
    · by_cases hj : j = i
      · subst hj
        rw [hi] at e1; cases e1
        rw [List.getElem?_set_self hiσ] at e2
        cases e2
        exact ⟨u, r, .inl ⟨hk, by simp⟩⟩
      · rw [List.getElem?_set_ne (Ne.symm hj)] at e2
        obtain ⟨u', r', q⟩ := hl j y v' e1 e2 e3
        refine ⟨u', r', ?_⟩
        rcases q with ⟨k, e⟩ | ⟨k, c, e, z⟩
        · refine .inl ⟨k, ?_⟩
          have : y ≠ x := fun e => hj (nodup_ix hN e1 (e ▸ hi))
          simp [this, e]
        · exact .inr ⟨k, c, e, z.sameBut hs (cne y c e)⟩
    · obtain ⟨w', z⟩ := I.cell y c e
      exact ⟨w', z.sameBut hs (cne y c e)⟩
    · obtain ⟨e, n, ne, nf, d⟩ := I.pin p hp
      exact ⟨(hs.2 p.1 ne).trans e, n, ne, nf, d⟩
  · have hfn : X.fn x = true := by
      rcases hf with z | z
      · exact z
      · rw [z] at hk; cases hk
    obtain ⟨c, hc⟩ := I.ok.has x (.inl hk)
    obtain ⟨w', z⟩ := I.cell x c hc
    refine wpAny_storeName_cell I.ok.kind hk hc z (fun h' hc' hs => ?_)
    obtain ⟨oc, hoc, hocd⟩ := id z
    refine h { s with heap := h' } ⟨I.ok, I.os, I.bare, ⟨fun b o e n hb hx => ?_, fun b o e n hb hx => ?_, I.base.free, fun b o e hx => ?_, I.base.tups, I.base.frzs, I.base.tbls⟩, ⟨m, hn.sameBut hs (Ne.symm (cne x c hc)), fun j y v' e1 e2 e3 => ?_⟩, fun y c' e => ?_, I.free, I.freeC, fun p hp => ?_, tracked ⟨oc, hoc, I.freeC x c hc⟩ hs, by simpa using I.len⟩ ⟨c, hs, .inr hc⟩
    · exact (hs.2 b (Nat.ne_of_lt (Nat.lt_of_lt_of_le (Heap.lt_size e) (I.ok.cab x c hfn hc)))).trans (I.base.keep b o e n hb hx)
    · obtain ⟨sl, e1⟩ := I.base.slot b o e n hb hx
      exact ⟨sl, (hs.2 b (Nat.ne_of_lt (Nat.lt_of_lt_of_le (Heap.lt_size e) (I.ok.cab x c hfn hc)))).trans e1⟩
    · obtain ⟨o', e1⟩ := I.base.there b o e hx
      exact ⟨o', (hs.2 b (Nat.ne_of_lt (Nat.lt_of_lt_of_le (Heap.lt_size e) (I.ok.cab x c hfn hc)))).trans e1⟩
    · by_cases hj : j = i
      · subst hj
        rw [hi] at e1; cases e1
        rw [List.getElem?_set_self hiσ] at e2
        cases e2
        exact ⟨u, r, .inr ⟨.inl hk, c, hc, hc'⟩⟩
      · rw [List.getElem?_set_ne (Ne.symm hj)] at e2
        obtain ⟨u', r', q⟩ := hl j y v' e1 e2 e3
        refine ⟨u', r', ?_⟩
        rcases q with q | ⟨k, c', e, z'⟩
        · exact .inl q
        · refine .inr ⟨k, c', e, z'.sameBut hs ?_⟩
          rintro rfl
          exact hj (nodup_ix hN e1 (I.ok.inj _ _ _ e hc ▸ hi))
    · by_cases hcc : c' = c
      · subst hcc; exact ⟨_, hc'⟩
      · obtain ⟨w2, z2⟩ := I.cell y c' e
        exact ⟨w2, z2.sameBut hs hcc⟩
    · obtain ⟨e, n, ne, nf, d⟩ := I.pin p hp
      refine ⟨(hs.2 p.1 ?_).trans e, n, ne, nf, d⟩
      intro q
      rw [q, hoc] at e
      have q' : oc = p.2 := Option.some.inj e
      exact d w' (by rw [<- q']; exact hocd)
theorem store_ok {M : Model} {A : Around} {E : Value -> Shared -> Prop} {i : Nat} {x : Str} {v : V} {u : Value} {Q : Unit -> Shared -> Prop} (I : Inv X pins σ H s) (hN : X.N.Nodup) (hi : X.N[i]? = some x) (hx : Loc X.env.scope x) (r : wU v u)
    (h : ∀ s', Inv X pins (σ.set i (some v)) H s' -> Q () s') (hf : X.fn x = true \/ X.env.scope.names.lookup x = some .local := by first | exact .inl rfl | exact .inr rfl | assumption) : wpAny M A (storeName X.env x u) Q E s :=
  store_ok2 I hN hi hx r (fun s' I' _ => h s' I') hf
theorem Inv.call' {s' : Shared} {ch : List Addr} (I : Inv X pins σ H s) (ho : s'.os = s.os) (u : Un (frs X.stack) ch H H' s.heap s'.heap) (hok : HOk X.prog X.w H' s'.heap) (hg : AllBare s'.gens)
    (hch : ∀ b ∈ ch, (b ∈ X.ex \/ X.s₀.heap.objs.size <= b) /\ b ≠ X.env.locals /\ (∀ x c, X.env.cells.lookup x = some c -> c ≠ b) /\ ∀ p ∈ X.pn ++ pins, p.1 ≠ b) : Inv X pins σ H' s' := by
  obtain ⟨h', g', d', t', o'⟩ := s'
  have e : o' = s.os := ho
  subst e
  exact I.call (g' := g') (t' := t') (d' := d') u hok hg hch
end
noncomputable abbrev XK := Value -> Option Addr -> Hp -> Prop
noncomputable abbrev St := List (Option V)
noncomputable abbrev VK := V -> Hp -> Prop
noncomputable abbrev TE := St -> Hp -> VK -> Prop
noncomputable abbrev TT := St -> Hp -> (Bool -> Hp -> Prop) -> Prop
noncomputable abbrev TA := St -> Hp -> (List V -> Hp -> Prop) -> Prop
structure Ends where
  nx : St -> Hp -> Prop
  rt : VK
  bk : St -> Hp -> Prop := fun _ _ => False
  ct : St -> Hp -> Prop := fun _ _ => False
noncomputable abbrev TS := Ends -> St -> Hp -> Prop
noncomputable def EP (X : Cx) (pins : List (Addr × Obj)) (σ : St) (Q : VK) (u : Value) (s' : Shared) : Prop := ∃ v H', Inv X pins σ H' s' /\ wU v u /\ Q v H'
noncomputable def TP (X : Cx) (pins : List (Addr × Obj)) (σ : St) (Q : Bool -> Hp -> Prop) (b : Bool) (s' : Shared) : Prop := ∃ H', Inv X pins σ H' s' /\ Q b H'
noncomputable def AP (X : Cx) (pins : List (Addr × Obj)) (σ : St) (Q : List V -> Hp -> Prop) (us : List Value) (s' : Shared) : Prop := ∃ vs H', Inv X pins σ H' s' /\ yU vs us /\ Q vs H'
noncomputable def SP (X : Cx) (pins : List (Addr × Obj)) (D : Ends) (f : Flow) (s' : Shared) : Prop :=
  match f with
  | .next => ∃ σ' H', Inv X pins σ' H' s' /\ D.nx σ' H'
  | .brk => ∃ σ' H', Inv X pins σ' H' s' /\ D.bk σ' H'
  | .cont => ∃ σ' H', Inv X pins σ' H' s' /\ D.ct σ' H'
  | .ret u => ∃ v σ' H', Inv X pins σ' H' s' /\ wU v u /\ D.rt v H'
noncomputable def PE (X : Cx) (e : Expr) (t : TE) : Prop :=
  ∀ (pins : List (Addr × Obj)) (s : Shared) (σ : St) (H : Hp) (Q : VK), Inv X pins σ H s -> t σ H Q -> wpAny (model X.prog X.w) X.A (eval e X.env) (EP X pins σ Q) X.xe s
noncomputable def PT (X : Cx) (e : Expr) (t : TT) : Prop :=
  ∀ (pins : List (Addr × Obj)) (s : Shared) (σ : St) (H : Hp) (Q : Bool -> Hp -> Prop), Inv X pins σ H s -> t σ H Q -> wpAny (model X.prog X.w) X.A (isTrue e X.env (eval e X.env)) (TP X pins σ Q) X.xe s
noncomputable def PW (X : Cx) (e : Expr) (t : TT) : Prop :=
  ∀ (whole : Sem Value) (pins : List (Addr × Obj)) (s : Shared) (σ : St) (H : Hp) (Q : Bool -> Hp -> Prop), Inv X pins σ H s -> t σ H Q -> wpAny (model X.prog X.w) X.A (isTrue e X.env whole) (TP X pins σ Q) X.xe s
theorem PW.pt {X : Cx} {e : Expr} {t : TT} (h : PW X e t) : PT X e t := h _
noncomputable def PA (X : Cx) (es : List Expr) (t : TA) : Prop :=
  ∀ (pos : Pos) (pins : List (Addr × Obj)) (s : Shared) (σ : St) (H : Hp) (Q : List V -> Hp -> Prop), Inv X pins σ H s -> t σ H Q -> wpAny (model X.prog X.w) X.A (spliced (backTo pos (starEach es X.env))) (AP X pins σ Q) X.xe s
noncomputable def PS (X : Cx) (st : Stmt) (t : TS) : Prop :=
  ∀ (pins : List (Addr × Obj)) (s : Shared) (σ : St) (H : Hp) (D : Ends), Inv X pins σ H s -> t D σ H -> wpAny (model X.prog X.w) X.A (exec st X.env) (SP X pins D) X.xe s
noncomputable def PSs (X : Cx) (st : List Stmt) (t : TS) : Prop :=
  ∀ (pins : List (Addr × Obj)) (s : Shared) (σ : St) (H : Hp) (D : Ends), Inv X pins σ H s -> t D σ H -> wpAny (model X.prog X.w) X.A (execs st X.env) (SP X pins D) X.xe s
theorem thn {α : Type} {t : Sem α} {Q Q' : α -> Shared -> Prop} {M : Model} {A : Around} {E : Value -> Shared -> Prop} {s : Shared} (h : wpAny M A t Q E s) (hQ : ∀ a s, Q a s -> Q' a s) : wpAny M A t Q' E s := wpAny_mono h hQ fun _ _ x => x
end L2
namespace L2
open PySem PySem.Spec PyProof.Rows
section
variable {X : Cx}
noncomputable def tVar (i : Nat) : TE := fun σ H Q => ∃ v, σ[i]? = some (some v) /\ Q v H
noncomputable def tC (v : V) : TE := fun _ H Q => Q v H
theorem pe_var {i : Nat} {x : Str} {pos : Pos} (hN : X.N[i]? = some x) (hv : Vis X.env.scope x) (hd : (x == ("__debug__" : Str)) = false := by decide) (hcd : (x == ("__classdict__" : Str)) = false := by decide) : PE X (.Name x pos) (tVar i) := by
  intro pins s σ H Q I h
  obtain ⟨v, e, h⟩ := h
  obtain ⟨m, hn, hl⟩ := I.loc
  obtain ⟨u, r, l⟩ := hl i x v hN e hv
  have fin : EP X pins σ Q u s := ⟨v, H, I, r, h⟩
  rcases l with ⟨hk, hm⟩ | ⟨hk, c, hc, hcell⟩
  · exact wpAny_Name (wpAny_loadName_local I.ok.kind hk hn hm fin) hd
  · rcases hk with hk | hk
    · exact wpAny_Name (wpAny_loadName_cell I.ok.kind hk hc hcell fin) hd
    · exact wpAny_Name (wpAny_loadName_free I.ok.kind hk hc hcell fin hcd) hd
theorem pe_int {i j pos} : PE X (.Constant (.int i) j pos) (tC (.int i)) := fun _ _ _ H _ I h => wpAny_Constant_int ⟨.int i, H, I.tok _, ⟨_, rfl⟩, h⟩
theorem pe_bl {b j pos} : PE X (.Constant (.bool b) j pos) (tC (.bl b)) := fun _ _ _ H _ I h => Constant_bool ⟨.bl b, H, I, rfl, h⟩
theorem pe_str {x j pos} : PE X (.Constant (.str x) j pos) (tC (.str x)) := fun _ _ _ H _ I h => Calls.Constant_str ⟨.str x, H, I.tok _, ⟨_, rfl⟩, h⟩
noncomputable def Gl (X : Cx) (x : Str) : Prop := X.env.kindOf x = some .globalImplicit
theorem ld_glob {E : Value -> Shared -> Prop} {pins : List (Addr × Obj)} {s : Shared} {σ : St} {H : Hp} {x : Str} {u : Value} {pos : Pos} {Q : Value -> Shared -> Prop} (I : Inv X pins σ H s) (hg : Gl X x) (hm : X.mg x = some u) (h : Q u s)
    (hd : (x == ("__debug__" : Str)) = false := by decide) : wpAny (model X.prog X.w) X.A (eval (.Name x pos) X.env) Q E s :=
  Calls.Name_function_global I.ok.kind hg (Calls.loadGlobal_global (by rw [I.ok.glob]; exact I.mod.glob.keeps I.bk) hm h) hd
theorem ld_blt {E : Value -> Shared -> Prop} {pins : List (Addr × Obj)} {s : Shared} {σ : St} {H : Hp} {x : Str} {u : Value} {pos : Pos} {Q : Value -> Shared -> Prop} (I : Inv X pins σ H s) (hg : Gl X x) (hm : X.mg x = none) (hv : bootBuiltins x = some u) (h : Q u s)
    (hn : x ≠ "__name__" := by decide) (hd : (x == ("__debug__" : Str)) = false := by decide) : wpAny (model X.prog X.w) X.A (eval (.Name x pos) X.env) Q E s := by
  obtain ⟨mb, h1, h2⟩ := I.mod.blt
  exact Calls.Name_function_global I.ok.kind hg (Calls.loadGlobal_builtin (by rw [I.ok.glob]; exact I.mod.glob.keeps I.bk) hm (by rw [I.ok.blt]; exact h1.keeps I.bk) ((h2 x hn).trans hv) h) hd
theorem pe_glob {x : Str} {v : V} {u : Value} {pos : Pos} (hg : Gl X x) (hm : X.mg x = some u) (r : wU v u) (hd : (x == ("__debug__" : Str)) = false := by decide) : PE X (.Name x pos) (tC v) :=
  fun _ _ _ H _ I h => ld_glob I hg hm ⟨v, H, I, r, h⟩ hd
theorem pe_bltn {x : Str} {v : V} {u : Value} {pos : Pos} (hg : Gl X x) (hm : X.mg x = none) (hv : bootBuiltins x = some u) (r : wU v u) (hn : x ≠ "__name__" := by decide) (hd : (x == ("__debug__" : Str)) = false := by decide) : PE X (.Name x pos) (tC v) :=
  fun _ _ _ H _ I h => ld_blt I hg hm hv ⟨v, H, I, r, h⟩ hn hd
variable {a b : Expr} {ta tb : TE} {pos : Pos}
variable {tA tB' : TT} {rest : List Expr}
noncomputable def tAnd (t u : TT) : TT := fun σ H Q => t σ H fun c H1 => if c = true then u σ H1 Q else Q false H1
noncomputable def tOr (t u : TT) : TT := fun σ H Q => t σ H fun c H1 => if c = true then Q true H1 else u σ H1 Q
noncomputable def tNot (t : TT) : TT := fun σ H Q => t σ H fun c H1 => Q (!c) H1
theorem pw_and1 (ha : PT X a tA) : PW X (.BoolOp .And [a] pos) tA := by
  intro wh pins s σ H Q I h
  refine isTrue_and (thn (ha pins s σ H Q I h) fun c s1 e => ?_)
  cases c with
  | true => exact isTrue_and_nil e
  | false => exact e
theorem pw_or1 (ha : PT X a tA) : PW X (.BoolOp .Or [a] pos) tA := by
  intro wh pins s σ H Q I h
  refine isTrue_or (thn (ha pins s σ H Q I h) fun c s1 e => ?_)
  cases c with
  | false => exact isTrue_or_nil e
  | true => exact e
theorem pw_and (ha : PT X a tA) (hb : PW X (.BoolOp .And (b :: rest) pos) tB') : PW X (.BoolOp .And (a :: b :: rest) pos) (tAnd tA tB') := by
  intro wh pins s σ H Q I h
  refine isTrue_and (thn (ha pins s σ H _ I h) fun c s1 ⟨H1, I1, q1⟩ => ?_)
  cases c with
  | true => exact hb wh pins s1 σ H1 Q I1 q1
  | false => exact ⟨H1, I1, q1⟩
theorem pw_or (ha : PT X a tA) (hb : PW X (.BoolOp .Or (b :: rest) pos) tB') : PW X (.BoolOp .Or (a :: b :: rest) pos) (tOr tA tB') := by
  intro wh pins s σ H Q I h
  refine isTrue_or (thn (ha pins s σ H _ I h) fun c s1 ⟨H1, I1, q1⟩ => ?_)
  cases c with
  | true => exact ⟨H1, I1, q1⟩
  | false => exact hb wh pins s1 σ H1 Q I1 q1
theorem pt_not (ha : PT X a tA) : PT X (.UnaryOp .Not a pos) (tNot tA) := by
  intro pins s σ H Q I h
  exact isTrue_not (ha pins s σ H (fun c H1 => Q (!c) H1) I h)
noncomputable def tAndV (ta tb : TE) : TE := fun σ H Q => ta σ H fun x H1 => ∃ c, x = .bl c /\ if c = true then tb σ H1 Q else Q (.bl false) H1
noncomputable def tOrV (ta tb : TE) : TE := fun σ H Q => ta σ H fun x H1 => ∃ c, x = .bl c /\ if c = true then Q (.bl true) H1 else tb σ H1 Q
noncomputable def tNotV (ta : TE) : TE := fun σ H Q => ta σ H fun x H1 => ∃ c, x = .bl c /\ Q (.bl (!c)) H1
theorem pe_one {op} {t : TE} (h : PE X a t) : PE X (.BoolOp op [a] pos) t := fun pins s σ H Q I hw => BoolOp_one (h pins s σ H Q I hw)
theorem pe_and (ha : PE X a ta) (hb : PE X (.BoolOp .And (b :: rest) pos) tb) : PE X (.BoolOp .And (a :: b :: rest) pos) (tAndV ta tb) := by
  intro pins s σ H Q I h
  refine BoolOp_and (thn (ha pins s σ H _ I h) fun v s1 ⟨x, H1, I1, r1, q1⟩ => ?_)
  obtain ⟨c, rfl, q1⟩ := q1
  cases r1
  refine wpAny_truthy_bool ?_
  cases c with
  | true => exact hb pins s1 σ H1 Q I1 q1
  | false => exact ⟨.bl false, H1, I1, rfl, q1⟩
theorem pe_or (ha : PE X a ta) (hb : PE X (.BoolOp .Or (b :: rest) pos) tb) : PE X (.BoolOp .Or (a :: b :: rest) pos) (tOrV ta tb) := by
  intro pins s σ H Q I h
  refine BoolOp_or (thn (ha pins s σ H _ I h) fun v s1 ⟨x, H1, I1, r1, q1⟩ => ?_)
  obtain ⟨c, rfl, q1⟩ := q1
  cases r1
  refine wpAny_truthy_bool ?_
  cases c with
  | false => exact hb pins s1 σ H1 Q I1 q1
  | true => exact ⟨.bl true, H1, I1, rfl, q1⟩
theorem pe_not (ha : PE X a ta) : PE X (.UnaryOp .Not a pos) (tNotV ta) := by
  intro pins s σ H Q I h
  refine UnaryOp_ (thn (ha pins s σ H _ I h) fun v s1 ⟨x, H1, I1, r1, q1⟩ => ?_)
  obtain ⟨c, rfl, q1⟩ := q1
  cases r1
  exact not_of (wpAny_truthy_bool ⟨.bl (!c), H1, I1, rfl, q1⟩)
end
end L2
namespace L2
open PySem PySem.Spec PyProof.Rows
noncomputable def SqL (K : Fg) (H : Hp) (a : Addr) (xs : List V) : Prop :=
  Rd H a (.lst xs) \/
    ∃ (o : Obj) (its : Array Value) (n : Nat), K.lookup a = some o /\ o.cls = .type "list" /\ o.dict = none /\ o.data = .seq its n /\ its.size <= sizeLine /\ yU xs its.toList
noncomputable def SqT (K : Fg) (H : Hp) (a : Addr) (xs : List V) : Prop :=
  Rd H a (.tup xs) \/
    ∃ (o : Obj) (its : Array Value) (n : Nat), K.lookup a = some o /\ o.cls = .type "tuple" /\ o.data = .seq its n /\ its.size <= sizeLine /\ yU xs its.toList
noncomputable def absV : Value -> Option V
  | .none => some .non
  | .bool b => some (.bl b)
  | .int i _ => some (.int i)
  | .str x _ => some (.str x)
  | .bytes b _ => some (.byt b)
  | .float b _ => some (.flt b)
  | .ref a => some (.ref a)
  | .type n => some (.ty n)
  | _ => none
theorem wU.abs {x : V} {u : Value} (r : wU x u) : absV u = some x := by
  cases x with
  | non => cases r; rfl
  | bl _ => cases r; rfl
  | int _ => obtain ⟨t, rfl⟩ := r; rfl
  | str _ => obtain ⟨t, rfl⟩ := r; rfl
  | byt _ => obtain ⟨t, rfl⟩ := r; rfl
  | flt _ => obtain ⟨t, rfl⟩ := r; rfl
  | ref _ => cases r; rfl
  | ty _ => cases r; rfl
theorem wU.inj {x y : V} {u : Value} (r : wU x u) (q : wU y u) : x = y := Option.some.inj (r.abs.symm.trans q.abs)
theorem yU.inj {xs ys : List V} {us : List Value} (h : yU xs us) : yU ys us -> xs = ys := by
  induction h generalizing ys with
  | nil => intro g; cases g; rfl
  | cons r t ih => intro g; cases g with
    | cons r' t' => rw [r.inj r', ih t']
section
variable {X : Cx} {pins : List (Addr × Obj)} {σ : St} {H : Hp} {s : Shared} {a : Addr} {xs ys : List V}
theorem SqL.of {K : Fg} (h : H a = some (.lst xs)) : SqL K H a xs := .inl (.inl h)
theorem SqT.of {K : Fg} (h : H a = some (.tup xs)) : SqT K H a xs := .inl (.inl h)
theorem Inv.list (I : Inv X pins σ H s) (h : SqL X.K H a xs) : ∃ its : List Value, yU xs its /\ PlainL s.heap a its.toArray /\ xs.length <= sizeLine := by
  rcases h with h | ⟨o, its, n, hk, hc, hd, hs, hz, r⟩
  · obtain ⟨z, its, n, r, e⟩ := h.ok I.hok
    exact ⟨its, r, ⟨_, n, e, rfl, rfl, rfl⟩, z⟩
  · refine ⟨its.toList, r, ⟨o, n, I.kIn a o hk, hc, hd, by simpa using hs⟩, ?_⟩
    have e := r.length
    simp only [Array.length_toList] at e
    lia
theorem Inv.tuple (I : Inv X pins σ H s) (h : SqT X.K H a xs) : ∃ its : List Value, yU xs its /\ IsTup s.heap a its.toArray /\ xs.length <= sizeLine := by
  rcases h with h | ⟨o, its, n, hk, hc, hs, hz, r⟩
  · obtain ⟨z, its, r, p⟩ := h.ok I.hok
    exact ⟨its, r, p, z⟩
  · refine ⟨its.toList, r, ⟨o, I.kIn a o hk, hc, n, by simpa using hs⟩, ?_⟩
    have e := r.length
    simp only [Array.length_toList] at e
    lia
theorem Inv.list_inj (I : Inv X pins σ H s) (h : SqL X.K H a xs) (h' : SqL X.K H a ys) : xs = ys := by
  obtain ⟨its, r, ⟨o, n, e, _, _, d⟩, _⟩ := I.list h
  obtain ⟨its', r', ⟨o', n', e', _, _, d'⟩, _⟩ := I.list h'
  rw [e] at e'; cases e'
  rw [d] at d'
  injection d' with d1 _
  have : its = its' := by simpa using congrArg Array.toList d1
  subst this
  exact r.inj r'
theorem Inv.tuple_inj (I : Inv X pins σ H s) (h : SqT X.K H a xs) (h' : SqT X.K H a ys) : xs = ys := by
  obtain ⟨its, r, ⟨o, e, _, n, d⟩, _⟩ := I.tuple h
  obtain ⟨its', r', ⟨o', e', _, n', d'⟩, _⟩ := I.tuple h'
  rw [e] at e'; cases e'
  rw [d] at d'
  injection d' with d1 _
  have : its = its' := by simpa using congrArg Array.toList d1
  subst this
  exact r.inj r'
end
noncomputable abbrev Cx.wish (X : Cx) (E : Value -> Shared -> Prop) : Cx := { X with xe := E }
noncomputable abbrev Cx.nox (X : Cx) : Cx := X.wish fun _ _ => False
theorem Cx.Ok.wish {X : Cx} (ok : X.Ok) (E : Value -> Shared -> Prop) : (X.wish E).Ok :=
  ⟨ok.mod, ok.kind, ok.glob, ok.blt, ok.above, ok.inj, ok.has, ok.cab, ok.hd, ok.frames, ok.stk, ok.exf, ok.bs, ok.bsz, ok.noex, ok.exfs, ok.funs, ok.frf⟩
theorem Cx.Ok.unwish {X : Cx} {E : Value -> Shared -> Prop} (ok : (X.wish E).Ok) : X.Ok :=
  ⟨ok.mod, ok.kind, ok.glob, ok.blt, ok.above, ok.inj, ok.has, ok.cab, ok.hd, ok.frames, ok.stk, ok.exf, ok.bs, ok.bsz, ok.noex, ok.exfs, ok.funs, ok.frf⟩
section
variable {X : Cx} {pins : List (Addr × Obj)} {σ : St} {H : Hp} {s : Shared} {E : Value -> Shared -> Prop}
theorem Inv.wish (I : Inv X pins σ H s) (E : Value -> Shared -> Prop) : Inv (X.wish E) pins σ H s := ⟨I.ok.wish E, I.os, I.bare, I.base, I.loc, I.cell, I.free, I.freeC, I.pin, I.hok, I.len⟩
theorem Inv.unwish (I : Inv (X.wish E) pins σ H s) : Inv X pins σ H s := ⟨I.ok.unwish, I.os, I.bare, I.base, I.loc, I.cell, I.free, I.freeC, I.pin, I.hok, I.len⟩
theorem SP.unwish {D : Ends} {f : Flow} {s' : Shared} (h : SP (X.wish E) pins D f s') : SP X pins D f s' := by
  cases f with
  | next => obtain ⟨σ', H', I, q⟩ := h; exact ⟨σ', H', I.unwish, q⟩
  | brk => obtain ⟨σ', H', I, q⟩ := h; exact ⟨σ', H', I.unwish, q⟩
  | cont => obtain ⟨σ', H', I, q⟩ := h; exact ⟨σ', H', I.unwish, q⟩
  | ret u => obtain ⟨v, σ', H', I, r, q⟩ := h; exact ⟨v, σ', H', I.unwish, r, q⟩
theorem PSs.nox {st : List Stmt} {t : TS} (h : PSs X.nox st t) : PSs X st t := fun pins s σ H D I hw =>
  wpAny_mono (h pins s σ H D (I.wish _) hw) (fun _ _ q => q.unwish) fun _ _ z => False.elim z
end
section
variable {X : Cx} {st : Stmt} {rest : List Stmt} {t u : TS} {e : Expr} {te : TE} {pos : Pos}
noncomputable def tNext : TS := fun D σ H => D.nx σ H
noncomputable def tSeq (t u : TS) : TS := fun D σ H => t { D with nx := u D } σ H
theorem pss_nil : PSs X [] tNext := fun _ _ σ H _ I h => wpAny_execs_nil ⟨σ, H, I, h⟩
theorem pss_cons (h1 : PS X st t) (h2 : PSs X rest u) : PSs X (st :: rest) (tSeq t u) := by
  intro pins s σ H D I h
  refine wpAny_execs_cons (thn (h1 pins s σ H { D with nx := u D } I h) fun f s1 q => ?_)
  cases f with
  | next =>
    obtain ⟨σ', H', I', q⟩ := q
    exact h2 pins s1 σ' H' D I' q
  | ret v => exact q
  | brk => exact q
  | cont => exact q
theorem pss_one (h1 : PS X st t) : PSs X [st] t := by
  intro pins s σ H D I h
  refine wpAny_execs_cons (thn (h1 pins s σ H D I h) fun f s1 q => ?_)
  cases f with
  | next => exact wpAny_execs_nil q
  | ret v => exact q
  | brk => exact q
  | cont => exact q
theorem Inv.quiet {pins : List (Addr × Obj)} {σ : St} {H : Hp} {s : Shared} (I : Inv X pins σ H s) : interactive X.env = false := by simp [interactive, I.ok.kind]
noncomputable def tDrop (te : TE) : TS := fun D σ H => te σ H fun _ H1 => D.nx σ H1
theorem ps_expr (he : PE X e te) (hs : swapsWith e none pos.line X.env = pure false := by rfl) : PS X (.Expr e pos) (tDrop te) := by
  intro pins s σ H D I h
  exact wpAny_Expr_any (thn (he pins s σ H _ I h) fun v s1 ⟨x, H1, I1, r1, q1⟩ => ⟨σ, H1, I1, q1⟩) I.quiet hs
noncomputable def tRet (te : TE) : TS := fun D σ H => te σ H D.rt
theorem ps_ret (he : PE X e te) : PS X (.Return (some e) pos) (tRet te) := by
  intro pins s σ H D I h
  exact wpAny_Return_some (thn (he pins s σ H _ I h) fun v s1 ⟨x, H1, I1, r1, q1⟩ => ⟨x, σ, H1, I1, r1, q1⟩)
noncomputable def tIfS (c : TT) (t u : TS) : TS := fun D σ H => c σ H fun b H1 => if b = true then t D σ H1 else u D σ H1
theorem ps_if {c : Expr} {a b : List Stmt} {tc : TT} (hc : PT X c tc) (ha : PSs X a t) (hb : PSs X b u) : PS X (.If c a b pos) (tIfS tc t u) := by
  intro pins s σ H D I h
  refine wpAny_If (thn (hc pins s σ H _ I h) fun d s1 ⟨H1, I1, q1⟩ => ?_)
  cases d with
  | true => exact ha pins s1 σ H1 D I1 q1
  | false => exact hb pins s1 σ H1 D I1 q1
end
noncomputable abbrev TG := V -> St -> Hp -> (St -> Hp -> Prop) -> Prop
noncomputable abbrev TGs := List V -> St -> Hp -> (St -> Hp -> Prop) -> Prop
noncomputable def PG (X : Cx) (target : Expr) (t : TG) : Prop :=
  ∀ (pins : List (Addr × Obj)) (s : Shared) (σ : St) (H : Hp) (v : V) (u : Value) (Q : St -> Hp -> Prop), Inv X pins σ H s -> wU v u -> t v σ H Q ->
    wpAny (model X.prog X.w) X.A (assign target X.env u) (fun _ s' => ∃ σ' H', Inv X pins σ' H' s' /\ Q σ' H') X.xe s
noncomputable def PGs (X : Cx) (ts : List Expr) (t : TGs) : Prop :=
  ∀ (pins : List (Addr × Obj)) (s : Shared) (σ : St) (H : Hp) (vs : List V) (us : List Value) (Q : St -> Hp -> Prop), Inv X pins σ H s -> yU vs us -> t vs σ H Q ->
    wpAny (model X.prog X.w) X.A (assignInOrder ((assignEach ts X.env).map (·.2)) us) (fun _ s' => ∃ σ' H', Inv X pins σ' H' s' /\ Q σ' H') X.xe s
section
variable {X : Cx} {pos : Pos}
noncomputable def gName (i : Nat) : TG := fun v σ H Q => Q (σ.set i (some v)) H
theorem pg_name {i : Nat} {x : Str} (hN : X.N.Nodup) (hi : X.N[i]? = some x) (hx : Loc X.env.scope x) (hf : X.fn x = true \/ X.env.scope.names.lookup x = some .local := by first | exact .inl rfl | exact .inr rfl | assumption) : PG X (.Name x pos) (gName i) := by
  intro pins s σ H v u Q I r h
  exact wpAny_assign_Name (store_ok I hN hi hx r (fun s' I' => ⟨_, H, I', h⟩) hf)
noncomputable def gNil : TGs := fun vs σ H Q => vs = [] /\ Q σ H
noncomputable def gCons (t : TG) (u : TGs) : TGs := fun vs σ H Q => ∃ v r, vs = v :: r /\ t v σ H fun σ' H' => u r σ' H' Q
theorem pgs_nil : PGs X [] gNil := by
  intro pins s σ H vs us Q I r h
  obtain ⟨e, h⟩ := h
  subst e
  cases r
  exact assignInOrder_nil ⟨σ, H, I, h⟩
theorem pgs_cons {e : Expr} {es : List Expr} {t : TG} {u : TGs} (h1 : PG X e t) (h2 : PGs X es u)
    (hs : (assignEach (e :: es) X.env).map (·.2) = assign e X.env :: (assignEach es X.env).map (·.2) := by rfl) : PGs X (e :: es) (gCons t u) := by
  intro pins s σ H vs us Q I r h
  obtain ⟨v, vr, e1, h⟩ := h
  subst e1
  cases r with
  | cons r rr =>
    rw [hs]
    refine assignInOrder_cons (thn (h1 pins s σ H _ _ _ I r h) fun _ s1 ⟨σ1, H1, I1, q1⟩ => ?_)
    exact h2 pins s1 σ1 H1 _ _ Q I1 rr q1
noncomputable def gTup (K : Fg) (n : Nat) (t : TGs) : TG := fun v σ H Q => ∃ a xs, v = .ref a /\ SqT K H a xs /\ xs.length = n /\ t xs σ H Q
theorem pg_tup {es : List Expr} {k : Nat} {t : TGs} {n : Nat} (hc : X.calm = true) (h : PGs X es t)
    (hn : (assignEach es X.env).length = n := by rfl) (hst : (assignEach es X.env).findIdx? (·.1) = none := by rfl) : PG X (.Tuple es k pos) (gTup X.K n t) := by
  intro pins s σ H v u Q I r hw
  obtain ⟨a, xs, e1, hq, hl, hw⟩ := hw
  subst e1
  cases r
  obtain ⟨its, rv, ht, hz⟩ := I.tuple hq
  refine assign_Tuple_tuple (I.ok.hd hc) ht (by simp [hn, <- hl, rv.length]) hst fun h' hx => ?_
  have I1 : Inv X pins σ H { s with heap := h' } := I.kept (t' := s.toks) fun b o e => hx b o (Nat.ne_of_lt (Heap.lt_size e)) e
  exact h pins _ σ H xs _ Q I1 (by simpa using rv) hw
noncomputable def tAsg (te : TE) (g : TG) : TS := fun D σ H => te σ H fun x H1 => g x σ H1 D.nx
theorem ps_asg {tg e : Expr} {te : TE} {g : TG} (he : PE X e te) (hg : PG X tg g) (hs : swapsWithSole [tg] e pos.line X.env = pure false := by rfl) (hw : swappedStores [tg] e X.env = pure none := by rfl)
    (h1 : (assignEach [tg] X.env).map (·.2) = [assign tg X.env] := by rfl) : PS X (.Assign [tg] e pos) (tAsg te g) := by
  intro pins s σ H D I h
  refine wpAny_Assign_stores (thn (he pins s σ H _ I h) fun v s1 ⟨x, H1, I1, r1, q1⟩ => ?_) hs hw
  rw [h1]
  exact thn (hg pins s1 σ H1 x v _ I1 r1 q1) fun _ s2 q => q
theorem ps_set {i : Nat} {x : Str} {e : Expr} {te : TE} {pos' : Pos} (hN : X.N.Nodup) (hi : X.N[i]? = some x) (hx : Loc X.env.scope x) (he : PE X e te) (hs : swapsWith e (some (.Name x pos')) pos.line X.env = pure false := by rfl) (hf : X.fn x = true \/ X.env.scope.names.lookup x = some .local := by first | exact .inl rfl | exact .inr rfl | assumption) :
    PS X (.Assign [.Name x pos'] e pos) (tAsg te (gName i)) := by
  intro pins s σ H D I h
  refine wpAny_Assign_Name (thn (he pins s σ H _ I h) fun v s1 ⟨y, H1, I1, r1, q1⟩ => ?_) hs
  exact store_ok I1 hN hi hx r1 (fun s2 I2 => ⟨_, H1, I2, q1⟩) hf
end
section
variable {X : Cx} {pos : Pos}
noncomputable def tWhile (c : TT) (tb : TS) : TS := fun D σ H => ∃ W : Nat -> St -> Hp -> Prop, (∃ m, W m σ H) /\ ∀ m σ H, W m σ H ->
  c σ H fun b H1 => if b = true then ∃ N : St -> Hp -> Prop, (∀ σ' H', N σ' H' -> ∃ m', m' < m /\ W m' σ' H') /\ tb { D with nx := N, ct := N, bk := D.nx } σ H1 else D.nx σ H1
theorem ps_while {c : Expr} {body : List Stmt} {tc : TT} {tb : TS} (hp : PassesOwn (model X.prog X.w) X.A X.env X.xe) (hc : PT X c tc) (hb : PSs X body tb) : PS X (.While c body [] pos) (tWhile tc tb) := by
  intro pins s σ H D I h
  obtain ⟨W, ⟨m0, w0⟩, turn⟩ := h
  refine wpAny_While (codeAny_whileLoop (fun n s' => ∃ σ' H', Inv X pins σ' H' s' /\ W n σ' H') ?_ m0 ⟨σ, H, I, w0⟩)
  rintro n s1 ⟨σ1, H1, I1, w1⟩
  refine wpAny_passesOwn hp (thn (hc pins s1 σ1 H1 _ I1 (turn n σ1 H1 w1)) fun b s2 ⟨H2, I2, q2⟩ => ?_)
  cases b with
  | true =>
    obtain ⟨N, hN, q2⟩ := q2
    rw [if_pos rfl]
    refine wpAny_passesOwn hp (thn (hb pins s2 σ1 H2 _ I2 q2) fun f s3 q3 => ?_)
    cases f with
    | next =>
      obtain ⟨σ3, H3, I3, n3⟩ := q3
      obtain ⟨m', hm, w3⟩ := hN σ3 H3 n3
      exact ⟨m', hm, σ3, H3, I3, w3⟩
    | cont =>
      obtain ⟨σ3, H3, I3, n3⟩ := q3
      obtain ⟨m', hm, w3⟩ := hN σ3 H3 n3
      exact ⟨m', hm, σ3, H3, I3, w3⟩
    | brk => exact q3
    | ret v => exact q3
  | false =>
    rw [if_neg Bool.false_ne_true]
    exact wpAny_execs_nil ⟨σ1, H2, I2, q2⟩
end
structure It where
  go : Nat -> Hp -> Prop
  yld : Nat -> Hp -> V -> Hp -> Prop
  stop : Nat -> Hp -> Prop
noncomputable def FpOk (X : Cx) (pins : List (Addr × Obj)) (H : Hp) (b : Addr) : Prop :=
  H b = none /\ b ≠ X.env.locals /\ b ∉ X.fs /\ (b ∈ X.ex \/ X.s₀.heap.objs.size <= b) /\ (∀ x c, X.env.cells.lookup x = some c -> c ≠ b) /\ ∀ p ∈ X.pn ++ pins, p.1 ≠ b
theorem Inv.fpOk {X : Cx} {pins : List (Addr × Obj)} {σ : St} {H H' : Hp} {s : Shared} {b : Addr} (I : Inv X pins σ H s) (hb : s.heap.objs.size <= b) (hn : H' b = none) : FpOk X pins H' b := by
  refine ⟨hn, Nat.ne_of_gt (Nat.lt_of_lt_of_le I.lt hb), I.nofs hb, .inr (Nat.le_trans I.sz hb), fun x c e z => ?_, fun p hp z => ?_⟩
  · obtain ⟨v, q⟩ := I.cell x c e
    exact absurd (Nat.lt_of_lt_of_le q.lt (by rw [z]; exact hb)) (Nat.lt_irrefl _)
  · exact absurd (Nat.lt_of_lt_of_le (Heap.lt_size (I.pin p hp).1) (by rw [z]; exact hb)) (Nat.lt_irrefl _)
structure Turn (P : Program) (w : World) (K : Fg) (tg : Expr) (J : It) (fp : List Addr) (it : Addr) (tn : Nat -> Heap -> Prop) : Prop where
  mem : it ∈ fp
  obj : ∀ i h, tn i h -> ∀ b ∈ fp, ∃ o, h.get? b = some o /\ ∀ v, o.data ≠ .cell v
  keep : ∀ i h h', tn i h -> (∀ b ∈ fp, ∀ o, h.get? b = some o -> h'.get? b = some o) -> tn i h'
  item : ∀ (X : Cx), X.prog = P -> X.w = w -> X.K = K -> X.calm = true -> ∀ (i : Nat) (pins : List (Addr × Obj)) (s : Shared) (σ : St) (H : Hp) (E : Value -> Shared -> Prop), Inv X pins σ H s -> (∀ b ∈ fp, FpOk X pins H b) -> tn i s.heap -> J.go i H ->
    wpAny (model P w) X.A (pyNext (.ref it)) (fun r s1 => ∃ u, r = some u /\
      wpAny (model P w) X.A (letOwnedTupleGo tg (.ref it) u) (fun _ s2 => ∃ x H', Inv X pins σ H' s2 /\ wU x u /\ J.yld i H x H' /\ tn (i + 1) s2.heap /\ ∀ b ∈ fp, H' b = none) E s1) E s
  done : ∀ (X : Cx), X.prog = P -> X.w = w -> X.K = K -> X.calm = true -> ∀ (i : Nat) (pins : List (Addr × Obj)) (s : Shared) (σ : St) (H : Hp) (E : Value -> Shared -> Prop), Inv X pins σ H s -> (∀ b ∈ fp, FpOk X pins H b) -> tn i s.heap -> J.stop i H ->
    wpAny (model P w) X.A (pyNext (.ref it)) (fun r s1 => r = none /\ Inv X pins σ H s1) E s
  self : ∀ (A : Around) (i : Nat) (s : Shared) (Q : Value -> Shared -> Prop) (E : Value -> Shared -> Prop), tn i s.heap -> Q (.ref it) s -> wpAny (model P w) A (pyIter (.ref it)) Q E s
noncomputable abbrev TI := St -> Hp -> (It -> Hp -> Prop) -> Prop
noncomputable def PIE (X : Cx) (pins : List (Addr × Obj)) (σ : St) (tg : Expr) (R : It -> Hp -> Prop) (itv : Value) (s2 : Shared) : Prop :=
  ∃ (it : Addr) (fp : List Addr) (tn : Nat -> Heap -> Prop) (J : It) (H' : Hp), itv = .ref it /\ Inv X pins σ H' s2 /\ Turn X.prog X.w X.K tg J fp it tn /\ tn 0 s2.heap /\ (∀ b ∈ fp, FpOk X pins H' b) /\ R J H'
noncomputable def PI (X : Cx) (tg iter : Expr) (wi : TI) : Prop :=
  ∀ (pins : List (Addr × Obj)) (s : Shared) (σ : St) (H : Hp) (R : It -> Hp -> Prop), Inv X pins σ H s -> wi σ H R ->
    wpAny (model X.prog X.w) X.A (eval iter X.env) (fun v s1 => wpAny (model X.prog X.w) X.A (pyIter v) (PIE X pins σ tg R) X.xe s1) X.xe s
theorem go_of {M : Model} {A : Around} {E : Value -> Shared -> Prop} {s : Shared} {tg : Expr} {it : Addr} {u : Value} {o : Obj} {n : String} {vs : Array Value} {Q : Unit -> Shared -> Prop} (ho : s.heap.get? it = some o) (hc : o.cls = .type n) (hd : o.data = .fields vs)
    (hn : ["enumerate", "zip", "dict_itemiterator", "dict_reverseitemiterator", "odict_iterator", "itertools.zip_longest", "itertools.pairwise"].contains n = false) (hQ : Q () s) : wpAny M A (letOwnedTupleGo tg (.ref it) u) Q E s := by
  unfold letOwnedTupleGo
  cases tg <;> first
    | exact wpAny_pure hQ
    | (cases u <;> first
        | exact wpAny_pure hQ
        | (refine wpAny_bind (wpAny_load ho ?_)
           rw [hc, hd]
           show wpAny M A (if (["enumerate", "zip", "dict_itemiterator", "dict_reverseitemiterator", "odict_iterator", "itertools.zip_longest", "itertools.pairwise"].contains n && vs[0]? == some (rawInt _)) = true then _ else _) Q E s
           rw [if_neg (by intro h; rw [hn, Bool.false_and] at h; cases h)]
           exact wpAny_pure hQ))
noncomputable def Itl (K : Fg) (a : Addr) : It :=
  ⟨fun i H => ∃ xs x, SqL K H a xs /\ xs[i]? = some x, fun i H x H' => H' = H /\ ∀ xs, SqL K H a xs -> xs[i]? = some x, fun i H => ∃ xs, SqL K H a xs /\ xs.length <= i⟩
noncomputable def Itt (K : Fg) (a : Addr) : It :=
  ⟨fun i H => ∃ xs x, SqT K H a xs /\ xs[i]? = some x, fun i H x H' => H' = H /\ ∀ xs, SqT K H a xs -> xs[i]? = some x, fun i H => ∃ xs, SqT K H a xs /\ xs.length <= i⟩
noncomputable def Itr (lo : Int) (n : Nat) : It := ⟨fun i _ => i < n, fun i H x H' => H' = H /\ x = .int (lo + i), fun i _ => n <= i⟩
theorem turn_list {P : Program} {w : World} {K : Fg} {tg : Expr} (a it : Addr) : Turn P w K tg (Itl K a) [it] it (fun i h => h.IsListIter it a i) where
  mem := by simp
  obj := fun i h st b hb => by
    have e : b = it := by simpa using hb
    subst e
    obtain ⟨o, e, c, d⟩ := st
    exact ⟨o, e, fun v z => by rw [d] at z; cases z⟩
  keep := fun i h h' st k => st.at fun o e => k it (by simp) o e
  item := by
    intro X hP hw hK hc i pins s σ H E I hf st hg
    subst hP hw hK
    obtain ⟨xs, x, hq, hx⟩ := hg
    obtain ⟨its, rv, p, hz⟩ := I.list hq
    obtain ⟨u, hu, ru⟩ := rv.get hx
    obtain ⟨f0, f1, f2, f3, f4, f5⟩ := hf it (by simp)
    refine wpAny_pyNext_list_item st p.isList (x := u) (by simpa using hu) fun h' st' sb => ?_
    have I1 : Inv X pins σ H { s with heap := h' } := I.turned (t' := s.toks) (fun b o hb e => (sb.2 b hb).trans e) f0 f1 f3 f4 f5
    obtain ⟨o, e, c, d⟩ := id st'
    exact ⟨u, rfl, go_of (s := { s with heap := h' }) e c d (by decide) ⟨x, H, I1, ru, ⟨rfl, fun ys hy => by rw [I.list_inj hy hq]; exact hx⟩, st', fun b hb => (hf b hb).1⟩⟩
  done := by
    intro X hP hw hK hc i pins s σ H E I hf st hg
    subst hP hw hK
    obtain ⟨xs, hq, hx⟩ := hg
    obtain ⟨its, rv, p, hz⟩ := I.list hq
    obtain ⟨f0, f1, f2, f3, f4, f5⟩ := hf it (by simp)
    have hl := rv.length
    exact wpAny_pyNext_list_end (I.ok.hd hc) st p.isList (by simp; lia) fun h' eb => ⟨rfl, I.turned (t' := s.toks) (fun b o hb e => eb b o hb e) f0 f1 f3 f4 f5⟩
  self := fun _ _ _ _ _ st h => wpAny_pyIter_listiter st h
theorem turn_tuple {P : Program} {w : World} {K : Fg} {tg : Expr} (a it : Addr) : Turn P w K tg (Itt K a) [it] it (fun i h => h.IsTupleIter it a i) where
  mem := by simp
  obj := fun i h st b hb => by
    have e : b = it := by simpa using hb
    subst e
    obtain ⟨o, e, c, d⟩ := st
    exact ⟨o, e, fun v z => by rw [d] at z; cases z⟩
  keep := fun i h h' st k => st.at fun o e => k it (by simp) o e
  item := by
    intro X hP hw hK hc i pins s σ H E I hf st hg
    subst hP hw hK
    obtain ⟨xs, x, hq, hx⟩ := hg
    obtain ⟨its, rv, p, hz⟩ := I.tuple hq
    obtain ⟨u, hu, ru⟩ := rv.get hx
    obtain ⟨f0, f1, f2, f3, f4, f5⟩ := hf it (by simp)
    refine wpAny_pyNext_tuple_item st (show s.heap.IsTuple a its.toArray from p) (x := u) (by simpa using hu) fun h' st' sb => ?_
    have I1 : Inv X pins σ H { s with heap := h' } := I.turned (t' := s.toks) (fun b o hb e => (sb.2 b hb).trans e) f0 f1 f3 f4 f5
    obtain ⟨o, e, c, d⟩ := id st'
    exact ⟨u, rfl, go_of (s := { s with heap := h' }) e c d (by decide) ⟨x, H, I1, ru, ⟨rfl, fun ys hy => by rw [I.tuple_inj hy hq]; exact hx⟩, st', fun b hb => (hf b hb).1⟩⟩
  done := by
    intro X hP hw hK hc i pins s σ H E I hf st hg
    subst hP hw hK
    obtain ⟨xs, hq, hx⟩ := hg
    obtain ⟨its, rv, p, hz⟩ := I.tuple hq
    obtain ⟨f0, f1, f2, f3, f4, f5⟩ := hf it (by simp)
    have hl := rv.length
    exact wpAny_pyNext_tuple_end (I.ok.hd hc) st (show s.heap.IsTuple a its.toArray from p) (by simp; lia) fun h' eb => ⟨rfl, I.turned (t' := s.toks) (fun b o hb e => eb b o hb e) f0 f1 f3 f4 f5⟩
  self := fun _ _ _ _ _ st h => wpAny_pyIter_tupleiter st h
theorem turn_range {P : Program} {w : World} {K : Fg} {tg : Expr} (it : Addr) (lo : Int) (n : Nat) : Turn P w K tg (Itr lo n) [it] it (fun i h => IsRangeIter h it (lo + (i : Nat) * 1) ((n : Int) - (i : Nat)) 1) where
  mem := by simp
  obj := fun i h st b hb => by
    have e : b = it := by simpa using hb
    subst e
    exact ⟨_, st, fun v z => by
      have z' : Data.fields _ = Data.cell v := z
      cases z'⟩
  keep := fun i h h' st k => k it (by simp) _ st
  item := by
    intro X hP hw hK hc i pins s σ H E I hf st hg
    subst hP hw hK
    obtain ⟨f0, f1, f2, f3, f4, f5⟩ := hf it (by simp)
    have W := Walks.range (prog := X.prog) (w := X.w) (I.ok.hd hc) it lo 1 n
    refine W.item i s _ _ hg st fun v h' tk hv st' kk => ?_
    obtain ⟨t, rfl⟩ := hv
    have I1 : Inv X pins σ H { s with heap := h', toks := tk } := I.turned (fun b o hb e => kk b o (by simpa using hb) e) f0 f1 f3 f4 f5
    refine ⟨_, rfl, go_of (s := { s with heap := h', toks := tk }) (n := "range_iterator") st' rfl rfl (by decide) ⟨.int (lo + i), H, I1, ⟨t, ?_⟩, ⟨rfl, rfl⟩, st', fun b hb => (hf b hb).1⟩⟩
    rw [Int.mul_one]
  done := by
    intro X hP hw hK hc i pins s σ H E I hf st hg
    subst hP hw hK
    obtain ⟨f0, f1, f2, f3, f4, f5⟩ := hf it (by simp)
    exact wpAny_pyNext_range_end (I.ok.hd hc) st (by have : n <= i := hg; lia) fun h' eb => ⟨rfl, I.turned (t' := s.toks) (fun b o hb e => eb b o hb e) f0 f1 f3 f4 f5⟩
  self := fun _ _ _ _ _ st h => wpAny_pyIter_rangeiter st h
end L2
namespace L2
open PySem PySem.Spec PyProof.Rows
section
variable {X : Cx} {tg : Expr}
theorem range_it {pins : List (Addr × Obj)} {σ : St} {H : Hp} {s : Shared} {R : It -> Hp -> Prop} {E : Value -> Shared -> Prop} {lo hi : Int} {t u v : Tok} {tk : Nat} (I : Inv X pins σ H s) (h1 : -(2 ^ 62) <= lo) (h2 : lo < 2 ^ 62) (h3 : -(2 ^ 62) <= hi) (h4 : hi < 2 ^ 62)
    (q : R (Itr lo (hi - lo).toNat) H) : wpAny (model X.prog X.w) X.A (pyIter (.ref s.heap.objs.size)) (PIE X pins σ tg R) E { s with heap := s.heap.push { cls := .type "range", data := .fields #[.int lo t, .int hi u, .int 1 v] }, toks := tk } := by
  refine wpAny_pyIter_range (IsRange.new ..) (small_one h1 h2 h3 h4) ?_
  have I1 : Inv X pins σ H { s with heap := s.heap.push { cls := .type "range", data := .fields #[.int lo t, .int hi u, .int 1 v] }, toks := tk } := I.kept fun b o e => Heap.get?_push_of_some _ e
  refine ⟨(s.heap.push { cls := .type "range", data := .fields #[.int lo t, .int hi u, .int 1 v] }).objs.size, [(s.heap.push { cls := .type "range", data := .fields #[.int lo t, .int hi u, .int 1 v] }).objs.size], _, _, H, rfl,
    I1.kept (t' := tk) fun b o e => Heap.get?_push_of_some _ e, turn_range _ lo (hi - lo).toNat, ?_, fun b hb => ?_, q⟩
  · have e1 : lo + ((0 : Nat) : Int) * 1 = lo := by simp
    have e2 : (((hi - lo).toNat : Nat) : Int) - ((0 : Nat) : Int) = Builtin.Range.rangeSize lo hi 1 := by rw [rangeSize_one]; split <;> lia
    show IsRangeIter _ _ (lo + ((0 : Nat) : Int) * 1) ((((hi - lo).toNat : Nat) : Int) - ((0 : Nat) : Int)) 1
    rw [e1, e2]
    exact Heap.get?_push_size _ rfl
  · have e : b = (s.heap.push { cls := .type "range", data := .fields #[.int lo t, .int hi u, .int 1 v] }).objs.size := by simpa using hb
    subst e
    exact I1.fpOk (Nat.le_refl _) (I1.hok.fresh (Nat.le_refl _))
noncomputable def iRng1 (ta : TA) : TI := fun σ H R => ta σ H fun vs H1 => ∃ j : Int, vs = [.int j] /\ -(2 ^ 62) <= j /\ j < 2 ^ 62 /\ R (Itr 0 j.toNat) H1
theorem pi_range1 {a : Expr} {ta : TA} {p pos : Pos} (hg : Gl X "range") (hm : X.mg "range" = none) (ha : PA X [a] ta) (hs : starEach [a] X.env = [(false, eval a X.env)] := by rfl) : PI X tg (.Call (.Name "range" p) [a] [] pos) (iRng1 ta) := by
  intro pins s σ H R I h
  refine Call_ (ld_blt I hg hm boot_range (PyProof.Rows.callWith_type1 (thn (ha pos pins s σ H _ I h) fun us s1 ⟨vs, H1, I1, r1, q1⟩ => ?_) hs rfl))
  obtain ⟨j, e, q1, q2, q⟩ := q1
  subst e
  cases r1 with
  | cons r rr =>
    cases rr
    obtain ⟨t, rfl⟩ := r
    exact call_range_1 (range_it I1 (by lia) (by lia) q1 q2 (by simpa using q))
noncomputable def tFor (wi : TI) (g : TG) (tb : TS) : TS := fun D σ H => wi σ H fun J H1 => ∃ W : Nat -> Nat -> St -> Hp -> Prop, (∃ m, W 0 m σ H1) /\ ∀ i m σ H, W i m σ H ->
  (J.stop i H /\ D.nx σ H) \/ (J.go i H /\ ∃ N : St -> Hp -> Prop, (∀ σ' H', N σ' H' -> ∃ m', m' < m /\ W (i + 1) m' σ' H') /\ ∀ x H', J.yld i H x H' -> g x σ H' fun σ2 H2 => tb { D with nx := N, ct := N, bk := D.nx } σ2 H2)
noncomputable def pinsAt (fp : List Addr) (h : Heap) : List (Addr × Obj) := fp.filterMap fun b => (h.get? b).map fun o => (b, o)
theorem mem_pinsAt {fp : List Addr} {h : Heap} {b : Addr} {o : Obj} (hb : b ∈ fp) (e : h.get? b = some o) : (b, o) ∈ pinsAt fp h := List.mem_filterMap.mpr ⟨b, hb, by rw [e]; rfl⟩
theorem of_pinsAt {fp : List Addr} {h : Heap} {p : Addr × Obj} (hp : p ∈ pinsAt fp h) : p.1 ∈ fp /\ h.get? p.1 = some p.2 := by
  obtain ⟨b, hb, e⟩ := List.mem_filterMap.mp hp
  cases q : h.get? b with
  | none => rw [q] at e; cases e
  | some o =>
    rw [q] at e
    have e' : (b, o) = p := Option.some.inj e
    subst e'
    exact ⟨hb, q⟩
theorem Inv.pinned {pins : List (Addr × Obj)} {σ : St} {H : Hp} {s : Shared} {fp : List Addr} (I : Inv X pins σ H s) (hf : ∀ b ∈ fp, FpOk X pins H b) (ho : ∀ b ∈ fp, ∃ o, s.heap.get? b = some o /\ ∀ v, o.data ≠ .cell v) : Inv X (pins ++ pinsAt fp s.heap) σ H s :=
  I.pins_of fun p hp => (List.mem_append.mp hp).elim (fun z => I.pin p (List.mem_append_right _ z)) fun z => by
    obtain ⟨hb, e⟩ := of_pinsAt z
    obtain ⟨f0, f1, f2, _⟩ := hf p.1 hb
    obtain ⟨o, e', d⟩ := ho p.1 hb
    rw [e] at e'; cases e'
    exact ⟨e, f0, f1, f2, d⟩
theorem Inv.unpinned {pins pl : List (Addr × Obj)} {σ : St} {H : Hp} {s : Shared} (I : Inv X (pins ++ pl) σ H s) : Inv X pins σ H s := I.pins_of fun p hp => I.pin p (List.mem_append_right _ (List.mem_append_left _ hp))
theorem ps_for {iter : Expr} {body : List Stmt} {wi : TI} {g : TG} {tb : TS} {pos : Pos} (hp : PassesOwn (model X.prog X.w) X.A X.env X.xe) (hc : X.calm = true) (hi : PI X tg iter wi) (hg : PG X tg g) (hb : PSs X body tb)
    (hs : ∀ x, foldedSetIterable iter X.env x = pure x := by intro _; rfl) : PS X (.For tg iter body [] pos) (tFor wi g tb) := by
  intro pins s σ H D I h
  refine wpAny_For (thn (hi pins s σ H _ I h) fun v s1 h1 => thn h1 fun itv s2 h2 => ?_) hs
  obtain ⟨it, fp, tn, J, H2, e, I2, T, st2, f2, W, ⟨m0, w0⟩, turn⟩ := h2
  subst e
  have stat : ∀ {H' : Hp}, (∀ b ∈ fp, H' b = none) -> ∀ b ∈ fp, FpOk X pins H' b := fun hn b hb => ⟨hn b hb, (f2 b hb).2⟩
  refine codeAny_forLoop_any (fun n s' => ∃ i σ' H', Inv X pins σ' H' s' /\ tn i s'.heap /\ (∀ b ∈ fp, H' b = none) /\ W i n σ' H') ?_ m0 ⟨0, σ, H2, I2, st2, fun b hb => (f2 b hb).1, w0⟩
  rintro n s3 ⟨i, σ3, H3, I3, st3, fr3, w3⟩
  rcases turn i n σ3 H3 w3 with ⟨stop, qn⟩ | ⟨go, N, hN, step⟩
  · refine wpAny_passesOwn hp (thn (T.done X rfl rfl rfl hc i pins s3 σ3 H3 X.xe I3 (stat fr3) st3 stop) fun r s4 ⟨hr, I4⟩ => ?_)
    subst hr
    exact wpAny_execs_nil ⟨σ3, H3, I4, qn⟩
  · refine wpAny_passesOwn hp (thn (T.item X rfl rfl rfl hc i pins s3 σ3 H3 X.xe I3 (stat fr3) st3 go) fun r s4 ⟨u, hr, h4⟩ => ?_)
    subst hr
    refine wpAny_passesOwn hp (thn h4 fun _ s5 ⟨x, H5, I5, r5, y5, st5, fr5⟩ => ?_)
    have I5' := I5.pinned (stat fr5) (T.obj _ _ st5)
    refine wpAny_passesOwn hp (thn (hg _ s5 σ3 H5 x u _ I5' r5 (step x H5 y5)) fun _ s6 ⟨σ6, H6, I6, q6⟩ => ?_)
    refine wpAny_passesOwn hp (thn (hb _ s6 σ6 H6 _ I6 q6) fun f s7 q7 => ?_)
    have again : ∀ {σ7 : St} {H7 : Hp}, Inv X (pins ++ pinsAt fp s5.heap) σ7 H7 s7 -> N σ7 H7 -> ∃ m, m < n /\ ∃ i σ' H', Inv X pins σ' H' s7 /\ tn i s7.heap /\ (∀ b ∈ fp, H' b = none) /\ W i m σ' H' := fun {σ7 H7} I7 n7 => by
      obtain ⟨m', hm, w7⟩ := hN σ7 H7 n7
      refine ⟨m', hm, i + 1, σ7, H7, I7.unpinned, T.keep _ _ _ st5 fun b hb o e => (I7.pin (b, o) (List.mem_append_right _ (List.mem_append_right _ (mem_pinsAt hb e)))).1, fun b hb => ?_, w7⟩
      obtain ⟨o, e, d⟩ := T.obj _ _ st5 b hb
      exact (I7.pin (b, o) (List.mem_append_right _ (List.mem_append_right _ (mem_pinsAt hb e)))).2.1
    cases f with
    | next => obtain ⟨σ7, H7, I7, n7⟩ := q7; exact again I7 n7
    | cont => obtain ⟨σ7, H7, I7, n7⟩ := q7; exact again I7 n7
    | brk => obtain ⟨σ7, H7, I7, q7⟩ := q7; exact ⟨σ7, H7, I7.unpinned, q7⟩
    | ret v => obtain ⟨x7, σ7, H7, I7, r7, q7⟩ := q7; exact ⟨x7, σ7, H7, I7.unpinned, r7, q7⟩
end
end L2
namespace L2
open PySem PySem.Spec PyProof.Rows
noncomputable abbrev R2 := V -> V -> Hp -> VK -> Prop
noncomputable def OpR (X : Cx) (f : Value -> Value -> Sem Value) (r : R2) : Prop :=
  ∀ (pins : List (Addr × Obj)) (s : Shared) (σ : St) (H : Hp) (x y : V) (v u : Value) (Q : VK), Inv X pins σ H s -> wU x v -> wU y u -> r x y H Q ->
    wpAny (model X.prog X.w) X.A (f v u) (EP X pins σ Q) X.xe s
noncomputable def UnR (X : Cx) (f : Value -> Sem Value) (r : V -> Hp -> VK -> Prop) : Prop :=
  ∀ (pins : List (Addr × Obj)) (s : Shared) (σ : St) (H : Hp) (x : V) (v : Value) (Q : VK), Inv X pins σ H s -> wU x v -> r x H Q ->
    wpAny (model X.prog X.w) X.A (f v) (EP X pins σ Q) X.xe s
noncomputable def CallR (X : Cx) (f : Value) (r : List V -> Hp -> VK -> Prop) : Prop :=
  ∀ (pins : List (Addr × Obj)) (s : Shared) (σ : St) (H : Hp) (xs : List V) (us : List Value) (Q : VK), Inv X pins σ H s -> yU xs us -> r xs H Q ->
    wpAny (model X.prog X.w) X.A (call f us) (EP X pins σ Q) X.xe s
noncomputable def TruR (X : Cx) (r : V -> Hp -> (Bool -> Hp -> Prop) -> Prop) : Prop :=
  ∀ (pins : List (Addr × Obj)) (s : Shared) (σ : St) (H : Hp) (x : V) (v : Value) (Q : Bool -> Hp -> Prop), Inv X pins σ H s -> wU x v -> r x H Q ->
    wpAny (model X.prog X.w) X.A (truthy v) (TP X pins σ Q) X.xe s
noncomputable def tOp (r : R2) (ta tb : TE) : TE := fun σ H Q => ta σ H fun x H1 => tb σ H1 fun y H2 => r x y H2 Q
noncomputable def tUn (r : V -> Hp -> VK -> Prop) (ta : TE) : TE := fun σ H Q => ta σ H fun x H1 => r x H1 Q
noncomputable def rI (C : Int -> Int -> Prop) (g : Int -> Int -> V) : R2 := fun x y H Q => ∃ i j, x = .int i /\ y = .int j /\ C i j /\ Q (g i j) H
noncomputable def rI0 (g : Int -> Int -> V) : R2 := fun x y H Q => ∃ i j, x = .int i /\ y = .int j /\ Q (g i j) H
noncomputable def rU (g : Int -> V) : V -> Hp -> VK -> Prop := fun x H Q => ∃ i, x = .int i /\ Q (g i) H
section
variable {X : Cx} {a b c : Expr} {ta tb tc : TE} {pos : Pos}
theorem binT (ha : PE X a ta) (hb : PE X b tb) {pins : List (Addr × Obj)} {s : Shared} {σ : St} {H : Hp} {R : V -> V -> Hp -> Prop} (I : Inv X pins σ H s)
    (h : ta σ H fun x H1 => tb σ H1 fun y H2 => R x y H2) {Q : Value -> Shared -> Prop} {f : Value -> Value -> Sem Value}
    (hf : ∀ v u s2 x y H2, Inv X pins σ H2 s2 -> wU x v -> wU y u -> R x y H2 -> wpAny (model X.prog X.w) X.A (f v u) Q X.xe s2) :
    wpAny (model X.prog X.w) X.A (eval a X.env) (fun v s₁ => wpAny (model X.prog X.w) X.A (eval b X.env) (fun u s₂ => wpAny (model X.prog X.w) X.A (f v u) Q X.xe s₂) X.xe s₁) X.xe s := by
  refine thn (ha pins s σ H _ I h) fun v s1 ⟨x, H1, I1, r1, q1⟩ => ?_
  refine thn (hb pins s1 σ H1 _ I1 q1) fun u s2 ⟨y, H2, I2, r2, q2⟩ => ?_
  exact hf v u s2 x y H2 I2 r1 r2 q2
theorem pe_op {op : Operator} {r : R2} (ho : OpR X (binaryOp op) r) (ha : PE X a ta) (hb : PE X b tb) : PE X (.BinOp a op b pos) (tOp r ta tb) := by
  intro pins s σ H Q I h
  exact wpAny_BinOp (binT ha hb I h fun v u s2 x y H2 I2 rx ry q => ho pins s2 σ H2 x y v u Q I2 rx ry q)
theorem pe_un {op : UnaryOp} {r : V -> Hp -> VK -> Prop} (ho : UnR X (unaryOp op) r) (ha : PE X a ta) : PE X (.UnaryOp op a pos) (tUn r ta) := by
  intro pins s σ H Q I h
  exact UnaryOp_ (thn (ha pins s σ H _ I h) fun v s1 ⟨x, H1, I1, r1, q1⟩ => ho pins s1 σ H1 x v Q I1 r1 q1)
theorem opI {f : Value -> Value -> Sem Value} {C : Int -> Int -> Prop} {g : Int -> Int -> Int}
    (rule : ∀ (i j : Int) (t u : Tok) (s : Shared) (Q : Value -> Shared -> Prop) (E : Value -> Shared -> Prop), C i j -> Q (.int (g i j) s.toks) { s with toks := s.toks + 1 } -> wpAny (model X.prog X.w) X.A (f (.int i t) (.int j u)) Q E s) :
    OpR X f (rI C fun i j => .int (g i j)) := by
  intro pins s σ H x y v u Q I rx ry h
  obtain ⟨i, j, rfl, rfl, hc, q⟩ := h
  obtain ⟨t, rfl⟩ := rx
  obtain ⟨t', rfl⟩ := ry
  exact rule i j t t' s _ _ hc ⟨.int (g i j), H, I.tok _, ⟨_, rfl⟩, q⟩
theorem opI0 {f : Value -> Value -> Sem Value} {g : Int -> Int -> Int}
    (rule : ∀ (i j : Int) (t u : Tok) (s : Shared) (Q : Value -> Shared -> Prop) (E : Value -> Shared -> Prop), Q (.int (g i j) s.toks) { s with toks := s.toks + 1 } -> wpAny (model X.prog X.w) X.A (f (.int i t) (.int j u)) Q E s) :
    OpR X f (rI0 fun i j => .int (g i j)) := by
  intro pins s σ H x y v u Q I rx ry h
  obtain ⟨i, j, rfl, rfl, q⟩ := h
  obtain ⟨t, rfl⟩ := rx
  obtain ⟨t', rfl⟩ := ry
  exact rule i j t t' s _ _ ⟨.int (g i j), H, I.tok _, ⟨_, rfl⟩, q⟩
theorem opB0 {f : Value -> Value -> Sem Value} {g : Int -> Int -> Bool}
    (rule : ∀ (i j : Int) (t u : Tok) (s : Shared) (Q : Value -> Shared -> Prop) (E : Value -> Shared -> Prop), Q (.bool (g i j)) s -> wpAny (model X.prog X.w) X.A (f (.int i t) (.int j u)) Q E s) :
    OpR X f (rI0 fun i j => .bl (g i j)) := by
  intro pins s σ H x y v u Q I rx ry h
  obtain ⟨i, j, rfl, rfl, q⟩ := h
  obtain ⟨t, rfl⟩ := rx
  obtain ⟨t', rfl⟩ := ry
  exact rule i j t t' s _ _ ⟨.bl (g i j), H, I, rfl, q⟩
noncomputable def CDiv (i j : Int) : Prop := 0 < j /\ j < 1073741824
noncomputable def CPow (i j : Int) : Prop := 0 <= j /\ j <= 1000000 /\ i.natAbs < 2 ^ 64
noncomputable def CMul (i j : Int) : Prop := (-(2 ^ 64) < i /\ i < 2 ^ 64) \/ (-(2 ^ 64) < j /\ j < 2 ^ 64)
theorem CMul.ok {i j : Int} (h : CMul i j) : IntMulOk i j := by
  rcases h with ⟨h1, h2⟩ | ⟨h1, h2⟩
  · exact .of_left (intBits_le_64 h1 h2)
  · exact .of_right (intBits_le_64 h1 h2)
theorem op_add : OpR X (binaryOp .Add) (rI0 fun i j => .int (i + j)) := opI0 fun _ _ _ _ _ _ _ q => add_int q
theorem op_sub : OpR X (binaryOp .Sub) (rI0 fun i j => .int (i - j)) := opI0 fun _ _ _ _ _ _ _ q => sub_int q
theorem op_mul : OpR X (binaryOp .Mult) (rI CMul fun i j => .int (i * j)) := opI fun _ _ _ _ _ _ _ hc q => mul_int q hc.ok
theorem op_fdiv : OpR X (binaryOp .FloorDiv) (rI CDiv fun i j => .int (i / j)) := opI fun i j _ _ _ _ _ hc q => by
  have h1 : (0 : Int) < j := hc.1
  have h2 : j < 1073741824 := hc.2
  exact floordiv_int (by lia) (by rw [Int.fdiv_eq_ediv_of_nonneg i (by lia)]; exact q) (.inl (PyProof.noPylong_small (by lia)))
theorem wA : OpR X (binaryOp .Mod) (rI (fun _ j => 0 < j) fun i j => .int (i % j)) := opI fun i j _ _ _ _ _ hc q => by
  have h1 : (0 : Int) < j := hc
  exact mod_int' (by lia) (by rw [Int.fmod_eq_emod_of_nonneg i (by lia)]; exact q)
theorem op_pow : OpR X (binaryOp .Pow) (rI CPow fun i j => .int (i ^ j.toNat)) := opI fun _ _ _ _ _ _ _ hc q => pow_int_small hc.1 hc.2.1 hc.2.2 q
theorem unI {f : Value -> Sem Value} {g : Int -> Int}
    (rule : ∀ (i : Int) (t : Tok) (s : Shared) (Q : Value -> Shared -> Prop) (E : Value -> Shared -> Prop), Q (.int (g i) s.toks) { s with toks := s.toks + 1 } -> wpAny (model X.prog X.w) X.A (f (.int i t)) Q E s) :
    UnR X f (rU fun i => .int (g i)) := by
  intro pins s σ H x v Q I rx h
  obtain ⟨i, rfl, q⟩ := h
  obtain ⟨t, rfl⟩ := rx
  exact rule i t s _ _ ⟨.int (g i), H, I.tok _, ⟨_, rfl⟩, q⟩
theorem un_neg : UnR X (unaryOp .USub) (rU fun i => .int (-i)) := unI fun _ _ _ _ _ q => neg_int q
end
noncomputable def scal : V -> V -> Bool
  | .non, .non => true | .non, .int _ => true | .int _, .non => true | .non, .bl _ => true | .bl _, .non => true | .non, .str _ => true | .str _, .non => true
  | .int _, .int _ => true | .bl _, .bl _ => true | .str _, .str _ => true | .byt _, .byt _ => true
  | .int _, .str _ => true | .str _, .int _ => true | .bl _, .str _ => true | .str _, .bl _ => true
  | _, _ => false
noncomputable def rEq : R2 := fun x y H Q => scal x y = true /\ Q (.bl (decide (x = y))) H
noncomputable def rNe : R2 := fun x y H Q => scal x y = true /\ Q (.bl (!decide (x = y))) H
theorem dec_int {i j : Int} : decide (V.int i = V.int j) = (i == j) := by
  rw [Bool.eq_iff_iff]
  simp
theorem dec_bl {i j : Bool} : decide (V.bl i = V.bl j) = (i == j) := by
  rw [Bool.eq_iff_iff]
  simp
theorem dec_str {i j : Str} : decide (V.str i = V.str j) = (i == j) := by
  rw [Bool.eq_iff_iff]
  simp
theorem dec_byt {i j : Array UInt8} : decide (V.byt i = V.byt j) = (i.toList == j.toList) := by
  rw [Bool.eq_iff_iff]
  cases i
  cases j
  simp
section
variable {X : Cx} {a b c : Expr} {ta tb tc : TE} {pos : Pos}
theorem xR {pins : List (Addr × Obj)} {σ : St} {H : Hp} {s : Shared} {Q : VK} {k k' : Bool} (I : Inv X pins σ H s) (q : Q (.bl k) H) (e : k = k') : EP X pins σ Q (.bool k') s := by
  subst e
  exact ⟨.bl k, H, I, rfl, q⟩
theorem op_eq : OpR X (compareOp .Eq) rEq := by
  intro pins s σ H x y v u Q I rx ry h
  obtain ⟨hs, q⟩ := h
  cases x with
  | non =>
    cases rx
    cases y with
    | non => cases ry; exact PySem.EqNone.eq_none_none (xR I q (by simp))
    | bl j => cases ry; exact PySem.EqNone.eq_none_bool (xR I q (by simp))
    | int j => obtain ⟨t', rfl⟩ := ry; exact PySem.EqNone.eq_none_int (xR I q (by simp))
    | str j => obtain ⟨t', rfl⟩ := ry; exact PySem.EqNone.eq_none_str (xR I q (by simp))
    | _ => exact absurd (show false = true from hs) Bool.false_ne_true
  | bl i =>
    cases rx
    cases y with
    | non => cases ry; exact PySem.EqNone.eq_bool_none (xR I q (by simp))
    | bl j => cases ry; exact eq_bool (xR I q dec_bl)
    | str j => obtain ⟨t', rfl⟩ := ry; exact PySem.EqMixed.eq_bool_str (xR I q (by simp))
    | _ => exact absurd (show false = true from hs) Bool.false_ne_true
  | int i =>
    obtain ⟨t, rfl⟩ := rx
    cases y with
    | non => cases ry; exact PySem.EqNone.eq_int_none (xR I q (by simp))
    | int j => obtain ⟨t', rfl⟩ := ry; exact eq_int (xR I q dec_int)
    | str j => obtain ⟨t', rfl⟩ := ry; exact PySem.EqMixed.eq_int_str (xR I q (by simp))
    | _ => exact absurd (show false = true from hs) Bool.false_ne_true
  | str i =>
    obtain ⟨t, rfl⟩ := rx
    cases y with
    | non => cases ry; exact PySem.EqNone.eq_str_none (xR I q (by simp))
    | bl j => cases ry; exact PySem.EqMixed.eq_str_bool (xR I q (by simp))
    | int j => obtain ⟨t', rfl⟩ := ry; exact PySem.EqMixed.eq_str_int (xR I q (by simp))
    | str j => obtain ⟨t', rfl⟩ := ry; exact eq_str (xR I q dec_str)
    | _ => exact absurd (show false = true from hs) Bool.false_ne_true
  | byt i =>
    obtain ⟨t, rfl⟩ := rx
    cases y with
    | byt j => obtain ⟨t', rfl⟩ := ry; exact PySem.W.eq_bytes (xR I q dec_byt)
    | _ => exact absurd (show false = true from hs) Bool.false_ne_true
  | _ => cases y <;> exact absurd (show false = true from hs) Bool.false_ne_true
theorem op_ne : OpR X (compareOp .NotEq) rNe := by
  intro pins s σ H x y v u Q I rx ry h
  obtain ⟨hs, q⟩ := h
  cases x with
  | non =>
    cases rx
    cases y with
    | non => cases ry; exact PySem.EqNone.ne_none_none (xR I q (by simp))
    | bl j => cases ry; exact PySem.EqNone.ne_none_bool (xR I q (by simp))
    | int j => obtain ⟨t', rfl⟩ := ry; exact PySem.EqNone.ne_none_int (xR I q (by simp))
    | str j => obtain ⟨t', rfl⟩ := ry; exact PySem.EqNone.ne_none_str (xR I q (by simp))
    | _ => exact absurd (show false = true from hs) Bool.false_ne_true
  | bl i =>
    cases rx
    cases y with
    | non => cases ry; exact PySem.EqNone.ne_bool_none (xR I q (by simp))
    | bl j => cases ry; exact ne_bool (xR I q (congrArg not dec_bl))
    | str j => obtain ⟨t', rfl⟩ := ry; exact PySem.EqMixed.ne_bool_str (xR I q (by simp))
    | _ => exact absurd (show false = true from hs) Bool.false_ne_true
  | int i =>
    obtain ⟨t, rfl⟩ := rx
    cases y with
    | non => cases ry; exact PySem.EqNone.ne_int_none (xR I q (by simp))
    | int j => obtain ⟨t', rfl⟩ := ry; exact ne_int (xR I q (congrArg not dec_int))
    | str j => obtain ⟨t', rfl⟩ := ry; exact PySem.EqMixed.ne_int_str (xR I q (by simp))
    | _ => exact absurd (show false = true from hs) Bool.false_ne_true
  | str i =>
    obtain ⟨t, rfl⟩ := rx
    cases y with
    | non => cases ry; exact PySem.EqNone.ne_str_none (xR I q (by simp))
    | bl j => cases ry; exact PySem.EqMixed.ne_str_bool (xR I q (by simp))
    | int j => obtain ⟨t', rfl⟩ := ry; exact PySem.EqMixed.ne_str_int (xR I q (by simp))
    | str j => obtain ⟨t', rfl⟩ := ry; exact ne_str (xR I q (congrArg not dec_str))
    | _ => exact absurd (show false = true from hs) Bool.false_ne_true
  | byt i =>
    obtain ⟨t, rfl⟩ := rx
    cases y with
    | byt j => obtain ⟨t', rfl⟩ := ry; exact PySem.W.ne_bytes (xR I q (congrArg not dec_byt))
    | _ => exact absurd (show false = true from hs) Bool.false_ne_true
  | _ => cases y <;> exact absurd (show false = true from hs) Bool.false_ne_true
theorem op_lt : OpR X (compareOp .Lt) (rI0 fun i j => .bl (decide (i < j))) := opB0 fun _ _ _ _ _ _ _ q => lt_int q
theorem op_le : OpR X (compareOp .LtE) (rI0 fun i j => .bl (decide (i <= j))) := opB0 fun _ _ _ _ _ _ _ q => le_int q
theorem op_gt : OpR X (compareOp .Gt) (rI0 fun i j => .bl (decide (j < i))) := opB0 fun _ _ _ _ _ _ _ q => gt_int q
theorem OpR.or {f : Value -> Value -> Sem Value} {r r' : R2} (h : OpR X f r) (h' : OpR X f r') : OpR X f (fun x y H Q => r x y H Q \/ r' x y H Q) := by
  intro pins s σ H x y v u Q I rx ry q
  rcases q with q | q
  · exact h pins s σ H x y v u Q I rx ry q
  · exact h' pins s σ H x y v u Q I rx ry q
theorem yZ (b : Expr) {op : CmpOp} (h : op ≠ .In := by decide) (h2 : op ≠ .NotIn := by decide) : behindInMarks op b = false := by
  have e1 : (op == CmpOp.In) = false := by cases op <;> first | rfl | exact absurd rfl h
  have e2 : (op == CmpOp.NotIn) = false := by cases op <;> first | rfl | exact absurd rfl h2
  cases b <;> simp [behindInMarks, e1, e2]
theorem pe_cmpR {op : CmpOp} {r : R2} (ho : OpR X (compareOp op) r) (ha : PE X a ta) (hb : PE X b tb) (hm : behindInMarks op b = false) : PE X (.Compare a [op] [b] pos) (tOp r ta tb) := by
  intro pins s σ H Q I h
  exact wpAny_Compare1 (binT ha hb I h fun v u s2 x y H2 I2 rx ry q => ho pins s2 σ H2 x y v u Q I2 rx ry q) hm
noncomputable def tTest (t : TE) : TT := fun σ H Q => t σ H fun x H' => ∃ k, x = .bl k /\ Q k H'
theorem pt_cmpR {op : CmpOp} {r : R2} (ho : OpR X (compareOp op) r) (ha : PE X a ta) (hb : PE X b tb) (hm : behindInMarks op b = false) : PT X (.Compare a [op] [b] pos) (tTest (tOp r ta tb)) := by
  intro pins s σ H Q I h
  refine wpAny_isTrue_Compare1 (thn (ha pins s σ H _ I h) fun v s1 ⟨x, H1, I1, r1, q1⟩ => thn (hb pins s1 σ H1 _ I1 q1) fun u s2 ⟨y, H2, I2, r2, q2⟩ =>
    thn (ho pins s2 σ H2 x y v u _ I2 r1 r2 q2) fun c s3 ⟨z, H3, I3, r3, k, e, q3⟩ => ?_) hm
  subst e
  cases r3
  exact wpAny_truthy_bool ⟨H3, I3, q3⟩
noncomputable def tChain (r r' : R2) (ta tb tc : TE) : TE := fun σ H Q => ta σ H fun x H1 => tb σ H1 fun y H2 => r x y H2 fun z H3 => ∃ k, z = .bl k /\
  (if k = true then tc σ H3 fun w' H4 => r' y w' H4 Q else Q (.bl false) H3)
theorem pe_chain {op op' : CmpOp} {r r' : R2} (ho : OpR X (compareOp op) r) (ho' : OpR X (compareOp op') r') (ha : PE X a ta) (hb : PE X b tb) (hc : PE X c tc)
    (hm : lastMarks [op, op'] [b, c] = false := by with_unfolding_all rfl) : PE X (.Compare a [op, op'] [b, c] pos) (tChain r r' ta tb tc) := by
  intro pins s σ H Q I h
  refine Compare_chain (thn (ha pins s σ H _ I h) fun v s1 ⟨x, H1, I1, r1, q1⟩ => chain_link (thn (hb pins s1 σ H1 _ I1 q1) fun u s2 ⟨y, H2, I2, r2, q2⟩ =>
    thn (ho pins s2 σ H2 x y v u _ I2 r1 r2 q2) fun d s3 ⟨z, H3, I3, r3, k, e, q3⟩ => ?_)) hm
  subst e
  cases r3
  refine wpAny_truthy_bool ?_
  cases k with
  | false => exact ite_ff ⟨.bl false, H3, I3, rfl, q3⟩
  | true => exact ite_tt (chain_last (thn (hc pins s3 σ H3 _ I3 q3) fun w' s4 ⟨z', H4, I4, r4, q4⟩ => ho' pins s4 σ H4 y z' u w' Q I4 r2 r4 q4))
theorem pt_chain {op op' : CmpOp} {r r' : R2} (ho : OpR X (compareOp op) r) (ho' : OpR X (compareOp op') r') (ha : PE X a ta) (hb : PE X b tb) (hc : PE X c tc)
    (hm : lastMarks [op, op'] [b, c] = false := by with_unfolding_all rfl) : PT X (.Compare a [op, op'] [b, c] pos) (tTest (tChain r r' ta tb tc)) := by
  intro pins s σ H Q I h
  refine isTrue_chain (thn (ha pins s σ H _ I h) fun v s1 ⟨x, H1, I1, r1, q1⟩ => test_link (thn (hb pins s1 σ H1 _ I1 q1) fun u s2 ⟨y, H2, I2, r2, q2⟩ =>
    thn (ho pins s2 σ H2 x y v u _ I2 r1 r2 q2) fun d s3 ⟨z, H3, I3, r3, k, e, q3⟩ => ?_)) hm
  subst e
  cases r3
  refine wpAny_truthy_bool ?_
  cases k with
  | false =>
    obtain ⟨k', e', q'⟩ := q3
    cases e'
    exact ite_ff ⟨H3, I3, q'⟩
  | true =>
    refine ite_tt (test_last (thn (hc pins s3 σ H3 _ I3 q3) fun w' s4 ⟨z', H4, I4, r4, q4⟩ => thn (ho' pins s4 σ H4 y z' u w' _ I4 r2 r4 q4) fun d' s5 ⟨z2, H5, I5, r5, k2, e2, q5⟩ => ?_))
    subst e2
    cases r5
    exact wpAny_truthy_bool ⟨H5, I5, q5⟩
noncomputable def TruV (K : Fg) (x : V) (H : Hp) (k : Bool) : Prop :=
  match x with
  | .non => k = false
  | .bl b => k = b
  | .int i => k = (i != 0)
  | .str y => y.length <= sizeLine /\ k = ((y.length : Int) != 0)
  | .byt y => y.size <= sizeLine /\ k = ((y.size : Int) != 0)
  | .ref p => (∃ xs, SqL K H p xs /\ k = !xs.isEmpty) \/ (∃ xs, SqT K H p xs /\ k = !xs.isEmpty) \/ ∃ kvs, H p = some (.dK kvs) /\ k = !kvs.isEmpty
  | _ => False
theorem isEmpty_kv {κ : Type} {kvs : List (κ × V)} {vs : List (κ × Value)} (r : KV kvs vs) : (!vs.isEmpty) = !kvs.isEmpty := by
  cases r <;> rfl
theorem isEmpty_of {xs : List V} {its : List Value} (r : yU xs its) : (!its.toArray.isEmpty) = !xs.isEmpty := by
  cases r <;> simp
theorem line63 : (sizeLine : Nat) < 2 ^ 63 := by rw [sizeLine_eq]; decide
theorem tru_ok : TruR X (fun x H Q => ∃ k, TruV X.K x H k /\ Q k H) := by
  intro pins s σ H x v Q I rx h
  obtain ⟨k, e, q⟩ := h
  have hl := line63
  have hs : sizeLine = 16777216 := sizeLine_eq
  cases x with
  | non =>
    cases rx
    have e' : k = false := e
    subst e'
    exact truthy_none ⟨H, I, q⟩
  | bl b =>
    cases rx
    have e' : k = b := e
    subst e'
    exact wpAny_truthy_bool ⟨H, I, q⟩
  | int i =>
    obtain ⟨t, rfl⟩ := rx
    have e' : k = (i != 0) := e
    subst e'
    exact PySem.P.truthy_int ⟨H, I, q⟩
  | str y =>
    obtain ⟨t, rfl⟩ := rx
    obtain ⟨hy, e'⟩ : y.length <= sizeLine /\ k = ((y.length : Int) != 0) := e
    subst e'
    exact PySem.P.truthy_str (by lia) ⟨H, I.tok _, q⟩
  | byt y =>
    obtain ⟨t, rfl⟩ := rx
    obtain ⟨hy, e'⟩ : y.size <= sizeLine /\ k = ((y.size : Int) != 0) := e
    subst e'
    exact PySem.W.truthy_bytes (by lia) ⟨H, I.tok _, q⟩
  | ref p =>
    cases rx
    have e' : (∃ xs, SqL X.K H p xs /\ k = !xs.isEmpty) \/ (∃ xs, SqT X.K H p xs /\ k = !xs.isEmpty) \/ ∃ kvs, H p = some (.dK kvs) /\ k = !kvs.isEmpty := e
    rcases e' with ⟨xs, hx, e'⟩ | ⟨xs, hx, e'⟩ | ⟨kvs, hx, e'⟩
    · subst e'
      obtain ⟨its, r, pl, hz⟩ := I.list hx
      have hlen := r.length
      exact wpAny_truthy_list pl.isList (by simp only [List.size_toArray]; lia) ⟨H, I.tok _, by rw [isEmpty_of r]; exact q⟩
    · subst e'
      obtain ⟨its, r, pl, hz⟩ := I.tuple hx
      have hlen := r.length
      exact truthy_tuple pl (by simp only [List.size_toArray]; lia) ⟨H, I.tok _, by rw [isEmpty_of r]; exact q⟩
    · subst e'
      obtain ⟨hz, hS, vs, r, m⟩ : kvs.length <= sizeLine /\ (p == sysModules) = false /\ ∃ vs, KV kvs vs /\ s.heap.DictOf (mixKind X.prog X.w) p vs := I.hok p _ hx
      have hlen : kvs.length = vs.length := Paired.length r
      exact wpAny_truthy_dict hS m (by lia) ⟨H, I.tok _, by rw [isEmpty_kv r]; exact q⟩
  | _ => exact (show False from e).elim
theorem pt_truth (ha : PE X a ta) (he : ∀ whole, isTrue a X.env whole = (do let v <- whole; standAt a.pos; holding [v] (truthy v))) :
    PT X a (fun σ H Q => ta σ H fun x H' => ∃ k, TruV X.K x H' k /\ Q k H') := by
  intro pins s σ H Q I h
  exact isTrue_plain (thn (ha pins s σ H _ I h) fun v s1 ⟨x, H1, I1, r1, q1⟩ => tru_ok pins s1 σ H1 x v Q I1 r1 q1) (he _)
theorem op_add_str : OpR X (binaryOp .Add) (fun x y H Q => ∃ i j, x = .str i /\ y = .str j /\ i.length + j.length <= sizeLine /\ Q (.str (i ++ j)) H) := by
  intro pins s σ H x y v u Q I rx ry h
  obtain ⟨i, j, rfl, rfl, hz, q⟩ := h
  obtain ⟨t, rfl⟩ := rx
  obtain ⟨t', rfl⟩ := ry
  exact add_str (fun t' tk => ⟨.str (i ++ j), H, I.tok _, ⟨_, rfl⟩, q⟩) hz
theorem vals1 {x : V} {us : List Value} (r : yU [x] us) : ∃ u, us = [u] /\ wU x u := by
  cases r with
  | cons r1 r2 => cases r2; exact ⟨_, rfl, r1⟩
theorem vals2 {x y : V} {us : List Value} (r : yU [x, y] us) : ∃ u w', us = [u, w'] /\ wU x u /\ wU y w' := by
  cases r with
  | cons r1 r2 =>
    cases r2 with
    | cons r3 r4 => cases r4; exact ⟨_, _, rfl, r1, r3⟩
theorem call_max2 (hc : X.calm = true) : CallR X (.builtin "max") (fun xs H Q => ∃ i j, xs = [.int i, .int j] /\ Q (.int (if j > i then j else i)) H) := by
  intro pins s σ H xs us Q I r h
  obtain ⟨i, j, rfl, q⟩ := h
  obtain ⟨u, w', rfl, ⟨t, rfl⟩, ⟨t', rfl⟩⟩ := vals2 r
  refine max_two_ints (I.ok.hd hc) fun h' tk k => ⟨_, H, I.kept k, ?_, q⟩
  by_cases hj : j > i
  · rw [if_pos hj, if_pos hj]; exact ⟨_, rfl⟩
  · rw [if_neg hj, if_neg hj]; exact ⟨_, rfl⟩
theorem call_str_int : CallR X (.type "str") (fun xs H Q => ∃ i, xs = [.int i] /\ i.natAbs.log2 < 1920 /\ Q (.str (toString i)) H) := by
  intro pins s σ H xs us Q I r h
  obtain ⟨i, rfl, hz, q⟩ := h
  obtain ⟨u, rfl, t, rfl⟩ := vals1 r
  exact PySem.P.str_of_int hz ⟨.str _, H, I.tok _, ⟨_, rfl⟩, q⟩
end
end L2
namespace L2
open PySem PySem.Spec PyProof.Rows
structure ObjM (h : Heap) (x dx C : Addr) (mA : Str -> Option Value) : Prop where
  obj : h.get? x = some (PySem.W.instObj C dx)
  ns : h.Ns1 dx mA
  ne : dx ≠ x
theorem lookIn_ns {h : Heap} {dx : Addr} {mA : Str -> Option Value} (n : h.Ns1 dx mA) : ∃ od, h.get? dx = some od /\ ∀ name, PySem.W.lookIn name od = some (mA name) := by
  obtain ⟨o, es, ep, ho, hd, hk, _, hm⟩ := n
  refine ⟨o, ho, fun name => ?_⟩
  have e := hm name
  unfold nsFind findBy at e
  rw [<- Array.find?_toList] at e
  unfold PySem.W.lookIn
  rw [hd]
  dsimp only
  split
  · rename_i y q
    rw [q] at e
    exact congrArg some e
  · rename_i q
    rw [q] at e
    have a : es.toList.any (·.refKey) = false := by
      rw [List.any_eq_false]
      intro y hy
      obtain ⟨z, t, hkey⟩ := hk y (Array.mem_toList_iff.mp hy)
      simp [DictEntry.refKey, hkey]
    have a' : ¬ es.toList.any (·.refKey) = true := by rw [a]; exact Bool.false_ne_true
    rw [if_neg a']
    exact congrArg some e
theorem ObjM.look {h : Heap} {x dx C : Addr} {mA : Str -> Option Value} (I : ObjM h x dx C mA) : ∃ od, PySem.W.InstAt h x (PySem.W.instObj C dx) C (some od) /\ ∀ name, PySem.W.lookIn name od = some (mA name) :=
  let ⟨od, ho, hl⟩ := lookIn_ns I.ns
  ⟨od, ⟨I.obj, rfl, rfl, ho⟩, hl⟩
section
variable {P : Program} {w : World} {H H' : Hp} {h h' : Heap} {a C dx : Addr} {fs fs' : List (Str × V)}
theorem ins_get (hok : HOk P w H h) (e : H a = some (.ins C dx fs)) : ∃ mA, ObjM h a dx C mA /\ (∀ f, RelO (fs.lookup f) (mA f)) /\ PySem.Within mA (fs.map (·.1)) /\ fs.length <= 1000 /\ H dx = some (.own a) := by
  obtain ⟨d, z, ne, ob, mA, n, r, q⟩ := (show ObjOk P w H h a (.ins C dx fs) from hok a _ e)
  exact ⟨mA, ⟨ob, n, ne⟩, r, q, z, d⟩
end
structure Cls (K : Fg) (C : Addr) : Prop where
  pg : PySem.W.plainGet K C Str.empty = true
  hd : PySem.W.hasDictIn K C = true
  po : PySem.W.plainOver K C = true
  sa : PySem.W.findIn K (.ref C) "__setattr__" = some (some (.builtin "object.__setattr__"))
theorem Cls.get {K : Fg} {C : Addr} (c : Cls K C) (f : Str) : PySem.W.plainGet K C f = true := c.pg
section
variable {X : Cx} {pins : List (Addr × Obj)} {σ : St} {H : Hp} {s : Shared} {A : Around} {E : Value -> Shared -> Prop} {Q : Value -> Shared -> Prop} {c : Value} {b : Bool}
inductive TyOf (K : Fg) (H : Hp) : V -> Value -> Prop where
  | non : TyOf K H .non (.type "NoneType")
  | bl (x : Bool) : TyOf K H (.bl x) (.type "bool")
  | int (i : Int) : TyOf K H (.int i) (.type "int")
  | str (x : Str) : TyOf K H (.str x) (.type "str")
  | flt (x : UInt64) : TyOf K H (.flt x) (.type "float")
  | lst {a : Addr} {xs : List V} (e : H a = some (.lst xs)) : TyOf K H (.ref a) (.type "list")
  | frz {a : Addr} {o : Obj} {xs : List V} (e : H a = some (.frz o (.lst xs))) : TyOf K H (.ref a) (.type "list")
  | tup {a : Addr} {xs : List V} (e : H a = some (.tup xs)) : TyOf K H (.ref a) (.type "tuple")
  | dK {a : Addr} {kvs : List (Key × V)} (e : H a = some (.dK kvs)) : TyOf K H (.ref a) (.type "dict")
  | dT {a : Addr} {kvs : List (List Key × V)} (e : H a = some (.dT kvs)) : TyOf K H (.ref a) (.type "dict")
  | ins {a C dx : Addr} {fs : List (Str × V)} (e : H a = some (.ins C dx fs)) (cl : Cls K C) (ha : PySem.W.findIn K (.ref C) "__class__" = some (some (.builtin "object.__class__")))
      (hn : PySem.W.specialIn K (.builtin "object.__class__") "__get__" = some (some (.builtin "getset_descriptor.__get__"))) (htk : PySem.W.takesIn K (.builtin "object.__class__") = some true)
      (hm : PySem.W.mroIn K C (.type "object") = some true) : TyOf K H (.ref a) (.ref C)
theorem isinst_ok {x : V} {u t : Value} (I : Inv X pins σ H s) (rx : wU x u) (ty : TyOf X.K H x t) (e : PySem.W.kitOne X.K t c = some b) (h : ∀ tk, Q (.bool b) { s with toks := tk }) :
    wpAny (model X.prog X.w) A (call (.builtin "isinstance") [u, c]) Q E s := by
  cases ty with
  | non => cases (show u = Value.none from rx); exact PySem.W.kia_one PySem.W.kitx_none I.kIn True.intro e (fun z => nomatch z) h
  | bl y => cases (show u = Value.bool y from rx); exact PySem.W.kia_one PySem.W.kitx_bool I.kIn True.intro e (fun z => nomatch z) h
  | int i => obtain ⟨t, q⟩ := (show ∃ t, u = Value.int i t from rx); cases q; exact PySem.W.kia_one PySem.W.kitx_int I.kIn True.intro e (fun z => nomatch z) h
  | str y => obtain ⟨t, q⟩ := (show ∃ t, u = Value.str y t from rx); cases q; exact PySem.W.kia_one PySem.W.kitx_str I.kIn True.intro e (fun z => nomatch z) h
  | flt y => obtain ⟨t, q⟩ := (show ∃ t, u = Value.float y t from rx); cases q; exact PySem.W.kia_one PySem.W.kitx_float I.kIn True.intro e (fun z => nomatch z) h
  | @lst a xs ea =>
    cases (show u = Value.ref a from rx)
    obtain ⟨_, _, n, _, h1⟩ := (show ObjOk X.prog X.w H s.heap a (.lst xs) from I.hok a _ ea)
    exact PySem.W.kia_one PySem.W.kitx_list I.kIn ⟨_, h1, rfl⟩ e (fun z => nomatch z) h
  | @frz a ob xs ea =>
    cases (show u = Value.ref a from rx)
    obtain ⟨_, _, _, n, _, h1⟩ := (show ObjOk X.prog X.w H s.heap a (.frz ob (.lst xs)) from I.hok a _ ea)
    exact PySem.W.kia_one PySem.W.kitx_list I.kIn ⟨_, h1, rfl⟩ e (fun z => nomatch z) h
  | @tup a xs ea =>
    cases (show u = Value.ref a from rx)
    obtain ⟨_, _, _, p⟩ := (show ObjOk X.prog X.w H s.heap a (.tup xs) from I.hok a _ ea)
    obtain ⟨o, h1, h2, _⟩ := p
    exact PySem.W.kia_one PySem.W.kitx_tuple I.kIn ⟨o, h1, h2⟩ e (fun z => nomatch z) h
  | @dK a kvs ea =>
    cases (show u = Value.ref a from rx)
    obtain ⟨_, _, vs, _, p⟩ := (show ObjOk X.prog X.w H s.heap a (.dK kvs) from I.hok a _ ea)
    obtain ⟨o, es, ep, h1, h2, _⟩ := p
    exact PySem.W.kia_one PySem.W.kitx_dict I.kIn ⟨o, h1, h2.1⟩ e (fun z => nomatch z) h
  | @dT a kvs ea =>
    cases (show u = Value.ref a from rx)
    obtain ⟨_, _, xs, _, o, es, ep, h1, h2, _⟩ := (show ObjOk X.prog X.w H s.heap a (.dT kvs) from I.hok a _ ea)
    exact PySem.W.kia_one PySem.W.kitx_dict I.kIn ⟨o, h1, h2.1⟩ e (fun z => nomatch z) h
  | @ins a C dx fs ea cl ha hn htk hm =>
    cases (show u = Value.ref a from rx)
    obtain ⟨mA, O, _⟩ := ins_get I.hok ea
    obtain ⟨od, J, _⟩ := O.look
    exact PySem.W.kia_one (PySem.W.kitx_own (cl.get _) cl.hd ha hn htk hm) I.kIn J e (fun z => nomatch z) h
end
end L2
namespace L2
open PySem PySem.Spec PyProof.Rows
structure Room (k : Nat) (A : Around) : Prop where
  hd : A.handled = none
  dp : A.depth + 3 * k + 5 < recursionLimit
  un : A.units + 16 * k + 200 < cLine
theorem Room.mono {j k : Nat} {A : Around} (r : Room k A) (h : j <= k) : Room j A := ⟨r.hd, by have := r.dp; lia, by have := r.un; lia⟩
theorem Room.deeper {k : Nat} {A : Around} (r : Room (k + 1) A) (env : Env) : Room k (A.deeper env) :=
  ⟨r.hd, by have := r.dp; show A.depth + 1 + 3 * k + 5 < _; lia, by have := r.un; show A.units + 3 + 16 * k + 200 < _; lia⟩
theorem Room.depth {k : Nat} {A : Around} (r : Room k A) : A.depth < recursionLimit := by have := r.dp; lia
theorem Room.units0 {k : Nat} {A : Around} (r : Room k A) : A.units < cLine := by have := r.un; lia
noncomputable def tNil : TA := fun _ H Q => Q [] H
noncomputable def tCons (ta : TE) (tr : TA) : TA := fun σ H Q => ta σ H fun x H1 => tr σ H1 fun xs H2 => Q (x :: xs) H2
section
variable {X : Cx} {e : Expr} {es : List Expr} {te : TE} {t : TA} {pos : Pos}
theorem qR : PA X [] tNil := fun _ _ _ _ H Q I h => Calls.spliced_nil ⟨[], H, I, .nil, h⟩
theorem xT (ha : PE X e te) (hr : PA X es t) (hs : starEach (e :: es) X.env = (false, eval e X.env) :: starEach es X.env := by rfl) : PA X (e :: es) (tCons te t) := by
  intro pos pins s σ H Q I h
  rw [hs]
  show wpAny _ _ (spliced ((false, eval e X.env) :: backTo pos (starEach es X.env))) _ _ s
  refine Calls.spliced_cons (thn (ha pins s σ H _ I h) fun u s1 ⟨x, H1, I1, r1, q1⟩ => ?_)
  exact thn (hr pos pins s1 σ H1 _ I1 q1) fun us s2 ⟨xs, H2, I2, r2, q2⟩ => ⟨x :: xs, H2, I2, .cons r1 r2, q2⟩
noncomputable def tTup (t : TA) : TE := fun σ H Q => t σ H fun xs H1 => xs.length <= sizeLine /\ ∀ p, H1 p = none -> Q (.ref p) (upd H1 p (.tup xs))
noncomputable def tLst (t : TA) : TE := fun σ H Q => t σ H fun xs H1 => xs.length <= sizeLine /\ ∀ p, H1 p = none -> Q (.ref p) (upd H1 p (.lst xs))
theorem pe_tup {x1} (h : PA X es t) : PE X (.Tuple es x1 pos) (tTup t) := by
  intro pins s σ H Q I hq
  refine wpAny_Tuple_spliced (thn (h pos pins s σ H _ I hq) fun us s1 ⟨xs, H1, I1, r, z, q⟩ => ⟨by rw [<- r.length]; exact z, ?_⟩)
  have hf : H1 s1.heap.objs.size = none := I1.hok.fresh (Nat.le_refl _)
  refine ⟨.ref s1.heap.objs.size, upd H1 s1.heap.objs.size (.tup xs), I1.laid (t' := s1.toks) (fun b u e => Heap.get?_push_of_some _ e) (Nat.le_refl _) ?_, rfl, q _ hf⟩
  exact ⟨z, us, r, ⟨_, Heap.get?_push_size _ rfl, rfl, _, rfl⟩⟩
theorem pe_lst (h : PA X es t) : PE X (.List es pos) (tLst t) := by
  intro pins s σ H Q I hq
  refine wpAny_List_spliced (thn (h pos pins s σ H _ I hq) fun us s1 ⟨xs, H1, I1, r, z, q⟩ => ⟨by rw [<- r.length]; exact z, ?_⟩)
  have hf : H1 s1.heap.objs.size = none := I1.hok.fresh (Nat.le_refl _)
  refine ⟨.ref s1.heap.objs.size, upd H1 s1.heap.objs.size (.lst xs), I1.laid (t' := s1.toks) (fun b u e => Heap.get?_push_of_some _ e) (Nat.le_refl _) ?_, rfl, q _ hf⟩
  exact ⟨z, us, 0, r, Heap.get?_push_size _ rfl⟩
end
noncomputable abbrev Sp := List V -> Hp -> VK -> XK -> Prop
noncomputable abbrev CXT := List Env -> Hp -> Shared -> XK -> Value -> Shared -> Prop
structure Env0 (P : Program) (w : World) (K : Fg) (mg : Str -> Option Value) (base : Heap) (A : Around) (outer : List Env) (s : Shared) (H : Hp) : Prop where
  frames : A.frames = some outer
  mod : Mod K mg base
  bs : ∀ b o, base.get? b = some o -> s.heap.get? b = some o /\ H b = none
  bsz : base.objs.size <= s.heap.objs.size
  funs : s.heap.FunFrames base outer
  frf : FrF K outer H
  hok : HOk P w H s.heap
  bare : AllBare s.gens
noncomputable def CE (outer : List Env) (P : Program) (w : World) (H : Hp) (s : Shared) (Q : VK) (u : Value) (s' : Shared) : Prop :=
  ∃ v H', s'.os = s.os /\ AllBare s'.gens /\ Un (frs outer) [] H H' s.heap s'.heap /\ HOk P w H' s'.heap /\ wU v u /\ Q v H'
noncomputable def CR (CX : CXT) (outer : List Env) (P : Program) (w : World) (H : Hp) (s : Shared) (Q : VK) (E : XK) (r : Result) (s' : Shared) : Prop :=
  match r with
  | .ok (.ret u) => CE outer P w H s Q u s'
  | .ok _ => False
  | .error e => CX outer H s E e s'
structure FnOk (P : Program) (w : World) (K : Fg) (mg : Str -> Option Value) (base : Heap) (CX : CXT) (k : Nat) (f : Addr) (fd : FuncData) (ps : List Str) (sp : Sp) : Prop where
  len : ∀ vs H Q E, sp vs H Q E -> vs.length = ps.length
  run : ∀ (A : Around) (outer : List Env) (s : Shared) (H : Hp) (args : Args) (us : List Value) (vs : List V) (Q : VK) (E : XK), Room k A -> Env0 P w K mg base A outer s H -> BindsTo s fd args (ps.zip us) -> yU vs us -> sp vs H Q E ->
    codeAny (model P w) A (.call (.ref f) args) (CR CX outer P w H s Q E) s
section
variable {X : Cx} {pins : List (Addr × Obj)} {σ : St} {H : Hp} {s s' : Shared}
theorem Inv.env0 (I : Inv X pins σ H s) : Env0 X.prog X.w X.K X.mg X.base X.A X.stack s H :=
  ⟨I.ok.frames, I.ok.mod, I.bs, Nat.le_trans I.ok.bsz I.sz, I.stack, ⟨I.stkFree, I.tabIn⟩, I.hok, I.bare⟩
theorem Inv.after {Q : VK} {u : Value} (I : Inv X pins σ H s) (h : CE X.stack X.prog X.w H s Q u s') : EP X pins σ Q u s' := by
  obtain ⟨v, H', os, bare, un, hok, r, q⟩ := h
  obtain ⟨hh, g, d, t, os'⟩ := s'
  obtain rfl : os' = s.os := os
  exact ⟨v, H', I.call (h' := hh) (g' := g) (d' := d) (t' := t) (ch := []) un hok bare (fun b z => absurd z (by simp)), r, q⟩
end
noncomputable def tCall (sp : Sp) (dvs : List V) (E : XK) (t : TA) : TE := fun σ H Q => t σ H fun vs H1 => sp (vs ++ dvs) H1 Q E
noncomputable def Binds (K : Fg) (fd : FuncData) (ps : List Str) (ds : List Value) : Prop :=
  ∀ (s : Shared) (us : List Value), K.In s.heap -> (us ++ ds).length = ps.length -> BindsTo s fd ⟨us, []⟩ (ps.zip (us ++ ds))
theorem Binds.all {K : Fg} {fd : FuncData} {ps : List Str} (h : ∀ us : List Value, us.length = ps.length -> bindArgs fd ⟨us, []⟩ = pure (ps.zip us)) : Binds K fd ps [] := fun s us _ hl => by
  rw [List.append_nil] at hl ⊢
  exact .of_eq (h us hl)
noncomputable def Passes (CX : CXT) (X : Cx) (E : XK) : Prop := ∀ (pins : List (Addr × Obj)) (σ : St) (H : Hp) (s : Shared) (e : Value) (s' : Shared), Inv X pins σ H s -> CX X.stack H s E e s' -> X.xe e s'
section
variable {X : Cx} {CX : CXT} {k : Nat} {f C : Addr} {fd : FuncData} {ps : List Str} {sp : Sp} {dvs : List V} {ds : List Value} {E : XK} {x m : Str} {p pos apos : Pos} {e o : Expr} {es : List Expr} {ta : TE} {t : TA}
theorem run_fn {pins : List (Addr × Obj)} {σ : St} {H : Hp} {s : Shared} {Q : VK} {us : List Value} {vs : List V} (F : FnOk X.prog X.w X.K X.mg X.base CX k f fd ps sp) (hr : Room k X.A) (hb : Binds X.K fd ps ds) (hd : yU dvs ds) (hx : Passes CX X E)
    (I : Inv X pins σ H s) (r : yU vs us) (h : sp (vs ++ dvs) H Q E) : wpAny (model X.prog X.w) X.A (call (.ref f) us) (EP X pins σ Q) X.xe s := by
  have r2 : yU (vs ++ dvs) (us ++ ds) := r.append hd
  have hl : (us ++ ds).length = ps.length := by rw [<- r2.length]; exact F.len _ _ _ _ h
  refine wpAny_call (codeAny_mono (F.run X.A X.stack s H ⟨us, []⟩ (us ++ ds) (vs ++ dvs) Q E hr I.env0 (hb s us I.kIn hl) r2 h) fun r s' hq => ?_)
  cases r with
  | error e => exact hx pins σ H s e s' I hq
  | ok fl =>
    cases fl with
    | ret u => exact I.after hq
    | next => exact False.elim hq
    | brk => exact False.elim hq
    | cont => exact False.elim hq
theorem pe_call (F : FnOk X.prog X.w X.K X.mg X.base CX k f fd ps sp) (hr : Room k X.A) (hg : Gl X x) (hm : X.mg x = some (.ref f)) (hk : PySem.W.keepIn X.K (.ref f) = true) (hb : Binds X.K fd ps ds) (hd : yU dvs ds) (hx : Passes CX X E)
    (ha : PA X (e :: es) t) (hdb : (x == ("__debug__" : Str)) = false := by decide) (he : starEach (e :: es) X.env = (false, eval e X.env) :: starEach es X.env := by rfl) (hpl : (backTo pos (starEach es X.env)).any (·.1) = false := by rfl) :
    PE X (.Call (.Name x p) (e :: es) [] pos) (tCall sp dvs E t) := by
  intro pins s σ H Q I h
  refine wpAny_Call_Name_kw (ld_glob I hg hm ?_ hdb)
  refine PySem.W.callWith_K (h₀ := X.base) I.ok.mod.kin hk (thn (ha pos pins s σ H _ I h) fun us s1 ⟨vs, H1, I1, r, q⟩ => ⟨I1.kIn, ?_⟩) he hpl
  exact run_fn F hr hb hd hx I1 r q
theorem pe_call0 (F : FnOk X.prog X.w X.K X.mg X.base CX k f fd ps sp) (hr : Room k X.A) (hg : Gl X x) (hm : X.mg x = some (.ref f)) (hk : PySem.W.keepIn X.K (.ref f) = true) (hb : Binds X.K fd ps ds) (hd : yU dvs ds) (hx : Passes CX X E)
    (hdb : (x == ("__debug__" : Str)) = false := by decide) : PE X (.Call (.Name x p) [] [] pos) (tCall sp dvs E tNil) := by
  intro pins s σ H Q I h
  refine wpAny_Call_Name_kw (ld_glob I hg hm ?_ hdb)
  exact PySem.W.callWith_K0 I.kIn hk (run_fn (us := []) F hr hb hd hx I .nil h)
end
section
variable {X : Cx} {CX : CXT} {k : Nat} {f C : Addr} {fd : FuncData} {ps ks : List Str} {sp : Sp} {E : XK} {x m : Str} {p pos apos kpos : Pos} {e o : Expr} {es : List Expr} {kws : List Keyword} {te ta : TE} {t tk : TA} {nm : Option Str}
variable {g : List Value -> List Value -> List Value} {gV : List V -> List V -> List V}
end
structure FnScope (N P : List Str) (sc : Scope) : Prop where
  kind : sc.kind = .function
  co : sc.isCoroutine = false
  gen : sc.isGenerator = false
  nd : N.Nodup
  pre : N.take P.length = P
  par : ∀ x ∈ P, sc.names.lookup x = some .local \/ sc.names.lookup x = some .cell
  nofree : ∀ y ∈ sc.names, y.2 ≠ .free
theorem bindL_out {kindOf : Str -> Option NameKind} {x : Str} : ∀ {binds : List (Str × Value)} {m : Str -> Option Value}, (∀ v, (x, v) ∉ binds) -> bindL kindOf binds m x = m x
  | [], _, _ => rfl
  | (n, v) :: r, m, h => by
    unfold bindL
    rw [bindL_out fun w hw => h w (List.mem_cons_of_mem _ hw)]
    split
    · have : x ≠ n := by rintro rfl; exact h v List.mem_cons_self
      simp [this]
    · rfl
theorem bindC_out {kindOf : Str -> Option NameKind} {x : Str} : ∀ {binds : List (Str × Value)} {m : Str -> Option Value}, (∀ v, (x, v) ∉ binds) -> bindC kindOf binds m x = m x
  | [], _, _ => rfl
  | (n, v) :: r, m, h => by
    unfold bindC
    rw [bindC_out fun w hw => h w (List.mem_cons_of_mem _ hw)]
    split
    · rfl
    · have : x ≠ n := by rintro rfl; exact h v List.mem_cons_self
      simp [this]
theorem bindL_get {kindOf : Str -> Option NameKind} {x : Str} {v : Value} : ∀ {P : List Str} {vs : List Value} {i : Nat} {m : Str -> Option Value}, P.Nodup -> P[i]? = some x -> vs[i]? = some v -> kindOf x = some .local ->
    bindL kindOf (P.zip vs) m x = some v
  | [], _, _, _, _, h, _, _ => by simp at h
  | _ :: _, [], _, _, _, _, h, _ => by simp at h
  | p :: P, w :: vs, 0, m, nd, h1, h2, hk => by
    simp at h1 h2; subst h1; subst h2
    show bindL kindOf ((p, w) :: P.zip vs) m p = _
    unfold bindL
    rw [bindL_out fun v hv => (List.nodup_cons.mp nd).1 (List.of_mem_zip hv).1, if_pos hk]
    simp
  | p :: P, w :: vs, i + 1, m, nd, h1, h2, hk => by
    show bindL kindOf ((p, w) :: P.zip vs) m x = _
    unfold bindL
    exact bindL_get (i := i) (List.nodup_cons.mp nd).2 (by simpa using h1) (by simpa using h2) hk
theorem bindC_get {kindOf : Str -> Option NameKind} {x : Str} {v : Value} : ∀ {P : List Str} {vs : List Value} {i : Nat} {m : Str -> Option Value}, P.Nodup -> P[i]? = some x -> vs[i]? = some v -> kindOf x ≠ some .local ->
    bindC kindOf (P.zip vs) m x = some v
  | [], _, _, _, _, h, _, _ => by simp at h
  | _ :: _, [], _, _, _, _, h, _ => by simp at h
  | p :: P, w :: vs, 0, m, nd, h1, h2, hk => by
    simp at h1 h2; subst h1; subst h2
    show bindC kindOf ((p, w) :: P.zip vs) m p = _
    unfold bindC
    rw [bindC_out fun v hv => (List.nodup_cons.mp nd).1 (List.of_mem_zip hv).1, if_neg hk]
    simp
  | p :: P, w :: vs, i + 1, m, nd, h1, h2, hk => by
    show bindC kindOf ((p, w) :: P.zip vs) m x = _
    unfold bindC
    exact bindC_get (i := i) (List.nodup_cons.mp nd).2 (by simpa using h1) (by simpa using h2) hk
noncomputable def start (N : List Str) (vs : List V) : St := vs.map some ++ List.replicate (N.length - vs.length) none
noncomputable def cxOf (CX : CXT) (P : Program) (w : World) (K : Fg) (mg : Str -> Option Value) (base : Heap) (N : List Str) (qual : Str) (scope : Scope) (f : Addr) (cd : Value) (A : Around) (outer : List Env) (s : Shared) (H : Hp) (E : XK) : Cx where
  prog := P
  w := w
  K := K
  mg := mg
  base := base
  A := A.deeper (envOfC qual scope s.heap.objs.size f cd)
  N := N
  s₀ := s
  H₀ := H
  env := envOfC qual scope s.heap.objs.size f cd
  outer := outer
  stack := envOfC qual scope s.heap.objs.size f cd :: outer
  ex := []
  calm := true
  fn := fun _ => true
  pn := []
  xe := fun e s' => wpAny (model P w) (A.deeper (envOfC qual scope s.heap.objs.size f cd)) (leaving (envOfC qual scope s.heap.objs.size f cd) e) (fun _ s'' => CX outer H s E e s'') (fun e' s'' => CX outer H s E e' s'') s'
theorem cell_has {sc : Scope} {n : Nat} {x : Str} (h : sc.names.lookup x = some .cell) : ∃ c, (cellsFrom n sc.names []).lookup x = some c := by
  have q := PySem.W.cellsFrom_some sc.names n [] (.inl h)
  exact Option.isSome_iff_exists.mp q
theorem inv_start {CX : CXT} {P : Program} {w : World} {K : Fg} {mg : Str -> Option Value} {base : Heap} {N ps : List Str} {qual : Str} {scope : Scope} {f : Addr} {cd : Value} {A : Around} {outer : List Env} {s s1 : Shared} {H : Hp} {E : XK} {us : List Value} {vs : List V}
    (S : FnScope N ps scope) (hd : A.handled = none) (e0 : Env0 P w K mg base A outer s H) (hl : vs.length = ps.length) (r : yU vs us)
    (x : InCallC s s.heap.objs.size (bindL (envOfC qual scope s.heap.objs.size f cd).kindOf (ps.zip us) fun _ => none) (cellsFrom (s.heap.objs.size + 1) scope.names []) (bindC (envOfC qual scope s.heap.objs.size f cd).kindOf (ps.zip us) fun _ => none) s1) :
    Inv (cxOf CX P w K mg base N qual scope f cd A outer s H E) [] (start N vs) H s1 := by
  have hpl : ps.length <= N.length := by have := congrArg List.length S.pre; rw [List.length_take] at this; lia
  obtain ⟨h1, tk, rfl, hk⟩ := x.done
  have noA : ∀ b : Addr, b ∉ (cxOf CX P w K mg base N qual scope f cd A outer s H E).ex := fun b z => absurd (show b ∈ ([] : List Addr) from z) (by simp)
  refine ⟨⟨e0.mod, S.kind, rfl, rfl, Nat.le_refl _, fun y z c h1 h2 => ?_, fun y hy => ?_, fun y c _ h => ?_, fun _ => hd, Around.frames_deeper e0.frames, .inr ⟨rfl, rfl⟩, fun b z => absurd z (noA b), e0.bs, e0.bsz, fun b _ _ => noA b, fun b z => absurd z (noA b), e0.funs, e0.frf⟩,
    rfl, e0.bare, Un.kept hk, ⟨_, x.toInCall.ns, fun i y v h1 h2 h3 => ?_⟩, fun y c h => ⟨_, x.cell y c h⟩, e0.hok.fresh (Nat.le_refl _), fun y c h => ?_, fun p hp => absurd (show p ∈ ([] : List (Addr × Obj)) from hp) (by simp), e0.hok.kept hk, ?_⟩
  · exact name_of_addr x.apart (PySem.mem_of_lookup h1) (PySem.mem_of_lookup h2)
  · have hy : scope.names.lookup y = some .cell \/ scope.names.lookup y = some .free := hy
    rcases hy with hy | hy
    · exact cell_has hy
    · exact absurd rfl (S.nofree _ (PySem.mem_of_lookup hy))
  · exact Nat.le_of_lt (x.above y c (PySem.mem_of_lookup h))
  · have hi : i < vs.length := by
      unfold start at h2
      by_cases hi : i < vs.length
      · exact hi
      · rw [List.getElem?_append_right (by simpa using hi)] at h2
        rw [List.getElem?_replicate] at h2
        split at h2 <;> cases h2
    have ha : vs[i]? = some v := by
      unfold start at h2
      rw [List.getElem?_append_left (by simpa using hi), List.getElem?_map] at h2
      cases e : vs[i]? with
      | none => rw [e] at h2; cases h2
      | some a => rw [e] at h2; cases h2; rfl
    obtain ⟨u, hu, rv⟩ := r.get ha
    have hp : ps[i]? = some y := by
      rw [<- S.pre, List.getElem?_take_of_lt (by lia)]; exact h1
    have ndP : ps.Nodup := by rw [<- S.pre]; exact S.nd.sublist (List.take_sublist _ _)
    refine ⟨u, rv, ?_⟩
    rcases S.par y (List.mem_of_getElem? hp) with k | k
    · exact .inl ⟨k, bindL_get ndP hp hu k⟩
    · obtain ⟨c, e⟩ := cell_has (n := s.heap.objs.size + 1) k
      refine .inr ⟨.inl k, c, e, ?_⟩
      have q := x.cell y c e
      rw [bindC_get ndP hp hu (by show scope.names.lookup y ≠ _; rw [k]; decide)] at q
      exact q
  · exact e0.hok.fresh (Nat.le_of_lt (x.above y c (PySem.mem_of_lookup h)))
  · unfold start
    show _ = N.length
    rw [List.length_append, List.length_map, List.length_replicate]
    lia
theorem fn_of {CX : CXT} {P : Program} {w : World} {K : Fg} {mg : Str -> Option Value} {base : Heap} {k : Nat} {f : Addr} {name qual : Str} {params : Arguments} {body : List Stmt} {scope : Scope} {dV kV doc pm cdv ct oc : Value} {an od : Option Addr}
    {osl : Array (Option Value)} {N ps : List Str} {sp : Sp} (lk : K.lookup f = some ⟨oc, od, .func (PySem.W.fnOf name qual params body scope dV kV doc pm an cdv ct), osl⟩) (hcd : PySem.W.codeIn K cdv qual = true) (S : FnScope N ps scope)
    (len : ∀ vs H Q E, sp vs H Q E -> vs.length = ps.length)
    (hbody : ∀ (A : Around) (outer : List Env) (s : Shared) (H : Hp) (vs : List V) (Q : VK) (E : XK), Room k (A.deeper (envOfC qual scope s.heap.objs.size f cdv)) -> sp vs H Q E ->
      ∃ t, PSs (cxOf CX P w K mg base N qual scope f cdv A outer s H E) body t /\ t { nx := fun _ H' => Q .non H', rt := Q } (start N vs) H) :
    FnOk P w K mg base CX (k + 1) f (PySem.W.fnOf name qual params body scope dV kV doc pm an cdv ct) ps sp := by
  refine ⟨len, fun A outer s H args us vs Q E hr e0 hb r hsp => ?_⟩
  have hl := len _ _ _ _ hsp
  have KX : K.In s.heap := e0.mod.kin.keeps fun b o e => (e0.bs b o e).1
  have lim : s.heap.NoLimit := e0.mod.nolimit.keeps fun b o e => (e0.bs b o e).1
  have hkind : ∀ y ∈ ps.zip us, scope.names.lookup y.1 = some .local \/ (scope.names.lookup y.1 = some .cell /\ ((cellsFrom (s.heap.objs.size + 1) scope.names []).lookup y.1).isSome = true) := fun ⟨n, v⟩ hy => by
    rcases S.par n (List.of_mem_zip hy).1 with q | q
    · exact .inl q
    · exact .inr ⟨q, PySem.W.cellsFrom_some _ _ _ (.inl q)⟩
  refine codeAny_call_function hr.depth (KX _ _ lk) rfl S.co S.gen rfl (PySem.W.codeRec_of KX hcd) (hb _ _ _ _ ?_)
  refine wpAny_newFunctionEnv_cells S.kind hkind fun env he s1 x => ?_
  subst he
  refine ⟨lim.keeps x.toInCall.keep, codeAny_func ?_⟩
  obtain ⟨t, ht, hq⟩ := hbody A outer s H vs Q E (hr.deeper _) hsp
  have I : Inv (cxOf CX P w K mg base N qual scope f cdv A outer s H E) [] (start N vs) H s1 := inv_start S hr.hd e0 hl r x
  refine wpAny_mono (ht [] s1 (start N vs) H _ I hq) (fun fl s' hs => ?_) fun e s' hs => hs
  have fin : ∀ {σ' : St} {H' : Hp} {v : V} {u : Value}, Inv (cxOf CX P w K mg base N qual scope f cdv A outer s H E) [] σ' H' s' -> wU v u -> Q v H' -> CE outer P w H s Q u s' :=
    fun {σ' H' v u} J rv q => ⟨v, H', J.os, J.bare, J.base, J.hok, rv, q⟩
  cases fl with
  | ret u =>
    obtain ⟨v, σ', H', J, rv, q⟩ := hs
    exact fin J rv q
  | next =>
    obtain ⟨σ', H', J, q⟩ := hs
    exact fin (v := V.non) (u := Value.none) J rfl q
  | brk =>
    obtain ⟨_, _, _, q⟩ := hs
    exact False.elim q
  | cont =>
    obtain ⟨_, _, _, q⟩ := hs
    exact False.elim q
end L2
namespace L2
open PySem PySem.Spec PyProof.Rows
section
variable {X : Cx} {x : Str} {p pos : Pos} {e : Expr} {es : List Expr} {t : TA} {id T : String} {r : List V -> Hp -> VK -> Prop}
noncomputable def tCB (r : List V -> Hp -> VK -> Prop) (t : TA) : TE := fun σ H Q => t σ H fun vs H1 => r vs H1 Q
theorem pe_callB (hc : CallR X (.builtin id) r) (hg : Gl X x) (hm : X.mg x = none) (hv : bootBuiltins x = some (.builtin id)) (ha : PA X (e :: es) t) (hn : x ≠ "__name__" := by decide) (hdb : (x == ("__debug__" : Str)) = false := by decide)
    (he : starEach (e :: es) X.env = (false, eval e X.env) :: starEach es X.env := by rfl) (hpl : (backTo pos (starEach es X.env)).any (·.1) = false := by rfl) : PE X (.Call (.Name x p) (e :: es) [] pos) (tCB r t) := by
  intro pins s σ H Q I h
  refine wpAny_Call_Name_kw (ld_blt I hg hm hv ?_ hn hdb)
  exact PyProof.Rows.callWith_builtin1 (thn (ha pos pins s σ H _ I h) fun us s1 ⟨vs, H1, I1, r1, q1⟩ => hc pins s1 σ H1 vs us Q I1 r1 q1) he hpl
theorem pe_callTy (hc : CallR X (.type T) r) (hg : Gl X x) (hm : X.mg x = none) (hv : bootBuiltins x = some (.type T)) (ha : PA X (e :: es) t) (hn : x ≠ "__name__" := by decide) (hdb : (x == ("__debug__" : Str)) = false := by decide)
    (he : starEach (e :: es) X.env = (false, eval e X.env) :: starEach es X.env := by rfl) (hpl : (backTo pos (starEach es X.env)).any (·.1) = false := by rfl) : PE X (.Call (.Name x p) (e :: es) [] pos) (tCB r t) := by
  intro pins s σ H Q I h
  refine wpAny_Call_Name_kw (ld_blt I hg hm hv ?_ hn hdb)
  exact PyProof.Rows.callWith_type1 (thn (ha pos pins s σ H _ I h) fun us s1 ⟨vs, H1, I1, r1, q1⟩ => hc pins s1 σ H1 vs us Q I1 r1 q1) he hpl
end
end L2
namespace HT
open PySem PyProof.Rows
section
open PySem.SeqAt
open PySem.AutoSeq1 (wpAny_loadPart')
open PySem.MeetsSeq PySem.MeetsSeq2 PySem.MeetsSeq3
end
section
variable {prog : Program} {w : World} {A : Around} {E : Value -> Shared -> Prop} {s : Shared}
theorem cat_tup {t b : Addr} {vs ws : List Value} {Q : Value -> Shared -> Prop} (ht : IsTup s.heap t vs.toArray) (hb : IsTup s.heap b ws.toArray) (hv : vs ≠ [])
    (h1 : ws = [] -> Q (.ref t) s) (h2 : ws ≠ [] -> Q (.ref s.heap.objs.size) { s with heap := s.heap.push { cls := .type "tuple", data := .seq (vs ++ ws).toArray } })
    (hsz : vs.length + ws.length <= sizeLine) : wpAny (model prog w) A (binaryOp .Add (.ref t) (.ref b)) Q E s := by
  obtain ⟨⟨cls, dd, data, sl⟩, ho, hc, n, hd⟩ := id ht
  obtain ⟨⟨cls2, dd2, data2, sl2⟩, ho2, hc2, n2, hd2⟩ := id hb
  simp only at hc hd hc2 hd2
  subst hc hd hc2 hd2
  have e : vs.toArray ++ ws.toArray = (vs ++ ws).toArray := by simp
  by_cases hw : ws = []
  · exact concat_meets ⟨_, ho, rfl⟩ ⟨_, ho2, rfl⟩ noFill_tuple_add seq_tuple_add PySem.F.slot_tuple_add PySem.F.entry_tuple_add (PySem.F.args_tuple_add_2 _ _)
      (tuple_addW1 t b vs.toArray ws.toArray n n2 dd dd2 sl sl2 (by simpa using hv) (by simp [hw])) ⟨ho, ho2, h1 hw⟩
  · refine concat_meets ⟨_, ho, rfl⟩ ⟨_, ho2, rfl⟩ noFill_tuple_add seq_tuple_add PySem.F.slot_tuple_add PySem.F.entry_tuple_add (PySem.F.args_tuple_add_2 _ _)
      (tuple_addW2 t b vs.toArray ws.toArray n n2 dd dd2 sl sl2 (by simpa using hv) (by simpa using hw) (by rw [List.size_toArray, List.size_toArray]; exact hsz)) ⟨ho, ho2, ?_⟩
    rw [e]
    exact h2 hw
noncomputable def sIx (n d : Nat) : Option Int -> Nat
  | none => d
  | some v => if v < 0 then (v + (n : Int)).toNat else min v.toNat n
theorem sIx_none (n d : Nat) : sIx n d none = d := rfl
theorem sIx_nat (n d k : Nat) : sIx n d (some (k : Int)) = min k n := by
  show (if (k : Int) < 0 then ((k : Int) + (n : Int)).toNat else min (k : Int).toNat n) = min k n
  rw [if_neg (by lia), Int.toNat_natCast]
theorem sIx_le (n d : Nat) (hd : d <= n) (o : Option Int) : sIx n d o <= n := by
  cases o with
  | none => exact hd
  | some v =>
    show (if v < 0 then (v + (n : Int)).toNat else min v.toNat n) <= n
    by_cases hv : v < 0
    · rw [if_pos hv]; lia
    · rw [if_neg hv]; exact Nat.min_le_right _ _
theorem clip_eq (v : Int) (n d : Nat) : (if v < 0 then max (v + (n : Int)) 0 else min v (n : Int)) = ((sIx n d (some v) : Nat) : Int) := by
  show (if v < 0 then max (v + (n : Int)) 0 else min v (n : Int)) = (((if v < 0 then (v + (n : Int)).toNat else min v.toNat n) : Nat) : Int)
  by_cases hv : v < 0
  · simp only [if_pos hv]; lia
  · simp only [if_neg hv]; lia
theorem adjust_gen (lo hi : Option Int) (n : Nat) : Builtin.Slice.sliceAdjust lo hi 1 (n : Int) = (((sIx n 0 lo : Nat) : Int), ((sIx n n hi : Nat) : Int)) := by
  have h1 : ¬ ((1 : Int) < 0) := by lia
  unfold Builtin.Slice.sliceAdjust
  simp only [h1, if_false]
  refine Prod.ext ?_ ?_
  · cases lo with
    | none => rfl
    | some v => exact clip_eq v n 0
  · cases hi with
    | none => rfl
    | some v => exact clip_eq v n n
theorem places_gen (i j : Nat) : Builtin.Slice.slicePlaces (i : Int) (j : Int) 1 = j - i := by
  unfold Builtin.Slice.slicePlaces
  have h1 : (1 : Int) > 0 := by lia
  simp only [h1, if_true, Int.ediv_one]
  split <;> lia
theorem slicePart_ {v : Value} {o : Option Int} {Q : Option Int -> Shared -> Prop} (p : IsPart v o) (h : Q o s) : wpAny (model prog w) A (Builtin.Slice.slicePartIndex v) Q E s := by
  cases p with
  | none => exact slicePart_none h
  | int i t => exact slicePart_int h
theorem sliceApplied_gen {sl : Addr} {vl vu : Value} {lo hi : Option Int} {n : Nat} {Q : Int × Int × Nat -> Shared -> Prop} (hs : s.heap.IsSliceOf sl vl vu .none) (pl : IsPart vl lo) (pu : IsPart vu hi)
    (h : Q (((sIx n 0 lo : Nat) : Int), 1, sIx n n hi - sIx n 0 lo) s) : wpAny (model prog w) A (Builtin.Slice.sliceApplied (.ref sl) (pure (n : Int))) Q E s := by
  obtain ⟨os, hos, hcs, hds⟩ := id hs
  unfold Builtin.Slice.sliceApplied Builtin.Slice.sliceFields
  refine wpAny_bind (wpAny_bind (wpAny_field hos hds (x := vl) rfl (wpAny_bind (wpAny_field hos hds (x := vu) rfl (wpAny_bind (wpAny_field hos hds (x := .none) rfl (wpAny_pure ?_)))))))
  refine wpAny_bind (slicePart_none ?_)
  show wpAny _ _ (if ((1 : Int) == 0) = true then _ else _) _ _ s
  rw [if_neg (by decide)]
  refine wpAny_bind (slicePart_ pl (wpAny_bind (slicePart_ pu (wpAny_bind (wpAny_pure ?_)))))
  show wpAny _ _ (match Builtin.Slice.sliceAdjust lo hi 1 (n : Int) with | (lo, hi) => pure (lo, (1 : Int), Builtin.Slice.slicePlaces lo hi 1)) _ _ s
  rw [adjust_gen lo hi n]
  show wpAny _ _ (pure (((sIx n 0 lo : Nat) : Int), (1 : Int), Builtin.Slice.slicePlaces ((sIx n 0 lo : Nat) : Int) ((sIx n n hi : Nat) : Int) 1)) _ _ s
  rw [places_gen]
  exact wpAny_pure h
theorem pick_gen (xs : Array Value) (i k : Nat) : ((List.range k).filterMap fun (m : Nat) => xs[((i : Int) + (m : Int) * 1).toNat]?).toArray = ((xs.toList.drop i).take k).toArray := by
  have e : (fun (m : Nat) => xs[((i : Int) + (m : Int) * 1).toNat]?) = fun m => xs[i + m]? := by
    funext m
    have : ((i : Int) + (m : Int) * 1).toNat = i + m := by lia
    rw [this]
  rw [e]
  have := pick_run xs i k
  rw [List.filterMap_map] at this
  have e2 : ((fun x => xs[x]?) ∘ fun x => i + x) = fun m => xs[i + m]? := rfl
  rw [e2] at this
  rw [this]
theorem getItem_tuple_cut {t sl : Addr} {items : Array Value} {vl vu : Value} {lo hi : Option Int} {Q : Value -> Shared -> Prop} (ht : IsTup s.heap t items) (hs : s.heap.IsSliceOf sl vl vu .none) (pl : IsPart vl lo) (pu : IsPart vu hi)
    (hw : ¬ (sIx items.size 0 lo = 0 /\ sIx items.size items.size hi = items.size))
    (h : Q (.ref s.heap.objs.size) { s with heap := s.heap.push { cls := .type "tuple", data := .seq ((items.toList.drop (sIx items.size 0 lo)).take (sIx items.size items.size hi - sIx items.size 0 lo)).toArray } })
    (hsz : items.size <= sizeLine) : wpAny (model prog w) A (getItem (.ref t) (.ref sl)) Q E s := by
  have htake : sizeOk (.seq ((items.toList.drop (sIx items.size 0 lo)).take (sIx items.size items.size hi - sIx items.size 0 lo)).toArray) := by
    show ((items.toList.drop (sIx items.size 0 lo)).take (sIx items.size items.size hi - sIx items.size 0 lo)).toArray.size <= sizeLine
    rw [List.size_toArray, List.length_take, List.length_drop, Array.length_toList]
    lia
  have hj : sIx items.size items.size hi <= items.size := sIx_le _ _ (Nat.le_refl _) hi
  obtain ⟨os, hos, hcs, hds⟩ := id hs
  have hTs : s.TypeIs (.ref sl) "slice" := ⟨os, hos, hcs⟩
  unfold getItem
  try with_reducible refine wpAny_holding ?_
  first | refine wpAny_bind (wpAny_pure ?_) | skip
  refine wpAny_bind (wpAny_sequenceKey ht.typeIs (by decide) ?_)
  refine wpAny_bind (wpAny_callSpecial?_slot (name := Str.ofString "__getitem__") ht.typeIs PyProof.Rows.slot_tuple_getitem
    (wpAny_call_entry PyProof.Rows.slot_tuple_getitem ht.typeIs entry_tuple_getitem ?_ (args_tuple_getitem _ _)))
  show wpAny _ _ (Builtin.Tuple.tupleItemsOf (.ref t) >>= _) _ _ s
  refine wpAny_bind (tupleItemsOf_ ht ?_)
  refine wpAny_bind (wpAny_typeOf hTs ?_)
  rw [if_pos (by decide)]
  refine wpAny_bind (sliceApplied_gen hs pl pu ?_)
  have hno : ¬ ((((sIx items.size 0 lo : Nat) : Int) == 0 && (1 : Int) == 1 && (sIx items.size items.size hi - sIx items.size 0 lo) == items.size) = true) := by
    intro q
    rw [Bool.and_eq_true, Bool.and_eq_true] at q
    have q1 : ((sIx items.size 0 lo : Nat) : Int) = 0 := eq_of_beq q.1.1
    have q2 : sIx items.size items.size hi - sIx items.size 0 lo = items.size := eq_of_beq q.2
    exact hw ⟨by lia, by lia⟩
  show wpAny _ _ (if (((sIx items.size 0 lo : Nat) : Int) == 0 && (1 : Int) == 1 && (sIx items.size items.size hi - sIx items.size 0 lo) == items.size) = true then _ else _) _ _ s
  rw [if_neg hno, pick_gen]
  first
    | exact wpAny_bind (m := Builtin.Tuple.tupleExact _) (wpAny_newObj_type (wpAny_pure ⟨_, rfl, wpAny_pure h⟩) htake)
    | exact wpAny_bind (m := Builtin.Tuple.tupleExact _) (wpAny_newObj_type (wpAny_bind (wpAny_pure (wpAny_pure ⟨_, rfl, wpAny_pure h⟩))) htake)
    | exact wpAny_bind (wpAny_bind (m := Builtin.Tuple.tupleExact _) (wpAny_newObj_type (wpAny_pure (wpAny_pure ⟨_, rfl, wpAny_pure h⟩)) htake))
    | exact wpAny_bind (wpAny_bind (m := Builtin.Tuple.tupleExact _) (wpAny_newObj_type (wpAny_pure ⟨_, rfl, wpAny_pure h⟩) htake))
end
end HT
namespace L2
open PySem PySem.Spec PyProof.Rows
noncomputable abbrev TO := St -> Hp -> (Option Int -> Hp -> Prop) -> Prop
noncomputable def PO (X : Cx) (e : Option Expr) (t : TO) : Prop :=
  ∀ (pins : List (Addr × Obj)) (s : Shared) (σ : St) (H : Hp) (Q : Option Int -> Hp -> Prop), Inv X pins σ H s -> t σ H Q ->
    wpAny (model X.prog X.w) X.A (evalPart e X.env) (fun u s' => ∃ o H', Inv X pins σ H' s' /\ IsPart u o /\ Q o H') X.xe s
noncomputable def tNoPart : TO := fun _ H Q => Q none H
noncomputable def tPart (t : TE) : TO := fun σ H Q => t σ H fun x H1 => ∃ i, x = .int i /\ Q (some i) H1
theorem intsAre_of {ns : List Int} : ∀ {us : List Value}, yU (ns.map V.int) us -> IntsAre us ns := by
  induction ns with
  | nil => intro us r; rw [List.map_nil] at r; cases r; exact .nil
  | cons n ns ih =>
    intro us r
    rw [List.map_cons] at r
    cases r with
    | cons r1 r2 =>
      obtain ⟨t, e⟩ := r1
      subst e
      exact .cons n t (ih r2)
section
variable {X : Cx} {e : Expr} {te : TE} {lo hi : Option Expr} {tl th : TO} {pos p2 : Pos}
theorem po_none : PO X none tNoPart := by
  intro pins s σ H Q I h
  rw [evalPart_none]
  exact wpAny_pure ⟨none, H, I, .none, h⟩
theorem po_some (h : PE X e te) : PO X (some e) (tPart te) := by
  intro pins s σ H Q I hw
  rw [evalPart_some]
  refine thn (h pins s σ H _ I hw) fun u s1 ⟨x, H1, I1, r1, q1⟩ => ?_
  obtain ⟨i, rfl, q⟩ := q1
  obtain ⟨t, rfl⟩ := r1
  exact ⟨some i, H1, I1, .int i t, q⟩
noncomputable def SlR (X : Cx) (r : V -> Option Int -> Option Int -> Hp -> VK -> Prop) : Prop :=
  ∀ (pins : List (Addr × Obj)) (s : Shared) (σ : St) (H : Hp) (x : V) (v vl vu : Value) (lo hi : Option Int) (sl : Addr) (Q : VK), Inv X pins σ H s -> wU x v -> s.heap.IsSliceOf sl vl vu .none -> IsPart vl lo -> IsPart vu hi -> r x lo hi H Q ->
    ∃ T id, typeLookup (.type T) "__getitem__" = pure (some (.builtin id)) /\ s.TypeIs v T /\ wpAny (model X.prog X.w) X.A (getItem v (.ref sl)) (EP X pins σ Q) X.xe s
theorem SlR.or {r r' : V -> Option Int -> Option Int -> Hp -> VK -> Prop} (h : SlR X r) (h' : SlR X r') : SlR X (fun x lo hi H Q => r x lo hi H Q \/ r' x lo hi H Q) := by
  intro pins s σ H x v vl vu lo hi sl Q I rx hs pl pu q
  rcases q with q | q
  · exact h pins s σ H x v vl vu lo hi sl Q I rx hs pl pu q
  · exact h' pins s σ H x v vl vu lo hi sl Q I rx hs pl pu q
noncomputable def tSl (r : V -> Option Int -> Option Int -> Hp -> VK -> Prop) (te : TE) (tl th : TO) : TE := fun σ H Q => te σ H fun x H1 => tl σ H1 fun l H2 => th σ H2 fun u H3 => r x l u H3 Q
theorem pe_slice {r : V -> Option Int -> Option Int -> Hp -> VK -> Prop} (hr : SlR X r) (he : PE X e te) (hl : PO X lo tl) (hu : PO X hi th) : PE X (.Subscript e (.Slice lo hi none p2) pos) (tSl r te tl th) := by
  intro pins s σ H Q I h
  refine Subscript_ (thn (he pins s σ H _ I h) fun v s1 ⟨x, H1, I1, r1, q1⟩ => ?_)
  refine wpAny_Slice (thn (hl pins s1 σ H1 _ I1 q1) fun vl s2 ⟨l, H2, I2, pl, q2⟩ => thn (hu pins s2 σ H2 _ I2 q2) fun vu s3 ⟨u, H3, I3, pu, q3⟩ => ?_)
  rw [evalPart_none]
  refine wpAny_pure ?_
  have I4 : Inv X pins σ H3 { s3 with heap := s3.heap.push { cls := .type "slice", data := .fields #[vl, vu, .none] } } := I3.kept (t' := s3.toks) fun b ob q => Heap.get?_push_of_some _ q
  obtain ⟨T, id, hT, ht, hg⟩ := hr pins { s3 with heap := s3.heap.push { cls := .type "slice", data := .fields #[vl, vu, .none] } } σ H3 x v vl vu l u s3.heap.objs.size Q I4 r1 (Heap.IsSliceOf.new ..) pl pu q3
  show wpAny (model X.prog X.w) X.A (subscriptTail e (.Slice lo hi none p2) v (.ref s3.heap.objs.size)) (EP X pins σ Q) X.xe { s3 with heap := s3.heap.push { cls := .type "slice", data := .fields #[vl, vu, .none] } }
  exact tail_any (ops := [.ref s3.heap.objs.size, v]) ht hT hg (by with_unfolding_all rfl)
noncomputable def cutV (xs : List V) (lo hi : Option Int) : List V := (xs.drop (HT.sIx xs.length 0 lo)).take (HT.sIx xs.length xs.length hi - HT.sIx xs.length 0 lo)
theorem cutV_length (xs : List V) (lo hi : Option Int) : (cutV xs lo hi).length <= xs.length := by
  unfold cutV
  rw [List.length_take, List.length_drop]
  lia
noncomputable def rSlT (K : Fg) : V -> Option Int -> Option Int -> Hp -> VK -> Prop := fun x lo hi H Q => ∃ a xs, x = .ref a /\ SqT K H a xs /\
  ¬ (HT.sIx xs.length 0 lo = 0 /\ HT.sIx xs.length xs.length hi = xs.length) /\ ∀ p, H p = none -> Q (.ref p) (upd H p (.tup (cutV xs lo hi)))
theorem sl_tup : SlR X (rSlT X.K) := by
  intro pins s σ H x v vl vu lo hi sl Q I rx hs pl pu h
  obtain ⟨a, xs, rfl, hx, hw, q⟩ := h
  cases rx
  obtain ⟨its, r, ht, hz⟩ := I.tuple hx
  have hlen : its.toArray.size = xs.length := by rw [List.size_toArray]; exact r.length.symm
  refine ⟨"tuple", _, PyProof.Rows.slot_tuple_getitem.lookup, ht.typeIs, ?_⟩
  refine HT.getItem_tuple_cut ht hs pl pu (by rw [hlen]; exact hw) ?_ (by rw [hlen]; exact hz)
  rw [hlen]
  refine ⟨.ref s.heap.objs.size, _, I.laid (t' := s.toks) (o := .tup (cutV xs lo hi)) (fun b ob q => Heap.get?_push_of_some _ q) (Nat.le_refl _) ?_, rfl, q _ (I.hok.fresh (Nat.le_refl _))⟩
  exact ⟨Nat.le_trans (cutV_length xs lo hi) hz, _, (r.drop (HT.sIx xs.length 0 lo)).take (HT.sIx xs.length xs.length hi - HT.sIx xs.length 0 lo), IsTup.new _ _⟩
noncomputable def rCatT (K : Fg) : R2 := fun x y H Q => ∃ a b xs ys, x = .ref a /\ y = .ref b /\ SqT K H a xs /\ SqT K H b ys /\ xs ≠ [] /\ xs.length + ys.length <= sizeLine /\
  (ys = [] -> Q (.ref a) H) /\ (ys ≠ [] -> ∀ p, H p = none -> Q (.ref p) (upd H p (.tup (xs ++ ys))))
theorem yU.nil_iff {xs : List V} {us : List Value} (r : yU xs us) : us = [] ↔ xs = [] := by
  cases r with
  | nil => simp
  | cons _ _ => simp
theorem op_catT : OpR X (binaryOp .Add) (rCatT X.K) := by
  intro pins s σ H x y v u Q I rx ry h
  obtain ⟨a, b, xs, ys, rfl, rfl, ha, hb, hx, hz, q1, q2⟩ := h
  cases rx
  cases ry
  obtain ⟨its, r1, p1, _⟩ := I.tuple ha
  obtain ⟨its2, r2, p2, _⟩ := I.tuple hb
  refine HT.cat_tup p1 p2 (fun z => hx (r1.nil_iff.mp z)) (fun z => ⟨.ref a, H, I, rfl, q1 (r2.nil_iff.mp z)⟩) (fun z => ?_) (by rw [<- r1.length, <- r2.length]; exact hz)
  refine ⟨.ref s.heap.objs.size, _, I.laid (t' := s.toks) (o := .tup (xs ++ ys)) (fun b ob q => Heap.get?_push_of_some _ q) (Nat.le_refl _) ?_, rfl, q2 (fun w => z (r2.nil_iff.mpr w)) _ (I.hok.fresh (Nat.le_refl _))⟩
  exact ⟨by rw [List.length_append]; exact hz, _, r1.append r2, IsTup.new _ _⟩
end
end L2
namespace L2
open PySem PySem.Spec PyProof.Rows
noncomputable def ixN (n : Nat) (i : Int) : Option Nat := if 0 <= i then (if i < n then some i.toNat else none) else if -(n : Int) <= i then some (i + n).toNat else none
noncomputable def atI {α : Type} (xs : List α) (i : Int) : Option α := (ixN xs.length i).bind fun j => xs[j]?
theorem ixN_seq {n : Nat} {i : Int} {j : Nat} (h : ixN n i = some j) : seqIndex? i n = some j /\ j < n /\ -(n : Int) <= i /\ i < n := by
  unfold ixN at h
  by_cases h0 : 0 <= i
  · rw [if_pos h0] at h
    by_cases h1 : i < n
    · rw [if_pos h1] at h
      have e : i.toNat = j := Option.some.inj h
      exact ⟨by rw [seqIndex_of h0 h1, e], by lia, by lia, h1⟩
    · rw [if_neg h1] at h; cases h
  · rw [if_neg h0] at h
    by_cases h1 : -(n : Int) <= i
    · rw [if_pos h1] at h
      have e : (i + n).toNat = j := Option.some.inj h
      exact ⟨by rw [seqIndex_neg (by lia) h1, e], by lia, h1, by lia⟩
    · rw [if_neg h1] at h; cases h
theorem atI_get {α : Type} {xs : List α} {i : Int} {v : α} (h : atI xs i = some v) : ∃ j, seqIndex? i xs.length = some j /\ xs[j]? = some v /\ j < xs.length /\ -(xs.length : Int) <= i /\ i < xs.length := by
  unfold atI at h
  cases e : ixN xs.length i with
  | none => rw [e] at h; cases h
  | some j =>
    rw [e] at h
    obtain ⟨h1, h2, h3, h4⟩ := ixN_seq e
    exact ⟨j, h1, h, h2, h3, h4⟩
theorem atI_nat {α : Type} {xs : List α} {j : Nat} {v : α} (h : xs[j]? = some v) : atI xs (j : Int) = some v := by
  have hj : j < xs.length := (List.getElem?_eq_some_iff.mp h).1
  have e : ixN xs.length (j : Int) = some j := by
    unfold ixN
    rw [if_pos (by lia), if_pos (by lia)]; simp
  unfold atI; rw [e]; exact h
theorem atI_last {α : Type} (xs : List α) (v : α) : atI (xs ++ [v]) (-1) = some v := by
  have hl : (xs ++ [v]).length = xs.length + 1 := by simp
  have e : ixN (xs ++ [v]).length (-1) = some xs.length := by
    unfold ixN
    rw [hl, if_neg (by decide), if_pos (by lia)]
    congr 1
    lia
  unfold atI
  rw [e]
  show (xs ++ [v])[xs.length]? = some v
  simp
noncomputable def PlainIx (b : Expr) : Prop := ∀ o i, subscripted b false o i = operate [o, i] (getItem o i)
noncomputable def IxR (X : Cx) (r : R2) : Prop :=
  ∀ (value slice : Expr) (pins : List (Addr × Obj)) (s : Shared) (σ : St) (H : Hp) (x y : V) (v u : Value) (Q : VK), Inv X pins σ H s -> wU x v -> wU y u -> r x y H Q ->
    subscripted slice false v u = operate [v, u] (getItem v u) -> wpAny (model X.prog X.w) X.A (subscriptTail value slice v u) (EP X pins σ Q) X.xe s
noncomputable def MtR (X : Cx) (id : String) (r : V -> List V -> Hp -> VK -> Prop) : Prop :=
  ∀ (pins : List (Addr × Obj)) (s : Shared) (σ : St) (H : Hp) (x : V) (xs : List V) (v : Value) (us : List Value) (Q : VK), Inv X pins σ H s -> wU x v -> yU xs us -> r x xs H Q ->
    wpAny (model X.prog X.w) X.A (call (.builtin id) (v :: us)) (EP X pins σ Q) X.xe s
section
variable {X : Cx} {a b : Expr} {ta tb : TE} {pos : Pos}
theorem IxR.or {r r' : R2} (h : IxR X r) (h' : IxR X r') : IxR X (fun x y H Q => r x y H Q \/ r' x y H Q) := by
  intro value slice pins s σ H x y v u Q I rx ry q hs
  rcases q with q | q
  · exact h value slice pins s σ H x y v u Q I rx ry q hs
  · exact h' value slice pins s σ H x y v u Q I rx ry q hs
theorem pe_ix {r : R2} (hr : IxR X r) (ha : PE X a ta) (hb : PE X b tb) (hs : PlainIx b) : PE X (.Subscript a b pos) (tOp r ta tb) := by
  intro pins s σ H Q I h
  exact Subscript_ (binT ha hb I h fun v u s2 x y H2 I2 rx ry q => hr a b pins s2 σ H2 x y v u Q I2 rx ry q (hs _ _))
noncomputable def rIxL (K : Fg) : R2 := fun x y H Q => ∃ p xs i v, x = .ref p /\ y = .int i /\ SqL K H p xs /\ atI xs i = some v /\ Q v H
noncomputable def rIxT (K : Fg) : R2 := fun x y H Q => ∃ p xs i v, x = .ref p /\ y = .int i /\ SqT K H p xs /\ atI xs i = some v /\ Q v H
noncomputable def rIxS : R2 := fun x y H Q => ∃ z i c, x = .str z /\ y = .int i /\ z.length <= sizeLine /\ atI z.cps.toList i = some c /\ Q (.str ⟨#[c]⟩) H
theorem ix_list : IxR X (rIxL X.K) := by
  intro value slice pins s σ H x y v u Q I rx ry h hs
  obtain ⟨p, xs, i, z, rfl, rfl, hq, he, q⟩ := h
  cases rx
  obtain ⟨t, rfl⟩ := ry
  obtain ⟨its, r, pl, hz⟩ := I.list hq
  obtain ⟨j, h1, h2, h3, h4, h5⟩ := atI_get he
  obtain ⟨w, ew, rw'⟩ := r.get h2
  have hl := r.length
  have hn := line63
  have fin : EP X pins σ Q w s := ⟨z, H, I, rw', q⟩
  by_cases h0 : 0 <= i
  · have hj : i.toNat = j := by
      rw [seqIndex_of h0 h5] at h1
      exact Option.some.inj h1
    exact item_listR pl.isList h0 (by lia) (by rw [hj]; simpa using ew) fin hs
  · have hj : (i + (its.toArray.size : Int)).toNat = j := by
      rw [seqIndex_neg (by lia) h4] at h1
      rw [List.size_toArray, <- hl]
      exact Option.some.inj h1
    exact subscriptTail_builtinR (x := w) pl.isList.typeIs slot_list_getitem.lookup
      (wpAny_getItem_list_neg (Q := fun r s' => r = w /\ EP X pins σ Q r s') pl.isList (by lia) (by rw [List.size_toArray] <;> lia) (by lia) (by rw [hj]; simpa using ew) ⟨rfl, fin⟩) hs
theorem ix_tup : IxR X (rIxT X.K) := by
  intro value slice pins s σ H x y v u Q I rx ry h hs
  obtain ⟨p, xs, i, z, rfl, rfl, hq, he, q⟩ := h
  cases rx
  obtain ⟨t, rfl⟩ := ry
  obtain ⟨its, r, pl, hz⟩ := I.tuple hq
  obtain ⟨j, h1, h2, h3, h4, h5⟩ := atI_get he
  obtain ⟨w, ew, rw'⟩ := r.get h2
  have hl := r.length
  have hn := line63
  have fin : EP X pins σ Q w s := ⟨z, H, I, rw', q⟩
  exact subscriptTail_builtinR (x := w) pl.typeIs slot_tuple_getitem.lookup
    (getItem_tuple (j := j) (Q := fun r s' => r = w /\ EP X pins σ Q r s') pl (by lia) (by lia) (by rw [List.size_toArray, <- hl]; exact h1) (by simpa using ew) ⟨rfl, fin⟩) hs
theorem ix_str : IxR X rIxS := by
  intro value slice pins s σ H x y v u Q I rx ry h hs
  obtain ⟨z, i, c, rfl, rfl, hz, he, q⟩ := h
  obtain ⟨t, rfl⟩ := rx
  obtain ⟨t', rfl⟩ := ry
  obtain ⟨j, h1, h2, h3, h4, h5⟩ := atI_get he
  have hl : z.cps.toList.length = z.length := by simp [Str.length]
  rw [hl] at h1 h4 h5
  have hn := line63
  exact tail_any (typeIs_str s z t) slot_str_getitem.lookup (getItem_str (c := c) (by
    have e1 : decide (i < -(2 ^ 63 : Int)) = false := decide_eq_false (by lia)
    have e2 : decide (i ≥ 2 ^ 63) = false := decide_eq_false (by lia)
    rw [e1, e2, Bool.or_false]) (by rw [h1]; simpa using h2) ⟨.str ⟨#[c]⟩, H, I.tok _, ⟨_, rfl⟩, q⟩) hs
noncomputable def rIx (K : Fg) : R2 := fun x y H Q => rIxL K x y H Q \/ rIxT K x y H Q \/ rIxS x y H Q
theorem ix_seq : IxR X (rIx X.K) := ix_list.or (ix_tup.or ix_str)
theorem slice_bounds (lo hi : Option Int) (n : Nat) : (sliceBounds lo hi none n).1 = ((HT.sIx n 0 lo : Nat) : Int) /\ (sliceBounds lo hi none n).2.1 = ((HT.sIx n n hi : Nat) : Int) /\ (sliceBounds lo hi none n).2.2 = 1 := by
  refine ⟨?_, ?_, rfl⟩
  · cases lo with
    | none => simp [sliceBounds, HT.sIx]
    | some i =>
      simp only [sliceBounds, HT.sIx, Option.getD_none, show (1 : Int) > 0 by decide, if_true]
      by_cases h : i < 0
      · simp only [h, if_true] <;> lia
      · simp only [h, if_false] <;> lia
  · cases hi with
    | none => simp [sliceBounds, HT.sIx]
    | some i =>
      simp only [sliceBounds, HT.sIx, Option.getD_none, show (1 : Int) > 0 by decide, if_true]
      by_cases h : i < 0
      · simp only [h, if_true] <;> lia
      · simp only [h, if_false] <;> lia
theorem slicePick_cut (its : List Value) (lo hi : Option Int) : slicePick its.toArray lo hi none = ((its.drop (HT.sIx its.length 0 lo)).take (HT.sIx its.length its.length hi - HT.sIx its.length 0 lo)).toArray := by
  obtain ⟨h1, h2, h3⟩ := slice_bounds lo hi its.toArray.size
  unfold slicePick
  rw [h1, h2, h3]
  simp only [sliceRange_one, pick_run, List.size_toArray] <;> rfl
noncomputable def rSlL (K : Fg) : V -> Option Int -> Option Int -> Hp -> VK -> Prop := fun x lo hi H Q => ∃ a xs, x = .ref a /\ SqL K H a xs /\ ∀ p, H p = none -> Q (.ref p) (upd H p (.lst (cutV xs lo hi)))
theorem sl_list : SlR X (rSlL X.K) := by
  intro pins s σ H x v vl vu lo hi sl Q I rx hs pl pu h
  obtain ⟨a, xs, rfl, hx, q⟩ := h
  cases rx
  obtain ⟨its, r, ht, hz⟩ := I.list hx
  have hlen := r.length
  refine ⟨"list", _, slot_list_getitem.lookup, ht.isList.typeIs, ?_⟩
  refine wpAny_getItem_list_slice ht.isList hs pl pu .none (by simp) ?_ (by rw [List.size_toArray] <;> lia)
  rw [slicePick_cut, <- hlen]
  refine ⟨.ref s.heap.objs.size, _, I.laid (t' := s.toks) (o := .lst (cutV xs lo hi)) (fun b ob q => Heap.get?_push_of_some _ q) (Nat.le_refl _) ?_, rfl, q _ (I.hok.fresh (Nat.le_refl _))⟩
  exact ⟨Nat.le_trans (cutV_length xs lo hi) hz, _, 0, (r.drop (HT.sIx xs.length 0 lo)).take (HT.sIx xs.length xs.length hi - HT.sIx xs.length 0 lo), Heap.get?_push_size _ rfl⟩
noncomputable def flatV : V -> Bool
  | .non => true
  | .bl _ => true
  | .int _ => true
  | .str _ => true
  | _ => false
noncomputable def eqV : V -> V -> Bool
  | .non, .non => true
  | .bl a, .bl b => a == b
  | .bl a, .int b => (if a then 1 else 0) == b
  | .int a, .bl b => a == (if b then 1 else 0)
  | .int a, .int b => a == b
  | .str a, .str b => a == b
  | _, _ => false
theorem eqAt_V {A : Around} {s : Shared} {y x : V} {u v : Value} (ry : wU y u) (rx : wU x v) (fy : flatV y = true) (fx : flatV x = true) : SeqAt.EqAt A s u v (eqV y x) := by
  cases y with
  | non =>
    cases ry
    cases x with
    | non => cases rx; exact SeqAt.EqAt.same _
    | bl b => cases rx; exact SeqAt.EqAt.none_bool b
    | int b => obtain ⟨t, rfl⟩ := rx; exact SeqAt.EqAt.none_int b t
    | str b => obtain ⟨t, rfl⟩ := rx; exact SeqAt.EqAt.none_str b t
    | _ => exact absurd (show false = true from fx) Bool.false_ne_true
  | bl a =>
    cases ry
    cases x with
    | non => cases rx; exact SeqAt.EqAt.bool_none a
    | bl b => cases rx; exact SeqAt.EqAt.bool_bool a b
    | int b => obtain ⟨t, rfl⟩ := rx; exact SeqAt.EqAt.bool_int a b t
    | str b => obtain ⟨t, rfl⟩ := rx; exact SeqAt.EqAt.bool_str a b t
    | _ => exact absurd (show false = true from fx) Bool.false_ne_true
  | int a =>
    obtain ⟨t', rfl⟩ := ry
    cases x with
    | non => cases rx; exact SeqAt.EqAt.int_none a t'
    | bl b => cases rx; exact SeqAt.EqAt.int_bool a t' b
    | int b => obtain ⟨t, rfl⟩ := rx; exact SeqAt.EqAt.int_int a t' b t
    | str b => obtain ⟨t, rfl⟩ := rx; exact SeqAt.EqAt.int_str a t' b t
    | _ => exact absurd (show false = true from fx) Bool.false_ne_true
  | str a =>
    obtain ⟨t', rfl⟩ := ry
    cases x with
    | non => cases rx; exact SeqAt.EqAt.str_none a t'
    | bl b => cases rx; exact SeqAt.EqAt.str_bool a t' b
    | int b => obtain ⟨t, rfl⟩ := rx; exact SeqAt.EqAt.str_int a t' b t
    | str b => obtain ⟨t, rfl⟩ := rx; exact SeqAt.EqAt.str_str a t' b t
    | _ => exact absurd (show false = true from fx) Bool.false_ne_true
  | _ => exact absurd (show false = true from fy) Bool.false_ne_true
noncomputable def eqU (x : V) (u : Value) : Bool := match u with
  | .none => eqV .non x
  | .bool b => eqV (.bl b) x
  | .int i _ => eqV (.int i) x
  | .str z _ => eqV (.str z) x
  | _ => false
theorem eqU_of {x y : V} {u : Value} (r : wU y u) (f : flatV y = true) : eqU x u = eqV y x := by
  cases y with
  | non => cases r; rfl
  | bl b => cases r; rfl
  | int i => obtain ⟨t, rfl⟩ := r; rfl
  | str z => obtain ⟨t, rfl⟩ := r; rfl
  | _ => exact absurd (show false = true from f) Bool.false_ne_true
theorem any_eqU {x : V} : ∀ {xs : List V} {us : List Value}, yU xs us -> xs.all flatV = true -> us.any (eqU x) = xs.any fun y => eqV y x
  | _, _, .nil, _ => rfl
  | y :: xs, u :: us, .cons r t, f => by
    rw [List.all_cons, Bool.and_eq_true] at f
    rw [List.any_cons, List.any_cons, eqU_of r f.1, any_eqU t f.2]
theorem mem_eqAt {A : Around} {s : Shared} {x : V} {v : Value} (rx : wU x v) (fx : flatV x = true) : ∀ {xs : List V} {us : List Value}, yU xs us -> xs.all flatV = true -> ∀ u ∈ us, SeqAt.EqAt A s u v (eqU x u)
  | _, _, .nil, _ => fun u hu => by cases hu
  | y :: xs, u :: us, .cons r t, f => fun u' hu => by
    rw [List.all_cons, Bool.and_eq_true] at f
    rcases List.mem_cons.mp hu with rfl | hu
    · rw [eqU_of r f.1]; exact eqAt_V r rx f.1 fx
    · exact mem_eqAt rx fx t f.2 u' hu
noncomputable def inV (x : V) (xs : List V) : Bool := xs.any fun y => eqV y x
noncomputable def rIn (K : Fg) (neg : Bool) : R2 := fun x y H Q => ∃ p xs, y = .ref p /\ (SqL K H p xs \/ SqT K H p xs) /\ flatV x = true /\ xs.all flatV = true /\ Q (.bl (if neg then !inV x xs else inV x xs)) H
theorem op_in_seq : OpR X (compareOp .In) (rIn X.K false) := by
  intro pins s σ H x y v u Q I rx ry h
  obtain ⟨p, xs, rfl, hq, fx, fs, q⟩ := h
  cases ry
  rcases hq with hq | hq
  · obtain ⟨its, r, pl, hz⟩ := I.list hq
    refine SeqAt.in_listAt (eqU x) pl.isList (fun w hw => mem_eqAt rx fx r fs w (by simpa using hw)) ⟨.bl _, H, I, rfl, ?_⟩
    rw [show its.toArray.any (eqU x) = its.any (eqU x) by simp, any_eqU r fs]
    exact q
  · obtain ⟨its, r, pl, hz⟩ := I.tuple hq
    refine SeqAt.in_tupleAt (eqU x) pl (fun w hw => mem_eqAt rx fx r fs w (by simpa using hw)) ⟨.bl _, H, I, rfl, ?_⟩
    rw [show its.toArray.any (eqU x) = its.any (eqU x) by simp, any_eqU r fs]
    exact q
theorem op_notIn_seq : OpR X (compareOp .NotIn) (rIn X.K true) := by
  intro pins s σ H x y v u Q I rx ry h
  obtain ⟨p, xs, rfl, hq, fx, fs, q⟩ := h
  cases ry
  rcases hq with hq | hq
  · obtain ⟨its, r, pl, hz⟩ := I.list hq
    refine SeqAt.notIn_listAt (eqU x) pl.isList (fun w hw => mem_eqAt rx fx r fs w (by simpa using hw)) ⟨.bl _, H, I, rfl, ?_⟩
    rw [show its.toArray.any (eqU x) = its.any (eqU x) by simp, any_eqU r fs]
    exact q
  · obtain ⟨its, r, pl, hz⟩ := I.tuple hq
    refine SeqAt.notIn_tupleAt (eqU x) pl (fun w hw => mem_eqAt rx fx r fs w (by simpa using hw)) ⟨.bl _, H, I, rfl, ?_⟩
    rw [show its.toArray.any (eqU x) = its.any (eqU x) by simp, any_eqU r fs]
    exact q
theorem call_len_seq : CallR X (.builtin "len") (fun xs H Q => ∃ p ys, xs = [.ref p] /\ (SqL X.K H p ys \/ SqT X.K H p ys) /\ Q (.int ys.length) H) := by
  intro pins s σ H xs us Q I r h
  obtain ⟨p, ys, rfl, hq, q⟩ := h
  obtain ⟨u, rfl, rx⟩ := vals1 r
  cases rx
  have hn := line63
  rcases hq with hq | hq
  · obtain ⟨its, r', pl, hz⟩ := I.list hq
    have hlen := r'.length
    exact Calls.call_len_list pl.isList (by simp only [List.size_toArray] <;> lia) ⟨.int ys.length, H, I.tok _, ⟨s.toks + 1, by rw [List.size_toArray, hlen]⟩, q⟩
  · obtain ⟨its, r', pl, hz⟩ := I.tuple hq
    have hlen := r'.length
    exact len_tuple pl (by simp only [List.size_toArray] <;> lia) ⟨.int ys.length, H, I.tok _, ⟨s.toks + 1, by rw [List.size_toArray, hlen]⟩, q⟩
theorem call_len_str : CallR X (.builtin "len") (fun xs H Q => ∃ z, xs = [.str z] /\ z.length <= sizeLine /\ Q (.int z.length) H) := by
  intro pins s σ H xs us Q I r h
  obtain ⟨z, rfl, hz, q⟩ := h
  obtain ⟨u, rfl, t, rfl⟩ := vals1 r
  have hn := line63
  exact len_str (by lia) ⟨.int z.length, H, I.tok _, ⟨_, rfl⟩, q⟩
theorem CallR.or {f : Value} {r r' : List V -> Hp -> VK -> Prop} (h : CallR X f r) (h' : CallR X f r') : CallR X f (fun xs H Q => r xs H Q \/ r' xs H Q) := by
  intro pins s σ H xs us Q I rs q
  rcases q with q | q
  · exact h pins s σ H xs us Q I rs q
  · exact h' pins s σ H xs us Q I rs q
theorem call_tuple_of : CallR X (.type "tuple") (fun xs H Q => ∃ p ys, xs = [.ref p] /\ ((SqL X.K H p ys /\ ∀ l, H l = none -> Q (.ref l) (upd H l (.tup ys))) \/ (SqT X.K H p ys /\ Q (.ref p) H))) := by
  intro pins s σ H xs us Q I r h
  obtain ⟨p, ys, rfl, h⟩ := h
  obtain ⟨u, rfl, rx⟩ := vals1 r
  cases rx
  rcases h with ⟨hq, q⟩ | ⟨hq, q⟩
  · obtain ⟨its, r', pl, hz⟩ := I.list hq
    have hlen := r'.length
    refine call_tuple_list pl.isList (fun h' kp => ?_) (by simp only [List.size_toArray] <;> lia)
    have I1 : Inv X pins σ H { s with heap := h' } := I.kept (t' := s.toks) kp
    have I2 : Inv X pins σ (upd H h'.objs.size (.tup ys)) { s with heap := h'.push { cls := .type "tuple", data := .seq its.toArray } } :=
      I1.laid (t' := s.toks) (fun b o e => Heap.get?_push_of_some _ e) (Nat.le_refl _) (show ObjOk X.prog X.w _ _ _ (.tup ys) from ⟨hz, its, r', IsTup.new _ _⟩)
    exact ⟨.ref h'.objs.size, _, I2, rfl, q _ (I1.hok.fresh (Nat.le_refl _))⟩
  · obtain ⟨its, r', pl, hz⟩ := I.tuple hq
    exact call_tuple_same pl ⟨.ref p, H, I, rfl, q⟩
noncomputable def tyV (K : Fg) (T : String) (x : V) (H : Hp) : Prop := match x with
  | .str _ => T = "str"
  | .int _ => T = "int"
  | .ref p => (T = "list" /\ ∃ xs, SqL K H p xs) \/ (T = "tuple" /\ ∃ o, K.lookup p = some o /\ o.cls = .type "tuple" /\ o.dict = none) \/
      (T = "dict" /\ ((∃ kvs, H p = some (.dK kvs)) \/ ∃ kvs, H p = some (.dT kvs))) \/ (T = "set" /\ ∃ S n, H p = some (.set S n))
  | _ => False
theorem tyV_is {pins : List (Addr × Obj)} {σ : St} {H : Hp} {s : Shared} {T : String} {x : V} {v : Value} (I : Inv X pins σ H s) (r : wU x v) (ty : tyV X.K T x H) :
    s.TypeIs v T /\ ∀ a, v = .ref a -> ∃ ob, s.heap.get? a = some ob /\ ob.dict = none := by
  cases x with
  | str z =>
    obtain ⟨t, rfl⟩ := r
    cases (show T = "str" from ty)
    exact ⟨typeIs_str s z t, fun _ e => nomatch e⟩
  | int i =>
    obtain ⟨t, rfl⟩ := r
    cases (show T = "int" from ty)
    exact ⟨typeIs_int s i t, fun _ e => nomatch e⟩
  | ref p =>
    cases r
    rcases ty with ⟨rfl, xs, hq⟩ | ⟨rfl, o, hk, hc, hd⟩ | ⟨rfl, hk⟩ | ⟨rfl, S, n, hk⟩
    · obtain ⟨its, _, pl, _⟩ := I.list hq
      refine ⟨pl.isList.typeIs, fun a e => ?_⟩
      cases e
      obtain ⟨o, n, e, c, hd, _⟩ := pl
      exact ⟨o, e, hd⟩
    · refine ⟨⟨o, I.kIn p o hk, hc⟩, fun a e => ?_⟩
      cases e
      exact ⟨o, I.kIn _ o hk, hd⟩
    · have z : ∃ o, s.heap.get? p = some o /\ o.ExactDict := by
        rcases hk with ⟨kvs, hk⟩ | ⟨kvs, hk⟩
        · obtain ⟨_, _, _, _, o, _, _, e, ex, _⟩ := I.hok p _ hk
          exact ⟨o, e, ex⟩
        · obtain ⟨_, _, _, _, o, _, _, e, ex, _⟩ := I.hok p _ hk
          exact ⟨o, e, ex⟩
      obtain ⟨o, e, ex⟩ := z
      refine ⟨⟨o, e, ex.1⟩, fun a e2 => ?_⟩
      cases e2
      exact ⟨o, e, ex.2.1⟩
    · obtain ⟨o, _, _, _, e, ex, _⟩ := I.hok p _ hk
      refine ⟨⟨o, e, ex.1⟩, fun a e2 => ?_⟩
      cases e2
      exact ⟨o, e, ex.2.1⟩
  | _ => exact False.elim ty
noncomputable def tBM0 (K : Fg) (T : String) (r : V -> List V -> Hp -> VK -> Prop) (to : TE) : TE := fun σ H Q => to σ H fun x H1 => tyV K T x H1 /\ r x [] H1 Q
noncomputable def tBM (K : Fg) (T : String) (r : V -> List V -> Hp -> VK -> Prop) (to : TE) (t : TA) : TE := fun σ H Q => to σ H fun x H1 => tyV K T x H1 /\ t σ H1 fun xs H2 => r x xs H2 Q
variable {o e : Expr} {es : List Expr} {to : TE} {t : TA} {name : Str} {apos cpos : Pos} {T id : String} {r : V -> List V -> Hp -> VK -> Prop}
theorem pe_bm0 (pa : PlainAttrs T) (slot : Slot T name id) (hty : typeOf (.builtin id) = pure (.type "method_descriptor")) (hm : MtR X id r) (ho : PE X o to)
    (hbase : attributeBase o name X.env (eval o X.env) = eval o X.env := by rfl) (hline : (apos.endLine == cpos.line) = true := by rfl) : PE X (.Call (.Attribute o name apos) [] [] cpos) (tBM0 X.K T r to) := by
  intro pins s σ H Q I h
  refine wpAny_Call_method0_late hbase hline (thn (ho pins s σ H _ I h) fun v s1 ⟨x, H1, I1, r1, ty, q1⟩ => ?_)
  obtain ⟨h1, h2⟩ := tyV_is I1 r1 ty
  exact ⟨T, id, pa, slot, hty, h1, h2, Calls.callWith_builtin rfl (PySem.evalArgs_none (hm pins s1 σ H1 x [] v [] Q I1 r1 .nil q1))⟩
theorem pe_bm (pa : PlainAttrs T) (slot : Slot T name id) (hty : typeOf (.builtin id) = pure (.type "method_descriptor")) (hm : MtR X id r) (ho : PE X o to) (ha : PA X (e :: es) t)
    (hbase : attributeBase o name X.env (eval o X.env) = eval o X.env := by rfl)
    (hfew : ((backTo cpos (starEach (e :: es) X.env)).all (fun x => !x.1) && (backToKw cpos (keywordEach [] X.env)).all (fun x => x.1.isSome)
      && decide ((e :: es).length + ([] : List Keyword).length + (if ([] : List Keyword).isEmpty then 0 else 1) < 30)) = true := by rfl)
    (hline : (apos.endLine == cpos.line) = true := by rfl) (hs : starEach (e :: es) X.env = (false, eval e X.env) :: starEach es X.env := by rfl) (hplain : (backTo cpos (starEach es X.env)).any (·.1) = false := by rfl) :
    PE X (.Call (.Attribute o name apos) (e :: es) [] cpos) (tBM X.K T r to t) := by
  intro pins s σ H Q I h
  refine wpAny_Call_method_late hbase hfew hline rfl (thn (ho pins s σ H _ I h) fun v s1 ⟨x, H1, I1, r1, ty, q1⟩ => ?_)
  obtain ⟨h1, h2⟩ := tyV_is I1 r1 ty
  refine ⟨T, id, pa, slot, hty, h1, h2, ?_⟩
  have hA := ha cpos pins s1 σ H1 _ I1 q1
  rw [hs] at hA ⊢
  refine Calls.callWith_builtin (by show (false || (backTo cpos (starEach es X.env)).any (·.1)) = false; rw [hplain] <;> rfl) (Calls.evalArgs_plain ?_)
  exact thn hA fun us s2 ⟨vs, H2, I2, r2, q2⟩ => hm pins s2 σ H2 x vs v us Q I2 r1 r2 q2
end
end L2
namespace L2
open PySem PySem.Spec PyProof.Rows
noncomputable def MtM (X : Cx) (id : String) (r : V -> List V -> Hp -> VK -> Prop) : Prop :=
  ∀ (pins : List (Addr × Obj)) (s : Shared) (σ : St) (H : Hp) (x : V) (xs : List V) (v : Value) (us : List Value) (Q : VK), Inv X pins σ H s -> wU x v -> yU xs us -> r x xs H Q ->
    wpAny (model X.prog X.w) X.A (call (.builtin id) (v :: us)) (EP X pins σ Q) X.xe s
theorem yU.one : ∀ {x : V} {us : List Value}, yU [x] us -> ∃ u, us = [u] /\ wU x u
  | _, _, h => by
    cases h with
    | cons r h => cases h; exact ⟨_, rfl, r⟩
theorem yU.two : ∀ {x y : V} {us : List Value}, yU [x, y] us -> ∃ u v, us = [u, v] /\ wU x u /\ wU y v
  | _, _, _, h => by
    cases h with
    | cons r h => obtain ⟨v, rfl, q⟩ := yU.one h; exact ⟨_, _, rfl, r, q⟩
theorem yU.zero : ∀ {us : List Value}, yU [] us -> us = []
  | _, .nil => rfl
theorem yU.dropLast {xs : List V} {us : List Value} (h : yU xs us) : yU xs.dropLast us.dropLast := by
  induction h with
  | nil => exact .nil
  | cons r t ih =>
    cases t with
    | nil => exact .nil
    | cons q t' => exact .cons r ih
theorem yU.reverse {xs : List V} {us : List Value} (h : yU xs us) : yU xs.reverse us.reverse := by
  induction h with
  | nil => exact .nil
  | cons r t ih => rw [List.reverse_cons, List.reverse_cons]; exact yU.append ih (.cons r .nil)
theorem erase_last {α : Type} (l : List α) : l.eraseIdx (l.length - 1) = l.dropLast := by
  induction l with
  | nil => rfl
  | cons a r ih =>
    cases r with
    | nil => rfl
    | cons b r =>
      have e : (a :: b :: r).length - 1 = ((b :: r).length - 1) + 1 := by
        have h1 : (a :: b :: r).length = r.length + 2 := rfl
        have h2 : (b :: r).length = r.length + 1 := rfl
        lia
      rw [e, List.eraseIdx_cons_succ, ih]
      all_goals rfl
section
variable {X : Cx} {pins : List (Addr × Obj)} {σ : St} {H : Hp} {s : Shared} {l b : Addr} {xs ys zs : List V}
theorem Inv.lset {its its' : List Value} {n : Nat} {f : Array Value -> Array Value} {t' : Nat} (I : Inv X pins σ H s) (hH : H l = some (.lst xs))
    (e : s.heap.get? l = some { cls := .type "list", data := .seq its.toArray n }) (hf : f its.toArray = its'.toArray) (hv : yU ys its') (hz : ys.length <= sizeLine) :
    Inv X pins σ (upd H l (.lst ys)) { s with heap := s.heap.update l (Obj.mapSeq f), toks := t' } := by
  have q := PySem.IsL.update e f
  rw [hf] at q
  refine I.write (x := l) (e := l) (by rw [hH]; exact trivial) (.inl rfl) (fun b' u hb hu => (Heap.get?_update_other s.heap (Obj.mapSeq f) (Ne.symm hb)).trans hu) ⟨_, q⟩ ?_
  exact ⟨hz, its', _, hv, q⟩
theorem Inv.lnew {its : List Value} {t' : Nat} (I : Inv X pins σ H s) (hv : yU ys its) (hz : ys.length <= sizeLine) :
    Inv X pins σ (upd H s.heap.objs.size (.lst ys)) { s with heap := s.heap.push { cls := .type "list", data := .seq its.toArray }, toks := t' } :=
  I.laid (fun _ _ q => Heap.get?_push_of_some _ q) (Nat.le_refl _) ⟨hz, its, 0, hv, Heap.get?_push_size _ rfl⟩
theorem Inv.fresh (I : Inv X pins σ H s) : H s.heap.objs.size = none := I.hok.fresh (Nat.le_refl _)
theorem Inv.lstM (I : Inv X pins σ H s) (hH : H l = some (.lst xs)) : xs.length <= sizeLine /\ ∃ (its : List Value) (n : Nat), yU xs its /\ xs.length = its.length /\ s.heap.get? l = some { cls := .type "list", data := .seq its.toArray n } := by
  obtain ⟨z, its, n, r, e⟩ := I.hok l _ hH
  exact ⟨z, its, n, r, r.length, e⟩
theorem notLongL {n : Nat} (h : n <= sizeLine) : Builtin.List.listTooLong n = false := by
  unfold Builtin.List.listTooLong
  exact decide_eq_false (by lia)
end
section
variable {X : Cx}
noncomputable def rAppend : V -> List V -> Hp -> VK -> Prop := fun x vs H Q => ∃ l xs y, x = .ref l /\ vs = [y] /\ H l = some (.lst xs) /\ xs.length < sizeLine /\ Q .non (upd H l (.lst (xs ++ [y])))
theorem mt_append : MtM X "list.append" rAppend := by
  intro pins s σ H x vs v us Q I rx rv h
  obtain ⟨l, xs, y, rfl, rfl, hH, hz, q⟩ := h
  cases rx
  obtain ⟨u, rfl, ru⟩ := rv.one
  obtain ⟨z, its, n, r, hl, e⟩ := I.lstM hH
  refine call_meets F.slot_list_append ⟨_, e, rfl⟩ F.entry_list_append (F.args_list_append_2 _ _) (PySem.list_append l its.toArray n u (by rw [List.size_toArray]; lia)) ⟨e, ?_⟩
  refine ⟨.non, _, I.lset (its' := its ++ [u]) hH e (by simp) (r.append (.cons ru .nil)) ?_, rfl, q⟩
  rw [List.length_append, List.length_singleton]
  lia
noncomputable def rPop : V -> List V -> Hp -> VK -> Prop := fun x vs H Q => ∃ l xs y, x = .ref l /\ vs = [] /\ H l = some (.lst xs) /\ xs[xs.length - 1]? = some y /\ Q y (upd H l (.lst xs.dropLast))
theorem mt_pop : MtM X "list.pop" rPop := by
  intro pins s σ H x vs v us Q I rx rv h
  obtain ⟨l, xs, y, rfl, rfl, hH, hy, q⟩ := h
  cases rx
  have hus := rv.zero
  subst hus
  obtain ⟨z, its, n, r, hl, e⟩ := I.lstM hH
  obtain ⟨u, hu, ru⟩ := r.get hy
  have hy' : its.toArray[its.toArray.size - 1]? = some u := by
    show its.toArray[its.length - 1]? = some u
    rw [<- Array.getElem?_toList, <- hl]
    exact hu
  refine call_meets F.slot_list_pop ⟨_, e, rfl⟩ F.entry_list_pop (F.args_list_pop_1 _) (MeetsSeq.list_pop_last l its.toArray n u hy' (by rw [List.size_toArray]; lia)) ⟨e, ?_⟩
  refine ⟨y, _, I.lset (its' := its.dropLast) hH e ?_ r.dropLast ?_, ru, q⟩
  · show its.toArray.eraseIdxIfInBounds (its.toArray.size - 1) = its.dropLast.toArray
    rw [List.size_toArray, List.eraseIdxIfInBounds_toArray, erase_last]
  · rw [List.length_dropLast]
    lia
end
end L2
namespace Att
open PySem PySem.W PySem.Calls PyProof.Rows
theorem ints_of_wellAll {P : Params} {h : Heap} : ∀ (ns : List Int) (vs : List Value), WellAll P h vs (ns.map WData.int) -> IntsAre vs ns := by
  intro ns
  induction ns with
  | nil =>
    intro vs w
    rw [List.map_nil] at w
    cases w
    exact .nil
  | cons n ns ih =>
    intro vs w
    rw [List.map_cons] at w
    cases w with
    | cons a b =>
      cases a
      exact .cons _ _ (ih _ b)
theorem script_of {l : OpenLaw} {n : Nat} (hn : l.most = some n) {P : Params} {h : Heap} {args : List WData} {vals : List Value}
    (hpre : l.row.toRowW.claim.pre args = true) (hwl : WellAll P h vals args) :
    ∃ a vs ns, vals = [Value.ref a] /\ args = [WData.list (ns.map WData.int)] /\ h.get? a = some { cls := .type "list", data := .seq vs.toArray } /\ IntsAre vs ns /\ ns.length <= n := by
  have hsh : WShape.hasAll [] args [.list .int] = true := (pre_splitW hpre).1
  have hc : l.pre.holds [] { args := args } = true := (pre_splitW hpre).2
  obtain ⟨d, r, rfl, h1, h2⟩ := hasAllW_cons hsh
  obtain rfl := hasAllW_nil h2
  obtain ⟨xs, rfl, h3⟩ := hasW_list h1
  obtain ⟨ns, rfl⟩ := items_int h3
  have hlen : ns.length <= n := by
    unfold OpenLaw.pre at hc
    have h4 : (WTm.not (.lt (.lit (.int (n : Int))) (.len (.arg 0)))).holds [] { args := [.list (ns.map .int)] } = true := by
      have h4 := (holds_andW hc).1
      rw [hn] at h4
      exact h4
    have h5 := condW_of h4 (w_not (w_lt w_lit (w_len_list (w_arg rfl))))
    rw [List.length_map] at h5
    refine Nat.le_of_not_lt fun q => ?_
    have q' : (n : Int) < ((ns.length : Nat) : Int) := by lia
    first
      | (rw [decide_eq_true q'] at h5; exact absurd h5 (by decide))
      | (simp at h5; lia)
  cases hwl with
  | cons w1 w2 =>
    cases w2
    cases w1 with
    | list ho hall => exact ⟨_, _, ns, rfl, rfl, ho, ints_of_wellAll ns _ hall, hlen⟩
theorem post_true (l : OpenLaw) (args : List WData) : l.row.toRowW.claim.post args (.bool true) args = true :=
  postW_of (r := l.row.toRowW) (X := (true == true))
    (show WShape.has [] (.bool true) .bool = true by first | rfl | decide | simp [WShape.has, WShape.arms, WShape.armsAll])
    (show (WTm.eq .res (.lit (.bool true))).value [] { args := args, res := some (.bool true), after := args } = some (.bool (true == true)) from w_eq_bool (w_res rfl) w_lit) rfl
theorem attach_call {l : OpenLaw} {n : Nat} {q : Program} {loose : List Str} {XP : (Str -> Option Value) -> Heap -> Prop} {YP : World -> Heap -> Prop} {d : DefRec}
    (hn : l.most = some n) (hdf : d.params.defaults = [])
    (call : ∀ (w : World) (s₀ s₁ : Shared) (mg mb : Str -> Option Value) (fa : Addr) (o : Obj) (pm cd doc : Value) (a : Addr) (vs : List Value) (ns : List Int),
      Ground q loose [] XP w s₀ mg mb s₁.heap -> YP w s₁.heap ->
      s₁.heap.get? fa = some o -> o.data = .func (docDef d.name d.params d.body d.scope pm cd doc) -> s₁.heap.CodeRec cd d.name -> mg d.name = some (.ref fa) ->
      s₁.heap.get? a = some { cls := .type "list", data := .seq vs.toArray } -> IntsAre vs ns -> ns.length <= n -> s₁.gens = #[] ->
      codeAny (model l.prog w) callerA (.call (.ref fa) ⟨[.ref a], []⟩) (fun r s' => r = .ok (.ret (.bool true)) /\ OldK s₁.heap s'.heap /\ s'.os = s₁.os /\ AllBare s'.gens) s₁) :
    WalkO q loose XP YP l.row.toRowW d [] (fun f vs => PySem.call f vs) := by
  intro w s₀ s₁ mg mb G Y fa o pm cd doc dV kV ho hd hcd hD hmg hg args vals as hpre hlay hrd hwl hlo
  obtain rfl : dV = .none := Dflts.none hD hdf
  obtain rfl : kV = .none := Dflts.noKw hD
  obtain ⟨a, vs, ns, rfl, rfl, hobj, hints, hlen⟩ := script_of hn hpre hwl
  refine enter_call (codeAny_mono (call w s₀ s₁ mg mb fa o pm cd doc a vs ns G Y ho (fd_plain hd) hcd hmg hobj hints hlen hg) fun r s' hq => ?_)
  obtain ⟨rfl, h2, h3, h4⟩ := hq
  exact ⟨.inl ⟨.bool true, .bool true, [], rfl, fun _ => rfl, .bool true, post_true l _, fun _ => ⟨List.Pairwise.nil, fun _ hm => (nomatch hm)⟩⟩, h2, h3, h4⟩
end Att
namespace L2
open PySem PySem.Spec PyProof.Rows
theorem vals_ints : ∀ {vs : List Value} {ns : List Int}, IntsAre vs ns -> yU (ns.map V.int) vs
  | _, _, .nil => .nil
  | _, _, .cons n t h => .cons ⟨t, rfl⟩ (vals_ints h)
noncomputable def Only (H : Hp) : Prop := ∀ b, H b = none \/ ∃ o xs, H b = some (.frz o (.lst xs))
theorem law_call {P : Program} {w : World} {K : Fg} {mg mb : Str -> Option Value} {CX : CXT} {k : Nat} {fa a : Addr} {fd : FuncData} {x : Str} {sp : Sp} {s₁ : Shared} {vs : List Value} {ns : List Int}
    (KX : K.In s₁.heap) (hns : s₁.heap.Ns mainGlobals mg) (hb : s₁.heap.Ns builtinsNs mb) (hbb : ∀ x : Str, x ≠ "__name__" -> mb x = bootBuiltins x) (hlim : s₁.heap.NoLimit) (hg : s₁.gens = #[])
    (ha : s₁.heap.get? a = some { cls := .type "list", data := .seq vs.toArray }) (hi : IntsAre vs ns) (hl : ns.length <= sizeLine) (hr : Room k callerA)
    (F : ∀ base : Heap, K.In base -> base.Ns mainGlobals mg -> FnOk P w K mg base CX k fa fd [x] sp) (hbind : ∀ (s : Shared) (u : Value), BindsTo s fd ⟨[u], []⟩ [(x, u)])
    (hsp : ∀ H : Hp, Only H -> SqL K H a (ns.map V.int) -> sp [.ref a] H (fun v _ => v = .bl true) fun _ _ _ => False)
    (hCX : ∀ H e s', CX [] H s₁ (fun _ _ _ => False) e s' -> False) :
    codeAny (model P w) callerA (.call (.ref fa) ⟨[.ref a], []⟩) (fun r s' => r = .ok (.ret (.bool true)) /\ OldK s₁.heap s'.heap /\ s'.os = s₁.os /\ AllBare s'.gens) s₁ := by
  have rv := vals_ints hi
  have lenV := hi.length
  have core : ∀ H : Hp, Only H -> SqL K H a (ns.map V.int) -> HOk P w H s₁.heap -> (∀ b, H b ≠ none -> b = a) -> (H a ≠ none -> K.lookup a = none) ->
      codeAny (model P w) callerA (.call (.ref fa) ⟨[.ref a], []⟩) (fun r s' => r = .ok (.ret (.bool true)) /\ OldK s₁.heap s'.heap /\ s'.os = s₁.os /\ AllBare s'.gens) s₁ := by
    intro H hO hS hok hA hK
    have base_of : ∀ {b : Addr} {o : Obj}, s₁.heap.get? b = some o -> H b = none -> (hidT s₁.heap H).get? b = some o := fun e n => hidT_get e n
    have noA : ∀ {b : Addr} {o : Obj} {es : Array DictEntry} {ep : Nat}, s₁.heap.get? b = some o -> o.data = .dict es ep -> H b = none := fun {b o es ep} e d => by
      cases q : H b with
      | none => rfl
      | some u =>
        have e' : b = a := hA b (by rw [q]; simp)
        subst e'
        rw [ha] at e; cases e
        have d' : Data.seq vs.toArray _ = Data.dict es ep := d
        cases d'
    have nsK : ∀ {b : Addr} {m : Str -> Option Value}, s₁.heap.Ns b m -> (hidT s₁.heap H).Ns b m := fun {b m} ⟨o, es, ep, e, d, r⟩ => ⟨o, es, ep, base_of e (noA e d), d, r⟩
    have hKb : K.In (hidT s₁.heap H) := fun b o e => base_of (KX b o e) (by
      cases q : H b with
      | none => rfl
      | some u =>
        have e' : b = a := hA b (by rw [q]; simp)
        subst e'
        rw [hK (by rw [q]; simp)] at e; cases e)
    have hM : Mod K mg (hidT s₁.heap H) := ⟨hKb, nsK hns, ⟨mb, nsK hb, hbb⟩, let ⟨mc, h1, h2⟩ := hlim; ⟨mc, nsK h1, h2⟩⟩
    have e0 : Env0 P w K mg (hidT s₁.heap H) callerA [] s₁ H := ⟨rfl, hM, fun b o e => of_hidT e, Nat.le_of_eq (hidT_size _ _), trivial, ⟨fun b hb => absurd (show b ∈ ([] : List Addr) from hb) (by simp), trivial⟩, hok, .of_eq hg⟩
    refine codeAny_mono ((F _ hKb (nsK hns)).run callerA [] s₁ H ⟨[.ref a], []⟩ [.ref a] [.ref a] _ _ hr e0 (hbind s₁ (.ref a)) (.cons rfl .nil) (hsp H hO hS)) fun r s' h => ?_
    cases r with
    | error e => exact (hCX H e s' h).elim
    | ok fl =>
      cases fl with
      | next => exact False.elim h
      | brk => exact False.elim h
      | cont => exact False.elim h
      | ret u =>
        obtain ⟨v, H', os, bare, un, hok', r', q⟩ := h
        have q' : v = .bl true := q
        subst q'
        obtain rfl : u = Value.bool true := r'
        refine ⟨rfl, OldK.of_keep fun b o e => ?_, os, bare⟩
        cases q : H b with
        | none => exact un.keep b o e q (by intro z; exact absurd (show b ∈ ([] : List Addr) from z) (by simp)) (by simp)
        | some u =>
          rcases hO b with z | ⟨ob, xs, z⟩
          · rw [q] at z; cases z
          · have z2 := un.frzs b ob _ z
            obtain ⟨e1, _⟩ := hok b _ z
            obtain ⟨e2, _⟩ := hok' b _ z2
            rw [e] at e1; cases e1
            exact e2
  cases hk : K.lookup a with
  | some o =>
    have e := KX a o hk
    rw [ha] at e
    cases e
    refine core (fun _ => none) (fun _ => .inl rfl) (.inr ⟨_, vs.toArray, _, hk, rfl, rfl, rfl, by rw [List.size_toArray, lenV]; exact hl, by simpa using rv⟩) (fun b u z => by have z' : (none : Option HO) = some u := z; cases z') (fun b z => absurd rfl z) fun z => absurd rfl z
  | none =>
    refine core (fun b => if b = a then some (.frz { cls := .type "list", data := .seq vs.toArray } (.lst (ns.map V.int))) else none) (fun b => ?_) (.inl (.inr ⟨{ cls := .type "list", data := .seq vs.toArray }, if_pos rfl⟩)) (fun b u z => ?_) (fun b z => ?_) fun _ => hk
    · by_cases hb : b = a
      · exact .inr ⟨_, _, if_pos hb⟩
      · exact .inl (if_neg hb)
    · by_cases hb : b = a
      · have z' := (if_pos hb).symm.trans z
        cases z'
        subst hb
        exact ⟨ha, by rw [List.length_map]; exact hl, vs, _, rv, ha⟩
      · have z' := (if_neg hb).symm.trans z
        cases z'
    · by_cases hb : b = a
      · exact hb
      · exact absurd (if_neg hb) z
end L2
namespace L2
open PySem PySem.Spec PyProof.Rows
theorem walk_of {l : PySem.W.OpenLaw} {n k : Nat} {q : Program} {loose : List Str} {XP : (Str -> Option Value) -> Heap -> Prop} {YP : World -> Heap -> Prop} {d : DefRec} {K : Params -> Fg} {CX : World -> CXT} {sp : World -> Sp} {x : Str}
    (hn : l.most = some n) (hn2 : n <= sizeLine) (hdf : d.params.defaults = []) (hr : Room k callerA)
    (hY : ∀ (w : World) (h : Heap), YP w h -> (K w.params).In h)
    (F : ∀ (w : World) (mg : Str -> Option Value) (fa : Addr) (h : Heap), (K w.params).In h -> h.Ns mainGlobals mg -> mg d.name = some (.ref fa) ->
      ∃ fd : FuncData, (∀ (s : Shared) (u : Value), BindsTo s fd ⟨[u], []⟩ [(x, u)]) /\
        ∀ base : Heap, (K w.params).In base -> base.Ns mainGlobals mg -> FnOk l.prog w (K w.params) mg base (CX w) k fa fd [x] (sp w))
    (hsp : ∀ (w : World) (H : Hp) (a : Addr) (ns : List Int), ns.length <= n -> Only H -> SqL (K w.params) H a (ns.map V.int) -> sp w [.ref a] H (fun v _ => v = .bl true) fun _ _ _ => False)
    (hCX : ∀ (w : World) (H : Hp) (s : Shared) (e : Value) (s' : Shared), CX w [] H s (fun _ _ _ => False) e s' -> False) :
    PySem.W.WalkO q loose XP YP l.row.toRowW d [] (fun f vs => PySem.call f vs) := by
  refine Att.attach_call hn hdf fun w s₀ s₁ mg mb fa o pm cd doc a vs ns G Y ho hd hcd hmg hobj hints hlen hg => ?_
  have KX := hY w _ Y
  obtain ⟨fd, hb, hF⟩ := F w mg fa _ KX G.T.g hmg
  exact law_call KX G.T.g G.T.b G.T.builtins G.T.nolimit hg hobj hints (Nat.le_trans hlen hn2) hr hF hb (fun H hO hS => hsp w H a ns hlen hO hS) fun H e s' => hCX w H s₁ e s'
theorem walk_ofK {l : PySem.W.OpenLaw} {n k : Nat} {q : Program} {loose : List Str} {XP : (Str -> Option Value) -> Heap -> Prop} {YP : World -> Heap -> Prop} {d : DefRec} {K : Params -> Fg} {CX : CXT} {sp : Fg -> Sp} {x : Str}
    (hn : l.most = some n) (hn2 : n <= sizeLine) (hdf : d.params.defaults = []) (hr : Room k callerA)
    (hY : ∀ (w : World) (h : Heap), YP w h -> (K w.params).In h)
    (F : ∀ (w : World) (mg : Str -> Option Value) (fa : Addr) (h : Heap), (K w.params).In h -> h.Ns mainGlobals mg -> mg d.name = some (.ref fa) ->
      ∃ fd : FuncData, (∀ (s : Shared) (u : Value), BindsTo s fd ⟨[u], []⟩ [(x, u)]) /\
        ∀ base : Heap, (K w.params).In base -> base.Ns mainGlobals mg -> FnOk l.prog w (K w.params) mg base CX k fa fd [x] (sp (K w.params)))
    (hsp : ∀ (K : Fg) (H : Hp) (a : Addr) (ns : List Int), ns.length <= n -> Only H -> SqL K H a (ns.map V.int) -> sp K [.ref a] H (fun v _ => v = .bl true) fun _ _ _ => False)
    (hCX : ∀ (H : Hp) (s : Shared) (e : Value) (s' : Shared), CX [] H s (fun _ _ _ => False) e s' -> False) :
    PySem.W.WalkO q loose XP YP l.row.toRowW d [] (fun f vs => PySem.call f vs) :=
  walk_of (K := K) (CX := fun _ => CX) (sp := fun w => sp (K w.params)) hn hn2 hdf hr hY F (fun w H a ns h1 h2 h3 => hsp (K w.params) H a ns h1 h2 h3) fun _ H s e s' => hCX H s e s'
end L2
namespace L2
open PySem PySem.Spec PyProof.Rows
noncomputable def defArgs (s : Stmt) : Arguments := match s with
  | .FunctionDef _ a _ _ _ _ _ _ _ _ => a
  | _ => { posonlyargs := [], args := [], vararg := none, kwonlyargs := [], kw_defaults := [], kwarg := none, defaults := [] }
noncomputable def defBody (s : Stmt) : List Stmt := match s with
  | .FunctionDef _ _ b _ _ _ _ _ _ _ => b
  | _ => []
noncomputable def zY (s : Stmt) : Scope := match s with
  | .FunctionDef _ _ _ _ _ _ sc _ _ _ => sc
  | _ => { kind := .function, names := [], isGenerator := false, isCoroutine := false }
noncomputable abbrev CX0 : CXT := fun _ _ _ _ _ _ => False
noncomputable abbrev E0 : XK := fun _ _ _ => False
theorem pass0 {X : Cx} : Passes CX0 X E0 := fun _ _ _ _ _ _ _ h => h.elim
structure Fun (K : Fg) (x qual : Str) (st : Stmt) (f : Addr) (fd : FuncData) : Prop where
  ex : ∃ (oc : Value) (od : Option Addr) (kV doc pm : Value) (an : Option Addr) (cdv ct : Value) (osl : Array (Option Value)),
    fd = PySem.W.fnOf x qual (defArgs st) (defBody st) (zY st) .none kV doc pm an cdv ct /\ K.lookup f = some ⟨oc, od, .func fd, osl⟩ /\ PySem.W.codeIn K cdv qual = true
  kp : PySem.W.keepIn K (.ref f) = true
section
variable {P : Program} {w : World} {K : Fg} {mg : Str -> Option Value} {base : Heap}
theorem Fun.binds {x qual : Str} {st : Stmt} {f : Addr} {fd : FuncData} {ps : List Str} (F : Fun K x qual st f fd)
    (h : ∀ (kV doc pm : Value) (an : Option Addr) (cdv ct : Value) (us : List Value), us.length = ps.length -> bindArgs (PySem.W.fnOf x qual (defArgs st) (defBody st) (zY st) .none kV doc pm an cdv ct) ⟨us, []⟩ = pure (ps.zip us)) : Binds K fd ps [] := by
  obtain ⟨oc, od, kV, doc, pm, an, cdv, ct, osl, rfl, lk, hcd⟩ := F.ex
  exact .all (h kV doc pm an cdv ct)
theorem fun_mk {x qual : Str} {st : Stmt} {f : Addr} {oc : Value} {od an : Option Addr} {osl : Array (Option Value)} {kV doc pm cdv ct : Value} (l : K.lookup f = some ⟨oc, od, .func (PySem.W.fnOf x qual (defArgs st) (defBody st) (zY st) .none kV doc pm an cdv ct), osl⟩)
    (c : PySem.W.codeIn K cdv qual = true) (k : PySem.W.keepIn K (.ref f) = true) : Fun K x qual st f (PySem.W.fnOf x qual (defArgs st) (defBody st) (zY st) .none kV doc pm an cdv ct) := ⟨⟨oc, od, kV, doc, pm, an, cdv, ct, osl, rfl, l, c⟩, k⟩
end
section
variable {X : Cx}
theorem pv (i : Nat) {x : Str} {pos : Pos} (hN : X.N[i]? = some x := by rfl) (hv : Vis X.env.scope x := by first | exact Or.inl rfl | exact Or.inr (Or.inl rfl) | exact Or.inr (Or.inr rfl)) (hd : (x == ("__debug__" : Str)) = false := by decide)
    (hcd : (x == ("__classdict__" : Str)) = false := by decide) : PE X (.Name x pos) (tVar i) := pe_var hN hv hd hcd
end
theorem iteF {A B : Prop} (h : B) : if false = true then A else B := by
  rw [if_neg Bool.false_ne_true]
  exact h
theorem iteT {A B : Prop} (h : A) : if true = true then A else B := by
  rw [if_pos rfl]
  exact h
noncomputable def zZ (H H' : Hp) : Prop := ∀ b o, H b = some o -> H' b = some o
theorem zZ.refl (H : Hp) : zZ H H := fun _ _ h => h
theorem zZ.trans {H H1 H2 : Hp} (a : zZ H H1) (b : zZ H1 H2) : zZ H H2 := fun c o h => b c o (a c o h)
theorem zZ.free {H H' : Hp} (e : zZ H H') {l : Addr} (h : H' l = Option.none) : H l = Option.none := by
  cases q : H l with
  | none => rfl
  | some o =>
    rw [e l o q] at h
    cases h
theorem zZ.seq {K : Fg} {H H' : Hp} {a : Addr} {xs : List V} (e : zZ H H') (h : SqL K H a xs) : SqL K H' a xs := by
  rcases h with (h | ⟨o, h⟩) | h
  · exact .inl (.inl (e _ _ h))
  · exact .inl (.inr ⟨o, e _ _ h⟩)
  · exact .inr h
end L2
namespace DD
open PySem PySem.Spec PyProof.Rows L2
noncomputable abbrev St := L2.St
inductive D where
  | non | bl (b : Bool) | int (i : Int) | str (s : List Nat) | tup (l : List D) | lst (l : List D) | ty (n : String) | ref (a : Addr) | dct (ks : List Key) (l : List D)
noncomputable def LsAt (K : Fg) (O : Addr -> Prop) (H : Hp) (a : Addr) (xs : List V) : Prop :=
  (¬ O a /\ Rd H a (.lst xs)) \/ ∃ (o : Obj) (its : Array Value) (n : Nat), K.lookup a = some o /\ o.cls = .type "list" /\ o.dict = none /\ o.data = .seq its n /\ its.size <= sizeLine /\ yU xs its.toList
theorem LsAt.sq {K : Fg} {O : Addr -> Prop} {H : Hp} {a : Addr} {xs : List V} (h : LsAt K O H a xs) : SqL K H a xs := h.imp (·.2) id
mutual
noncomputable def Is (K : Fg) (O : Addr -> Prop) (H : Hp) : D -> V -> Prop
  | .non, v => v = .non
  | .bl b, v => v = .bl b
  | .int i, v => v = .int i
  | .str s, v => v = .str ⟨s.toArray⟩
  | .ty n, v => v = .ty n
  | .ref a, v => v = .ref a
  | .tup l, v => ∃ a xs, v = .ref a /\ SqT K H a xs /\ IsL K O H l xs
  | .lst l, v => ∃ a xs, v = .ref a /\ LsAt K O H a xs /\ IsL K O H l xs
  | .dct ks l, v => ∃ a kvs, v = .ref a /\ ¬ O a /\ Rd H a (.dK kvs) /\ kvs.map (·.1) = ks /\ IsL K O H l (kvs.map (·.2))
noncomputable def IsL (K : Fg) (O : Addr -> Prop) (H : Hp) : List D -> List V -> Prop
  | [], vs => vs = []
  | d :: l, vs => ∃ v r, vs = v :: r /\ Is K O H d v /\ IsL K O H l r
end
noncomputable def Mb : HO -> Prop
  | .lst _ => True
  | .dK _ => True
  | .frz _ (.dK _) => True
  | _ => False
noncomputable def OLst (O : Addr -> Prop) (H : Hp) : Prop := ∀ a, O a -> ∃ o, H a = some o /\ Mb o
noncomputable def Keep (O : Addr -> Prop) (H H' : Hp) : Prop := ∀ b o, H b = some o -> ¬ O b -> H' b = some o
theorem Rd.some {H : Hp} {a : Addr} {u : HO} (h : Rd H a u) : ∃ o, H a = some o := by
  rcases h with h | ⟨o, h⟩
  · exact ⟨_, h⟩
  · exact ⟨_, h⟩
theorem SqT.keep {K : Fg} {O : Addr -> Prop} {H H' : Hp} {a : Addr} {xs : List V} (k : Keep O H H') (o : OLst O H) (h : SqT K H a xs) : SqT K H' a xs := by
  rcases h with (h | ⟨ob, h⟩) | h
  · exact .inl (.inl (k _ _ h fun z => by obtain ⟨ys, q, m⟩ := o a z; rw [h] at q; cases q; exact m))
  · exact .inl (.inr ⟨ob, k _ _ h fun z => by obtain ⟨ys, q, m⟩ := o a z; rw [h] at q; cases q; exact m⟩)
  · exact .inr h
theorem Rd.keep {O : Addr -> Prop} {H H' : Hp} {a : Addr} {u : HO} (k : Keep O H H') (n : ¬ O a) (h : Rd H a u) : Rd H' a u := by
  rcases h with h | ⟨ob, h⟩
  · exact .inl (k _ _ h n)
  · exact .inr ⟨ob, k _ _ h n⟩
mutual
theorem Is.mono {K : Fg} {O O' : Addr -> Prop} {H H' : Hp} (k : Keep O H H') (ol : OLst O H) (oo : ∀ a, O' a -> H a ≠ none -> O a) : ∀ (d : D) (v : V), Is K O H d v -> Is K O' H' d v
  | .non, v, h => by unfold Is at h ⊢; exact h
  | .bl b, v, h => by unfold Is at h ⊢; exact h
  | .int i, v, h => by unfold Is at h ⊢; exact h
  | .str s, v, h => by unfold Is at h ⊢; exact h
  | .ty n, v, h => by unfold Is at h ⊢; exact h
  | .ref a, v, h => by unfold Is at h ⊢; exact h
  | .tup l, v, h => by
    unfold Is at h ⊢
    obtain ⟨a, xs, e, q, r⟩ := h
    exact ⟨a, xs, e, SqT.keep k ol q, IsL.mono k ol oo l xs r⟩
  | .lst l, v, h => by
    unfold Is at h ⊢
    obtain ⟨a, xs, e, nq, r⟩ := h
    refine ⟨a, xs, e, ?_, IsL.mono k ol oo l xs r⟩
    rcases nq with ⟨n, q⟩ | q
    · exact .inl ⟨fun z => n (oo a z (by obtain ⟨o, q⟩ := Rd.some q; rw [q]; simp)), Rd.keep k n q⟩
    · exact .inr q
  | .dct ks l, v, h => by
    unfold Is at h ⊢
    obtain ⟨a, kvs, e, n, q, e2, r⟩ := h
    exact ⟨a, kvs, e, fun z => n (oo a z (by obtain ⟨o, q⟩ := Rd.some q; rw [q]; simp)), Rd.keep k n q, e2, IsL.mono k ol oo l _ r⟩
theorem IsL.mono {K : Fg} {O O' : Addr -> Prop} {H H' : Hp} (k : Keep O H H') (ol : OLst O H) (oo : ∀ a, O' a -> H a ≠ none -> O a) : ∀ (l : List D) (vs : List V), IsL K O H l vs -> IsL K O' H' l vs
  | [], vs, h => by unfold IsL at h ⊢; exact h
  | d :: l, vs, h => by
    unfold IsL at h ⊢
    obtain ⟨v, r, e, h1, h2⟩ := h
    exact ⟨v, r, e, Is.mono k ol oo d v h1, IsL.mono k ol oo l r h2⟩
end
theorem zZ.kp {H H' : Hp} (s : zZ H H') (O : Addr -> Prop) : Keep O H H' := fun b o e _ => s b o e
theorem Is.same {K : Fg} {O : Addr -> Prop} {H H' : Hp} {d : D} {v : V} (s : zZ H H') (ol : OLst O H) (h : Is K O H d v) : Is K O H' d v := Is.mono (zZ.kp s O) ol (fun _ z _ => z) d v h
theorem IsL.same {K : Fg} {O : Addr -> Prop} {H H' : Hp} {l : List D} {vs : List V} (s : zZ H H') (ol : OLst O H) (h : IsL K O H l vs) : IsL K O H' l vs := IsL.mono (zZ.kp s O) ol (fun _ z _ => z) l vs h
section
variable {K : Fg} {O : Addr -> Prop} {H : Hp}
theorem IsL.length : ∀ {l : List D} {vs : List V}, IsL K O H l vs -> l.length = vs.length
  | [], vs, h => by unfold IsL at h; subst h; rfl
  | d :: l, vs, h => by unfold IsL at h; obtain ⟨v, r, rfl, _, h2⟩ := h; simp [IsL.length h2]
theorem IsL.get : ∀ {l : List D} {vs : List V} {i : Nat} {d : D}, IsL K O H l vs -> l[i]? = some d -> ∃ v, vs[i]? = some v /\ Is K O H d v
  | [], _, _, _, _, e => by simp at e
  | d :: l, vs, 0, d', h, e => by
    unfold IsL at h; obtain ⟨v, r, rfl, h1, h2⟩ := h
    simp at e; subst e; exact ⟨v, rfl, h1⟩
  | d :: l, vs, i + 1, d', h, e => by
    unfold IsL at h; obtain ⟨v, r, rfl, h1, h2⟩ := h
    obtain ⟨u, q1, q2⟩ := IsL.get (i := i) h2 (by simpa using e)
    exact ⟨u, by simpa using q1, q2⟩
theorem IsL.nil : IsL K O H [] [] := by unfold IsL; rfl
theorem IsL.cons {d : D} {v : V} {l : List D} {vs : List V} (h : Is K O H d v) (t : IsL K O H l vs) : IsL K O H (d :: l) (v :: vs) := by unfold IsL; exact ⟨v, vs, rfl, h, t⟩
theorem IsL.append : ∀ {l m : List D} {vs us : List V}, IsL K O H l vs -> IsL K O H m us -> IsL K O H (l ++ m) (vs ++ us)
  | [], _, _, _, h, t => by unfold IsL at h; subst h; exact t
  | d :: l, m, vs, us, h, t => by unfold IsL at h; obtain ⟨v, r, rfl, h1, h2⟩ := h; exact .cons h1 (IsL.append h2 t)
theorem IsL.take : ∀ {l : List D} {vs : List V} (n : Nat), IsL K O H l vs -> IsL K O H (l.take n) (vs.take n)
  | _, _, 0, _ => by simpa using IsL.nil
  | [], _, _ + 1, h => by unfold IsL at h; subst h; simpa using IsL.nil
  | d :: l, vs, n + 1, h => by unfold IsL at h; obtain ⟨v, r, rfl, h1, h2⟩ := h; exact .cons h1 (IsL.take n h2)
theorem IsL.drop : ∀ {l : List D} {vs : List V} (n : Nat), IsL K O H l vs -> IsL K O H (l.drop n) (vs.drop n)
  | _, _, 0, h => h
  | [], _, _ + 1, h => by unfold IsL at h; subst h; simpa using IsL.nil
  | d :: l, vs, n + 1, h => by unfold IsL at h; obtain ⟨v, r, rfl, h1, h2⟩ := h; exact IsL.drop n h2
theorem IsL.reverse : ∀ {l : List D} {vs : List V}, IsL K O H l vs -> IsL K O H l.reverse vs.reverse
  | [], _, h => by unfold IsL at h; subst h; exact IsL.nil
  | d :: l, vs, h => by
    unfold IsL at h; obtain ⟨v, r, rfl, h1, h2⟩ := h
    rw [List.reverse_cons, List.reverse_cons]; exact (IsL.reverse h2).append (.cons h1 .nil)
theorem IsL.inv1 {d : D} {vs : List V} (h : IsL K O H [d] vs) : ∃ v, vs = [v] /\ Is K O H d v := by
  unfold IsL at h
  obtain ⟨v, r, rfl, h1, h2⟩ := h
  unfold IsL at h2; subst h2
  exact ⟨v, rfl, h1⟩
theorem IsL.inv2 {d e : D} {vs : List V} (h : IsL K O H [d, e] vs) : ∃ v u, vs = [v, u] /\ Is K O H d v /\ Is K O H e u := by
  unfold IsL at h
  obtain ⟨v, r, rfl, h1, h2⟩ := h
  obtain ⟨u, rfl, h3⟩ := h2.inv1
  exact ⟨v, u, rfl, h1, h3⟩
theorem IsL.inv3 {d e f : D} {vs : List V} (h : IsL K O H [d, e, f] vs) : ∃ v u w, vs = [v, u, w] /\ Is K O H d v /\ Is K O H e u /\ Is K O H f w := by
  unfold IsL at h
  obtain ⟨v, r, rfl, h1, h2⟩ := h
  obtain ⟨u, w, rfl, h3, h4⟩ := h2.inv2
  exact ⟨v, u, w, rfl, h1, h3, h4⟩
theorem Is.int_iff {i : Int} {v : V} : Is K O H (.int i) v ↔ v = .int i := by unfold Is; exact Iff.rfl
theorem Is.bl_iff {b : Bool} {v : V} : Is K O H (.bl b) v ↔ v = .bl b := by unfold Is; exact Iff.rfl
theorem Is.str_iff {s : List Nat} {v : V} : Is K O H (.str s) v ↔ v = .str ⟨s.toArray⟩ := by unfold Is; exact Iff.rfl
theorem Is.non_iff {v : V} : Is K O H .non v ↔ v = .non := by unfold Is; exact Iff.rfl
theorem Is.ref_iff {a : Addr} {v : V} : Is K O H (.ref a) v ↔ v = .ref a := by unfold Is; exact Iff.rfl
theorem Is.tup_iff {l : List D} {v : V} : Is K O H (.tup l) v ↔ ∃ a xs, v = .ref a /\ SqT K H a xs /\ IsL K O H l xs := by unfold Is; exact Iff.rfl
theorem Is.lst_iff {l : List D} {v : V} : Is K O H (.lst l) v ↔ ∃ a xs, v = .ref a /\ LsAt K O H a xs /\ IsL K O H l xs := by unfold Is; exact Iff.rfl
theorem Is.dct_iff {ks : List Key} {l : List D} {v : V} : Is K O H (.dct ks l) v ↔ ∃ a kvs, v = .ref a /\ ¬ O a /\ Rd H a (.dK kvs) /\ kvs.map (·.1) = ks /\ IsL K O H l (kvs.map (·.2)) := by unfold Is; exact Iff.rfl
end
inductive Sl where
  | un | v (d : D) | o (l : List D) | p (l : List D) | z (l : List D) | d (ks : List Key) (l : List D)
noncomputable abbrev En := List Sl
noncomputable def Sl.own : Sl -> Option (List D)
  | .o l => some l
  | .p l => some l
  | .z l => some l
  | .d _ l => some l
  | _ => none
noncomputable def Sl.mt : Sl -> Option (List D)
  | .o l => some l
  | .p l => some l
  | .d _ l => some l
  | _ => none
noncomputable def Sl.ls : Sl -> Option (List D)
  | .o l => some l
  | .p l => some l
  | .z l => some l
  | _ => none
noncomputable def Sl.ml : Sl -> Option (List D)
  | .o l => some l
  | .p l => some l
  | _ => none
theorem ml_mt {x : Sl} {l : List D} (h : x.ml = some l) : x.mt = some l /\ x.ls = some l := by
  cases x <;> first | (cases h; exact ⟨rfl, rfl⟩) | cases h
theorem ls_own {x : Sl} {l : List D} (h : x.ls = some l) : x.own = some l := by
  cases x <;> first | (cases h; rfl) | cases h
theorem ls_own' {x : Option Sl} {l : List D} (h : x.bind Sl.ls = some l) : x.bind Sl.own = some l := by
  cases x with
  | none => cases h
  | some x => exact ls_own (x := x) h
theorem own_ls {x : Option Sl} {l : List D} (h : x.bind Sl.own = some l) : x.bind Sl.ls = some l \/ ∃ ks, x = some (.d ks l) := by
  cases x with
  | none => cases h
  | some x => cases x <;> first | (cases h; exact .inl rfl) | (cases h; exact .inr ⟨_, rfl⟩) | cases h
noncomputable def AtS (q : Sl -> Option (List D)) (r : En) (σ : St) (a : Addr) : Prop := ∃ (i : Nat) (l : List D), (r[i]?).bind q = some l /\ σ[i]? = some (some (.ref a))
noncomputable abbrev OwnAt := AtS Sl.own
noncomputable abbrev MutAt := AtS Sl.mt
theorem mt_own {x : Sl} {l : List D} (h : x.mt = some l) : x.own = some l := by
  cases x <;> first | (cases h; rfl) | cases h
theorem MutAt.own {r : En} {σ : St} {a : Addr} (h : MutAt r σ a) : OwnAt r σ a := by
  obtain ⟨i, l, e, q⟩ := h
  obtain ⟨x, e1, e2⟩ := Option.bind_eq_some_iff.mp e
  exact ⟨i, l, by rw [e1]; exact mt_own e2, q⟩
noncomputable def Ow (O0 : Addr -> Prop) (r : En) (σ : St) : Addr -> Prop := fun a => O0 a \/ OwnAt r σ a
structure R (K : Fg) (O0 : Addr -> Prop) (H : Hp) (r : En) (σ : St) : Prop where
  len : r.length = σ.length
  val : ∀ (i : Nat) (d : D), r[i]? = some (.v d) -> ∃ v, σ[i]? = some (some v) /\ Is K (Ow O0 r σ) H d v
  own : ∀ (i : Nat) (l : List D), (r[i]?).bind Sl.ls = some l -> ∃ a xs, σ[i]? = some (some (.ref a)) /\ H a = some (.lst xs) /\ IsL K (Ow O0 r σ) H l xs
  apart : ∀ (i j : Nat) (a : Addr) (l m : List D), (r[i]?).bind Sl.own = some l -> (r[j]?).bind Sl.own = some m -> σ[i]? = some (some (.ref a)) -> σ[j]? = some (some (.ref a)) -> i = j
  o0 : OLst O0 H
  loc : ∀ (i : Nat) (l : List D) (a : Addr), (r[i]? = some (.o l) \/ r[i]? = some (.z l) \/ ∃ ks, r[i]? = some (.d ks l)) -> σ[i]? = some (some (.ref a)) -> ¬ O0 a
  par : ∀ (i : Nat) (l : List D) (a : Addr), r[i]? = some (.p l) -> σ[i]? = some (some (.ref a)) -> O0 a
  dct : ∀ (i : Nat) (ks : List Key) (l : List D), r[i]? = some (.d ks l) -> ∃ a kvs, σ[i]? = some (some (.ref a)) /\ H a = some (.dK kvs) /\ kvs.map (·.1) = ks /\ IsL K (Ow O0 r σ) H l (kvs.map (·.2))
theorem R.obj {K : Fg} {O0 : Addr -> Prop} {H : Hp} {r : En} {σ : St} (h : R K O0 H r σ) {j : Nat} {m : List D} (e : (r[j]?).bind Sl.own = some m) : ∃ a o, σ[j]? = some (some (.ref a)) /\ H a = some o /\ Mb o := by
  rcases own_ls e with e | ⟨ks, e⟩
  · obtain ⟨a, xs, e1, e2, _⟩ := h.own j m e
    exact ⟨a, _, e1, e2, trivial⟩
  · obtain ⟨a, kvs, e1, e2, _⟩ := h.dct j ks m e
    exact ⟨a, _, e1, e2, trivial⟩
theorem R.ol {K : Fg} {O0 : Addr -> Prop} {H : Hp} {r : En} {σ : St} (h : R K O0 H r σ) : OLst (Ow O0 r σ) H := fun a z => by
  rcases z with z | ⟨i, l, e, q⟩
  · exact h.o0 a z
  · rcases own_ls e with e | ⟨ks, e⟩
    · obtain ⟨b, xs, e1, e2, _⟩ := h.own i l e
      rw [q] at e1; cases e1
      exact ⟨.lst xs, e2, trivial⟩
    · obtain ⟨b, kvs, e1, e2, _⟩ := h.dct i ks l e
      rw [q] at e1; cases e1
      exact ⟨.dK kvs, e2, trivial⟩
theorem R.nofresh {K : Fg} {O0 : Addr -> Prop} {H : Hp} {r : En} {σ : St} (h : R K O0 H r σ) {a : Addr} (n : H a = none) : ¬ Ow O0 r σ a := fun z => by
  obtain ⟨o, e, _⟩ := h.ol a z
  rw [n] at e; cases e
theorem R.same {K : Fg} {O0 : Addr -> Prop} {H H' : Hp} {r : En} {σ : St} (h : R K O0 H r σ) (s : zZ H H') : R K O0 H' r σ where
  len := h.len
  val := fun i d e => by obtain ⟨v, e1, q⟩ := h.val i d e; exact ⟨v, e1, q.same s h.ol⟩
  own := fun i l e => by obtain ⟨a, xs, e1, e2, q⟩ := h.own i l e; exact ⟨a, xs, e1, s _ _ e2, q.same s h.ol⟩
  dct := fun i ks l e => by obtain ⟨a, kvs, e1, e2, e3, q⟩ := h.dct i ks l e; exact ⟨a, kvs, e1, s _ _ e2, e3, q.same s h.ol⟩
  apart := h.apart
  o0 := fun a z => by obtain ⟨xs, e, m⟩ := h.o0 a z; exact ⟨xs, s _ _ e, m⟩
  loc := h.loc
  par := h.par
structure Kp (H : Hp) (r : En) (σ : St) (H' : Hp) (r' : En) (σ' : St) : Prop where
  keep : Keep (MutAt r σ) H H'
  live : ∀ b, H' b = none -> H b = none
  lst : ∀ b o, H b = some o -> Mb o -> ∃ o', H' b = some o' /\ Mb o'
  new : ∀ b, OwnAt r' σ' b -> OwnAt r σ b \/ H b = none
  mnew : ∀ b, MutAt r' σ' b -> MutAt r σ b \/ H b = none
  par : ∀ (i : Nat) (l : List D), r[i]? = some (.p l) -> (∃ l', r'[i]? = some (.p l')) /\ σ'[i]? = σ[i]?
  fz : ∀ (i : Nat) (l : List D), r[i]? = some (.z l) -> r'[i]? = some (.z l) /\ σ'[i]? = σ[i]?
theorem Kp.of_same {H H' : Hp} (r : En) (σ : St) (s : zZ H H') : Kp H r σ H' r σ :=
  ⟨fun b o e _ => s b o e, fun b e => s.free e, fun b o e m => ⟨o, s _ _ e, m⟩, fun b z => .inl z, fun b z => .inl z, fun i l e => ⟨⟨l, e⟩, rfl⟩, fun i l e => ⟨e, rfl⟩⟩
theorem Kp.refl (H : Hp) (r : En) (σ : St) : Kp H r σ H r σ := .of_same r σ (zZ.refl H)
theorem Kp.trans {H H1 H2 : Hp} {r r1 r2 : En} {σ σ1 σ2 : St} (a : Kp H r σ H1 r1 σ1) (b : Kp H1 r1 σ1 H2 r2 σ2) : Kp H r σ H2 r2 σ2 where
  keep := fun c o e n => b.keep c o (a.keep c o e n) fun z => (a.mnew c z).elim n fun q => by rw [e] at q; cases q
  live := fun c e => a.live c (b.live c e)
  lst := fun c o e m => by obtain ⟨o1, q, m1⟩ := a.lst c o e m; exact b.lst c o1 q m1
  new := fun c z => (b.new c z).elim (a.new c) fun q => .inr (a.live c q)
  mnew := fun c z => (b.mnew c z).elim (a.mnew c) fun q => .inr (a.live c q)
  par := fun i l e => by
    obtain ⟨⟨l1, e1⟩, q1⟩ := a.par i l e
    obtain ⟨⟨l2, e2⟩, q2⟩ := b.par i l1 e1
    exact ⟨⟨l2, e2⟩, q2.trans q1⟩
  fz := fun i l e => by
    obtain ⟨e1, q1⟩ := a.fz i l e
    obtain ⟨e2, q2⟩ := b.fz i l e1
    exact ⟨e2, q2.trans q1⟩
theorem PE.conseq {X : Cx} {e : Expr} {t t' : TE} (h : PE X e t) (i : ∀ σ H Q, t' σ H Q -> t σ H Q) : PE X e t' := fun pins s σ H Q I q => h pins s σ H Q I (i σ H Q q)
theorem PT.conseq {X : Cx} {e : Expr} {t t' : TT} (h : PT X e t) (i : ∀ σ H Q, t' σ H Q -> t σ H Q) : PT X e t' := fun pins s σ H Q I q => h pins s σ H Q I (i σ H Q q)
theorem PA.conseq {X : Cx} {e : List Expr} {t t' : TA} (h : PA X e t) (i : ∀ σ H Q, t' σ H Q -> t σ H Q) : PA X e t' := fun pos pins s σ H Q I q => h pos pins s σ H Q I (i σ H Q q)
theorem PS.conseq {X : Cx} {st : Stmt} {t t' : TS} (h : PS X st t) (i : ∀ D σ H, t' D σ H -> t D σ H) : PS X st t' := fun pins s σ H D I q => h pins s σ H D I (i D σ H q)
theorem PSs.conseq {X : Cx} {st : List Stmt} {t t' : TS} (h : PSs X st t) (i : ∀ D σ H, t' D σ H -> t D σ H) : PSs X st t' := fun pins s σ H D I q => h pins s σ H D I (i D σ H q)
noncomputable abbrev ME := En -> Option D
noncomputable abbrev ML := En -> Option (List D)
noncomputable abbrev MB := En -> Option Bool
noncomputable def lE (K : Fg) (f : ME) : TE := fun σ H Q => ∃ O0 r d, R K O0 H r σ /\ f r = some d /\ ∀ v H', zZ H H' -> Is K (Ow O0 r σ) H' d v -> Q v H'
noncomputable def lT (K : Fg) (f : MB) : TT := fun σ H Q => ∃ O0 r b, R K O0 H r σ /\ f r = some b /\ ∀ H', zZ H H' -> Q b H'
noncomputable def lA (K : Fg) (f : ML) : TA := fun σ H Q => ∃ O0 r l, R K O0 H r σ /\ f r = some l /\ ∀ vs H', zZ H H' -> IsL K (Ow O0 r σ) H' l vs -> Q vs H'
noncomputable def lF (K : Fg) (f : ML) : TE := fun σ H Q => ∃ O0 r l, R K O0 H r σ /\ f r = some l /\ ∀ a xs H', zZ H H' -> H a = none -> H' a = some (.lst xs) -> IsL K (fun b => Ow O0 r σ b \/ b = a) H' l xs -> Q (.ref a) H'
noncomputable def lB (K : Fg) (f : ML) : TE := fun σ H Q => ∃ O0 r l, R K O0 H r σ /\ f r = some l /\ ∀ a xs H', zZ H H' -> SqL K H' a xs -> IsL K (Ow O0 r σ) H' l xs -> Q (.ref a) H'
noncomputable def lX (K : Fg) (f : En -> Option (D × En)) : TE := fun σ H Q => ∃ O0 r d r', R K O0 H r σ /\ f r = some (d, r') /\ ∀ v H', R K O0 H' r' σ -> Kp H r σ H' r' σ -> Is K (Ow O0 r' σ) H' d v -> Q v H'
noncomputable def DE (X : Cx) (e : Expr) (f : ME) : Prop := PE X e (lE X.K f)
noncomputable def DT (X : Cx) (e : Expr) (f : MB) : Prop := PT X e (lT X.K f)
noncomputable def DA (X : Cx) (es : List Expr) (f : ML) : Prop := PA X es (lA X.K f)
noncomputable def DF (X : Cx) (e : Expr) (f : ML) : Prop := PE X e (lF X.K f)
noncomputable def DB (X : Cx) (e : Expr) (f : ML) : Prop := PE X e (lB X.K f)
noncomputable def DX (X : Cx) (e : Expr) (f : En -> Option (D × En)) : Prop := PE X e (lX X.K f)
inductive Fl where
  | nx (r : En) | bk (r : En) | ct (r : En) | rt (d : D) (r : En) | rf (l : List D) (r : En) | rg (ks : List Key) (l : List D) (r : En)
noncomputable abbrev MS := En -> Option Fl
noncomputable def FrA (H : Hp) (r : En) (σ : St) (a : Addr) : Prop := H a = none \/ ∃ (i : Nat) (l : List D), (r[i]? = some (.o l) \/ ∃ ks, r[i]? = some (.d ks l)) /\ σ[i]? = some (some (.ref a))
noncomputable def PostS (K : Fg) (O0 : Addr -> Prop) (H : Hp) (r : En) (σ : St) (Dn : Ends) : Fl -> Prop
  | .nx r' => ∀ σ' H', R K O0 H' r' σ' -> Kp H r σ H' r' σ' -> Dn.nx σ' H'
  | .bk r' => ∀ σ' H', R K O0 H' r' σ' -> Kp H r σ H' r' σ' -> Dn.bk σ' H'
  | .ct r' => ∀ σ' H', R K O0 H' r' σ' -> Kp H r σ H' r' σ' -> Dn.ct σ' H'
  | .rt d r' => ∀ v σ' H', R K O0 H' r' σ' -> Kp H r σ H' r' σ' -> Is K O0 H' d v -> Dn.rt v H'
  | .rf l r' => ∀ a xs σ' H', R K O0 H' r' σ' -> Kp H r σ H' r' σ' -> FrA H r σ a -> ¬ O0 a -> H' a = some (.lst xs) -> IsL K (fun b => O0 b \/ b = a) H' l xs -> Dn.rt (.ref a) H'
  | .rg ks l r' => ∀ a kvs σ' H', R K O0 H' r' σ' -> Kp H r σ H' r' σ' -> FrA H r σ a -> ¬ O0 a -> H' a = some (.dK kvs) -> kvs.map (·.1) = ks -> IsL K (fun b => O0 b \/ b = a) H' l (kvs.map (·.2)) -> Dn.rt (.ref a) H'
noncomputable def lS (K : Fg) (g : MS) : TS := fun Dn σ H => ∃ O0 r fl, R K O0 H r σ /\ g r = some fl /\ PostS K O0 H r σ Dn fl
noncomputable def DS (X : Cx) (st : Stmt) (g : MS) : Prop := PS X st (lS X.K g)
noncomputable def DSs (X : Cx) (st : List Stmt) (g : MS) : Prop := PSs X st (lS X.K g)
theorem PostS.before {K : Fg} {O0 : Addr -> Prop} {H H1 : Hp} {r r1 : En} {σ σ1 : St} {Dn : Ends} {fl : Fl} (R1 : R K O0 H1 r1 σ1) (k : Kp H r σ H1 r1 σ1) (h : PostS K O0 H r σ Dn fl) : PostS K O0 H1 r1 σ1 Dn fl := by
  have fra : ∀ a, FrA H1 r1 σ1 a -> FrA H r σ a := fun a z => by
    rcases z with z | ⟨i, l, e, q⟩
    · exact .inl (k.live a z)
    · have eo : (r1[i]?).bind Sl.own = some l := by rcases e with e | ⟨ks, e⟩ <;> rw [e] <;> rfl
      have np : ∀ l2, r1[i]? ≠ some (.p l2) := fun l2 z => by rcases e with e | ⟨ks, e⟩ <;> rw [e] at z <;> cases z
      have nz : ∀ l2, r1[i]? ≠ some (.z l2) := fun l2 z => by rcases e with e | ⟨ks, e⟩ <;> rw [e] at z <;> cases z
      rcases k.new a ⟨i, l, eo, q⟩ with ⟨j, m, e2, q2⟩ | z
      · cases ej : r[j]? with
        | none => rw [ej] at e2; cases e2
        | some x =>
          rw [ej] at e2
          cases x with
          | un => cases e2
          | v d => cases e2
          | o l' => exact .inr ⟨j, l', .inl ej, q2⟩
          | p l' =>
            obtain ⟨⟨l2, e3⟩, q3⟩ := k.par j l' ej
            have := R1.apart i j a l l2 eo (by rw [e3]; rfl) q (q3.trans q2)
            subst this
            exact absurd e3 (np _)
          | z l' =>
            obtain ⟨e3, q3⟩ := k.fz j l' ej
            have := R1.apart i j a l l' eo (by rw [e3]; rfl) q (q3.trans q2)
            subst this
            exact absurd e3 (nz _)
          | d ks l' => exact .inr ⟨j, l', .inr ⟨ks, ej⟩, q2⟩
      · exact .inl z
  cases fl with
  | nx r' => exact fun σ' H' h1 h2 => h σ' H' h1 (k.trans h2)
  | bk r' => exact fun σ' H' h1 h2 => h σ' H' h1 (k.trans h2)
  | ct r' => exact fun σ' H' h1 h2 => h σ' H' h1 (k.trans h2)
  | rt d r' => exact fun v σ' H' h1 h2 h3 => h v σ' H' h1 (k.trans h2) h3
  | rf l r' => exact fun a xs σ' H' h1 h2 h3 h4 h5 h6 => h a xs σ' H' h1 (k.trans h2) (fra a h3) h4 h5 h6
  | rg ks l r' => exact fun a xs σ' H' h1 h2 h3 h4 h5 h6 h7 => h a xs σ' H' h1 (k.trans h2) (fra a h3) h4 h5 h6 h7
noncomputable def mC (d : D) : ME := fun _ => some d
noncomputable def zA (i : Nat) : ME := fun r => match r[i]? with
  | some (.v d) => some d
  | _ => none
noncomputable def mOwn (i : Nat) : ML := fun r => (r[i]?).bind Sl.ls
noncomputable def zF (m : D -> D -> Option D) (f g : ME) : ME := fun r => (f r).bind fun x => (g r).bind fun y => m x y
noncomputable def mUn (m : D -> Option D) (f : ME) : ME := fun r => (f r).bind m
noncomputable def zJ : ML := fun _ => some []
noncomputable def zB (f : ME) (g : ML) : ML := fun r => (f r).bind fun x => (g r).bind fun l => some (x :: l)
noncomputable def xJ (f : ML) : ME := fun r => (f r).bind fun l => if l.length <= sizeLine then some (.tup l) else none
noncomputable def yI (f : ML) : ML := fun r => (f r).bind fun l => if l.length <= sizeLine then some l else none
noncomputable def yM (f : ML) : ME := fun r => (f r).map .lst
noncomputable def mAsL (f : ME) : ML := fun r => (f r).bind fun d => match d with
  | .lst l => some l
  | _ => none
noncomputable def mAnd (f g : ME) : ME := fun r => (f r).bind fun d => match d with
  | .bl true => g r
  | .bl false => some (.bl false)
  | _ => none
noncomputable def mOr (f g : ME) : ME := fun r => (f r).bind fun d => match d with
  | .bl true => some (.bl true)
  | .bl false => g r
  | _ => none
noncomputable def notD : D -> Option D
  | .bl b => some (.bl !b)
  | _ => none
noncomputable def qT (f g : MB) : MB := fun r => (f r).bind fun b => if b = true then g r else some false
noncomputable def mOrT (f g : MB) : MB := fun r => (f r).bind fun b => if b = true then some true else g r
noncomputable def wX (f : MB) : MB := fun r => (f r).map (!·)
noncomputable def blD : D -> Option Bool
  | .bl b => some b
  | _ => none
noncomputable def mBl (f : ME) : MB := fun r => (f r).bind blD
noncomputable def truD : D -> Option Bool
  | .non => some false
  | .bl b => some b
  | .int i => some (i != 0)
  | .str s => if s.length <= sizeLine then some (!s.isEmpty) else none
  | .tup l => some (!l.isEmpty)
  | .lst l => some (!l.isEmpty)
  | _ => none
noncomputable def mTruB (fl : ML) : MB := fun r => (fl r).map fun l => !l.isEmpty
noncomputable def qS (f : ME) : MB := fun r => (f r).bind truD
section
variable {X : Cx} {pos : Pos} {a b c : Expr} {f g : ME}
theorem bind_some {α β : Type} {o : Option α} {h : α -> Option β} {y : β} (e : o.bind h = some y) : ∃ x, o = some x /\ h x = some y := by
  cases o with
  | none => cases e
  | some x => exact ⟨x, rfl, e⟩
theorem de_of {t : TE} (h : PE X a t) (i : ∀ O0 σ H r d Q, R X.K O0 H r σ -> f r = some d -> (∀ v H', zZ H H' -> Is X.K (Ow O0 r σ) H' d v -> Q v H') -> t σ H Q) : DE X a f :=
  PE.conseq h fun σ H Q ⟨O0, r, d, hR, e, q⟩ => i O0 σ H r d Q hR e q
theorem zC (i : Nat) {x : Str} (h : PE X (.Name x pos) (tVar i)) : DE X (.Name x pos) (zA i) :=
  de_of h fun O0 σ H r d Q hR e q => by
    unfold zA at e
    have e' : r[i]? = some (.v d) := by
      split at e
      · rename_i d' h; cases e; exact h
      · cases e
    obtain ⟨v, e1, q1⟩ := hR.val i d e'
    exact ⟨v, e1, q v H (zZ.refl H) q1⟩
theorem db_own (i : Nat) {x : Str} (h : PE X (.Name x pos) (tVar i)) : DB X (.Name x pos) (mOwn i) :=
  PE.conseq h fun σ H Q ⟨O0, r, l, hR, e, q⟩ => by
    obtain ⟨a, xs, e1, e2, q1⟩ := hR.own i l e
    exact ⟨.ref a, e1, q a xs H (zZ.refl H) (SqL.of e2) q1⟩
theorem de_con {v : V} {d : D} (h : PE X a (tC v)) (hd : ∀ O H, Is X.K O H d v) : DE X a (mC d) :=
  de_of h fun O0 σ H r d' Q hR e q => by
    unfold mC at e
    cases e
    exact q v H (zZ.refl H) (hd _ _)
theorem zG {i j} : DE X (.Constant (.int i) j pos) (mC (.int i)) := de_con pe_int fun O H => by unfold Is; rfl
theorem de_bl {i j} : DE X (.Constant (.bool i) j pos) (mC (.bl i)) := de_con pe_bl fun O H => by unfold Is; rfl
theorem yN {x : Str} {s : List Nat} {j} (e : x.cps.toList = s := by rfl) : DE X (.Constant (.str x) j pos) (mC (.str s)) := de_con pe_str fun O H => by
  unfold Is; subst e; simp
noncomputable def OpD (K : Fg) (r2 : R2) (m : D -> D -> Option D) : Prop := ∀ (O : Addr -> Prop) (H : Hp) (dx dy d : D) (vx vy : V) (Q : VK), OLst O H -> Is K O H dx vx -> Is K O H dy vy -> m dx dy = some d -> (∀ v H', zZ H H' -> Is K O H' d v -> Q v H') -> r2 vx vy H Q
theorem two {ta tb : TE} {r2 : R2} {m : D -> D -> Option D} (hd : OpD X.K r2 m) {σ : St} {H : Hp} {Q : VK} (h : lE X.K (zF m f g) σ H Q) : tOp r2 (lE X.K f) (lE X.K g) σ H Q := by
  obtain ⟨O0, r, d, hR, e, q⟩ := h
  obtain ⟨x, e1, e⟩ := bind_some e
  obtain ⟨y, e2, e⟩ := bind_some e
  refine ⟨O0, r, x, hR, e1, fun v1 H1 s1 i1 => ⟨O0, r, y, hR.same s1, e2, fun v2 H2 s2 i2 => ?_⟩⟩
  exact hd (Ow O0 r σ) H2 x y d v1 v2 Q (hR.same (s1.trans s2)).ol (i1.same s2 (hR.same s1).ol) i2 e fun v H' s' i' => q v H' ((s1.trans s2).trans s') i'
theorem zM {op : Operator} {r2 : R2} {m : D -> D -> Option D} (ho : OpR X (binaryOp op) r2) (hd : OpD X.K r2 m) (ha : DE X a f) (hb : DE X b g) : DE X (.BinOp a op b pos) (zF m f g) :=
  PE.conseq (pe_op ho ha hb) fun σ H Q h => two (ta := lE X.K f) (tb := lE X.K g) hd h
theorem de_cmp {op : CmpOp} {r2 : R2} {m : D -> D -> Option D} (ho : OpR X (compareOp op) r2) (hd : OpD X.K r2 m) (ha : DE X a f) (hb : DE X b g) (hm : behindInMarks op b = false) : DE X (.Compare a [op] [b] pos) (zF m f g) :=
  PE.conseq (pe_cmpR ho ha hb hm) fun σ H Q h => two (ta := lE X.K f) (tb := lE X.K g) hd h
theorem yX {op : CmpOp} {r2 : R2} {m : D -> D -> Option D} (ho : OpR X (compareOp op) r2) (hd : OpD X.K r2 m) (ha : DE X a f) (hb : DE X b g) (hm : behindInMarks op b = false) : DT X (.Compare a [op] [b] pos) (mBl (zF m f g)) := by
  refine PT.conseq (pt_cmpR ho ha hb hm) fun σ H Q h => ?_
  obtain ⟨O0, r, k, hR, e, q⟩ := h
  obtain ⟨d, e1, e⟩ := bind_some e
  refine two (ta := lE X.K f) (tb := lE X.K g) (m := m) hd ⟨O0, r, d, hR, e1, fun v H' s' i' => ?_⟩
  cases d <;> first | cases e | skip
  rw [Is.bl_iff] at i'
  exact ⟨_, i', q H' s'⟩
theorem de_un {op : UnaryOp} {r1 : V -> Hp -> VK -> Prop} {m : D -> Option D} (ho : UnR X (unaryOp op) r1)
    (hd : ∀ (O : Addr -> Prop) (H : Hp) (dx d : D) (vx : V) (Q : VK), Is X.K O H dx vx -> m dx = some d -> (∀ v, Is X.K O H d v -> Q v H) -> r1 vx H Q) (ha : DE X a f) : DE X (.UnaryOp op a pos) (mUn m f) := by
  refine PE.conseq (pe_un ho ha) fun σ H Q h => ?_
  obtain ⟨O0, r, d, hR, e, q⟩ := h
  obtain ⟨x, e1, e⟩ := bind_some e
  exact ⟨O0, r, x, hR, e1, fun v1 H1 s1 i1 => hd _ H1 x d v1 Q i1 e fun v i => q v H1 s1 i⟩
theorem de_one {op} (h : DE X a f) : DE X (.BoolOp op [a] pos) f := pe_one h
theorem de_and {rest : List Expr} (ha : DE X a f) (hb : DE X (.BoolOp .And (b :: rest) pos) g) : DE X (.BoolOp .And (a :: b :: rest) pos) (mAnd f g) := by
  refine PE.conseq (pe_and ha hb) fun σ H Q h => ?_
  obtain ⟨O0, r, d, hR, e, q⟩ := h
  obtain ⟨x, e1, e⟩ := bind_some e
  refine ⟨O0, r, x, hR, e1, fun v1 H1 s1 i1 => ?_⟩
  cases x with
  | bl k =>
    rw [Is.bl_iff] at i1
    refine ⟨k, i1, ?_⟩
    cases k with
    | true =>
      rw [if_pos rfl]
      exact ⟨O0, r, d, hR.same s1, e, fun v H' s' i' => q v H' (s1.trans s') i'⟩
    | false =>
      rw [if_neg Bool.false_ne_true]
      cases e
      exact q _ H1 s1 (by rw [Is.bl_iff])
  | _ => cases e
theorem de_or {rest : List Expr} (ha : DE X a f) (hb : DE X (.BoolOp .Or (b :: rest) pos) g) : DE X (.BoolOp .Or (a :: b :: rest) pos) (mOr f g) := by
  refine PE.conseq (pe_or ha hb) fun σ H Q h => ?_
  obtain ⟨O0, r, d, hR, e, q⟩ := h
  obtain ⟨x, e1, e⟩ := bind_some e
  refine ⟨O0, r, x, hR, e1, fun v1 H1 s1 i1 => ?_⟩
  cases x with
  | bl k =>
    rw [Is.bl_iff] at i1
    refine ⟨k, i1, ?_⟩
    cases k with
    | true =>
      rw [if_pos rfl]
      cases e
      exact q _ H1 s1 (by rw [Is.bl_iff])
    | false =>
      rw [if_neg Bool.false_ne_true]
      exact ⟨O0, r, d, hR.same s1, e, fun v H' s' i' => q v H' (s1.trans s') i'⟩
  | _ => cases e
theorem de_not (ha : DE X a f) : DE X (.UnaryOp .Not a pos) (mUn notD f) := by
  refine PE.conseq (pe_not ha) fun σ H Q h => ?_
  obtain ⟨O0, r, d, hR, e, q⟩ := h
  obtain ⟨x, e1, e⟩ := bind_some e
  refine ⟨O0, r, x, hR, e1, fun v1 H1 s1 i1 => ?_⟩
  cases x with
  | bl k =>
    rw [Is.bl_iff] at i1
    cases e
    exact ⟨k, i1, q _ H1 s1 (by rw [Is.bl_iff])⟩
  | _ => cases e
section
variable {tf tg : MB}
theorem dw_and1 (ha : DT X a tf) : PW X (.BoolOp .And [a] pos) (lT X.K tf) := pw_and1 ha
theorem dw_or1 (ha : DT X a tf) : PW X (.BoolOp .Or [a] pos) (lT X.K tf) := pw_or1 ha
theorem PW.conseq {e : Expr} {t t' : TT} (h : PW X e t) (i : ∀ σ H Q, t' σ H Q -> t σ H Q) : PW X e t' := fun wh pins s σ H Q I q => h wh pins s σ H Q I (i σ H Q q)
theorem dw_and {rest : List Expr} (ha : DT X a tf) (hb : PW X (.BoolOp .And (b :: rest) pos) (lT X.K tg)) : PW X (.BoolOp .And (a :: b :: rest) pos) (lT X.K (qT tf tg)) := by
  refine PW.conseq (pw_and ha hb) fun σ H Q h => ?_
  obtain ⟨O0, r, d, hR, e, q⟩ := h
  obtain ⟨x, e1, e⟩ := bind_some e
  refine ⟨O0, r, x, hR, e1, fun H1 s1 => ?_⟩
  cases x with
  | true =>
    rw [if_pos rfl]
    exact ⟨O0, r, d, hR.same s1, e, fun H' s' => q H' (s1.trans s')⟩
  | false =>
    rw [if_neg Bool.false_ne_true]
    cases e
    exact q H1 s1
theorem dw_or {rest : List Expr} (ha : DT X a tf) (hb : PW X (.BoolOp .Or (b :: rest) pos) (lT X.K tg)) : PW X (.BoolOp .Or (a :: b :: rest) pos) (lT X.K (mOrT tf tg)) := by
  refine PW.conseq (pw_or ha hb) fun σ H Q h => ?_
  obtain ⟨O0, r, d, hR, e, q⟩ := h
  obtain ⟨x, e1, e⟩ := bind_some e
  refine ⟨O0, r, x, hR, e1, fun H1 s1 => ?_⟩
  cases x with
  | true =>
    rw [if_pos rfl]
    cases e
    exact q H1 s1
  | false =>
    rw [if_neg Bool.false_ne_true]
    exact ⟨O0, r, d, hR.same s1, e, fun H' s' => q H' (s1.trans s')⟩
theorem dt_w (h : PW X a (lT X.K tf)) : DT X a tf := h.pt
theorem dt_not (ha : DT X a tf) : DT X (.UnaryOp .Not a pos) (wX tf) := by
  refine PT.conseq (pt_not ha) fun σ H Q h => ?_
  obtain ⟨O0, r, d, hR, e, q⟩ := h
  unfold wX at e
  cases e1 : tf r with
  | none => rw [e1] at e; cases e
  | some k =>
    rw [e1] at e; cases e
    exact ⟨O0, r, k, hR, e1, fun H1 s1 => q H1 s1⟩
theorem truD_ok {K : Fg} {O : Addr -> Prop} {H : Hp} {d : D} {v : V} {k : Bool} (h : Is K O H d v) (e : truD d = some k) : TruV K v H k := by
  cases d with
  | dct ks l => cases e
  | non => rw [Is.non_iff] at h; subst h; cases e; rfl
  | bl b => rw [Is.bl_iff] at h; subst h; cases e; rfl
  | int i => rw [Is.int_iff] at h; subst h; cases e; rfl
  | str s =>
    rw [Is.str_iff] at h; subst h
    simp only [truD] at e
    split at e
    · rename_i hl
      cases e
      refine ⟨by simpa [Str.length] using hl, ?_⟩
      cases s with
      | nil => rfl
      | cons c r =>
        have : ((r.length : Int) + 1) ≠ 0 := by lia
        simpa [Str.length] using this
    · cases e
  | tup l =>
    rw [Is.tup_iff] at h; obtain ⟨a, xs, rfl, hs, hl⟩ := h; cases e
    refine .inr (.inl ⟨xs, hs, ?_⟩)
    have := hl.length
    cases l <;> cases xs <;> simp_all
  | lst l =>
    rw [Is.lst_iff] at h; obtain ⟨a, xs, rfl, hs, hl⟩ := h; cases e
    refine .inl ⟨xs, hs.sq, ?_⟩
    have := hl.length
    cases l <;> cases xs <;> simp_all
  | ty n => cases e
  | ref a => cases e
theorem dt_tru (ha : DE X a f) (he : ∀ whole, isTrue a X.env whole = (do let v <- whole; standAt a.pos; holding [v] (truthy v)) := by intro _; rfl) : DT X a (qS f) := by
  refine PT.conseq (pt_truth ha he) fun σ H Q h => ?_
  obtain ⟨O0, r, d, hR, e, q⟩ := h
  obtain ⟨x, e1, e⟩ := bind_some e
  exact ⟨O0, r, x, hR, e1, fun v1 H1 s1 i1 => ⟨d, truD_ok i1 e, q H1 s1⟩⟩
theorem dt_truB {fl : ML} (ha : DB X a fl) (he : ∀ whole, isTrue a X.env whole = (do let v <- whole; standAt a.pos; holding [v] (truthy v)) := by intro _; rfl) : DT X a (mTruB fl) := by
  refine PT.conseq (pt_truth ha he) fun σ H Q h => ?_
  obtain ⟨O0, r, d, hR, e, q⟩ := h
  unfold mTruB at e
  cases e1 : fl r with
  | none => rw [e1] at e; cases e
  | some l =>
    rw [e1] at e; cases e
    refine ⟨O0, r, l, hR, e1, fun a xs H1 s1 i1 i2 => ⟨_, .inl ⟨xs, i1, ?_⟩, q H1 s1⟩⟩
    have := i2.length
    cases l <;> cases xs <;> simp_all
end
section
variable {es : List Expr} {fs : ML}
theorem zK : DA X [] zJ := PA.conseq qR fun σ H Q ⟨O0, r, l, hR, e, q⟩ => by
  unfold zJ at e; cases e
  exact q [] H (zZ.refl H) .nil
theorem zD (ha : DE X a f) (hr : DA X es fs) (hs : starEach (a :: es) X.env = (false, eval a X.env) :: starEach es X.env := by rfl) : DA X (a :: es) (zB f fs) := by
  refine PA.conseq (xT ha hr hs) fun σ H Q h => ?_
  obtain ⟨O0, r, d, hR, e, q⟩ := h
  obtain ⟨x, e1, e⟩ := bind_some e
  obtain ⟨l, e2, e⟩ := bind_some e
  cases e
  exact ⟨O0, r, x, hR, e1, fun v1 H1 s1 i1 => ⟨O0, r, l, hR.same s1, e2, fun vs H2 s2 i2 => q _ H2 (s1.trans s2) (.cons (i1.same s2 (hR.same s1).ol) i2)⟩⟩
theorem xC {H : Hp} {p : Addr} {o : HO} (n : H p = none) : zZ H (upd H p o) := fun b u e => by rw [xH (qM e n)]; exact e
theorem xI {x1} (h : DA X es fs) : DE X (.Tuple es x1 pos) (xJ fs) := by
  refine PE.conseq (pe_tup h) fun σ H Q h => ?_
  obtain ⟨O0, r, d, hR, e, q⟩ := h
  obtain ⟨l, e1, e⟩ := bind_some e
  split at e
  · rename_i hl
    cases e
    refine ⟨O0, r, l, hR, e1, fun vs H1 s1 i1 => ⟨by rw [<- i1.length]; exact hl, fun p hp => q _ _ (s1.trans (xC hp)) ?_⟩⟩
    rw [Is.tup_iff]
    exact ⟨p, vs, rfl, SqT.of xK, i1.same (xC hp) (hR.same s1).ol⟩
  · cases e
theorem yT (h : DA X es fs) : DF X (.List es pos) (yI fs) := by
  refine PE.conseq (pe_lst h) fun σ H Q h => ?_
  obtain ⟨O0, r, l', hR, e, q⟩ := h
  obtain ⟨l, e1, e⟩ := bind_some e
  split at e
  · rename_i hl
    have e' : l = l' := Option.some.inj e
    subst e'
    refine ⟨O0, r, l, hR, e1, fun vs H1 s1 i1 => ⟨by rw [<- i1.length]; exact hl, fun p hp => q _ _ _ (s1.trans (xC hp)) (s1.free hp) xK ?_⟩⟩
    refine IsL.mono (zZ.kp (xC hp) _) (hR.same s1).ol (fun a z n => ?_) _ vs i1
    rcases z with z | z
    · exact z
    · subst z; exact absurd hp n
  · cases e
theorem wW {fl : ML} (h : DF X a fl) : DE X a (yM fl) := by
  refine PE.conseq h fun σ H Q h => ?_
  obtain ⟨O0, r, d, hR, e, q⟩ := h
  unfold yM at e
  cases e1 : fl r with
  | none => rw [e1] at e; cases e
  | some l =>
    rw [e1] at e; cases e
    refine ⟨O0, r, l, hR, e1, fun p xs H1 s1 n1 e2 i1 => q _ H1 s1 ?_⟩
    rw [Is.lst_iff]
    have ol : OLst (fun b => Ow O0 r σ b \/ b = p) H1 := fun b z => z.elim (fun z => (hR.same s1).ol b z) fun z => by subst z; exact ⟨.lst xs, e2, trivial⟩
    exact ⟨p, xs, rfl, .inl ⟨hR.nofresh n1, .inl e2⟩, IsL.mono (zZ.kp (zZ.refl H1) _) ol (fun a z _ => .inl z) l xs i1⟩
theorem db_e (h : DE X a f) : DB X a (mAsL f) := by
  refine PE.conseq h fun σ H Q h => ?_
  obtain ⟨O0, r, l, hR, e, q⟩ := h
  obtain ⟨d, e1, e⟩ := bind_some e
  refine ⟨O0, r, d, hR, e1, fun v H1 s1 i1 => ?_⟩
  cases d with
  | lst l' =>
    cases e
    rw [Is.lst_iff] at i1
    obtain ⟨p, xs, rfl, rd, il⟩ := i1
    exact q p xs H1 s1 rd.sq il
  | _ => cases e
end
end
noncomputable def xD : MS := fun r => some (.nx r)
noncomputable def zW (g h : MS) : MS := fun r => (g r).bind fun fl => match fl with
  | .nx r' => h r'
  | x => some x
noncomputable def yF (i : Nat) (d : D) (r : En) : Option En := match r[i]? with
  | some (.p _) => none
  | some (.z _) => none
  | some _ => some (r.set i (.v d))
  | none => none
noncomputable def setO (i : Nat) (l : List D) (r : En) : Option En := match r[i]? with
  | some (.p _) => none
  | some (.z _) => none
  | some _ => some (r.set i (.o l))
  | none => none
noncomputable def yW (i : Nat) (f : ME) : MS := fun r => (f r).bind fun d => (yF i d r).map .nx
noncomputable def sOwn (i : Nat) (f : ML) : MS := fun r => (f r).bind fun l => (setO i l r).map .nx
noncomputable def xF (f : ME) : MS := fun r => (f r).map fun d => .rt d r
noncomputable def sRetOwn (i : Nat) : MS := fun r => match r[i]? with
  | some (.o l) => some (.rf l r)
  | _ => none
noncomputable def sIf (c : MB) (g h : MS) : MS := fun r => (c r).bind fun b => if b = true then g r else h r
noncomputable def sExpr (f : ME) : MS := fun r => (f r).map fun _ => .nx r
noncomputable def sX (f : En -> Option (D × En)) : MS := fun r => (f r).map fun p => .nx p.2
noncomputable def sSetX (i : Nat) (f : En -> Option (D × En)) : MS := fun r => (f r).bind fun p => (yF i p.1 p.2).map .nx
noncomputable def sRetX (f : En -> Option (D × En)) : MS := fun r => (f r).map fun p => .rt p.1 p.2
noncomputable def qL : Nat -> MB -> MS -> MS
  | 0, _, _ => fun _ => none
  | n + 1, c, g => fun r => (c r).bind fun b => if b = true then (g r).bind fun fl => match fl with
      | .nx r' => qL n c g r'
      | .ct r' => qL n c g r'
      | .bk r' => some (.nx r')
      | x => some x
    else some (.nx r)
noncomputable def forL (bd : D -> En -> Option En) (g : MS) : List D -> MS
  | [], r => some (.nx r)
  | d :: l, r => (bd d r).bind fun r1 => (g r1).bind fun fl => match fl with
      | .nx r' => forL bd g l r'
      | .ct r' => forL bd g l r'
      | .bk r' => some (.nx r')
      | x => some x
noncomputable def sFor (bd : D -> En -> Option En) (it : ML) (g : MS) : MS := fun r => (it r).bind fun l => forL bd g l r
theorem zN {α : Type} {l : List α} {i j : Nat} {x : α} (h : i ≠ j) : (l.set i x)[j]? = l[j]? := by rw [List.getElem?_set]; simp [h]
theorem yJ {α : Type} {l : List α} {i : Nat} {x : α} (h : i < l.length) : (l.set i x)[i]? = some x := by rw [List.getElem?_set]; simp [h]
section
variable {K : Fg} {O0 : Addr -> Prop} {H H1 : Hp} {r : En} {σ : St} {i : Nat} {d : D} {v : V}
theorem own_setv {q : Sl -> Option (List D)} (hq : ∀ d, q (.v d) = none) {a : Addr} {x : Option V} (h : AtS q (r.set i (.v d)) (σ.set i x) a) : AtS q r σ a := by
  obtain ⟨j, l, e, q'⟩ := h
  by_cases hj : i = j
  · subst hj
    by_cases hl : i < r.length
    · rw [yJ hl] at e
      have e' : q (.v d) = some l := e
      rw [hq] at e'; cases e'
    · rw [List.getElem?_eq_none (by simpa using hl)] at e; cases e
  · rw [zN hj] at e q'
    exact ⟨j, l, e, q'⟩
theorem R.setv (h : R K O0 H r σ) (hi : i < r.length) (np : ∀ l, r[i]? ≠ some (.p l) /\ r[i]? ≠ some (.z l)) (hv : Is K (Ow O0 r σ) H d v) : R K O0 H (r.set i (.v d)) (σ.set i (some v)) /\ Kp H r σ H (r.set i (.v d)) (σ.set i (some v)) := by
  have his : i < σ.length := by rw [<- h.len]; exact hi
  have sub : ∀ a, Ow O0 (r.set i (.v d)) (σ.set i (some v)) a -> H a ≠ none -> Ow O0 r σ a := fun a z _ => z.elim .inl fun z => .inr (own_setv (fun _ => rfl) z)
  have ne : ∀ (j : Nat) (l : List D), ((r.set i (.v d))[j]?).bind Sl.own = some l -> i ≠ j := fun j l e z => by subst z; rw [yJ hi] at e; cases e
  refine ⟨⟨by simp [h.len], fun j d' e => ?_, fun j l e => ?_, fun j k a l m e1 e2 q1 q2 => ?_, h.o0, fun j l a e q => ?_, fun j l a e q => ?_, fun j ks l e => ?_⟩, ⟨fun b o e _ => e, fun b e => e, fun b o e m => ⟨o, e, m⟩, fun b z => .inl (own_setv (fun _ => rfl) z), fun b z => .inl (own_setv (fun _ => rfl) z), fun j l e => ?_, fun j l e => ?_⟩⟩
  · by_cases hj : i = j
    · subst hj
      rw [yJ hi] at e; cases e
      exact ⟨v, yJ his, Is.mono (zZ.kp (zZ.refl H) _) h.ol sub _ _ hv⟩
    · rw [zN hj] at e
      obtain ⟨u, e1, q⟩ := h.val j d' e
      exact ⟨u, by rw [zN hj]; exact e1, Is.mono (zZ.kp (zZ.refl H) _) h.ol sub _ _ q⟩
  · have hj := ne j l (ls_own' e)
    rw [zN hj] at e
    obtain ⟨a, xs, e1, e2, q⟩ := h.own j l e
    exact ⟨a, xs, by rw [zN hj]; exact e1, e2, IsL.mono (zZ.kp (zZ.refl H) _) h.ol sub _ _ q⟩
  · have hj := ne j l e1
    have hk := ne k m e2
    rw [zN hj] at e1 q1
    rw [zN hk] at e2 q2
    exact h.apart j k a l m e1 e2 q1 q2
  · have hj : i ≠ j := ne j l (by rcases e with e | e | ⟨ks, e⟩ <;> rw [e] <;> rfl)
    rw [zN hj] at e q
    exact h.loc j l a e q
  · have hj : i ≠ j := ne j l (by rw [e]; rfl)
    rw [zN hj] at e q
    exact h.par j l a e q
  · have hj := ne j l (by rw [e]; rfl)
    rw [zN hj] at e
    obtain ⟨a, kvs, e1, e2, e3, q⟩ := h.dct j ks l e
    exact ⟨a, kvs, by rw [zN hj]; exact e1, e2, e3, IsL.mono (zZ.kp (zZ.refl H) _) h.ol sub _ _ q⟩
  · have hj : i ≠ j := fun z => by subst z; exact (np l).1 e
    exact ⟨⟨l, by rw [zN hj]; exact e⟩, zN hj⟩
  · have hj : i ≠ j := fun z => by subst z; exact (np l).2 e
    exact ⟨by rw [zN hj]; exact e, zN hj⟩
theorem R.seto {l : List D} {xs : List V} {p : Addr} (h : R K O0 H r σ) (s : zZ H H1) (n : H p = none) (e : H1 p = some (.lst xs)) (hl : IsL K (fun b => Ow O0 r σ b \/ b = p) H1 l xs) (hi : i < r.length) (np : ∀ l, r[i]? ≠ some (.p l) /\ r[i]? ≠ some (.z l)) :
    R K O0 H1 (r.set i (.o l)) (σ.set i (some (.ref p))) /\ Kp H r σ H1 (r.set i (.o l)) (σ.set i (some (.ref p))) := by
  have his : i < σ.length := by rw [<- h.len]; exact hi
  have ow : ∀ {q : Sl -> Option (List D)} a, AtS q (r.set i (.o l)) (σ.set i (some (.ref p))) a -> AtS q r σ a \/ a = p := fun {q} a z => by
    obtain ⟨j, m, e1, q1⟩ := z
    by_cases hj : i = j
    · subst hj
      rw [yJ his] at q1; cases q1; exact .inr rfl
    · rw [zN hj] at e1 q1
      exact .inl ⟨j, m, e1, q1⟩
  have sub : ∀ a, Ow O0 (r.set i (.o l)) (σ.set i (some (.ref p))) a -> H a ≠ none -> Ow O0 r σ a := fun a z nn => z.elim .inl fun z => (ow a z).elim .inr fun z => by subst z; exact absurd n nn
  have olp : OLst (fun b => Ow O0 r σ b \/ b = p) H1 := fun b z => z.elim (fun z => (h.same s).ol b z) fun z => by subst z; exact ⟨.lst xs, e, trivial⟩
  refine ⟨⟨by simp [h.len], fun j d' e1 => ?_, fun j m e1 => ?_, fun j k a l1 m e1 e2 q1 q2 => ?_, (h.same s).o0, fun j m a e1 q => ?_, fun j m a e1 q => ?_, fun j ks m e1 => ?_⟩, ⟨fun b o e1 _ => s b o e1, fun b e1 => s.free e1, fun b o e1 mb => ⟨o, s _ _ e1, mb⟩, fun b z => (ow b z).imp id fun z => by subst z; exact n, fun b z => (ow b z).imp id fun z => by subst z; exact n, fun j m e1 => ?_, fun j m e1 => ?_⟩⟩
  · have hj : i ≠ j := fun z => by subst z; rw [yJ hi] at e1; cases e1
    rw [zN hj] at e1
    obtain ⟨u, e2, q⟩ := h.val j d' e1
    exact ⟨u, by rw [zN hj]; exact e2, Is.mono (zZ.kp s _) h.ol sub _ _ q⟩
  · by_cases hj : i = j
    · subst hj
      rw [yJ hi] at e1; cases e1
      refine ⟨p, xs, yJ his, e, IsL.mono (zZ.kp (zZ.refl H1) _) olp (fun a z _ => z.elim (fun z => .inl (.inl z)) fun z => (ow a z).imp .inr id) _ _ hl⟩
    · rw [zN hj] at e1
      obtain ⟨a, ys, e2, e3, q⟩ := h.own j m e1
      exact ⟨a, ys, by rw [zN hj]; exact e2, s _ _ e3, IsL.mono (zZ.kp s _) h.ol sub _ _ q⟩
  · have out : ∀ (j : Nat) (m : List D) (a : Addr), i ≠ j -> ((r.set i (.o l))[j]?).bind Sl.own = some m -> (σ.set i (some (.ref p)))[j]? = some (some (.ref a)) -> a ≠ p := fun j m a hj e1 q1 z => by
      rw [zN hj] at e1 q1
      obtain ⟨b, ys, e2, e3, _⟩ := h.obj e1
      rw [q1] at e2; cases e2
      subst z
      rw [n] at e3; cases e3
    by_cases hj : i = j
    · by_cases hk : i = k
      · exact hj.symm.trans hk
      · subst hj
        rw [yJ his] at q1; cases q1
        exact absurd rfl (out k m p hk e2 q2)
    · by_cases hk : i = k
      · subst hk
        rw [yJ his] at q2; cases q2
        exact absurd rfl (out j l1 p hj e1 q1)
      · rw [zN hj] at e1 q1
        rw [zN hk] at e2 q2
        exact h.apart j k a l1 m e1 e2 q1 q2
  · by_cases hj : i = j
    · subst hj
      rw [yJ his] at q; cases q
      exact fun z => by obtain ⟨ys, e3, _⟩ := h.o0 p z; rw [n] at e3; cases e3
    · rw [zN hj] at e1 q
      exact h.loc j m a e1 q
  · have hj : i ≠ j := fun z => by subst z; rw [yJ hi] at e1; cases e1
    rw [zN hj] at e1 q
    exact h.par j m a e1 q
  · have hj : i ≠ j := fun z => by subst z; rw [yJ hi] at e1; cases e1
    rw [zN hj] at e1
    obtain ⟨a, kvs, e2, e3, e4, q⟩ := h.dct j ks m e1
    exact ⟨a, kvs, by rw [zN hj]; exact e2, s _ _ e3, e4, IsL.mono (zZ.kp s _) h.ol sub _ _ q⟩
  · have hj : i ≠ j := fun z => by subst z; exact (np m).1 e1
    exact ⟨⟨m, by rw [zN hj]; exact e1⟩, zN hj⟩
  · have hj : i ≠ j := fun z => by subst z; exact (np m).2 e1
    exact ⟨by rw [zN hj]; exact e1, zN hj⟩
theorem setV_some {r' : En} (e : yF i d r = some r') : i < r.length /\ (∀ l, r[i]? ≠ some (.p l) /\ r[i]? ≠ some (.z l)) /\ r' = r.set i (.v d) := by
  unfold yF at e
  cases e1 : r[i]? with
  | none => rw [e1] at e; cases e
  | some x =>
    have hi : i < r.length := (List.getElem?_eq_some_iff.mp e1).1
    rw [e1] at e
    cases x with
    | p l => cases e
    | z l => cases e
    | _ => cases e; exact ⟨hi, fun l => ⟨(fun z => by cases z), (fun z => by cases z)⟩, rfl⟩
theorem setO_some {r' : En} {l : List D} (e : setO i l r = some r') : i < r.length /\ (∀ l, r[i]? ≠ some (.p l) /\ r[i]? ≠ some (.z l)) /\ r' = r.set i (.o l) := by
  unfold setO at e
  cases e1 : r[i]? with
  | none => rw [e1] at e; cases e
  | some x =>
    have hi : i < r.length := (List.getElem?_eq_some_iff.mp e1).1
    rw [e1] at e
    cases x with
    | p l => cases e
    | z l => cases e
    | _ => cases e; exact ⟨hi, fun l => ⟨(fun z => by cases z), (fun z => by cases z)⟩, rfl⟩
theorem map_some {α β : Type} {o : Option α} {h : α -> β} {y : β} (e : o.map h = some y) : ∃ x, o = some x /\ h x = y := by
  cases o with
  | none => cases e
  | some x => exact ⟨x, rfl, Option.some.inj e⟩
theorem Is.less {O : Addr -> Prop} (h : R K O0 H r σ) (hi : Is K (Ow O0 r σ) H1 d v) (s : zZ H H1) : Is K O0 H1 d v := Is.mono (zZ.kp (zZ.refl H1) _) (h.same s).ol (fun _ z _ => .inl z) _ _ hi
end
section
variable {X : Cx} {pos : Pos} {e : Expr} {f : ME} {fl : ML} {g h : MS} {st : Stmt} {rest : List Stmt}
theorem xB : DSs X [] xD := PSs.conseq pss_nil fun Dn σ H ⟨O0, r, f', hR, e, q⟩ => by
  unfold xD at e; cases e
  exact q σ H hR (Kp.refl H r σ)
theorem zL (h1 : DS X st g) (h2 : DSs X rest h) : DSs X (st :: rest) (zW g h) := by
  refine PSs.conseq (pss_cons h1 h2) fun Dn σ H hq => ?_
  obtain ⟨O0, r, fl, hR, e, q⟩ := hq
  obtain ⟨f1, e1, e2⟩ := bind_some e
  cases f1 with
  | nx r1 => exact ⟨O0, r, .nx r1, hR, e1, fun σ' H' R' k => ⟨O0, r1, fl, R', e2, q.before R' k⟩⟩
  | bk r1 => cases e2; exact ⟨O0, r, _, hR, e1, q⟩
  | ct r1 => cases e2; exact ⟨O0, r, _, hR, e1, q⟩
  | rt d r1 => cases e2; exact ⟨O0, r, _, hR, e1, q⟩
  | rf l r1 => cases e2; exact ⟨O0, r, _, hR, e1, q⟩
  | rg ks l r1 => cases e2; exact ⟨O0, r, _, hR, e1, q⟩
theorem zR (h1 : DS X st g) : DSs X [st] g := pss_one h1
theorem yQ (i : Nat) {x : Str} {pos' : Pos} (he : DE X e f) (hN : X.N.Nodup) (hi : X.N[i]? = some x := by rfl) (hx : Loc X.env.scope x := by first | exact Or.inl rfl | exact Or.inr rfl) (hs : swapsWith e (some (.Name x pos')) pos.line X.env = pure false := by rfl) (hf : X.fn x = true \/ X.env.scope.names.lookup x = some .local := by first | exact .inl rfl | exact .inr rfl) :
    DS X (.Assign [.Name x pos'] e pos) (yW i f) := by
  refine PS.conseq (ps_set hN hi hx he hs hf) fun Dn σ H hq => ?_
  obtain ⟨O0, r, fl, hR, e, q⟩ := hq
  obtain ⟨d, e1, e2⟩ := bind_some e
  obtain ⟨r', e3, rfl⟩ := map_some e2
  obtain ⟨hl, np, rfl⟩ := setV_some e3
  refine ⟨O0, r, d, hR, e1, fun v H1 s1 i1 => ?_⟩
  obtain ⟨R1, k1⟩ := (hR.same s1).setv hl np i1
  exact q _ H1 R1 ((Kp.of_same r σ s1).trans k1)
theorem ds_own (i : Nat) {x : Str} {pos' : Pos} (he : DF X e fl) (hN : X.N.Nodup) (hi : X.N[i]? = some x := by rfl) (hx : Loc X.env.scope x := by first | exact Or.inl rfl | exact Or.inr rfl) (hs : swapsWith e (some (.Name x pos')) pos.line X.env = pure false := by rfl) (hf : X.fn x = true \/ X.env.scope.names.lookup x = some .local := by first | exact .inl rfl | exact .inr rfl) :
    DS X (.Assign [.Name x pos'] e pos) (sOwn i fl) := by
  refine PS.conseq (ps_set hN hi hx he hs hf) fun Dn σ H hq => ?_
  obtain ⟨O0, r, fl', hR, e, q⟩ := hq
  obtain ⟨l, e1, e2⟩ := bind_some e
  obtain ⟨r', e4, rfl⟩ := map_some e2
  obtain ⟨hl, np, rfl⟩ := setO_some e4
  refine ⟨O0, r, l, hR, e1, fun p xs H1 s1 n1 e3 i1 => ?_⟩
  obtain ⟨R1, k1⟩ := hR.seto s1 n1 e3 i1 hl np
  exact q _ H1 R1 k1
theorem yK (he : DE X e f) : DS X (.Return (some e) pos) (xF f) := by
  refine PS.conseq (ps_ret he) fun Dn σ H hq => ?_
  obtain ⟨O0, r, fl, hR, e, q⟩ := hq
  obtain ⟨d, e1, rfl⟩ := map_some e
  exact ⟨O0, r, d, hR, e1, fun v H1 s1 i1 => q v σ H1 (hR.same s1) (Kp.of_same r σ s1) (Is.less (O := O0) hR i1 s1)⟩
theorem ds_retOwn (i : Nat) {x : Str} {pos' : Pos} (h : PE X (.Name x pos') (tVar i)) : DS X (.Return (some (.Name x pos')) pos) (sRetOwn i) := by
  refine PS.conseq (ps_ret h) fun Dn σ H hq => ?_
  obtain ⟨O0, r, fl', hR, e, q⟩ := hq
  unfold sRetOwn at e
  have ⟨l, e1, e2⟩ : ∃ l, r[i]? = some (.o l) /\ fl' = .rf l r := by
    split at e
    · rename_i l h; cases e; exact ⟨l, h, rfl⟩
    · cases e
  subst e2
  obtain ⟨a, xs, q1, q2, q3⟩ := hR.own i l (by rw [e1]; rfl)
  refine ⟨.ref a, q1, q a xs σ H hR (Kp.refl H r σ) (.inr ⟨i, l, .inl e1, q1⟩) (hR.loc i l a (.inl e1) q1) q2 ?_⟩
  exact IsL.mono (zZ.kp (zZ.refl H) _) hR.ol (fun b z _ => z.elim .inl fun z => by subst z; exact .inr ⟨i, l, by rw [e1]; rfl, q1⟩) _ _ q3
theorem xW {c : Expr} {sa sb : List Stmt} {tc : MB} (hc : DT X c tc) (ha : DSs X sa g) (hb : DSs X sb h) : DS X (.If c sa sb pos) (sIf tc g h) := by
  refine PS.conseq (ps_if hc ha hb) fun Dn σ H hq => ?_
  obtain ⟨O0, r, fl', hR, e, q⟩ := hq
  obtain ⟨k, e1, e2⟩ := bind_some e
  refine ⟨O0, r, k, hR, e1, fun H1 s1 => ?_⟩
  have R1 := hR.same s1
  have q1 := PostS.before R1 (Kp.of_same r σ s1) q
  cases k with
  | true => rw [if_pos rfl] at e2; exact iteT ⟨O0, r, fl', R1, e2, q1⟩
  | false => rw [if_neg Bool.false_ne_true] at e2; exact iteF ⟨O0, r, fl', R1, e2, q1⟩
theorem ds_expr (he : DE X e f) (hs : swapsWith e none pos.line X.env = pure false := by rfl) : DS X (.Expr e pos) (sExpr f) := by
  refine PS.conseq (ps_expr he hs) fun Dn σ H hq => ?_
  obtain ⟨O0, r, fl', hR, e, q⟩ := hq
  obtain ⟨d, e1, rfl⟩ := map_some e
  exact ⟨O0, r, d, hR, e1, fun v H1 s1 i1 => q σ H1 (hR.same s1) (Kp.of_same r σ s1)⟩
theorem ds_x {fx : En -> Option (D × En)} (he : DX X e fx) (hs : swapsWith e none pos.line X.env = pure false := by rfl) : DS X (.Expr e pos) (sX fx) := by
  refine PS.conseq (ps_expr he hs) fun Dn σ H hq => ?_
  obtain ⟨O0, r, fl', hR, e, q⟩ := hq
  obtain ⟨⟨d, r'⟩, e1, rfl⟩ := map_some e
  exact ⟨O0, r, d, r', hR, e1, fun v H1 R1 k1 i1 => q σ H1 R1 k1⟩
theorem ds_setX (i : Nat) {x : Str} {pos' : Pos} {fx : En -> Option (D × En)} (he : DX X e fx) (hN : X.N.Nodup) (hi : X.N[i]? = some x := by rfl) (hx : Loc X.env.scope x := by first | exact Or.inl rfl | exact Or.inr rfl) (hs : swapsWith e (some (.Name x pos')) pos.line X.env = pure false := by rfl) (hf : X.fn x = true \/ X.env.scope.names.lookup x = some .local := by first | exact .inl rfl | exact .inr rfl) :
    DS X (.Assign [.Name x pos'] e pos) (sSetX i fx) := by
  refine PS.conseq (ps_set hN hi hx he hs hf) fun Dn σ H hq => ?_
  obtain ⟨O0, r, fl, hR, e, q⟩ := hq
  obtain ⟨⟨d, r1⟩, e1, e2⟩ := bind_some e
  obtain ⟨r', e3, rfl⟩ := map_some e2
  obtain ⟨hl, np, rfl⟩ := setV_some e3
  refine ⟨O0, r, d, r1, hR, e1, fun v H1 R1 k1 i1 => ?_⟩
  obtain ⟨R2, k2⟩ := R1.setv hl np i1
  exact q _ H1 R2 (k1.trans k2)
theorem ds_retX {fx : En -> Option (D × En)} (he : DX X e fx) : DS X (.Return (some e) pos) (sRetX fx) := by
  refine PS.conseq (ps_ret he) fun Dn σ H hq => ?_
  obtain ⟨O0, r, fl, hR, e, q⟩ := hq
  obtain ⟨⟨d, r1⟩, e1, rfl⟩ := map_some e
  exact ⟨O0, r, d, r1, hR, e1, fun v H1 R1 k1 i1 => q v σ H1 R1 k1 (Is.less (O := O0) R1 i1 (zZ.refl H1))⟩
theorem ds_while (n : Nat) {c : Expr} {body : List Stmt} {tc : MB} (hp : PassesOwn (model X.prog X.w) X.A X.env X.xe) (hc : DT X c tc) (hb : DSs X body g) : DS X (.While c body [] pos) (qL n tc g) := by
  refine PS.conseq (ps_while hp hc hb) fun Dn σ H hq => ?_
  obtain ⟨O0, r, fl, hR, e, q⟩ := hq
  refine ⟨fun m σ1 H1 => ∃ r1, R X.K O0 H1 r1 σ1 /\ Kp H r σ H1 r1 σ1 /\ qL m tc g r1 = some fl, ⟨n, r, hR, Kp.refl H r σ, e⟩, ?_⟩
  rintro m σ1 H1 ⟨r1, R1, k1, e1⟩
  cases m with
  | zero => cases e1
  | succ m =>
    obtain ⟨b, e2, e3⟩ := bind_some e1
    refine ⟨O0, r1, b, R1, e2, fun H2 s2 => ?_⟩
    have R2 := R1.same s2
    have k2 := k1.trans (Kp.of_same r1 σ1 s2)
    cases b with
    | false =>
      rw [if_neg Bool.false_ne_true] at e3
      cases e3
      exact iteF (q σ1 H2 R2 k2)
    | true =>
      rw [if_pos rfl] at e3
      obtain ⟨f1, e4, e5⟩ := bind_some e3
      refine iteT ⟨fun σ3 H3 => ∃ r3, R X.K O0 H3 r3 σ3 /\ Kp H r σ H3 r3 σ3 /\ qL m tc g r3 = some fl, fun σ3 H3 z => ⟨m, Nat.lt_succ_self m, z⟩, O0, r1, f1, R2, e4, ?_⟩
      cases f1 with
      | nx r3 => exact fun σ3 H3 R3 k3 => ⟨r3, R3, k2.trans k3, e5⟩
      | ct r3 => exact fun σ3 H3 R3 k3 => ⟨r3, R3, k2.trans k3, e5⟩
      | bk r3 => cases e5; exact fun σ3 H3 R3 k3 => q σ3 H3 R3 (k2.trans k3)
      | rt d r3 => cases e5; exact PostS.before R2 k2 q
      | rf l r3 => cases e5; exact PostS.before R2 k2 q
      | rg ks l r3 => cases e5; exact PostS.before R2 k2 q
end
noncomputable def lG (K : Fg) (bd : D -> En -> Option En) : TG := fun v σ H Q => ∃ O0 r d r', R K O0 H r σ /\ Is K (Ow O0 r σ) H d v /\ bd d r = some r' /\ ∀ σ', R K O0 H r' σ' -> Kp H r σ H r' σ' -> Q σ' H
noncomputable def DG (X : Cx) (tg : Expr) (bd : D -> En -> Option En) : Prop := PG X tg (lG X.K bd)
noncomputable def Ylds (K : Fg) (O M : Addr -> Prop) (H0 : Hp) (J : It) (l : List D) : Prop := ∀ (i : Nat) (H : Hp) (O' : Addr -> Prop), Keep M H0 H -> (∀ a, O' a -> H0 a ≠ none -> O a) ->
  (i < l.length -> J.go i H /\ ∀ x H', J.yld i H x H' -> zZ H H' /\ ∀ d, l[i]? = some d -> Is K O' H' d x) /\ (i = l.length -> J.stop i H)
noncomputable def lI (K : Fg) (it : ML) : TI := fun σ H Rr => ∃ O0 r l, R K O0 H r σ /\ it r = some l /\ ∀ J H', zZ H H' -> Ylds K (Ow O0 r σ) (MutAt r σ) H' J l -> Rr J H'
noncomputable def DI (X : Cx) (tg iter : Expr) (it : ML) : Prop := PI X tg iter (lI X.K it)
theorem PG.conseq {X : Cx} {e : Expr} {t t' : TG} (h : PG X e t) (i : ∀ v σ H Q, t' v σ H Q -> t v σ H Q) : PG X e t' := fun pins s σ H v u Q I r q => h pins s σ H v u Q I r (i v σ H Q q)
theorem PI.conseq {X : Cx} {tg e : Expr} {t t' : TI} (h : PI X tg e t) (i : ∀ σ H Q, t' σ H Q -> t σ H Q) : PI X tg e t' := fun pins s σ H Q I q => h pins s σ H Q I (i σ H Q q)
theorem drop_cons {α : Type} {l : List α} {i : Nat} {d : α} (h : l[i]? = some d) : l.drop i = d :: l.drop (i + 1) := by
  obtain ⟨lt, eq⟩ := List.getElem?_eq_some_iff.mp h
  rw [<- eq, List.drop_eq_getElem_cons lt]
section
variable {X : Cx} {pos : Pos} {tg iter : Expr} {bd : D -> En -> Option En} {it : ML} {g : MS} {body : List Stmt}
theorem ds_for (hp : PassesOwn (model X.prog X.w) X.A X.env X.xe) (hc : X.calm = true) (hi : DI X tg iter it) (hg : DG X tg bd) (hb : DSs X body g) (hs : ∀ x, foldedSetIterable iter X.env x = pure x := by intro _; rfl) :
    DS X (.For tg iter body [] pos) (sFor bd it g) := by
  refine PS.conseq (ps_for hp hc hi hg hb hs) fun Dn σ H hq => ?_
  obtain ⟨O0, r, fl, hR, e, q⟩ := hq
  obtain ⟨l, e1, e2⟩ := bind_some e
  refine ⟨O0, r, l, hR, e1, fun J H0 s0 yl => ?_⟩
  have R0 := hR.same s0
  refine ⟨fun i m σ1 H1 => m = l.length - i /\ i <= l.length /\ ∃ r1, R X.K O0 H1 r1 σ1 /\ Kp H0 r σ H1 r1 σ1 /\ forL bd g (l.drop i) r1 = some fl, ⟨l.length, by simp, Nat.zero_le _, r, R0, Kp.refl H0 r σ, by simpa using e2⟩, ?_⟩
  rintro i m σ1 H1 ⟨rfl, hil, r1, R1, k1, e3⟩
  have k0 := (Kp.of_same r σ s0).trans k1
  obtain ⟨y1, y2⟩ := yl i H1 (Ow O0 r1 σ1) k1.keep fun a z n => z.elim .inl fun z => (k1.new a z).elim .inr fun z => absurd z n
  by_cases hlt : i < l.length
  · obtain ⟨go, yd⟩ := y1 hlt
    have hd : l[i]? = some l[i] := by simp [hlt]
    rw [drop_cons hd] at e3
    obtain ⟨r2, e4, e5⟩ := bind_some e3
    obtain ⟨f1, e6, e7⟩ := bind_some e5
    refine .inr ⟨go, fun σ3 H3 => ∃ r3, R X.K O0 H3 r3 σ3 /\ Kp H0 r σ H3 r3 σ3 /\ forL bd g (l.drop (i + 1)) r3 = some fl, fun σ3 H3 z => ⟨l.length - (i + 1), by lia, rfl, hlt, z⟩, fun x H2 yx => ?_⟩
    obtain ⟨s2, ix⟩ := yd x H2 yx
    have R2 := R1.same s2
    refine ⟨O0, r1, l[i], r2, R2, ix _ hd, e4, fun σ2 R2' k2 => ⟨O0, r2, f1, R2', e6, ?_⟩⟩
    have k3 := (k1.trans (Kp.of_same r1 σ1 s2)).trans k2
    have k4 := (k0.trans (Kp.of_same r1 σ1 s2)).trans k2
    cases f1 with
    | nx r3 => exact fun σ3 H3 R3 kk => ⟨r3, R3, k3.trans kk, e7⟩
    | ct r3 => exact fun σ3 H3 R3 kk => ⟨r3, R3, k3.trans kk, e7⟩
    | bk r3 => cases e7; exact fun σ3 H3 R3 kk => q σ3 H3 R3 (k4.trans kk)
    | rt d r3 => cases e7; exact PostS.before R2' k4 q
    | rf l' r3 => cases e7; exact PostS.before R2' k4 q
    | rg ks l' r3 => cases e7; exact PostS.before R2' k4 q
  · have hl : l.drop i = [] := List.drop_eq_nil_of_le (by lia)
    rw [hl] at e3
    cases e3
    exact .inl ⟨y2 (by lia), q σ1 H1 R1 k0⟩
theorem xE (i : Nat) {x : Str} (hN : X.N.Nodup) (hi : X.N[i]? = some x := by rfl) (hx : Loc X.env.scope x := by first | exact Or.inl rfl | exact Or.inr rfl) (hf : X.fn x = true \/ X.env.scope.names.lookup x = some .local := by first | exact .inl rfl | exact .inr rfl) : DG X (.Name x pos) (yF i) := by
  refine PG.conseq (pg_name hN hi hx hf) fun v σ H Q h => ?_
  obtain ⟨O0, r, d, r', hR, iv, e, q⟩ := h
  obtain ⟨hl, np, rfl⟩ := setV_some e
  obtain ⟨R1, k1⟩ := hR.setv hl np iv
  exact q _ R1 k1
noncomputable def bdNil : List D -> En -> Option En := fun l r => if l.isEmpty then some r else none
noncomputable def yR (b : D -> En -> Option En) (bs : List D -> En -> Option En) : List D -> En -> Option En := fun l r => match l with
  | [] => none
  | d :: t => (b d r).bind fun r1 => bs t r1
noncomputable def lGs (K : Fg) (bs : List D -> En -> Option En) : TGs := fun vs σ H Q => ∃ O0 r l r', R K O0 H r σ /\ IsL K (Ow O0 r σ) H l vs /\ bs l r = some r' /\ ∀ σ', R K O0 H r' σ' -> Kp H r σ H r' σ' -> Q σ' H
noncomputable def DGs (X : Cx) (ts : List Expr) (bs : List D -> En -> Option En) : Prop := PGs X ts (lGs X.K bs)
theorem PGs.conseq {e : List Expr} {t t' : TGs} (h : PGs X e t) (i : ∀ v σ H Q, t' v σ H Q -> t v σ H Q) : PGs X e t' := fun pins s σ H v u Q I r q => h pins s σ H v u Q I r (i v σ H Q q)
theorem dgs_nil : DGs X [] bdNil := by
  refine PGs.conseq pgs_nil fun vs σ H Q h => ?_
  obtain ⟨O0, r, l, r', hR, il, e, q⟩ := h
  unfold bdNil at e
  cases l with
  | nil =>
    unfold IsL at il
    cases e
    exact ⟨il, q σ hR (Kp.refl H r σ)⟩
  | cons d l => cases e
theorem wL {e : Expr} {es : List Expr} {bs : List D -> En -> Option En} (h1 : DG X e bd) (h2 : DGs X es bs) (hs : (assignEach (e :: es) X.env).map (·.2) = assign e X.env :: (assignEach es X.env).map (·.2) := by rfl) : DGs X (e :: es) (yR bd bs) := by
  refine PGs.conseq (pgs_cons h1 h2 hs) fun vs σ H Q h => ?_
  obtain ⟨O0, r, l, r', hR, il, e, q⟩ := h
  cases l with
  | nil => cases e
  | cons d t =>
    unfold IsL at il
    obtain ⟨v, us, rfl, i1, i2⟩ := il
    obtain ⟨r1, e1, e2⟩ := bind_some e
    refine ⟨v, us, rfl, O0, r, d, r1, hR, i1, e1, fun σ1 R1 k1 => ⟨O0, r1, t, r', R1, ?_, e2, fun σ2 R2 k2 => q σ2 R2 (k1.trans k2)⟩⟩
    exact IsL.mono (zZ.kp (zZ.refl H) _) hR.ol (fun a z n => z.elim .inl fun z => (k1.new a z).elim .inr fun z => absurd z n) _ _ i2
end
inductive Rs where
  | v (d : D) | f (l : List D) | g (ks : List Key) (l : List D)
noncomputable abbrev MF := List Sl -> Option (Rs × List Sl)
structure PostF (K : Fg) (O0 : Addr -> Prop) (H : Hp) (as : List Sl) (vs : List V) (H' : Hp) (as' : List Sl) : Prop where
  keep : Keep (MutAt as (vs.map some)) H H'
  live : ∀ b, H' b = none -> H b = none
  lst : ∀ b o, H b = some o -> Mb o -> ∃ o', H' b = some o' /\ Mb o'
  par : ∀ (i : Nat) (l : List D), as[i]? = some (.p l) -> ∃ l' a xs, as'[i]? = some (.p l') /\ vs[i]? = some (.ref a) /\ H' a = some (.lst xs) /\ IsL K O0 H' l' xs
noncomputable def RsP (K : Fg) (O0 : Addr -> Prop) (H : Hp) (as : List Sl) (vs : List V) (as' : List Sl) (Q : VK) : Rs -> Prop
  | .v d => ∀ v H', PostF K O0 H as vs H' as' -> Is K O0 H' d v -> Q v H'
  | .f l => ∀ a xs H', PostF K O0 H as vs H' as' -> H a = none -> H' a = some (.lst xs) -> IsL K (fun b => O0 b \/ b = a) H' l xs -> Q (.ref a) H'
  | .g ks l => ∀ a kvs H', PostF K O0 H as vs H' as' -> H a = none -> H' a = some (.dK kvs) -> kvs.map (·.1) = ks -> IsL K (fun b => O0 b \/ b = a) H' l (kvs.map (·.2)) -> Q (.ref a) H'
noncomputable def spD (K : Fg) (n : Nat) (m : MF) : Sp := fun vs H Q _ => ∃ O0 as rs as', as.length = n /\ R K O0 H as (vs.map some) /\ (∀ (i : Nat) (l : List D), as[i]? ≠ some (.o l) /\ as[i]? ≠ some (.z l) /\ ∀ ks, as[i]? ≠ some (.d ks l)) /\ m as = some (rs, as') /\ RsP K O0 H as vs as' Q rs
noncomputable def mkF (n N : Nat) (g : MS) : MF := fun as => (g (as ++ List.replicate (N - n) .un)).bind fun fl => match fl with
  | .rt d r' => some (.v d, r'.take n)
  | .rf l r' => some (.f l, r'.take n)
  | .rg ks l r' => some (.g ks l, r'.take n)
  | .nx r' => some (.v .non, r'.take n)
  | _ => none
section
variable {P : Program} {w : World} {K : Fg} {mg : Str -> Option Value} {base : Heap}
theorem own_start {q : Sl -> Option (List D)} (hq : q .un = none) {as : List Sl} {vs : List V} {k n : Nat} {a : Addr} (hl : as.length = vs.length) : AtS q (as ++ List.replicate k .un) (vs.map some ++ List.replicate n none) a ↔ AtS q as (vs.map some) a := by
  constructor
  · rintro ⟨i, l, e, q'⟩
    by_cases hi : i < as.length
    · rw [List.getElem?_append_left hi] at e
      rw [List.getElem?_append_left (by simp; lia)] at q'
      exact ⟨i, l, e, q'⟩
    · rw [List.getElem?_append_right (by lia), List.getElem?_replicate] at e
      split at e
      · have e' : q .un = some l := e
        rw [hq] at e'; cases e'
      · cases e
  · rintro ⟨i, l, e, q'⟩
    have hi : i < as.length := by
      cases e1 : as[i]? with
      | none => rw [e1] at e; cases e
      | some x => exact (List.getElem?_eq_some_iff.mp e1).1
    exact ⟨i, l, by rw [List.getElem?_append_left hi]; exact e, by rw [List.getElem?_append_left (by simp; lia)]; exact q'⟩
theorem R.start {O0 : Addr -> Prop} {H : Hp} {as : List Sl} {vs : List V} {k : Nat} (h : R K O0 H as (vs.map some)) : R K O0 H (as ++ List.replicate k .un) (vs.map some ++ List.replicate k none) := by
  have hl : as.length = vs.length := by simpa using h.len
  have own : ∀ a, Ow O0 (as ++ List.replicate k .un) (vs.map some ++ List.replicate k none) a -> H a ≠ none -> Ow O0 as (vs.map some) a := fun a z _ => z.imp id (own_start rfl hl).mp
  have pre : ∀ (i : Nat) (x : Sl), (as ++ List.replicate k .un)[i]? = some x -> x ≠ .un -> as[i]? = some x /\ (vs.map some ++ List.replicate k none)[i]? = (vs.map some)[i]? := fun i x e n => by
    by_cases hi : i < as.length
    · rw [List.getElem?_append_left hi] at e
      exact ⟨e, List.getElem?_append_left (by simp; lia)⟩
    · rw [List.getElem?_append_right (by lia), List.getElem?_replicate] at e
      split at e
      · cases e; exact absurd rfl n
      · cases e
  have preO : ∀ {q : Sl -> Option (List D)} (hq : q .un = none) (i : Nat) (l : List D), ((as ++ List.replicate k .un)[i]?).bind q = some l -> (as[i]?).bind q = some l /\ (vs.map some ++ List.replicate k none)[i]? = (vs.map some)[i]? := fun {q} hq i l e => by
    cases e1 : (as ++ List.replicate k .un)[i]? with
    | none => rw [e1] at e; cases e
    | some x =>
      obtain ⟨q1, q2⟩ := pre i x e1 (by rintro rfl; rw [e1] at e; have e' : q .un = some l := e; rw [hq] at e'; cases e')
      rw [e1] at e
      exact ⟨by rw [q1]; exact e, q2⟩
  refine ⟨by simp [hl], fun i d e => ?_, fun i l e => ?_, fun i j a l m e1 e2 q1 q2 => ?_, h.o0, fun i l a e q => ?_, fun i l a e q => ?_, fun i ks l e => ?_⟩
  · obtain ⟨q1, q2⟩ := pre i _ e (by intro z; cases z)
    obtain ⟨v, e3, q3⟩ := h.val i d q1
    exact ⟨v, q2.trans e3, Is.mono (zZ.kp (zZ.refl H) _) h.ol own _ _ q3⟩
  · obtain ⟨q1, q2⟩ := preO (q := Sl.ls) rfl i l e
    obtain ⟨a, xs, e3, e4, q3⟩ := h.own i l q1
    exact ⟨a, xs, q2.trans e3, e4, IsL.mono (zZ.kp (zZ.refl H) _) h.ol own _ _ q3⟩
  · obtain ⟨p1, p2⟩ := preO (q := Sl.own) rfl i l e1
    obtain ⟨p3, p4⟩ := preO (q := Sl.own) rfl j m e2
    exact h.apart i j a l m p1 p3 (p2 ▸ q1) (p4 ▸ q2)
  · rcases e with e | e | ⟨ks, e⟩
    · obtain ⟨p1, p2⟩ := pre i _ e (by intro z; cases z)
      exact h.loc i l a (.inl p1) (p2 ▸ q)
    · obtain ⟨p1, p2⟩ := pre i _ e (by intro z; cases z)
      exact h.loc i l a (.inr (.inl p1)) (p2 ▸ q)
    · obtain ⟨p1, p2⟩ := pre i _ e (by intro z; cases z)
      exact h.loc i l a (.inr (.inr ⟨ks, p1⟩)) (p2 ▸ q)
  · obtain ⟨p1, p2⟩ := pre i _ e (by intro z; cases z)
    exact h.par i l a p1 (p2 ▸ q)
  · obtain ⟨p1, p2⟩ := pre i _ e (by intro z; cases z)
    obtain ⟨a, kvs, e3, e4, e5, q3⟩ := h.dct i ks l p1
    exact ⟨a, kvs, p2.trans e3, e4, e5, IsL.mono (zZ.kp (zZ.refl H) _) h.ol own _ _ q3⟩
theorem fn_dC {x qual : Str} {st : Stmt} {f : Addr} {fd : FuncData} {N ps : List Str} {k : Nat} {g : MS} (F : Fun K x qual st f fd) (S : FnScope N ps (zY st)) (n : Nat) (nN : Nat) (hn : ps.length = n := by rfl) (hN : N.length = nN := by rfl)
    (hb : ∀ (cdv : Value), fd.code = cdv -> ∀ (A : Around) (outer : List Env) (s : Shared) (H : Hp) (E : XK), Room k (A.deeper (envOfC qual (zY st) s.heap.objs.size f cdv)) ->
      DSs (cxOf CX0 P w K mg base N qual (zY st) f cdv A outer s H E).nox (defBody st) g) : FnOk P w K mg base CX0 (k + 1) f fd ps (spD K n (mkF n nN g)) := by
  subst hn hN
  obtain ⟨oc, od, kV, doc, pm, an, cdv, ct, osl, rfl, lk, hcd⟩ := F.ex
  refine fn_of lk hcd S (fun vs H Q E h => ?_) (fun A outer s H vs Q E hr h => ?_)
  · obtain ⟨O0, as, rs, as', hl, hR, _⟩ := h
    have := hR.len
    simp at this; lia
  · obtain ⟨O0, as, rs, as', hl, hR, no, e, q⟩ := h
    have hlv : as.length = vs.length := by simpa using hR.len
    refine ⟨_, PSs.nox (hb cdv rfl A outer s H E hr), ?_⟩
    obtain ⟨fl, e1, e2⟩ := bind_some e
    have hst : L2.start N vs = vs.map some ++ List.replicate (N.length - ps.length) none := by unfold L2.start; rw [<- hlv, hl]
    rw [hst]
    have R0 := R.start (k := N.length - ps.length) hR
    have fin : ∀ (σ' : St) (H' : Hp) (r' : En), R K O0 H' r' σ' -> Kp H (as ++ List.replicate (N.length - ps.length) .un) (vs.map some ++ List.replicate (N.length - ps.length) none) H' r' σ' -> PostF K O0 H as vs H' (r'.take ps.length) := fun σ' H' r' R' k' => by
      refine ⟨fun b o eb nb => k'.keep b o eb fun z => nb ((own_start rfl hlv).mp z), k'.live, k'.lst, fun i l ei => ?_⟩
      have hi : i < as.length := (List.getElem?_eq_some_iff.mp ei).1
      obtain ⟨⟨l', e3⟩, e4⟩ := k'.par i l (by rw [List.getElem?_append_left hi]; exact ei)
      rw [List.getElem?_append_left (by simp; lia)] at e4
      obtain ⟨a, xs, e5, e6, e7⟩ := R'.own i l' (by rw [e3]; rfl)
      rw [e4] at e5
      have ev : vs[i]? = some (.ref a) := by
        rw [List.getElem?_map] at e5
        cases e8 : vs[i]? with
        | none => rw [e8] at e5; cases e5
        | some y => rw [e8] at e5; cases e5; rfl
      exact ⟨l', a, xs, by rw [List.getElem?_take_of_lt (by lia)]; exact e3, ev, e6, IsL.mono (zZ.kp (zZ.refl H') _) R'.ol (fun _ z _ => .inl z) _ _ e7⟩
    refine ⟨O0, _, fl, R0, e1, ?_⟩
    cases fl with
    | nx r' => cases e2; exact fun σ' H' R' k' => q .non H' (fin σ' H' r' R' k') (by rw [Is.non_iff])
    | bk r' => cases e2
    | ct r' => cases e2
    | rt d r' => cases e2; exact fun v σ' H' R' k' i' => q v H' (fin σ' H' r' R' k') i'
    | rf l r' =>
      cases e2
      refine fun a xs σ' H' R' k' fr no0 ea il => q a xs H' (fin σ' H' r' R' k') ?_ ea il
      rcases fr with z | ⟨i, m, ei, _⟩
      · exact z
      · exfalso
        by_cases hi : i < as.length
        · rw [List.getElem?_append_left hi] at ei
          rcases ei with ei | ⟨ks, ei⟩
          · exact (no i m).1 ei
          · exact (no i m).2.2 ks ei
        · rw [List.getElem?_append_right (by lia), List.getElem?_replicate] at ei
          rcases ei with ei | ⟨ks, ei⟩ <;> split at ei <;> cases ei
    | rg ks l r' =>
      cases e2
      refine fun a kvs σ' H' R' k' fr no0 ea ek il => q a kvs H' (fin σ' H' r' R' k') ?_ ea ek il
      rcases fr with z | ⟨i, m, ei, _⟩
      · exact z
      · exfalso
        by_cases hi : i < as.length
        · rw [List.getElem?_append_left hi] at ei
          rcases ei with ei | ⟨ks', ei⟩
          · exact (no i m).1 ei
          · exact (no i m).2.2 ks' ei
        · rw [List.getElem?_append_right (by lia), List.getElem?_replicate] at ei
          rcases ei with ei | ⟨ks', ei⟩ <;> split at ei <;> cases ei
theorem fn_d {x qual : Str} {st : Stmt} {f : Addr} {fd : FuncData} {N ps : List Str} {k : Nat} {g : MS} (F : Fun K x qual st f fd) (S : FnScope N ps (zY st)) (n : Nat) (nN : Nat) (hn : ps.length = n := by rfl) (hN : N.length = nN := by rfl)
    (hb : ∀ (cdv : Value) (A : Around) (outer : List Env) (s : Shared) (H : Hp) (E : XK), Room k (A.deeper (envOfC qual (zY st) s.heap.objs.size f cdv)) ->
      DSs (cxOf CX0 P w K mg base N qual (zY st) f cdv A outer s H E).nox (defBody st) g) : FnOk P w K mg base CX0 (k + 1) f fd ps (spD K n (mkF n nN g)) := fn_dC F S n nN hn hN fun cdv _ => hb cdv
theorem fn_0 {f : Addr} {fd : FuncData} {ps : List Str} {k : Nat} (n : Nat) : FnOk P w K mg base CX0 k f fd ps (spD K n fun _ => none) :=
  ⟨(fun vs H Q E h => by obtain ⟨_, _, _, _, _, _, _, e, _⟩ := h; cases e), (fun A outer s H args us vs Q E _ _ _ _ h => by obtain ⟨_, _, _, _, _, _, _, e, _⟩ := h; cases e)⟩
end
noncomputable def rsD : Rs -> D
  | .v d => d
  | .f l => .lst l
  | .g ks l => .dct ks l
noncomputable def zS (n : Nat) (m : MF) (fs : ML) : ME := fun r => (fs r).bind fun ds => if ds.length = n then (m (ds.map .v)).map fun p => rsD p.1 else none
noncomputable def mCallF (n : Nat) (m : MF) (fs : ML) : ML := fun r => (fs r).bind fun ds => if ds.length = n then (m (ds.map .v)).bind fun p => match p.1 with
  | .f l => some l
  | _ => none
  else none
section
variable {K : Fg}
theorem R.args {O : Addr -> Prop} {H : Hp} {ds : List D} {vs : List V} (ol : OLst O H) (h : IsL K O H ds vs) : R K O H (ds.map .v) (vs.map some) := by
  have no : ∀ (i : Nat) (l : List D), ((ds.map Sl.v)[i]?).bind Sl.own ≠ some l := fun i l e => by
    rw [List.getElem?_map] at e
    cases e1 : ds[i]? with
    | none => rw [e1] at e; cases e
    | some x => rw [e1] at e; cases e
  refine ⟨by simp [h.length], fun i d e => ?_, fun i l e => absurd (ls_own' e) (no i l), fun i j a l m e1 => absurd e1 (no i l), ol, fun i l a e => absurd (show ((ds.map Sl.v)[i]?).bind Sl.own = some l by rcases e with e | e | ⟨_, e⟩ <;> rw [e] <;> rfl) (no i l), fun i l a e => absurd (show ((ds.map Sl.v)[i]?).bind Sl.own = some l by rw [e]; rfl) (no i l), fun i ks l e => absurd (show ((ds.map Sl.v)[i]?).bind Sl.own = some l by rw [e]; rfl) (no i l)⟩
  rw [List.getElem?_map] at e
  cases e1 : ds[i]? with
  | none => rw [e1] at e; cases e
  | some x =>
    rw [e1] at e; cases e
    obtain ⟨v, e2, q⟩ := h.get e1
    exact ⟨v, by rw [List.getElem?_map, e2]; rfl, Is.mono (zZ.kp (zZ.refl H) _) ol (fun a z _ => z.elim id fun ⟨j, l, ej, _⟩ => absurd ej (no j l)) _ _ q⟩
theorem own_none {ds : List D} {σ : St} {a : Addr} : ¬ MutAt (ds.map .v) σ a := fun ⟨i, l, e, _⟩ => by
  rw [List.getElem?_map] at e
  cases e1 : ds[i]? with
  | none => rw [e1] at e; cases e
  | some x => rw [e1] at e; cases e
theorem PostF.same {O0 : Addr -> Prop} {H H' : Hp} {ds : List D} {vs : List V} {as' : List Sl} (h : PostF K O0 H (ds.map .v) vs H' as') : zZ H H' := fun b o e => h.keep b o e own_none
end
section
variable {X : Cx} {k n : Nat} {f : Addr} {fd : FuncData} {ps : List Str} {m : MF} {x : Str} {p pos : Pos} {e : Expr} {es : List Expr} {fs : ML}
theorem sp_pure {O0 : Addr -> Prop} {r : En} {σ : St} {H H1 : Hp} {ds : List D} {vs : List V} {rs : Rs} {as' : List Sl} {Q : VK} {E : XK} (hR : R X.K O0 H r σ) (s1 : zZ H H1) (il : IsL X.K (Ow O0 r σ) H1 ds vs) (hl : ds.length = n) (em : m (ds.map .v) = some (rs, as'))
    (q : RsP X.K (Ow O0 r σ) H1 (ds.map .v) vs as' Q rs) : spD X.K n m (vs ++ []) H1 Q E := by
  rw [List.append_nil]
  refine ⟨Ow O0 r σ, ds.map .v, rs, as', by simpa using hl, R.args (hR.same s1).ol il, fun i l => ?_, em, q⟩
  rw [List.getElem?_map]
  cases e1 : ds[i]? with
  | none => exact ⟨(fun z => by cases z), (fun z => by cases z), (fun _ z => by cases z)⟩
  | some y => exact ⟨(fun z => by cases z), (fun z => by cases z), (fun _ z => by cases z)⟩
theorem yC (F : FnOk X.prog X.w X.K X.mg X.base CX0 k f fd ps (spD X.K n m)) (hr : Room k X.A) (hg : Gl X x) (hm : X.mg x = some (.ref f)) (hk : PySem.W.keepIn X.K (.ref f) = true) (hb : Binds X.K fd ps []) (ha : DA X (e :: es) fs)
    (hdb : (x == ("__debug__" : Str)) = false := by decide) (he : starEach (e :: es) X.env = (false, eval e X.env) :: starEach es X.env := by rfl) (hpl : (backTo pos (starEach es X.env)).any (·.1) = false := by rfl) :
    DE X (.Call (.Name x p) (e :: es) [] pos) (zS n m fs) := by
  refine PE.conseq (pe_call (E := fun _ _ _ => False) (dvs := []) F hr hg hm hk hb .nil pass0 ha hdb he hpl) fun σ H Q h => ?_
  obtain ⟨O0, r, d, hR, e, q⟩ := h
  obtain ⟨ds, e1, e2⟩ := bind_some e
  split at e2
  · rename_i hl
    obtain ⟨⟨rs, as'⟩, e3, rfl⟩ := map_some e2
    refine ⟨O0, r, ds, hR, e1, fun vs H1 s1 il => sp_pure hR s1 il hl e3 ?_⟩
    cases rs with
    | v d => exact fun v H2 pf iv => q v H2 (s1.trans pf.same) iv
    | f l =>
      refine fun a xs H2 pf na ea il2 => q _ H2 (s1.trans pf.same) ?_
      have R1 := hR.same s1
      have olp : OLst (fun b => Ow O0 r σ b \/ b = a) H2 := fun b z => z.elim (fun z => (R1.same pf.same).ol b z) fun z => by subst z; exact ⟨.lst xs, ea, trivial⟩
      show Is X.K (Ow O0 r σ) H2 (.lst l) (.ref a)
      rw [Is.lst_iff]
      exact ⟨a, xs, rfl, .inl ⟨R1.nofresh na, .inl ea⟩, IsL.mono (zZ.kp (zZ.refl H2) _) olp (fun _ z _ => .inl z) _ _ il2⟩
    | g ks l =>
      refine fun a kvs H2 pf na ea ek il2 => q _ H2 (s1.trans pf.same) ?_
      have olp : OLst (fun b => Ow O0 r σ b \/ b = a) H2 := fun b z => z.elim (fun z => ((hR.same s1).same pf.same).ol b z) fun z => by subst z; exact ⟨.dK kvs, ea, trivial⟩
      show Is X.K (Ow O0 r σ) H2 (.dct ks l) (.ref a)
      rw [Is.dct_iff]
      exact ⟨a, kvs, rfl, (hR.same s1).nofresh na, .inl ea, ek, IsL.mono (zZ.kp (zZ.refl H2) _) olp (fun _ z _ => .inl z) _ _ il2⟩
  · cases e2
theorem de_call0 (F : FnOk X.prog X.w X.K X.mg X.base CX0 k f fd ps (spD X.K 0 m)) (hr : Room k X.A) (hg : Gl X x) (hm : X.mg x = some (.ref f)) (hk : PySem.W.keepIn X.K (.ref f) = true) (hb : Binds X.K fd ps [])
    (hdb : (x == ("__debug__" : Str)) = false := by decide) : DE X (.Call (.Name x p) [] [] pos) (zS 0 m zJ) := by
  refine PE.conseq (pe_call0 (E := fun _ _ _ => False) (dvs := []) F hr hg hm hk hb .nil pass0 hdb) fun σ H Q h => ?_
  obtain ⟨O0, r, d, hR, e, q⟩ := h
  obtain ⟨ds, e1, e2⟩ := bind_some e
  unfold zJ at e1; cases e1
  split at e2
  · rename_i hl
    obtain ⟨⟨rs, as'⟩, e3, rfl⟩ := map_some e2
    refine sp_pure (E := fun _ _ _ => False) hR (zZ.refl H) .nil hl e3 ?_
    cases rs with
    | v d => exact fun v H2 pf iv => q v H2 pf.same iv
    | f l =>
      refine fun a xs H2 pf na ea il2 => q _ H2 pf.same ?_
      have olp : OLst (fun b => Ow O0 r σ b \/ b = a) H2 := fun b z => z.elim (fun z => (hR.same pf.same).ol b z) fun z => by subst z; exact ⟨.lst xs, ea, trivial⟩
      show Is X.K (Ow O0 r σ) H2 (.lst l) (.ref a)
      rw [Is.lst_iff]
      exact ⟨a, xs, rfl, .inl ⟨hR.nofresh na, .inl ea⟩, IsL.mono (zZ.kp (zZ.refl H2) _) olp (fun _ z _ => .inl z) _ _ il2⟩
    | g ks l =>
      refine fun a kvs H2 pf na ea ek il2 => q _ H2 (pf.same) ?_
      have olp : OLst (fun b => Ow O0 r σ b \/ b = a) H2 := fun b z => z.elim (fun z => (hR.same pf.same).ol b z) fun z => by subst z; exact ⟨.dK kvs, ea, trivial⟩
      show Is X.K (Ow O0 r σ) H2 (.dct ks l) (.ref a)
      rw [Is.dct_iff]
      exact ⟨a, kvs, rfl, hR.nofresh na, .inl ea, ek, IsL.mono (zZ.kp (zZ.refl H2) _) olp (fun _ z _ => .inl z) _ _ il2⟩
  · cases e2
theorem df_call (F : FnOk X.prog X.w X.K X.mg X.base CX0 k f fd ps (spD X.K n m)) (hr : Room k X.A) (hg : Gl X x) (hm : X.mg x = some (.ref f)) (hk : PySem.W.keepIn X.K (.ref f) = true) (hb : Binds X.K fd ps []) (ha : DA X (e :: es) fs)
    (hdb : (x == ("__debug__" : Str)) = false := by decide) (he : starEach (e :: es) X.env = (false, eval e X.env) :: starEach es X.env := by rfl) (hpl : (backTo pos (starEach es X.env)).any (·.1) = false := by rfl) :
    DF X (.Call (.Name x p) (e :: es) [] pos) (mCallF n m fs) := by
  refine PE.conseq (pe_call (E := fun _ _ _ => False) (dvs := []) F hr hg hm hk hb .nil pass0 ha hdb he hpl) fun σ H Q h => ?_
  obtain ⟨O0, r, l, hR, e, q⟩ := h
  obtain ⟨ds, e1, e2⟩ := bind_some e
  split at e2
  · rename_i hl
    obtain ⟨⟨rs, as'⟩, e3, e4⟩ := bind_some e2
    refine ⟨O0, r, ds, hR, e1, fun vs H1 s1 il => sp_pure hR s1 il hl e3 ?_⟩
    cases rs with
    | v d => cases e4
    | f l' => cases e4; exact fun a xs H2 pf na ea il2 => q a xs H2 (s1.trans pf.same) (s1.free na) ea il2
    | g ks l' => cases e4
  · cases e2
end
section
variable {X : Cx} {tg l : Expr} {f : ME} {p pos : Pos}
noncomputable def itemsD : D -> Option (List D)
  | .lst l => some l
  | .tup l => some l
  | _ => none
noncomputable def mIt (f : ME) : ML := fun r => (f r).bind itemsD
theorem get_of_lt {l : List D} {i : Nat} (h : i < l.length) : ∃ d, l[i]? = some d := ⟨l[i], by simp [h]⟩
theorem yl_list {K : Fg} {O M : Addr -> Prop} (mo : ∀ a, M a -> O a) {H : Hp} {a : Addr} {xs : List V} {ds : List D} (ol : OLst O H) (rd : ∀ H1, Keep M H H1 -> SqL K H1 a xs) (il : IsL K O H ds xs): Ylds K O M H (Itl K a) ds := by
  intro i H1 O' kp oo
  have kp' : Keep O H H1 := fun b o e n => kp b o e fun z => n (mo b z)
  have rd1 : SqL K H1 a xs := rd H1 kp
  refine ⟨fun hi => ⟨?_, fun x H' y => ?_⟩, fun hi => ⟨xs, rd1, by rw [<- il.length]; exact Nat.le_of_eq hi.symm⟩⟩
  · obtain ⟨d, e⟩ := get_of_lt hi
    obtain ⟨v, e1, _⟩ := il.get e
    exact ⟨xs, v, rd1, e1⟩
  · obtain ⟨rfl, y⟩ := y
    refine ⟨zZ.refl _, fun d e => ?_⟩
    obtain ⟨v, e1, q⟩ := il.get e
    have := y xs rd1
    rw [e1] at this; cases this
    exact Is.mono kp' ol oo _ _ q
theorem yl_tup {K : Fg} {O M : Addr -> Prop} (mo : ∀ a, M a -> O a) {H : Hp} {a : Addr} {xs : List V} {ds : List D} (ol : OLst O H) (rd : SqT K H a xs) (il : IsL K O H ds xs) : Ylds K O M H (Itt K a) ds := by
  intro i H1 O' kp oo
  have kp' : Keep O H H1 := fun b o e n => kp b o e fun z => n (mo b z)
  have rd1 : SqT K H1 a xs := SqT.keep kp' ol rd
  refine ⟨fun hi => ⟨?_, fun x H' y => ?_⟩, fun hi => ⟨xs, rd1, by rw [<- il.length]; exact Nat.le_of_eq hi.symm⟩⟩
  · obtain ⟨d, e⟩ := get_of_lt hi
    obtain ⟨v, e1, _⟩ := il.get e
    exact ⟨xs, v, rd1, e1⟩
  · obtain ⟨rfl, y⟩ := y
    refine ⟨zZ.refl _, fun d e => ?_⟩
    obtain ⟨v, e1, q⟩ := il.get e
    have := y xs rd1
    rw [e1] at this; cases this
    exact Is.mono kp' ol oo _ _ q
theorem pi_seq {tl : TE} (hl : PE X l tl) : PI X tg l (fun σ H Rr => tl σ H fun x H1 => ∃ a, x = .ref a /\ (((∃ xs, SqL X.K H1 a xs) /\ Rr (Itl X.K a) H1) \/ ((∃ xs, SqT X.K H1 a xs) /\ Rr (Itt X.K a) H1))) := by
  intro pins s σ H R I h
  refine thn (hl pins s σ H _ I h) fun v s1 ⟨x, H1, I1, r1, q1⟩ => ?_
  obtain ⟨a, e, q⟩ := q1
  subst e
  cases r1
  rcases q with ⟨⟨xs, hq⟩, q⟩ | ⟨⟨xs, hq⟩, q⟩
  · obtain ⟨its, rv, p, hz⟩ := I1.list hq
    refine wpAny_pyIter_list p.isList ?_
    refine ⟨s1.heap.objs.size, [s1.heap.objs.size], _, _, H1, rfl, I1.kept (t' := s1.toks) fun b o e => Heap.get?_push_of_some _ e, turn_list a _, ⟨_, Heap.get?_push_size _ rfl, rfl, rfl⟩, fun b hb => ?_, q⟩
    have e : b = s1.heap.objs.size := by simpa using hb
    subst e
    exact I1.fpOk (Nat.le_refl _) (I1.hok.fresh (Nat.le_refl _))
  · obtain ⟨its, rv, p, hz⟩ := I1.tuple hq
    refine wpAny_pyIter_tuple (show s1.heap.IsTuple a its.toArray from p) ?_
    refine ⟨s1.heap.objs.size, [s1.heap.objs.size], _, _, H1, rfl, I1.kept (t' := s1.toks) fun b o e => Heap.get?_push_of_some _ e, turn_tuple a _, ⟨_, Heap.get?_push_size _ rfl, rfl, rfl⟩, fun b hb => ?_, q⟩
    have e : b = s1.heap.objs.size := by simpa using hb
    subst e
    exact I1.fpOk (Nat.le_refl _) (I1.hok.fresh (Nat.le_refl _))
theorem di_seq (hl : DE X l f) : DI X tg l (mIt f) := by
  refine PI.conseq (pi_seq hl) fun σ H Rr h => ?_
  obtain ⟨O0, r, ds, hR, e, q⟩ := h
  obtain ⟨d, e1, e2⟩ := bind_some e
  refine ⟨O0, r, d, hR, e1, fun v H1 s1 i1 => ?_⟩
  have ol := (hR.same s1).ol
  cases d with
  | lst l' =>
    cases e2
    rw [Is.lst_iff] at i1
    obtain ⟨a, xs, rfl, rd, il⟩ := i1
    exact ⟨a, rfl, .inl ⟨⟨xs, rd.sq⟩, q _ H1 s1 (yl_list (fun a z => .inr z.own) ol (fun H2 k2 => rd.imp (fun z => Rd.keep k2 (fun y => z.1 (.inr y.own)) z.2) id) il)⟩⟩
  | tup l' =>
    cases e2
    rw [Is.tup_iff] at i1
    obtain ⟨a, xs, rfl, rd, il⟩ := i1
    exact ⟨a, rfl, .inr ⟨⟨xs, rd⟩, q _ H1 s1 (yl_tup (fun a z => .inr z.own) ol rd il)⟩⟩
  | _ => cases e2
noncomputable def rngD (lo : Int) (n : Nat) : List D := (List.range n).map fun i => .int (lo + (i : Nat))
theorem yl_rng {K : Fg} {O M : Addr -> Prop} {H : Hp} (lo : Int) (n : Nat) : Ylds K O M H (Itr lo n) (rngD lo n) := by
  intro i H1 O' kp oo
  have hl : (rngD lo n).length = n := by simp [rngD]
  refine ⟨fun hi => ⟨by rw [hl] at hi; exact hi, fun x H' y => ?_⟩, fun hi => by rw [hl] at hi; exact Nat.le_of_eq hi.symm⟩
  obtain ⟨rfl, rfl⟩ := y
  refine ⟨zZ.refl _, fun d e => ?_⟩
  rw [hl] at hi
  unfold rngD at e
  rw [List.getElem?_map, List.getElem?_range hi] at e
  cases e
  rw [Is.int_iff]
noncomputable def intD : D -> Option Int
  | .int i => some i
  | _ => none
noncomputable def mRng1 (f : ME) : ML := fun r => (f r).bind fun d => (intD d).bind fun j => if -(2 ^ 62) <= j /\ j < 2 ^ 62 then some (rngD 0 j.toNat) else none
theorem intD_some {d : D} {i : Int} (e : intD d = some i) : d = .int i := by
  cases d <;> first | cases e; rfl | cases e
theorem di_rng1 (hg : Gl X "range") (hm : X.mg "range" = none) (ha : DE X l f) (hs : starEach [l] X.env = [(false, eval l X.env)] := by rfl) : DI X tg (.Call (.Name "range" p) [l] [] pos) (mRng1 f) := by
  refine PI.conseq (pi_range1 hg hm (xT ha qR hs) hs) fun σ H Rr h => ?_
  obtain ⟨O0, r, ds, hR, e, q⟩ := h
  obtain ⟨d, e1, e2⟩ := bind_some e
  obtain ⟨j, e3, e4⟩ := bind_some e2
  cases intD_some e3
  split at e4
  · rename_i hj
    cases e4
    refine ⟨O0, r, _, hR, e1, fun v H1 s1 i1 => ?_⟩
    rw [Is.int_iff] at i1
    exact ⟨j, by rw [i1], hj.1, hj.2, q _ H1 s1 (yl_rng 0 _)⟩
  · cases e4
end
noncomputable def clOf (env : Env) : List (Str × NameKind) -> List (Str × Addr) -> List (Str × Addr)
  | [], acc => acc
  | (n, k) :: r, acc => if k = .free then clOf env r ((n, (env.cells.lookup n).getD 0) :: acc) else clOf env r acc
theorem closure_eq {env : Env} : ∀ (names : List (Str × NameKind)) (acc : List (Str × Addr)), (∀ y ∈ names, y.2 = .free -> ∃ c, env.cells.lookup y.1 = some c) ->
    (forIn names acc (fun (x : Str × NameKind) (cs : List (Str × Addr)) => match x with
      | (name, kind) => if (kind == NameKind.free) = true then do let a <- cellOf env name; pure (ForInStep.yield ((name, a) :: cs)) else pure (ForInStep.yield cs)) : Sem (List (Str × Addr))) = pure (clOf env names acc)
  | [], acc, _ => rfl
  | (n, k) :: r, acc, h => by
    rw [List.forIn_cons]
    by_cases hk : k = .free
    · obtain ⟨c, hc⟩ := h (n, k) List.mem_cons_self hk
      have ih := closure_eq r ((n, c) :: acc) fun y hy => h y (List.mem_cons_of_mem _ hy)
      subst hk
      show ((do let a <- cellOf env n; pure (ForInStep.yield ((n, a) :: acc))) >>= _ : Sem _) = _
      unfold cellOf
      rw [hc]
      unfold clOf
      rw [if_pos rfl, hc]
      exact ih
    · have hb : (k == NameKind.free) = false := by simpa using hk
      have ih := closure_eq r acc fun y hy => h y (List.mem_cons_of_mem _ hy)
      unfold clOf
      rw [if_neg hk]
      simp only [hb]
      exact ih
theorem closureFor_eq {scope : Scope} {env : Env} (h : ∀ y ∈ scope.names, y.2 = .free -> ∃ c, env.cells.lookup y.1 = some c) : closureFor scope env = pure (clOf env scope.names []) := by
  unfold closureFor
  have := closure_eq (env := env) scope.names [] h
  first
    | exact this
    | (simp only [bind_pure]; exact this)
    | (rw [<- this]; rfl)
theorem clOf_sub {env : Env} {x : Str} {c : Addr} : ∀ (names : List (Str × NameKind)) (acc : List (Str × Addr)), (∀ y ∈ names, y.2 = .free -> ∃ c, env.cells.lookup y.1 = some c) -> (∀ c, acc.lookup x = some c -> env.cells.lookup x = some c) ->
    (clOf env names acc).lookup x = some c -> env.cells.lookup x = some c
  | [], acc, _, ha, e => ha c e
  | (n, k) :: r, acc, h, ha, e => by
    unfold clOf at e
    split at e
    · rename_i hk
      refine clOf_sub r _ (fun y hy => h y (List.mem_cons_of_mem _ hy)) (fun c' e' => ?_) e
      rw [List.lookup_cons] at e'
      split at e'
      · rename_i hx
        have hx' : x = n := by simpa using hx
        subst hx'
        obtain ⟨c2, q⟩ := h (x, k) List.mem_cons_self hk
        rw [q] at e' ⊢
        simpa using e'
      · exact ha c' e'
    · exact clOf_sub r _ (fun y hy => h y (List.mem_cons_of_mem _ hy)) ha e
theorem clOf_acc {env : Env} {x : Str} : ∀ (names : List (Str × NameKind)) (acc : List (Str × Addr)), (∃ c, acc.lookup x = some c) -> ∃ c, (clOf env names acc).lookup x = some c
  | [], acc, h => h
  | (n, k) :: r, acc, h => by
    unfold clOf
    split
    · refine clOf_acc r _ ?_
      rw [List.lookup_cons]
      split
      · exact ⟨_, rfl⟩
      · exact h
    · exact clOf_acc r _ h
theorem clOf_has {env : Env} {x : Str} : ∀ (names : List (Str × NameKind)) (acc : List (Str × Addr)), (x, NameKind.free) ∈ names -> ∃ c, (clOf env names acc).lookup x = some c
  | [], _, h => nomatch h
  | (n, k) :: r, acc, h => by
    unfold clOf
    rcases List.mem_cons.mp h with z | z
    · cases z
      rw [if_pos rfl]
      refine clOf_acc r _ ?_
      rw [List.lookup_cons]
      simp
    · split
      · exact clOf_has r _ z
      · exact clOf_has r _ z
theorem relabel_inv {env : Env} : ∀ {names : List (Str × NameKind)} {x : Str} {k : NameKind}, (names.map fun (n, k) => if (k == NameKind.free && env.scope.kind == .function && env.kindOf n == some .cell) then (n, NameKind.cell) else (n, k)).lookup x = some k ->
    ∃ k', names.lookup x = some k' /\ (k = k' \/ (k' = .free /\ k = .cell))
  | [], _, _, h => by simp at h
  | (n, k0) :: r, x, k, h => by
    have h' : List.lookup x ((if (k0 == NameKind.free && env.scope.kind == .function && env.kindOf n == some .cell) = true then (n, NameKind.cell) else (n, k0)) :: (r.map fun (n, k) => if (k == NameKind.free && env.scope.kind == .function && env.kindOf n == some .cell) then (n, NameKind.cell) else (n, k))) = some k := h
    rw [List.lookup_cons]
    by_cases hc : (k0 == NameKind.free && env.scope.kind == .function && env.kindOf n == some .cell) = true
    · rw [if_pos hc, List.lookup_cons] at h'
      split at h'
      · rename_i hx
        cases h'
        refine ⟨k0, rfl, .inr ⟨?_, rfl⟩⟩
        simp only [Bool.and_eq_true, beq_iff_eq] at hc
        exact hc.1.1
      · rename_i hx
        exact relabel_inv h'
    · rw [if_neg hc, List.lookup_cons] at h'
      split at h'
      · rename_i hx
        cases h'
        exact ⟨k0, rfl, .inl rfl⟩
      · rename_i hx
        exact relabel_inv h'
theorem relabel_free {env : Env} : ∀ {names : List (Str × NameKind)} {x : Str}, names.lookup x = some .free ->
    let l := (names.map fun (n, k) => if (k == NameKind.free && env.scope.kind == .function && env.kindOf n == some .cell) then (n, NameKind.cell) else (n, k)); l.lookup x = some .cell \/ l.lookup x = some .free
  | [], _, h => by simp at h
  | (n, k0) :: r, x, h => by
    show List.lookup x ((if (k0 == NameKind.free && env.scope.kind == .function && env.kindOf n == some .cell) = true then (n, NameKind.cell) else (n, k0)) :: _) = _ \/ List.lookup x ((if (k0 == NameKind.free && env.scope.kind == .function && env.kindOf n == some .cell) = true then (n, NameKind.cell) else (n, k0)) :: _) = _
    rw [List.lookup_cons] at h
    cases hx : x == n with
    | true =>
      rw [hx] at h
      cases h
      split
      · left; rw [List.lookup_cons, hx]
      · right; rw [List.lookup_cons, hx]
    | false =>
      rw [hx] at h
      have ih := relabel_free (env := env) h
      split
      · rw [List.lookup_cons, hx]; exact ih
      · rw [List.lookup_cons, hx]; exact ih
noncomputable def cxC (X : Cx) (N' : List Str) (scope : Scope) (C : Addr) (fp : List Addr) (s : Shared) (H : Hp) : Cx where
  prog := X.prog
  w := X.w
  K := X.K
  mg := X.mg
  base := X.base
  A := X.A
  N := N'
  s₀ := s
  H₀ := H
  env := compEnvC scope (clOf X.env scope.names []) C X.env
  outer := X.stack
  stack := X.stack
  ex := fp
  fn := fun _ => false
  calm := X.calm
  pn := []
  xe := fun _ _ => False
structure CmpOk (X : Cx) (N' : List Str) (cap : List Nat) (scope : Scope) : Prop where
  kind : scope.kind = .function
  nc : ∀ y ∈ scope.names, y.2 ≠ .cell
  nm : ∀ y ∈ scope.names, y.2 = .local -> scope.names.lookup y.1 = some .local
  fr : ∀ y ∈ scope.names, y.2 = .free -> X.env.kindOf y.1 = some .cell \/ X.env.kindOf y.1 = some .free
  capt : ∀ (i j : Nat), cap[i]? = some j -> ∃ x, N'[i]? = some x /\ X.N[j]? = some x /\ scope.names.lookup x = some .free
  len : cap.length <= N'.length
noncomputable def sigC (cap : List Nat) (n : Nat) (σ : St) : St := (cap.map fun j => (σ[j]?).getD none) ++ List.replicate (n - cap.length) none
section
variable {X : Cx} {pins : List (Addr × Obj)} {σ : St} {H : Hp} {s : Shared} {N' : List Str} {cap : List Nat} {scope : Scope} {fp : List Addr}
theorem CmpOk.hasc (o : CmpOk X N' cap scope) (ok : X.Ok) : ∀ y ∈ scope.names, y.2 = .free -> ∃ c, X.env.cells.lookup y.1 = some c := fun y hy e => ok.has y.1 (o.fr y hy e)
theorem CmpOk.sub (o : CmpOk X N' cap scope) (ok : X.Ok) {x : Str} {c : Addr} (e : (clOf X.env scope.names []).lookup x = some c) : X.env.cells.lookup x = some c := clOf_sub scope.names [] (o.hasc ok) (fun _ z => by simp at z) e
theorem inv_comp (o : CmpOk X N' cap scope) (I : Inv X pins σ H s) (hfp : ∀ b ∈ fp, FpOk X pins H b) (hlt : ∀ b ∈ fp, b < s.heap.objs.size) {h' : Heap} {t' : Nat} (ns : h'.Ns s.heap.objs.size (fun _ => none)) (kp : ∀ b u, s.heap.get? b = some u -> h'.get? b = some u) :
    Inv (cxC X N' scope s.heap.objs.size fp s H) [] (sigC cap N'.length σ) H { s with heap := h', toks := t' } := by
  have hf : H s.heap.objs.size = none := I.hok.fresh (Nat.le_refl _)
  have nofp : ∀ b ∈ fp, b ∉ frs X.stack := fun b hb z => by
    obtain ⟨f0, f1, f2, f3, f4, f5⟩ := hfp b hb
    rcases List.mem_cons.mp (I.stkSub b z) with q | q
    · exact f1 q
    · exact f2 q
  have ok' : (cxC X N' scope s.heap.objs.size fp s H).Ok := by
    refine ⟨I.ok.mod, o.kind, I.ok.glob, I.ok.blt, Nat.le_refl _, fun x y c e1 e2 => I.ok.inj x y c (o.sub I.ok e1) (o.sub I.ok e2), fun x hx => ?_, fun x c z => (by cases z), I.ok.hd, I.ok.frames, .inl rfl, fun b hb => ⟨Nat.ne_of_lt (hlt b hb), fun x c e => (hfp b hb).2.2.2.2.1 x c (o.sub I.ok e)⟩,
      fun b ob e => I.bs b ob e, Nat.le_trans I.ok.bsz I.sz, fun b ob e hb => ?_, nofp, I.stack, ⟨I.stkFree, I.tabIn⟩⟩
    · have key : scope.names.lookup x = some .free := by
        rcases hx with hx | hx
        · obtain ⟨k', e1, e2⟩ := relabel_inv (env := X.env) (names := scope.names) (x := x) (k := .cell) hx
          rcases e2 with e2 | e2
          · subst e2; exact absurd rfl (o.nc _ (PySem.mem_of_lookup e1))
          · rw [e2.1] at e1; exact e1
        · obtain ⟨k', e1, e2⟩ := relabel_inv (env := X.env) (names := scope.names) (x := x) (k := .free) hx
          rcases e2 with e2 | e2
          · subst e2; exact e1
          · exact absurd e2.2 (by decide)
      exact clOf_has scope.names [] (PySem.mem_of_lookup key)
    · rcases (hfp b hb).2.2.2.1 with z | z
      · exact I.ok.noex b ob e z
      · exact absurd (Nat.lt_of_lt_of_le (Nat.lt_of_lt_of_le (Heap.lt_size e) I.ok.bsz) z) (Nat.lt_irrefl _)
  refine ⟨ok', rfl, I.bare, Un.kept kp, ⟨fun _ => none, ns, fun i x v hN hs hv => ?_⟩, fun x c e => ?_, hf, fun x c e => I.freeC x c (o.sub I.ok e), fun p hp => ?_, I.hok.kept kp, ?_⟩
  · have hN : N'[i]? = some x := hN
    by_cases hi : i < cap.length
    · unfold sigC at hs
      rw [List.getElem?_append_left (by simpa using hi), List.getElem?_map] at hs
      obtain ⟨j, hj⟩ : ∃ j, cap[i]? = some j := ⟨cap[i], by simp [hi]⟩
      rw [hj] at hs
      have hs' : σ[j]? = some (some v) := by
        have hs'' : (σ[j]?).getD none = some v := Option.some.inj hs
        cases e : σ[j]? with
        | none => rw [e] at hs''; cases hs''
        | some y => rw [e] at hs''; have : y = some v := hs''; rw [this]
      obtain ⟨x', e1, e2, e3⟩ := o.capt i j hj
      rw [hN] at e1; cases e1
      have hk := o.fr (x, .free) (PySem.mem_of_lookup e3) rfl
      obtain ⟨m, hn, hl⟩ := I.loc
      have hvis : Vis X.env.scope x := hk.elim (fun z => .inr (.inl z)) fun z => .inr (.inr z)
      obtain ⟨u, r, lk⟩ := hl j x v e2 hs' hvis
      refine ⟨u, r, .inr ⟨relabel_free (env := X.env) e3, ?_⟩⟩
      rcases lk with ⟨z, _⟩ | ⟨_, c, hc, hcell⟩
      · have z' : X.env.kindOf x = some .local := z
        rw [z'] at hk
        rcases hk with hk | hk <;> cases hk
      · obtain ⟨c', hc'⟩ := clOf_has (env := X.env) scope.names [] (PySem.mem_of_lookup e3)
        have hcc := o.sub I.ok hc'
        rw [hc] at hcc; cases hcc
        obtain ⟨ob, q1, q2⟩ := hcell
        exact ⟨c, hc', ob, kp _ _ q1, q2⟩
    · unfold sigC at hs
      rw [List.getElem?_append_right (by simpa using Nat.le_of_not_lt hi), List.getElem?_replicate] at hs
      split at hs <;> cases hs
  · obtain ⟨v, ob, q1, q2⟩ := I.cell x c (o.sub I.ok e)
    exact ⟨v, ob, kp _ _ q1, q2⟩
  · exact absurd (show p ∈ ([] : List (Addr × Obj)) from hp) (by simp)
  · unfold sigC
    show _ = N'.length
    rw [List.length_append, List.length_map, List.length_replicate]
    have := o.len
    lia
theorem inv_comp_end {H2 : Hp} {σ2 : St} {s2 : Shared} {h' : Heap} (I : Inv X pins σ H s) (hfp : ∀ b ∈ fp, FpOk X pins H b) (J : Inv (cxC X N' scope s.heap.objs.size fp s H) [] σ2 H2 s2) (sb : Heap.SameBut s.heap.objs.size s2.heap h') : Inv X pins σ H2 { s2 with heap := h' } := by
  have hb : Un (frs X.stack) fp H H2 s.heap s2.heap := J.base
  have ne : ∀ b o, s.heap.get? b = some o -> b ≠ s.heap.objs.size := fun b o e => Nat.ne_of_lt (Heap.lt_size e)
  have fr : H2 s.heap.objs.size = none := J.free
  refine I.call' (s' := { s2 with heap := h' }) (ch := fp) J.os ?_ ?_ J.bare fun b hb => ⟨(hfp b hb).2.2.2.1, (hfp b hb).2.1, (hfp b hb).2.2.2.2.1, (hfp b hb).2.2.2.2.2⟩
  · refine ⟨fun b o e n h1 h2 => ?_, fun b o e n h1 h2 => ?_, fun b o e n h2 => hb.free b o e n h2, fun b o e h2 => ?_, hb.tups, hb.frzs, hb.tbls⟩
    · exact sb.extBut b o (ne b o e) (hb.keep b o e n h1 h2)
    · obtain ⟨sl, q⟩ := hb.slot b o e n h1 h2
      exact ⟨sl, sb.extBut b _ (ne b o e) q⟩
    · obtain ⟨o', q⟩ := hb.there b o e h2
      exact ⟨o', sb.extBut b _ (ne b o e) q⟩
  · intro b u e
    have nb : ∀ c w, H2 c = some w -> c ≠ s.heap.objs.size := fun c w q z => by rw [z, fr] at q; cases q
    refine (J.hok b u e).stay (fun c v hc q => sb.extBut c v ?_ q) (fun _ q => q) (fun _ _ q => q) fun _ _ _ q => q
    rcases hc with z | z
    · rw [z]; exact nb b u e
    · exact nb c _ z
noncomputable def tComp1 (tc : Option TT) (te : TE) (K1 : V -> Hp -> Prop) (K0 : Hp -> Prop) : St -> Hp -> Prop := fun σ H => match tc with
  | none => te σ H K1
  | some c => c σ H fun b H1 => if b = true then te σ H1 K1 else K0 H1
noncomputable def tComp (cap : List Nat) (n : Nat) (wi : TI) (g : TG) (tc : Option TT) (te : TE) : TE := fun σ H Q => wi σ H fun J H1 => ∀ p, H1 p = none -> ∃ W : Nat -> Nat -> List V -> St -> Hp -> Prop, (∃ m, W 0 m [] (sigC cap n σ) (upd H1 p (.lst []))) /\ ∀ i m ys σ2 H2, W i m ys σ2 H2 -> H2 p = some (.lst ys) /\ ys.length < sizeLine /\
  ((J.stop i H2 /\ Q (.ref p) H2) \/ (J.go i H2 /\ ∀ x H3, J.yld i H2 x H3 -> g x σ2 H3 fun σ4 H4 => tComp1 tc te (fun y H5 => H5 p = some (.lst ys) /\ ∃ m', m' < m /\ W (i + 1) m' (ys ++ [y]) σ4 (upd H5 p (.lst (ys ++ [y])))) (fun H5 => ∃ m', m' < m /\ W (i + 1) m' ys σ4 H5) σ4 H4))
theorem compLoop_go {prog : Program} {w : World} {A : Around} {Z : Result -> Shared -> Prop} {t0 : Shared} {elt tgt src : Expr} {tests : List Expr} {scope : Scope} {pos : Pos} {it out : Value} {env : Env} (W : Nat -> Shared -> Prop)
    (each : ∀ k t, W k t -> wpAny (model prog w) A (pyNext it) (fun got t1 => match got with
      | none => Z (.ok .next) t1
      | some y => wpAny (model prog w) A (letOwnedTupleGo tgt it y) (fun _ t2 => wpAny (model prog w) A (assign tgt env y) (fun _ t3 =>
          wpAny (model prog w) A (forIn tests true fun c b => if b = true then do let ok <- isTrue c env (eval c env); pure (ForInStep.yield ok) else pure (ForInStep.yield b)) (fun good t4 =>
            if good = true then wpAny (model prog w) A (eval elt env) (fun x t5 =>
              wpAny (model prog w) A (call (.builtin "list.append") [out, x]) (fun _ t6 => ∃ j, j < k /\ W j t6) (fun _ _ => False) t5) (fun _ _ => False) t4
            else ∃ j, j < k /\ W j t4) (fun _ _ => False) t3) (fun _ _ => False) t2) (fun _ _ => False) t1) (fun _ _ => False) t)
    (k : Nat) (h0 : W k t0) : codeAny (model prog w) A (.compLoop (.ListComp elt [⟨tgt, src, tests, 0⟩] scope pos) 0 it out env) Z t0 := by
  refine codeAny_loop rfl W (fun k t hW => ?_) k h0
  show wpAny _ A ((compTurn (.ListComp elt [⟨tgt, src, tests, 0⟩] scope pos) 0 it out env).onRaise (fun x => do noteFrame x env; theTreesLotGoes x)) _ _ t
  refine wpAny_noted ?_
  rw [compTurn_list]
  refine wpAny_bind (wpAny_standAt (wpAny_bind (wpAny_mono (each k t hW) (fun got t1 g1 => ?_) fun _ _ no => no.elim)))
  cases got with
  | none => exact wpAny_pure g1
  | some y =>
    refine wpAny_bind (wpAny_mono g1 (fun _ t2 g2 => wpAny_bind (wpAny_mono g2 (fun _ t3 g3 => wpAny_bind (wpAny_mono g3 (fun good t4 g4 => ?_) fun _ _ no => no.elim)) fun _ _ no => no.elim)) fun _ _ no => no.elim)
    cases good with
    | false => exact wpAny_pure ⟨rfl, g4⟩
    | true =>
      exact wpAny_bind (wpAny_bind (wpAny_mono g4 (fun x t5 g5 => wpAny_bind (wpAny_mono g5 (fun _ t6 g6 => wpAny_pure (wpAny_pure ⟨rfl, g6⟩)) fun _ _ no => no.elim)) fun _ _ no => no.elim))
theorem comp_core {elt tg iter : Expr} {ifs : List Expr} {pos : Pos} {g : TG} {tc : Option TT} {te : TE} {J : It} {it : Addr} {tn : Nat -> Heap -> Prop} {Q : VK} {RR : Value -> Addr -> Result -> Shared -> Prop} (hc : X.calm = true) (o : CmpOk X N' cap scope)
    (hg : ∀ C fp s H, PG (cxC X N' scope C fp s H) tg g) (ht : match (generalizing := false) tc with | none => ifs = [] | some c => ∃ e, ifs = [e] /\ ∀ C fp s H, PT (cxC X N' scope C fp s H) e c) (he : ∀ C fp s H, PE (cxC X N' scope C fp s H) elt te)
    (I : Inv X pins σ H s) (T : Turn X.prog X.w X.K tg J fp it tn) (st : tn 0 s.heap) (hfp : ∀ b ∈ fp, FpOk X pins H b)
    (hw : ∀ p, H p = none -> ∃ W : Nat -> Nat -> List V -> St -> Hp -> Prop, (∃ m, W 0 m [] (sigC cap N'.length σ) (upd H p (.lst []))) /\ ∀ i m ys σ2 H2, W i m ys σ2 H2 -> H2 p = some (.lst ys) /\ ys.length < sizeLine /\
      ((J.stop i H2 /\ Q (.ref p) H2) \/ (J.go i H2 /\ ∀ x H3, J.yld i H2 x H3 -> g x σ2 H3 fun σ4 H4 => tComp1 tc te (fun y H5 => H5 p = some (.lst ys) /\ ∃ m', m' < m /\ W (i + 1) m' (ys ++ [y]) σ4 (upd H5 p (.lst (ys ++ [y])))) (fun H5 => ∃ m', m' < m /\ W (i + 1) m' ys σ4 H5) σ4 H4)))
    (hRR : ∀ (p : Addr) (s3 s' : Shared) (H3 H2 : Hp) (σ2 : St), Inv X pins σ H3 s3 -> (∀ b ∈ fp, FpOk X pins H3 b) -> Inv (cxC X N' scope s3.heap.objs.size fp s3 H3) [] σ2 H2 s' -> Q (.ref p) H2 -> RR (.ref p) s3.heap.objs.size (.ok .next) s') :
    wpAny (model X.prog X.w) X.A (newList []) (fun acc s₃ => wpAny (model X.prog X.w) X.A (newFunctionEnv scope X.env.globals (clOf X.env scope.names []) [] X.env.qual none .none (some X.env)) (fun cenv s₄ =>
      codeAny (model X.prog X.w) X.A (.compStart (.ListComp elt [⟨tg, iter, ifs, 0⟩] scope pos) 0 (.ref it) acc { cenv with scope := relabel scope X.env }) (RR acc cenv.locals) s₄) X.xe s₃) X.xe s := by
  refine wpAny_newObj_type ?_
  obtain ⟨W, ⟨m0, w0⟩, turn⟩ := hw s.heap.objs.size (I.hok.fresh (Nat.le_refl _))
  have nfp : ∀ b ∈ fp, b < s.heap.objs.size := fun b hb => by
    obtain ⟨ob, e, _⟩ := T.obj 0 _ st b hb
    exact Heap.lt_size e
  have I3 := I.lnew (its := []) (ys := []) (t' := s.toks) .nil (Nat.zero_le _)
  generalize hs3 : ({ s with heap := s.heap.push { cls := .type "list", data := .seq ([] : List Value).toArray }, toks := s.toks } : Shared) = s3 at I3
  have hs3' : ({ s with heap := s.heap.push { cls := .type "list", dict := none, data := .seq ([] : List Value).toArray } } : Shared) = s3 := hs3
  have hf3 : ∀ b ∈ fp, FpOk X pins (upd H s.heap.objs.size (.lst [])) b := fun b hb => ⟨by rw [xH (Nat.ne_of_lt (nfp b hb))]; exact (hfp b hb).1, (hfp b hb).2⟩
  have st3 : tn 0 s3.heap := T.keep 0 _ _ st fun b _ ob e => by rw [<- hs3]; exact Heap.get?_push_of_some _ e
  have nfp3 : ∀ b ∈ fp, b < s3.heap.objs.size := fun b hb => by
    obtain ⟨ob, e, _⟩ := T.obj 0 _ st3 b hb
    exact Heap.lt_size e
  refine wpAny_newFunctionEnv o.nc (by intro y hy; simp at hy) (fun h₁ hns₁ hsb₁ => ?_) o.kind
  have old : ∀ b ob, s3.heap.get? b = some ob -> h₁.get? b = some ob := fun b ob e => hsb₁.extBut b ob (Nat.ne_of_lt (Heap.lt_size e)) (Heap.get?_push_of_some _ e)
  have I4 := inv_comp (t' := s3.toks + ([] : List (Str × Value)).length) o I3 hf3 nfp3 (by simpa using hns₁) old
  have st4 : tn 0 h₁ := T.keep 0 _ _ st3 fun b _ ob e => old b ob e
  have fpC : ∀ H', (∀ b ∈ fp, H' b = none) -> ∀ b ∈ fp, FpOk (cxC X N' scope s3.heap.objs.size fp s3 (upd H s.heap.objs.size (.lst []))) [] H' b := fun H' hn b hb => by
    refine ⟨hn b hb, Nat.ne_of_lt (nfp3 b hb), I4.ok.exfs b hb, .inl hb, (I4.ok.exf b hb).2, fun p hp => absurd (show p ∈ ([] : List (Addr × Obj)) from hp) (by simp)⟩
  have loop : codeAny (model X.prog X.w) X.A (.compLoop (.ListComp elt [⟨tg, iter, ifs, 0⟩] scope pos) 0 (.ref it) (.ref s.heap.objs.size) (compEnvC scope (clOf X.env scope.names []) s3.heap.objs.size X.env)) (RR (.ref s.heap.objs.size) s3.heap.objs.size) { s3 with heap := h₁, toks := s3.toks + ([] : List (Str × Value)).length } := by
    refine compLoop_go (fun n s' => ∃ i ys σ' H', Inv (cxC X N' scope s3.heap.objs.size fp s3 (upd H s.heap.objs.size (.lst []))) [] σ' H' s' /\ tn i s'.heap /\ (∀ b ∈ fp, H' b = none) /\ W i n ys σ' H') ?_ m0 ⟨0, [], _, _, I4, st4, fun b hb => (hf3 b hb).1, w0⟩
    rintro n s5 ⟨i, ys, σ5, H5, I5, st5, fr5, w5⟩
    obtain ⟨hp5, hz5, br⟩ := turn i n ys σ5 H5 w5
    rcases br with ⟨stop, q⟩ | ⟨go, step⟩
    · refine thn (T.done (cxC X N' scope s3.heap.objs.size fp s3 (upd H s.heap.objs.size (.lst []))) rfl rfl rfl hc i [] s5 _ H5 (fun _ _ => False) I5 (fpC H5 fr5) st5 stop) fun r s6 ⟨hr, I6⟩ => ?_
      subst hr
      exact hRR _ s3 s6 _ H5 _ I3 hf3 I6 q
    · refine thn (T.item (cxC X N' scope s3.heap.objs.size fp s3 (upd H s.heap.objs.size (.lst []))) rfl rfl rfl hc i [] s5 _ H5 (fun _ _ => False) I5 (fpC H5 fr5) st5 go) fun r s6 ⟨u, hr, h6⟩ => ?_
      subst hr
      refine thn h6 fun _ s7 ⟨x, H7, I7, r7, y7, st7, fr7⟩ => ?_
      have I7' := I7.pinned (fpC H7 fr7) (T.obj _ _ st7)
      refine thn (hg _ _ _ _ _ s7 _ H7 x u _ I7' r7 (step x H7 y7)) fun _ s8 ⟨σ8, H8, I8, q8⟩ => ?_
      have again : ∀ {H9 : Hp} {σ9 : St} {s9 : Shared} {ys' : List V}, Inv (cxC X N' scope s3.heap.objs.size fp s3 (upd H s.heap.objs.size (.lst []))) ([] ++ pinsAt fp s7.heap) σ9 H9 s9 -> (∃ m', m' < n /\ W (i + 1) m' ys' σ9 H9) ->
          ∃ m, m < n /\ ∃ i ys σ' H', Inv (cxC X N' scope s3.heap.objs.size fp s3 (upd H s.heap.objs.size (.lst []))) [] σ' H' s9 /\ tn i s9.heap /\ (∀ b ∈ fp, H' b = none) /\ W i m ys σ' H' := fun {H9 σ9 s9 ys'} I9 z => by
        obtain ⟨m', hm, w9⟩ := z
        refine ⟨m', hm, i + 1, ys', σ9, H9, I9.unpinned, T.keep _ _ _ st7 fun b hb ob e => (I9.pin (b, ob) (List.mem_append_right _ (List.mem_append_right _ (mem_pinsAt hb e)))).1, fun b hb => ?_, w9⟩
        obtain ⟨ob, e, d⟩ := T.obj _ _ st7 b hb
        exact (I9.pin (b, ob) (List.mem_append_right _ (List.mem_append_right _ (mem_pinsAt hb e)))).2.1
      have app : ∀ {s9 : Shared} {H9 : Hp} {y : V} {u9 : Value}, Inv (cxC X N' scope s3.heap.objs.size fp s3 (upd H s.heap.objs.size (.lst []))) ([] ++ pinsAt fp s7.heap) σ8 H9 s9 -> wU y u9 -> (H9 s.heap.objs.size = some (.lst ys) /\ ∃ m', m' < n /\ W (i + 1) m' (ys ++ [y]) σ8 (upd H9 s.heap.objs.size (.lst (ys ++ [y])))) ->
          wpAny (model X.prog X.w) X.A (call (.builtin "list.append") [.ref s.heap.objs.size, u9]) (fun _ s₅ => ∃ m, m < n /\ ∃ i ys σ' H', Inv (cxC X N' scope s3.heap.objs.size fp s3 (upd H s.heap.objs.size (.lst []))) [] σ' H' s₅ /\ tn i s₅.heap /\ (∀ b ∈ fp, H' b = none) /\ W i m ys σ' H') (fun _ _ => False) s9 := fun {s9 H9 y u9} I9 r9 z9 => by
        refine thn (mt_append (X := cxC X N' scope s3.heap.objs.size fp s3 (upd H s.heap.objs.size (.lst []))) _ s9 σ8 H9 (.ref s.heap.objs.size) [y] (.ref s.heap.objs.size) [u9] (fun _ H' => ∃ m', m' < n /\ W (i + 1) m' (ys ++ [y]) σ8 H') I9 rfl (.cons r9 .nil) ⟨_, ys, y, rfl, rfl, z9.1, hz5, z9.2⟩) fun _ s10 ⟨_, H10, I10, _, z10⟩ => ?_
        exact again I10 z10
      cases tc with
      | none =>
        have hi : ifs = [] := ht
        subst hi
        refine wpAny_tests_nil ?_
        rw [if_pos rfl]
        exact thn (he _ _ _ _ _ s8 σ8 H8 _ I8 q8) fun u9 s9 ⟨y, H9, I9, r9, z9⟩ => app I9 r9 z9
      | some c =>
        obtain ⟨e, he1, hce⟩ := ht
        subst he1
        refine wpAny_tests_one (thn (hce _ _ _ _ _ s8 σ8 H8 _ I8 q8) fun b s9 ⟨H9, I9, q9⟩ => ?_)
        cases b with
        | false =>
          rw [if_neg Bool.false_ne_true] at q9 ⊢
          exact again I9 q9
        | true =>
          rw [if_pos rfl] at q9 ⊢
          exact thn (he _ _ _ _ _ s9 σ8 H9 _ I9 q9) fun u10 s10 ⟨y, H10, I10, r10, z10⟩ => app I10 r10 z10
  exact codeAny_compStart_list loop (T.self X.A 0 _ _ _ st4 loop)
end
section
variable {X : Cx} {N' : List Str} {cap : List Nat} {scope : Scope} {elt tg iter : Expr} {ifs : List Expr} {pos : Pos} {wi : TI} {g : TG} {tc : Option TT} {te : TE}
theorem pe_lcomp (hc : X.calm = true) (o : CmpOk X N' cap scope) (hi : PI X tg iter wi)
    (hg : ∀ C fp s H, PG (cxC X N' scope C fp s H) tg g) (ht : match (generalizing := false) tc with | none => ifs = [] | some c => ∃ e, ifs = [e] /\ ∀ C fp s H, PT (cxC X N' scope C fp s H) e c) (he : ∀ C fp s H, PE (cxC X N' scope C fp s H) elt te)
    (hs : ∀ x, foldedSetIterable iter X.env x = pure x := by intro _; rfl) : PE X (.ListComp elt [⟨tg, iter, ifs, 0⟩] scope pos) (tComp cap N'.length wi g tc te) := by
  intro pins s σ H Q I h
  rw [eval_ListComp]
  refine wpAny_comprehension_free (use := none) rfl hs (closureFor_eq (o.hasc I.ok)) o.kind o.nm (thn (hi pins s σ H _ I h) fun xv s1 h1 => thn h1 fun itv s2 h2 => ?_)
  obtain ⟨it, fp, tn, J, H2, rfl, I2, T, st2, f2, hw⟩ := h2
  refine comp_core (Q := Q) hc o hg ht he I2 T st2 f2 hw ?_
  intro p s3 s' H3 H4 σ4 I3 f3 J4 q
  obtain ⟨m, hn, _⟩ := J4.loc
  exact ⟨m, hn, fun h' sb => ⟨.ref p, H4, inv_comp_end I3 f3 J4 sb, rfl, q⟩⟩
theorem ps_lcomp {i : Nat} {y : Str} {py spos : Pos} (hc : X.calm = true) (o : CmpOk X N' cap scope) (hi : PI X tg iter wi)
    (hg : ∀ C fp s H, PG (cxC X N' scope C fp s H) tg g) (ht : match (generalizing := false) tc with | none => ifs = [] | some c => ∃ e, ifs = [e] /\ ∀ C fp s H, PT (cxC X N' scope C fp s H) e c) (he : ∀ C fp s H, PE (cxC X N' scope C fp s H) elt te)
    (hN : X.N.Nodup) (hy : X.N[i]? = some y) (hx : Loc X.env.scope y) (hf : X.fn y = true \/ X.env.scope.names.lookup y = some .local)
    (hsw : swapsWith (.ListComp elt [⟨tg, iter, ifs, 0⟩] scope pos) (some (.Name y py)) spos.line X.env = pure true)
    (hs : ∀ x, foldedSetIterable iter X.env x = pure x := by intro _; rfl) : PS X (.Assign [.Name y py] (.ListComp elt [⟨tg, iter, ifs, 0⟩] scope pos) spos) (tAsg (tComp cap N'.length wi g tc te) (gName i)) := by
  intro pins s σ H D I h
  rw [exec_Assign_Name_used _ _ _ _ hsw]; refine wpAny_bind (wpAny_standAt (wpAny_bind ?_))
  show wpAny _ X.A (do let _ <- comprehension (.ListComp elt [⟨tg, iter, ifs, 0⟩] scope pos) scope X.env _ (newList []) false (eval iter X.env) (some (assign (.Name y py) X.env))) _ _ s
  refine wpAny_bind (wpAny_mono (wpAny_comprehension_free (use := some (assign (.Name y py) X.env)) (Q := fun _ s' => SP X pins D .next s') rfl hs (closureFor_eq (o.hasc I.ok)) o.kind o.nm
    (thn (hi pins s σ H _ I h) fun xv s1 h1 => thn h1 fun itv s2 h2 => ?_)) (fun _ s' hq => wpAny_pure (wpAny_pure hq)) fun _ _ e => e)
  obtain ⟨it, fp, tn, J, H2, rfl, I2, T, st2, f2, hw⟩ := h2
  refine comp_core (Q := fun v H1 => gName i v σ H1 D.nx) hc o hg ht he I2 T st2 f2 hw ?_
  intro p s3 s' H3 H4 σ4 I3 f3 J4 q
  obtain ⟨m, hn, _⟩ := J4.loc
  have I5 : Inv X pins σ H4 s' := inv_comp_end I3 f3 J4 (Heap.SameBut.refl _ _)
  have fc : FpOk X pins H4 s3.heap.objs.size := I3.fpOk (Nat.le_refl _) J4.free
  show wpAny _ X.A (assign (.Name y py) X.env (.ref p)) _ _ _
  refine wpAny_assign_Name (store_ok2 (v := .ref p) I5 hN hy hx rfl (fun s6 I6 ⟨a, sb, ha⟩ => ?_) hf)
  have hne : s3.heap.objs.size ≠ a := by
    rcases ha with ha | ha
    · rw [ha]; exact fc.2.1
    · exact fun z => fc.2.2.2.2.1 y a ha z.symm
  refine ⟨m, hn.sameBut sb hne, fun h' sb' => ⟨_, H4, ?_, q⟩⟩
  exact I6.turned (t' := s6.toks) (it := s3.heap.objs.size) (fun b ob hb e => sb'.extBut b ob hb e) fc.1 fc.2.1 fc.2.2.2.1 fc.2.2.2.2.1 fc.2.2.2.2.2
end
noncomputable def yD : D -> D -> Option D
  | .int i, .int j => some (.int (i + j))
  | .str s, .str t => if s.length + t.length <= sizeLine then some (.str (s ++ t)) else none
  | .lst l, .lst m => if l.length + m.length <= sizeLine then some (.lst (l ++ m)) else none
  | .tup l, .tup m => if l.length + m.length <= sizeLine /\ l.isEmpty = false /\ m.isEmpty = false then some (.tup (l ++ m)) else none
  | _, _ => none
noncomputable def subD : D -> D -> Option D
  | .int i, .int j => some (.int (i - j))
  | _, _ => none
noncomputable def mulD : D -> D -> Option D
  | .int i, .int j => if (-(2 ^ 64) < i /\ i < 2 ^ 64) \/ (-(2 ^ 64) < j /\ j < 2 ^ 64) then some (.int (i * j)) else none
  | _, _ => none
noncomputable def fdivD : D -> D -> Option D
  | .int i, .int j => if 0 < j /\ j < 1073741824 then some (.int (i / j)) else none
  | _, _ => none
noncomputable def wH : D -> D -> Option D
  | .int i, .int j => if 0 < j then some (.int (i % j)) else none
  | _, _ => none
noncomputable def powD : D -> D -> Option D
  | .int i, .int j => if 0 <= j /\ j <= 1000000 /\ i.natAbs < 2 ^ 64 then some (.int (i ^ j.toNat)) else none
  | _, _ => none
noncomputable def negD : D -> Option D
  | .int i => some (.int (-i))
  | _ => none
noncomputable def ltD : D -> D -> Option D
  | .int i, .int j => some (.bl (decide (i < j)))
  | _, _ => none
noncomputable def gtD : D -> D -> Option D
  | .int i, .int j => some (.bl (decide (j < i)))
  | _, _ => none
noncomputable def eqS : D -> D -> Option Bool
  | .int i, .int j => some (decide (i = j))
  | .str s, .str t => some (decide (s = t))
  | .bl a, .bl b => some (decide (a = b))
  | .non, .non => some true
  | .non, .int _ => some false
  | .int _, .non => some false
  | .non, .str _ => some false
  | .str _, .non => some false
  | .int _, .str _ => some false
  | .str _, .int _ => some false
  | _, _ => none
noncomputable def eqD (x y : D) : Option D := (eqS x y).map .bl
noncomputable def neD (x y : D) : Option D := (eqS x y).map fun b => .bl !b
section
variable {X : Cx}
noncomputable def rCatR (K : Fg) : R2 := fun x y H Q => ∃ l b xs zs, x = .ref l /\ y = .ref b /\ SqL K H l xs /\ SqL K H b zs /\ xs.length + zs.length <= sizeLine /\ ∀ p, H p = none -> Q (.ref p) (upd H p (.lst (xs ++ zs)))
theorem op_catR : OpR X (binaryOp .Add) (rCatR X.K) := by
  intro pins s σ H x y v u Q I rx ry h
  obtain ⟨l, b, xs, zs, rfl, rfl, hH, hB, hz, q⟩ := h
  cases rx
  cases ry
  obtain ⟨its, r, ⟨⟨cls, dd, data, sl⟩, n, e, hc, hd0, hd⟩, z⟩ := I.list hH
  obtain ⟨its2, r2, ⟨⟨cls2, dd2, data2, sl2⟩, n2, e2, hc2, hd02, hd2⟩, z2⟩ := I.list hB
  have hl := r.length
  have hl2 := r2.length
  cases (show cls = _ from hc); cases (show dd = _ from hd0); cases (show data = _ from hd)
  cases (show cls2 = _ from hc2); cases (show dd2 = _ from hd02); cases (show data2 = _ from hd2)
  refine concat_meets ⟨_, e, rfl⟩ ⟨_, e2, rfl⟩ noFill_list_add seq_list_add PySem.F.slot_list_add PySem.F.entry_list_add (PySem.F.args_list_add_2 _ _) (list_addW l b its.toArray its2.toArray n n2 none none sl sl2 (by rw [List.size_toArray, List.size_toArray]; lia)) ⟨e, e2, ?_⟩
  have ea : its.toArray ++ its2.toArray = (its ++ its2).toArray := by simp
  rw [ea]
  exact ⟨.ref _, _, I.lnew (t' := s.toks) (r.append r2) (by rw [List.length_append]; lia), rfl, q _ I.fresh⟩
noncomputable def rPlus (K : Fg) : R2 := fun x y H Q => rI0 (fun i j => .int (i + j)) x y H Q \/ (∃ i j, x = .str i /\ y = .str j /\ i.length + j.length <= sizeLine /\ Q (.str (i ++ j)) H) \/ rCatR K x y H Q \/ rCatT K x y H Q
theorem zT : OpR X (binaryOp .Add) (rPlus X.K) := op_add.or (op_add_str.or (op_catR.or op_catT))
theorem str_app (s t : List Nat) : ((⟨s.toArray⟩ : Str) ++ (⟨t.toArray⟩ : Str)) = (⟨(s ++ t).toArray⟩ : Str) := by
  show (⟨s.toArray ++ t.toArray⟩ : Str) = _
  simp
theorem qF (s : List Nat) : (⟨s.toArray⟩ : Str).length = s.length := by simp [Str.length]
theorem zU {K : Fg} : OpD K (rPlus K) yD := by
  intro O H dx dy d vx vy Q ol ix iy e q
  unfold yD at e
  split at e
  · have e := Option.some.inj e
    subst e
    rw [Is.int_iff] at ix iy
    exact .inl ⟨_, _, ix, iy, q _ H (zZ.refl H) (by rw [Is.int_iff])⟩
  · rename_i s t
    split at e
    · rename_i hl
      cases e
      rw [Is.str_iff] at ix iy
      refine .inr (.inl ⟨_, _, ix, iy, by rw [qF, qF]; exact hl, q _ H (zZ.refl H) ?_⟩)
      rw [Is.str_iff, str_app]
    · cases e
  · rename_i l m
    split at e
    · rename_i hl
      cases e
      rw [Is.lst_iff] at ix iy
      obtain ⟨a, xs, rfl, hs, il⟩ := ix
      obtain ⟨b, ys, rfl, hs2, il2⟩ := iy
      have e1 := il.length
      have e2 := il2.length
      refine .inr (.inr (.inl ⟨a, b, xs, ys, rfl, rfl, hs.sq, hs2.sq, by lia, fun p hp => q _ _ (xC hp) ?_⟩))
      rw [Is.lst_iff]
      refine ⟨p, _, rfl, .inl ⟨fun z => ?_, .inl xK⟩, (il.append il2).same (xC hp) ol⟩
      obtain ⟨zs, ez, _⟩ := ol p z
      rw [hp] at ez; cases ez
    · cases e
  · rename_i l m
    split at e
    · rename_i hl
      cases e
      rw [Is.tup_iff] at ix iy
      obtain ⟨a, xs, rfl, hs, il⟩ := ix
      obtain ⟨b, ys, rfl, hs2, il2⟩ := iy
      have e1 := il.length
      have e2 := il2.length
      refine .inr (.inr (.inr ⟨a, b, xs, ys, rfl, rfl, hs, hs2, ?_, by lia, fun z => ?_, fun _ p hp => q _ _ (xC hp) ?_⟩))
      · rintro rfl
        have : l = [] := by simpa using e1
        subst this
        simp at hl
      · subst z
        have : m = [] := by simpa using e2
        subst this
        simp at hl
      · rw [Is.tup_iff]
        exact ⟨p, _, rfl, SqT.of xK, (il.append il2).same (xC hp) ol⟩
    · cases e
  · cases e
theorem od_I {K : Fg} {C : Int -> Int -> Prop} {g : Int -> Int -> V} {m : D -> D -> Option D} (h : ∀ dx dy d, m dx dy = some d -> ∃ i j, dx = .int i /\ dy = .int j /\ C i j /\ ∀ O H, Is K O H d (g i j)) : OpD K (rI C g) m := by
  intro O H dx dy d vx vy Q ol ix iy e q
  obtain ⟨i, j, rfl, rfl, hc, hd⟩ := h dx dy d e
  rw [Is.int_iff] at ix iy
  exact ⟨i, j, ix, iy, hc, q _ H (zZ.refl H) (hd O H)⟩
theorem od_I0 {K : Fg} {g : Int -> Int -> V} {m : D -> D -> Option D} (h : ∀ dx dy d, m dx dy = some d -> ∃ i j, dx = .int i /\ dy = .int j /\ ∀ O H, Is K O H d (g i j)) : OpD K (rI0 g) m := by
  intro O H dx dy d vx vy Q ol ix iy e q
  obtain ⟨i, j, rfl, rfl, hd⟩ := h dx dy d e
  rw [Is.int_iff] at ix iy
  exact ⟨i, j, ix, iy, q _ H (zZ.refl H) (hd O H)⟩
theorem od_sub {K : Fg} : OpD K (rI0 fun i j => .int (i - j)) subD := od_I0 fun dx dy d e => by
  unfold subD at e
  split at e
  · cases e; exact ⟨_, _, rfl, rfl, fun O H => by rw [Is.int_iff]⟩
  · cases e
theorem od_mul {K : Fg} : OpD K (rI CMul fun i j => .int (i * j)) mulD := od_I fun dx dy d e => by
  unfold mulD at e
  split at e
  · split at e
    · rename_i hc; cases e; exact ⟨_, _, rfl, rfl, hc, fun O H => by rw [Is.int_iff]⟩
    · cases e
  · cases e
theorem od_fdiv {K : Fg} : OpD K (rI CDiv fun i j => .int (i / j)) fdivD := od_I fun dx dy d e => by
  unfold fdivD at e
  split at e
  · split at e
    · rename_i hc; cases e; exact ⟨_, _, rfl, rfl, hc, fun O H => by rw [Is.int_iff]⟩
    · cases e
  · cases e
theorem wB {K : Fg} : OpD K (rI (fun _ j => 0 < j) fun i j => .int (i % j)) wH := od_I fun dx dy d e => by
  unfold wH at e
  split at e
  · split at e
    · rename_i hc; cases e; exact ⟨_, _, rfl, rfl, hc, fun O H => by rw [Is.int_iff]⟩
    · cases e
  · cases e
theorem od_pow {K : Fg} : OpD K (rI CPow fun i j => .int (i ^ j.toNat)) powD := od_I fun dx dy d e => by
  unfold powD at e
  split at e
  · split at e
    · rename_i hc; cases e; exact ⟨_, _, rfl, rfl, hc, fun O H => by rw [Is.int_iff]⟩
    · cases e
  · cases e
theorem od_lt {K : Fg} : OpD K (rI0 fun i j => .bl (decide (i < j))) ltD := od_I0 fun dx dy d e => by
  unfold ltD at e
  split at e
  · cases e; exact ⟨_, _, rfl, rfl, fun O H => by rw [Is.bl_iff]⟩
  · cases e
theorem od_gt {K : Fg} : OpD K (rI0 fun i j => .bl (decide (j < i))) gtD := od_I0 fun dx dy d e => by
  unfold gtD at e
  split at e
  · cases e; exact ⟨_, _, rfl, rfl, fun O H => by rw [Is.bl_iff]⟩
  · cases e
theorem eqS_ok {K : Fg} {O : Addr -> Prop} {H : Hp} {dx dy : D} {vx vy : V} {b : Bool} (ix : Is K O H dx vx) (iy : Is K O H dy vy) (e : eqS dx dy = some b) : scal vx vy = true /\ decide (vx = vy) = b := by
  cases dx <;> cases dy <;> first | (simp only [eqS, reduceCtorEq] at e; done) | skip
  all_goals simp only [eqS, Option.some.injEq] at e
  all_goals subst e
  all_goals first | rw [Is.int_iff] at ix | rw [Is.str_iff] at ix | rw [Is.bl_iff] at ix | rw [Is.non_iff] at ix
  all_goals first | rw [Is.int_iff] at iy | rw [Is.str_iff] at iy | rw [Is.bl_iff] at iy | rw [Is.non_iff] at iy
  all_goals subst ix iy
  all_goals refine ⟨rfl, ?_⟩
  all_goals simp
theorem od_eq {K : Fg} : OpD K rEq eqD := by
  intro O H dx dy d vx vy Q ol ix iy e q
  obtain ⟨b, e1, rfl⟩ := map_some e
  obtain ⟨h1, h2⟩ := eqS_ok ix iy e1
  exact ⟨h1, q _ H (zZ.refl H) (by rw [Is.bl_iff, h2])⟩
theorem od_ne {K : Fg} : OpD K rNe neD := by
  intro O H dx dy d vx vy Q ol ix iy e q
  obtain ⟨b, e1, rfl⟩ := map_some e
  obtain ⟨h1, h2⟩ := eqS_ok ix iy e1
  exact ⟨h1, q _ H (zZ.refl H) (by rw [Is.bl_iff, h2])⟩
noncomputable def qB : D -> Bool
  | .int _ => true
  | .str _ => true
  | _ => false
noncomputable def eqF : D -> D -> Bool
  | .int i, .int j => decide (i = j)
  | .str s, .str t => decide (s = t)
  | _, _ => false
noncomputable def inD (neg : Bool) (x y : D) : Option D := match y with
  | .lst l => if qB x = true /\ l.all qB = true then some (.bl (if neg then !(l.any fun z => eqF z x) else l.any fun z => eqF z x)) else none
  | .tup l => if qB x = true /\ l.all qB = true then some (.bl (if neg then !(l.any fun z => eqF z x) else l.any fun z => eqF z x)) else none
  | _ => none
theorem flat_ok {K : Fg} {O : Addr -> Prop} {H : Hp} {d : D} {v : V} (h : Is K O H d v) (f : qB d = true) : flatV v = true := by
  cases d <;> first | (cases f; done) | skip
  · rw [Is.int_iff] at h; subst h; rfl
  · rw [Is.str_iff] at h; subst h; rfl
theorem eqF_ok {K : Fg} {O : Addr -> Prop} {H : Hp} {d e : D} {v u : V} (h : Is K O H d v) (f : qB d = true) (h' : Is K O H e u) (f' : qB e = true) : eqV v u = eqF d e := by
  cases d <;> first | (cases f; done) | skip
  all_goals cases e <;> first | (cases f'; done) | skip
  all_goals first | rw [Is.int_iff] at h | rw [Is.str_iff] at h
  all_goals first | rw [Is.int_iff] at h' | rw [Is.str_iff] at h'
  all_goals subst h h'
  · simp [eqV, eqF]
    rw [Bool.beq_eq_decide_eq]
  · rfl
  · rfl
  · rename_i s t
    simp only [eqV, eqF]
    by_cases z : s = t
    · subst z; simp
    · rw [decide_eq_false z, beq_eq_false_iff_ne]
      intro z'
      have : s.toArray = t.toArray := by injection z'
      exact z (by simpa using this)
theorem in_ok {K : Fg} {O : Addr -> Prop} {H : Hp} {d : D} {v : V} (h : Is K O H d v) (f : qB d = true) : ∀ {l : List D} {xs : List V}, IsL K O H l xs -> l.all qB = true -> xs.all flatV = true /\ inV v xs = l.any fun z => eqF z d
  | [], xs, il, _ => by unfold IsL at il; subst il; exact ⟨rfl, rfl⟩
  | e :: l, xs, il, fa => by
    unfold IsL at il
    obtain ⟨u, r, rfl, i1, i2⟩ := il
    rw [List.all_cons, Bool.and_eq_true] at fa
    obtain ⟨q1, q2⟩ := in_ok h f i2 fa.2
    refine ⟨by rw [List.all_cons, flat_ok i1 fa.1, q1]; rfl, ?_⟩
    unfold inV at q2 ⊢
    rw [List.any_cons, List.any_cons, q2, eqF_ok i1 fa.1 h f]
theorem od_in {K : Fg} (neg : Bool) : OpD K (rIn K neg) (inD neg) := by
  intro O H dx dy d vx vy Q ol ix iy e q
  unfold inD at e
  cases dy <;> first | (cases e; done) | skip
  · rename_i l
    simp only at e
    split at e
    · rename_i hl
      cases e
      rw [Is.tup_iff] at iy
      obtain ⟨a, xs, rfl, hs, il⟩ := iy
      obtain ⟨q1, q2⟩ := in_ok ix hl.1 il hl.2
      exact ⟨a, xs, rfl, .inr hs, flat_ok ix hl.1, q1, q _ H (zZ.refl H) (by rw [Is.bl_iff, q2])⟩
    · cases e
  · rename_i l
    simp only at e
    split at e
    · rename_i hl
      cases e
      rw [Is.lst_iff] at iy
      obtain ⟨a, xs, rfl, hs, il⟩ := iy
      obtain ⟨q1, q2⟩ := in_ok ix hl.1 il hl.2
      exact ⟨a, xs, rfl, .inl hs.sq, flat_ok ix hl.1, q1, q _ H (zZ.refl H) (by rw [Is.bl_iff, q2])⟩
    · cases e
end
noncomputable def ixD : D -> D -> Option D
  | .lst l, .int i => atI l i
  | .tup l, .int i => atI l i
  | .str s, .int i => if s.length <= sizeLine then (atI s i).map fun c => .str [c] else none
  | _, _ => none
theorem atI_len {α β : Type} {l : List α} {m : List β} {i : Int} {x : α} (hl : l.length = m.length) (e : atI l i = some x) : ∃ j : Nat, l[j]? = some x /\ ∀ y, m[j]? = some y -> atI m i = some y := by
  unfold atI at e ⊢
  obtain ⟨j, e1, e2⟩ := bind_some e
  exact ⟨j, e2, fun y ey => by rw [<- hl, e1]; exact ey⟩
noncomputable def mIxB (fl : ML) (g : ME) : ME := fun r => (fl r).bind fun l => (g r).bind fun d => (intD d).bind fun i => atI l i
section
variable {X : Cx} {pos : Pos} {a b : Expr} {f g : ME}
theorem od_ix {K : Fg} : OpD K (rIx K) ixD := by
  intro O H dx dy d vx vy Q ol ix iy e q
  unfold ixD at e
  split at e
  · rename_i l i
    rw [Is.lst_iff] at ix
    rw [Is.int_iff] at iy
    obtain ⟨p, xs, rfl, hs, il⟩ := ix
    obtain ⟨j, e1, e2⟩ := atI_len il.length e
    obtain ⟨v, e3, iv⟩ := il.get e1
    exact .inl ⟨p, xs, i, v, rfl, iy, hs.sq, e2 v e3, q _ H (zZ.refl H) iv⟩
  · rename_i l i
    rw [Is.tup_iff] at ix
    rw [Is.int_iff] at iy
    obtain ⟨p, xs, rfl, hs, il⟩ := ix
    obtain ⟨j, e1, e2⟩ := atI_len il.length e
    obtain ⟨v, e3, iv⟩ := il.get e1
    exact .inr (.inl ⟨p, xs, i, v, rfl, iy, hs, e2 v e3, q _ H (zZ.refl H) iv⟩)
  · rename_i s i
    split at e
    · rename_i hl
      obtain ⟨c, e1, rfl⟩ := map_some e
      rw [Is.str_iff] at ix
      rw [Is.int_iff] at iy
      exact .inr (.inr ⟨_, i, c, ix, iy, by rw [qF]; exact hl, by simpa using e1, q _ H (zZ.refl H) (by rw [Is.str_iff])⟩)
    · cases e
  · cases e
theorem zX (ha : DE X a f) (hb : DE X b g) (hs : PlainIx b := by intro _ _; rfl) : DE X (.Subscript a b pos) (zF ixD f g) :=
  PE.conseq (pe_ix ix_seq ha hb hs) fun σ H Q h => two (ta := lE X.K f) (tb := lE X.K g) od_ix h
theorem de_ixB {fl : ML} (ha : DB X a fl) (hb : DE X b g) (hs : PlainIx b := by intro _ _; rfl) : DE X (.Subscript a b pos) (mIxB fl g) := by
  refine PE.conseq (pe_ix ix_list ha hb hs) fun σ H Q h => ?_
  obtain ⟨O0, r, d, hR, e, q⟩ := h
  obtain ⟨l, e1, e⟩ := bind_some e
  obtain ⟨d', e2, e⟩ := bind_some e
  obtain ⟨i, e3, e⟩ := bind_some e
  cases intD_some e3
  refine ⟨O0, r, l, hR, e1, fun p xs H1 s1 rd il => ⟨O0, r, _, hR.same s1, e2, fun v2 H2 s2 i2 => ?_⟩⟩
  rw [Is.int_iff] at i2
  obtain ⟨j, e4, e5⟩ := atI_len il.length e
  obtain ⟨v, e6, iv⟩ := il.get e4
  exact ⟨p, xs, i, v, rfl, i2, s2.seq rd, e5 v e6, q v H2 (s1.trans s2) (iv.same s2 (hR.same s1).ol)⟩
noncomputable def wE : D -> Option D
  | .lst l => some (.int l.length)
  | .tup l => some (.int l.length)
  | .str s => if s.length <= sizeLine then some (.int s.length) else none
  | _ => none
theorem call_lenA : CallR X (.builtin "len") (fun xs H Q => (∃ p ys, xs = [.ref p] /\ (SqL X.K H p ys \/ SqT X.K H p ys) /\ Q (.int ys.length) H) \/ (∃ z, xs = [.str z] /\ z.length <= sizeLine /\ Q (.int z.length) H)) := call_len_seq.or call_len_str
theorem lenD_ok {K : Fg} {O : Addr -> Prop} {H : Hp} {x d : D} {v : V} {Q : VK} (i1 : Is K O H x v) (e : wE x = some d) (q : ∀ v, Is K O H d v -> Q v H) :
    (∃ p ys, [v] = [.ref p] /\ (SqL K H p ys \/ SqT K H p ys) /\ Q (.int ys.length) H) \/ (∃ z, [v] = [.str z] /\ z.length <= sizeLine /\ Q (.int z.length) H) := by
  cases x <;> first | (simp only [wE, reduceCtorEq] at e; done) | skip
  · simp only [wE] at e
    split at e
    · rename_i hl
      cases e
      rw [Is.str_iff] at i1
      subst i1
      exact .inr ⟨_, rfl, by rw [qF]; exact hl, q _ (by rw [Is.int_iff, qF])⟩
    · cases e
  · simp only [wE, Option.some.injEq] at e
    subst e
    rw [Is.tup_iff] at i1
    obtain ⟨p, ys, rfl, hs, il⟩ := i1
    exact .inl ⟨p, ys, rfl, .inr hs, q _ (by rw [Is.int_iff, il.length])⟩
  · simp only [wE, Option.some.injEq] at e
    subst e
    rw [Is.lst_iff] at i1
    obtain ⟨p, ys, rfl, hs, il⟩ := i1
    exact .inl ⟨p, ys, rfl, .inl hs.sq, q _ (by rw [Is.int_iff, il.length])⟩
theorem de_len {p' : Pos} (hg : Gl X "len") (hm : X.mg "len" = none) (ha : DE X a f) (hs : starEach [a] X.env = (false, eval a X.env) :: starEach [] X.env := by rfl) : DE X (.Call (.Name "len" p') [a] [] pos) (mUn wE f) := by
  refine PE.conseq (pe_callB call_lenA hg hm PySem.boot_len (xT ha qR hs) (he := hs)) fun σ H Q h => ?_
  obtain ⟨O0, r, d, hR, e, q⟩ := h
  obtain ⟨x, e1, e2⟩ := bind_some e
  exact ⟨O0, r, x, hR, e1, fun v H1 s1 i1 => lenD_ok i1 e2 fun v' iv => q v' H1 s1 iv⟩
noncomputable def tyN : D -> Option String
  | .non => some "NoneType"
  | .bl _ => some "bool"
  | .int _ => some "int"
  | .str _ => some "str"
  | .tup _ => some "tuple"
  | .lst _ => some "list"
  | _ => none
noncomputable def subN : List (String × String × Bool) := [("bool", "int", true), ("NoneType", "int", false), ("NoneType", "str", false), ("NoneType", "bool", false), ("NoneType", "tuple", false), ("NoneType", "list", false),
  ("bool", "str", false), ("bool", "tuple", false), ("bool", "list", false), ("int", "bool", false), ("int", "str", false), ("int", "tuple", false), ("int", "list", false),
  ("str", "int", false), ("str", "bool", false), ("str", "tuple", false), ("str", "list", false), ("tuple", "int", false), ("tuple", "bool", false), ("tuple", "str", false), ("tuple", "list", false),
  ("list", "int", false), ("list", "bool", false), ("list", "str", false), ("list", "tuple", false)]
noncomputable def instN (t T : String) : Option Bool := if t = T then some true else (subN.find? fun x => x.1 == t && x.2.1 == T).map (·.2.2)
noncomputable def wG (T : String) (d : D) : Option D := (tyN d).bind fun t => (instN t T).map .bl
theorem subN_ok (K : Fg) : ∀ p ∈ subN, PySem.W.kitOne K (.type p.1) (.type p.2.1) = some p.2.2 := by
  unfold subN
  repeat (first | exact List.forall_mem_nil _ | refine List.forall_mem_cons.mpr ⟨rfl, ?_⟩)
theorem kit_ok (K : Fg) {t T : String} {b : Bool} (e : instN t T = some b) : PySem.W.kitOne K (.type t) (.type T) = some b := by
  unfold instN at e
  split at e
  · rename_i h; subst h; cases e; unfold PySem.W.kitOne; rw [if_pos (by simp)]
  · obtain ⟨⟨x, y, c⟩, e1, e2⟩ := map_some e
    have hm := List.mem_of_find?_eq_some e1
    have hp := List.find?_some e1
    simp only [Bool.and_eq_true, beq_iff_eq] at hp
    obtain ⟨rfl, rfl⟩ := hp
    subst e2
    exact (subN_ok K _ hm).trans rfl
noncomputable def TyA (K : Fg) (H : Hp) (x : V) (t : String) : Prop := match x with
  | .non => t = "NoneType"
  | .bl _ => t = "bool"
  | .int _ => t = "int"
  | .str _ => t = "str"
  | .ref a => (t = "list" /\ ∃ xs, SqL K H a xs) \/ (t = "tuple" /\ ∃ xs, SqT K H a xs)
  | _ => False
theorem call_isinst : CallR X (.builtin "isinstance") (fun xs H Q => ∃ x t T b, xs = [x, .ty T] /\ TyA X.K H x t /\ instN t T = some b /\ Q (.bl b) H) := by
  intro pins s σ H xs us Q I r h
  obtain ⟨x, t, T, b, rfl, ht, e, q⟩ := h
  obtain ⟨u, v, rfl, r1, r2⟩ := yU.two r
  cases (show v = Value.type T from r2)
  have e' := kit_ok X.K e
  have fin : ∀ tk, EP X pins σ Q (.bool b) { s with toks := tk } := fun tk => ⟨.bl b, H, I.tok tk, rfl, q⟩
  cases x with
  | non => cases (show t = _ from ht); exact isinst_ok I r1 (.non) e' fin
  | bl y => cases (show t = _ from ht); exact isinst_ok I r1 (.bl y) e' fin
  | int i => cases (show t = _ from ht); exact isinst_ok I r1 (.int i) e' fin
  | str y => cases (show t = _ from ht); exact isinst_ok I r1 (.str y) e' fin
  | ref a =>
    cases (show u = Value.ref a from r1)
    rcases (show (t = "list" /\ ∃ xs, SqL X.K H a xs) \/ (t = "tuple" /\ ∃ xs, SqT X.K H a xs) from ht) with ⟨rfl, xs, hs⟩ | ⟨rfl, xs, hs⟩
    · obtain ⟨its, _, ⟨o, n, h1, h2, _⟩, _⟩ := I.list hs
      exact PySem.W.kia_one PySem.W.kitx_list I.kIn ⟨o, h1, h2⟩ e' (fun z => nomatch z) fin
    · obtain ⟨its, _, ⟨o, h1, h2, _⟩, _⟩ := I.tuple hs
      exact PySem.W.kia_one PySem.W.kitx_tuple I.kIn ⟨o, h1, h2⟩ e' (fun z => nomatch z) fin
  | _ => exact False.elim ht
theorem tyA_ok {K : Fg} {O : Addr -> Prop} {H : Hp} {d : D} {v : V} {t : String} (h : Is K O H d v) (e : tyN d = some t) : TyA K H v t := by
  cases d <;> first | (simp only [tyN, reduceCtorEq] at e; done) | skip
  all_goals simp only [tyN, Option.some.injEq] at e
  all_goals subst e
  · rw [Is.non_iff] at h; subst h; rfl
  · rw [Is.bl_iff] at h; subst h; rfl
  · rw [Is.int_iff] at h; subst h; rfl
  · rw [Is.str_iff] at h; subst h; rfl
  · rw [Is.tup_iff] at h; obtain ⟨a, xs, rfl, hs, _⟩ := h; exact .inr ⟨rfl, xs, hs⟩
  · rw [Is.lst_iff] at h; obtain ⟨a, xs, rfl, hs, _⟩ := h; exact .inl ⟨rfl, xs, hs.sq⟩
theorem wM {p' pt : Pos} {x : Str} {T : String} (hg : Gl X "isinstance") (hm : X.mg "isinstance" = none) (ha : DE X a f) (hT : PE X (.Name x pt) (tC (.ty T))) (hs : starEach [a, .Name x pt] X.env = (false, eval a X.env) :: starEach [.Name x pt] X.env := by rfl) (hs2 : starEach [.Name x pt] X.env = (false, eval (.Name x pt) X.env) :: starEach [] X.env := by rfl) : DE X (.Call (.Name "isinstance" p') [a, .Name x pt] [] pos) (mUn (wG T) f) := by
  refine PE.conseq (pe_callB call_isinst hg hm PyProof.Rows.boot_isinstance (xT ha (xT hT qR hs2) hs) (he := hs)) fun σ H Q h => ?_
  obtain ⟨O0, r, d, hR, e, q⟩ := h
  obtain ⟨x, e1, e2⟩ := bind_some e
  obtain ⟨t, e3, e4⟩ := bind_some e2
  obtain ⟨b, e5, rfl⟩ := map_some e4
  exact ⟨O0, r, x, hR, e1, fun v H1 s1 i1 => ⟨v, t, T, b, rfl, tyA_ok i1 e3, e5, q _ H1 s1 (by rw [Is.bl_iff])⟩⟩
end
noncomputable def mtOf (r : En) (i : Nat) : Option (List D) := (r[i]?).bind Sl.ml
noncomputable def putO (i : Nat) (l : List D) (r : En) : Option En := match r[i]? with
  | some (.o _) => some (r.set i (.o l))
  | some (.p _) => some (r.set i (.p l))
  | _ => none
section
variable {K : Fg} {O0 : Addr -> Prop} {H H' : Hp} {r : En} {σ : St} {i : Nat} {a : Addr} {l l' : List D}
theorem putO_some {r' : En} (e : putO i l' r = some r') : ∃ x y, r[i]? = some x /\ r' = r.set i y /\ y.own = some l' /\ y.mt = some l' /\ (∃ l, x.mt = some l) /\ (∀ m, y = .p m ↔ m = l' /\ ∃ n, x = .p n) /\ (∀ m, y = .o m ↔ m = l' /\ ∃ n, x = .o n) /\ (∀ m, y ≠ .z m) /\ y.ls = some l' /\ ∀ ks m, y ≠ .d ks m := by
  unfold putO at e
  cases e1 : r[i]? with
  | none => rw [e1] at e; cases e
  | some x =>
    rw [e1] at e
    cases x with
    | o n => cases e; exact ⟨.o n, .o l', rfl, rfl, rfl, rfl, ⟨n, rfl⟩, fun m => ⟨(fun z => by cases z), (fun ⟨_, _, z⟩ => by cases z)⟩, fun m => ⟨(fun z => by cases z; exact ⟨rfl, n, rfl⟩), (fun ⟨z, _⟩ => by subst z; rfl)⟩, (fun m z => by cases z), rfl, (fun ks m z => by cases z)⟩
    | p n => cases e; exact ⟨.p n, .p l', rfl, rfl, rfl, rfl, ⟨n, rfl⟩, fun m => ⟨(fun z => by cases z; exact ⟨rfl, n, rfl⟩), (fun ⟨z, _⟩ => by subst z; rfl)⟩, fun m => ⟨(fun z => by cases z), (fun ⟨_, _, z⟩ => by cases z)⟩, (fun m z => by cases z), rfl, (fun ks m z => by cases z)⟩
    | _ => cases e
theorem R.put {r' : En} {xs' : List V} (h : R K O0 H r σ) (e : putO i l' r = some r') (ha : σ[i]? = some (some (.ref a))) (kp : ∀ b o, b ≠ a -> H b = some o -> H' b = some o) (lv : ∀ b, b ≠ a -> H' b = none -> H b = none) (e' : H' a = some (.lst xs')) (il : IsL K (Ow O0 r σ) H' l' xs') :
    R K O0 H' r' σ /\ Kp H r σ H' r' σ := by
  obtain ⟨x, y, ex, rfl, yo, ym, ⟨l0, xm⟩, yp, yoo, yz, yl, yd⟩ := putO_some e
  have hi : i < r.length := (List.getElem?_eq_some_iff.mp ex).1
  have own_i : OwnAt r σ a := ⟨i, l0, by rw [ex]; exact mt_own xm, ha⟩
  have mut_i : MutAt r σ a := ⟨i, l0, by rw [ex]; exact xm, ha⟩
  have atO : ∀ b, OwnAt (r.set i y) σ b -> OwnAt r σ b := fun b ⟨j, m, e1, q1⟩ => by
    by_cases hj : i = j
    · subst hj; rw [ha] at q1; cases q1; exact own_i
    · rw [zN hj] at e1; exact ⟨j, m, e1, q1⟩
  have atM : ∀ b, MutAt (r.set i y) σ b -> MutAt r σ b := fun b ⟨j, m, e1, q1⟩ => by
    by_cases hj : i = j
    · subst hj; rw [ha] at q1; cases q1; exact mut_i
    · rw [zN hj] at e1; exact ⟨j, m, e1, q1⟩
  have sub : ∀ b, Ow O0 (r.set i y) σ b -> H b ≠ none -> Ow O0 r σ b := fun b z _ => z.imp id (atO b)
  have sub' : ∀ b, Ow O0 (r.set i y) σ b -> H' b ≠ none -> Ow O0 r σ b := fun b z _ => z.imp id (atO b)
  have keep : Keep (Ow O0 r σ) H H' := fun b o e1 n => kp b o (fun z => n (by subst z; exact .inr own_i)) e1
  have lst : ∀ b o, H b = some o -> Mb o -> ∃ o', H' b = some o' /\ Mb o' := fun b o e1 mb => by
    by_cases hb : b = a
    · subst hb; exact ⟨.lst xs', e', trivial⟩
    · exact ⟨o, kp b _ hb e1, mb⟩
  have ol' : OLst (Ow O0 r σ) H' := fun b z => by obtain ⟨o, q, mb⟩ := h.ol b z; exact lst b o q mb
  refine ⟨⟨by simp [h.len], fun j d e1 => ?_, fun j m e1 => ?_, fun j k b m n e1 e2 q1 q2 => ?_, fun b z => ?_, fun j m b e1 q1 => ?_, fun j m b e1 q1 => ?_, fun j ks m e1 => ?_⟩, ⟨fun b o e1 n => kp b o (fun z => n (by subst z; exact mut_i)) e1, fun b e1 => ?_, lst, fun b z => .inl (atO b z), fun b z => .inl (atM b z), fun j m e1 => ?_, fun j m e1 => ?_⟩⟩
  · have hj : i ≠ j := fun z => by subst z; rw [yJ hi] at e1; cases e1; cases yo
    rw [zN hj] at e1
    obtain ⟨v, q1, q2⟩ := h.val j d e1
    exact ⟨v, q1, Is.mono keep h.ol sub _ _ q2⟩
  · by_cases hj : i = j
    · subst hj
      rw [yJ hi] at e1
      have : l' = m := by have e1' : y.ls = some m := e1; rw [yl] at e1'; exact Option.some.inj e1'
      subst this
      exact ⟨a, xs', ha, e', IsL.mono (zZ.kp (zZ.refl H') _) ol' sub' _ _ il⟩
    · rw [zN hj] at e1
      obtain ⟨b, ys, q1, q2, q3⟩ := h.own j m e1
      have hb : b ≠ a := fun z => by
        subst z
        exact hj (h.apart i j b l0 m (by rw [ex]; exact mt_own xm) (ls_own' e1) ha q1)
      exact ⟨b, ys, q1, kp b _ hb q2, IsL.mono keep h.ol sub _ _ q3⟩
  · have get : ∀ (j : Nat) (m : List D), ((r.set i y)[j]?).bind Sl.own = some m -> ∃ m', (r[j]?).bind Sl.own = some m' := fun j m e1 => by
      by_cases hj : i = j
      · subst hj; exact ⟨l0, by rw [ex]; exact mt_own xm⟩
      · rw [zN hj] at e1; exact ⟨m, e1⟩
    obtain ⟨m', z1⟩ := get j m e1
    obtain ⟨n', z2⟩ := get k n e2
    exact h.apart j k b m' n' z1 z2 q1 q2
  · obtain ⟨o, q, mb⟩ := h.o0 b z; exact lst b o q mb
  · by_cases hj : i = j
    · subst hj
      rw [yJ hi] at e1
      rcases e1 with e1 | e1 | ⟨ks, e1⟩
      · obtain ⟨_, n, z⟩ := (yoo m).mp (Option.some.inj e1)
        exact h.loc i n b (.inl (by rw [ex, z])) q1
      · exact absurd (Option.some.inj e1) (yz m)
      · exact absurd (Option.some.inj e1) (yd ks m)
    · rw [zN hj] at e1
      exact h.loc j m b e1 q1
  · by_cases hj : i = j
    · subst hj
      rw [yJ hi] at e1
      obtain ⟨_, n, z⟩ := (yp m).mp (Option.some.inj e1)
      exact h.par i n b (by rw [ex, z]) q1
    · rw [zN hj] at e1
      exact h.par j m b e1 q1
  · have hj : i ≠ j := fun z => by subst z; rw [yJ hi] at e1; exact yd ks m (Option.some.inj e1)
    rw [zN hj] at e1
    obtain ⟨b, kvs, q1, q2, q4, q3⟩ := h.dct j ks m e1
    have hb : b ≠ a := fun z => by
      subst z
      exact hj (h.apart i j b l0 m (by rw [ex]; exact mt_own xm) (by rw [e1]; rfl) ha q1)
    exact ⟨b, kvs, q1, kp b _ hb q2, q4, IsL.mono keep h.ol sub _ _ q3⟩
  · by_cases hb : b = a
    · subst hb; rw [e'] at e1; cases e1
    · exact lv b hb e1
  · by_cases hj : i = j
    · subst hj
      rw [ex] at e1
      exact ⟨⟨l', by rw [yJ hi, (yp l').mpr ⟨rfl, m, Option.some.inj e1⟩]⟩, rfl⟩
    · exact ⟨⟨m, by rw [zN hj]; exact e1⟩, rfl⟩
  · have hj : i ≠ j := fun z => by subst z; rw [ex] at e1; cases e1; cases xm
    exact ⟨by rw [zN hj]; exact e1, rfl⟩
theorem R.upd {r' : En} {xs xs' : List V} (h : R K O0 H r σ) (e : putO i l' r = some r') (ha : σ[i]? = some (some (.ref a))) (hx : H a = some (.lst xs)) (il : IsL K (Ow O0 r σ) H l' xs') : R K O0 (upd H a (.lst xs')) r' σ /\ Kp H r σ (upd H a (.lst xs')) r' σ := by
  have own_a : Ow O0 r σ a := by
    obtain ⟨x, y, ex, _, _, _, ⟨l0, xm⟩, _⟩ := putO_some e
    exact .inr ⟨i, l0, by rw [ex]; exact mt_own xm, ha⟩
  refine h.put e ha (fun b o hb e1 => by rw [xH hb]; exact e1) (fun b hb e1 => by rw [xH hb] at e1; exact e1) xK ?_
  exact IsL.mono (fun b o e1 n => by rw [xH (fun z => n (by subst z; exact own_a))]; exact e1) h.ol (fun _ z _ => z) _ _ il
end
noncomputable def mApp (i : Nat) (f : ME) : En -> Option (D × En) := fun r => (f r).bind fun d => (mtOf r i).bind fun l => if l.length < sizeLine then (putO i (l ++ [d]) r).map fun r' => (.non, r') else none
noncomputable def mAppX (i : Nat) (f : En -> Option (D × En)) : En -> Option (D × En) := fun r0 => (f r0).bind fun p => (mtOf r0 i).bind fun _ => (mtOf p.2 i).bind fun l => if l.length < sizeLine then (putO i (l ++ [p.1]) p.2).map fun r' => (.non, r') else none
noncomputable def mPop (i : Nat) : En -> Option (D × En) := fun r => (mtOf r i).bind fun l => (l[l.length - 1]?).bind fun d => (putO i l.dropLast r).map fun r' => (d, r')
noncomputable def mExt (i : Nat) (f : ME) : En -> Option (D × En) := fun r => (f r).bind fun d => (itemsD d).bind fun m => (mtOf r i).bind fun l => if l.length + m.length <= sizeLine then (putO i (l ++ m) r).map fun r' => (.non, r') else none
theorem IsL.dropLast {K : Fg} {O : Addr -> Prop} {H : Hp} {l : List D} {vs : List V} (h : IsL K O H l vs) : IsL K O H l.dropLast vs.dropLast := by
  rw [List.dropLast_eq_take, List.dropLast_eq_take, h.length]
  exact h.take _
section
variable {X : Cx} {apos cpos pn : Pos} {e : Expr} {f : ME} {x : Str} {i : Nat}
theorem mt_at {K : Fg} {O0 : Addr -> Prop} {H : Hp} {r : En} {σ : St} {l : List D} (h : R K O0 H r σ) (e : mtOf r i = some l) : ∃ a xs, σ[i]? = some (some (.ref a)) /\ H a = some (.lst xs) /\ IsL K (Ow O0 r σ) H l xs := by
  obtain ⟨y, e1, e2⟩ := bind_some e
  exact h.own i l (by rw [e1]; exact (ml_mt e2).2)
theorem dx_append (i : Nat) {x : Str} (h : PE X (.Name x pn) (tVar i)) (he : DE X e f)
    (hline : (apos.endLine == cpos.line) = true := by rfl) (hbase : attributeBase (.Name x pn) "append" X.env (eval (.Name x pn) X.env) = eval (.Name x pn) X.env := by rfl)
    (hfew : ((backTo cpos (starEach [e] X.env)).all (fun x => !x.1) && (backToKw cpos (keywordEach [] X.env)).all (fun x => x.1.isSome) && decide ([e].length + ([] : List Keyword).length + (if ([] : List Keyword).isEmpty then 0 else 1) < 30)) = true := by rfl)
    (hs : starEach [e] X.env = (false, eval e X.env) :: starEach [] X.env := by rfl) :
    DX X (.Call (.Attribute (.Name x pn) "append" apos) [e] [] cpos) (mApp i f) := by
  refine PE.conseq (pe_bm PySem.F.plainAttrs_list PySem.F.slot_list_append PySem.F.type_list_append mt_append h (xT he qR hs) hbase hfew hline hs) fun σ H Q hq => ?_
  obtain ⟨O0, r, d', r', hR, e, q⟩ := hq
  obtain ⟨d, e1, e⟩ := bind_some e
  obtain ⟨l, e2, e⟩ := bind_some e
  split at e
  · rename_i hl
    obtain ⟨r2, e3, e4⟩ := map_some e
    cases e4
    obtain ⟨a, xs, q1, q2, q3⟩ := mt_at hR e2
    refine ⟨.ref a, q1, .inl ⟨rfl, xs, SqL.of q2⟩, O0, r, d, hR, e1, fun v H1 s1 i1 => ?_⟩
    have R1 := hR.same s1
    obtain ⟨R2, k2⟩ := R1.upd (xs' := xs ++ [v]) e3 q1 (s1 _ _ q2) ((q3.same s1 hR.ol).append (.cons i1 .nil))
    exact ⟨a, xs, v, rfl, rfl, s1 _ _ q2, by rw [<- q3.length]; exact hl, q _ _ R2 ((Kp.of_same r σ s1).trans k2) (by rw [Is.non_iff])⟩
  · cases e
theorem dx_appendX (i : Nat) {x : Str} {fx : En -> Option (D × En)} (h : PE X (.Name x pn) (tVar i)) (he : DX X e fx)
    (hline : (apos.endLine == cpos.line) = true := by rfl) (hbase : attributeBase (.Name x pn) "append" X.env (eval (.Name x pn) X.env) = eval (.Name x pn) X.env := by rfl)
    (hfew : ((backTo cpos (starEach [e] X.env)).all (fun x => !x.1) && (backToKw cpos (keywordEach [] X.env)).all (fun x => x.1.isSome) && decide ([e].length + ([] : List Keyword).length + (if ([] : List Keyword).isEmpty then 0 else 1) < 30)) = true := by rfl)
    (hs : starEach [e] X.env = (false, eval e X.env) :: starEach [] X.env := by rfl) :
    DX X (.Call (.Attribute (.Name x pn) "append" apos) [e] [] cpos) (mAppX i fx) := by
  refine PE.conseq (pe_bm PySem.F.plainAttrs_list PySem.F.slot_list_append PySem.F.type_list_append mt_append h (xT he qR hs) hbase hfew hline hs) fun σ H Q hq => ?_
  obtain ⟨O0, r, d', r', hR, e, q⟩ := hq
  obtain ⟨⟨d, r1⟩, e1, e⟩ := bind_some e
  obtain ⟨l0, e0, e⟩ := bind_some e
  obtain ⟨l, e2, e⟩ := bind_some e
  split at e
  · rename_i hl
    obtain ⟨r2, e3, e4⟩ := map_some e
    cases e4
    obtain ⟨a0, xs0, p1, p2, p3⟩ := mt_at hR e0
    refine ⟨.ref a0, p1, .inl ⟨rfl, xs0, SqL.of p2⟩, O0, r, d, r1, hR, e1, fun v H1 R1 k1 i1 => ?_⟩
    obtain ⟨a, xs, q1, q2, q3⟩ := mt_at R1 e2
    rw [p1] at q1; cases q1
    obtain ⟨R2, k2⟩ := R1.upd (xs' := xs ++ [v]) e3 p1 q2 (q3.append (.cons i1 .nil))
    exact ⟨_, xs, v, rfl, rfl, q2, by rw [<- q3.length]; exact hl, q _ _ R2 (k1.trans k2) (by rw [Is.non_iff])⟩
  · cases e
theorem dx_pop (i : Nat) {x : Str} (h : PE X (.Name x pn) (tVar i)) (hbase : attributeBase (.Name x pn) "pop" X.env (eval (.Name x pn) X.env) = eval (.Name x pn) X.env := by rfl) (hline : (apos.endLine == cpos.line) = true := by rfl) :
    DX X (.Call (.Attribute (.Name x pn) "pop" apos) [] [] cpos) (mPop i) := by
  refine PE.conseq (pe_bm0 PySem.F.plainAttrs_list PySem.F.slot_list_pop PySem.F.type_list_pop mt_pop h hbase hline) fun σ H Q hq => ?_
  obtain ⟨O0, r, d', r', hR, e, q⟩ := hq
  obtain ⟨l, e2, e⟩ := bind_some e
  obtain ⟨d, e1, e⟩ := bind_some e
  obtain ⟨r2, e3, e4⟩ := map_some e
  have e5 : d = d' := congrArg Prod.fst e4
  have e6 : r2 = r' := congrArg Prod.snd e4
  subst e5 e6
  obtain ⟨a, xs, q1, q2, q3⟩ := mt_at hR e2
  obtain ⟨v, ev, iv⟩ := q3.get e1
  obtain ⟨R2, k2⟩ := hR.upd (xs' := xs.dropLast) e3 q1 q2 q3.dropLast
  refine ⟨.ref a, q1, .inl ⟨rfl, xs, SqL.of q2⟩, a, xs, v, rfl, rfl, q2, by rw [<- q3.length]; exact ev, q _ _ R2 k2 ?_⟩
  have own_a : Ow O0 r σ a := by
    obtain ⟨y, z1, z2⟩ := bind_some e2
    exact .inr ⟨i, l, by rw [z1]; exact mt_own (ml_mt z2).1, q1⟩
  have ow2 : ∀ b, Ow O0 r2 σ b -> H b ≠ none -> Ow O0 r σ b := fun b z n => z.imp id fun z => (k2.new b z).elim id fun z => absurd z n
  exact Is.mono (fun b o e1 n => by rw [xH (fun z => n (by subst z; exact own_a))]; exact e1) hR.ol ow2 _ _ iv
end
noncomputable def capS : Option Sl -> Sl
  | some (.v d) => .v d
  | _ => .un
noncomputable def capR (cap : List Nat) (n : Nat) (r : En) : En := (cap.map fun j => capS r[j]?) ++ List.replicate (n - cap.length) .un
noncomputable def qV (bd : D -> En -> Option En) (c : MB) (x : ME) : List D -> En -> Option (List D)
  | [], _ => some []
  | d :: t, r => (bd d r).bind fun r1 => (c r1).bind fun b => if b = true then (x r1).bind fun y => (qV bd c x t r1).map (y :: ·) else qV bd c x t r1
noncomputable def mTrue : MB := fun _ => some true
noncomputable def qA (cap : List Nat) (n : Nat) (it : ML) (bd : D -> En -> Option En) (c : MB) (x : ME) : ML := fun r => (it r).bind fun l => if l.length < sizeLine then qV bd c x l (capR cap n r) else none
noncomputable def wY (cap : List Nat) (n : Nat) (it : ML) (bd : D -> En -> Option En) (x : ME) : ML := qA cap n it bd mTrue x
theorem R.cap {K : Fg} {O0 : Addr -> Prop} {H H2 : Hp} {r : En} {σ : St} {cap : List Nat} {n : Nat} {p : Addr} {ys : List V} (h : R K O0 H r σ) (s : zZ H H2) (hp : H p = none) (ep : H2 p = some (.lst ys)) :
    R K (fun b => Ow O0 r σ b \/ b = p) H2 (capR cap n r) (sigC cap n σ) := by
  have noO : ∀ (i : Nat) (l : List D), ((capR cap n r)[i]?).bind Sl.own ≠ some l := fun i l e => by
    unfold capR at e
    by_cases hi : i < cap.length
    · rw [List.getElem?_append_left (by simpa using hi), List.getElem?_map] at e
      obtain ⟨j, hj⟩ : ∃ j, cap[i]? = some j := ⟨cap[i], by simp [hi]⟩
      rw [hj] at e
      have e' : (capS r[j]?).own = some l := e
      cases ej : r[j]? with
      | none => rw [ej] at e'; cases e'
      | some y => rw [ej] at e'; cases y <;> cases e'
    · rw [List.getElem?_append_right (by simpa using Nat.le_of_not_lt hi), List.getElem?_replicate] at e
      split at e <;> cases e
  have ol : OLst (fun b => Ow O0 r σ b \/ b = p) H2 := fun b z => z.elim (fun z => (h.same s).ol b z) fun z => by subst z; exact ⟨.lst ys, ep, trivial⟩
  refine ⟨by simp [capR, sigC], fun i d e => ?_, fun i l e => absurd (ls_own' e) (noO i l), fun i j a l m e1 => absurd e1 (noO i l), ol, fun i l a e => absurd (show ((capR cap n r)[i]?).bind Sl.own = some l by rcases e with e | e | ⟨_, e⟩ <;> rw [e] <;> rfl) (noO i l), fun i l a e => absurd (show ((capR cap n r)[i]?).bind Sl.own = some l by rw [e]; rfl) (noO i l), fun i ks l e => absurd (show ((capR cap n r)[i]?).bind Sl.own = some l by rw [e]; rfl) (noO i l)⟩
  unfold capR at e
  by_cases hi : i < cap.length
  · rw [List.getElem?_append_left (by simpa using hi), List.getElem?_map] at e
    obtain ⟨j, hj⟩ : ∃ j, cap[i]? = some j := ⟨cap[i], by simp [hi]⟩
    rw [hj] at e
    have e' : capS r[j]? = .v d := Option.some.inj e
    have ej : r[j]? = some (.v d) := by
      cases ej : r[j]? with
      | none => rw [ej] at e'; cases e'
      | some y => rw [ej] at e'; cases y <;> cases e'; rfl
    obtain ⟨v, e1, q⟩ := h.val j d ej
    refine ⟨v, ?_, ?_⟩
    · unfold sigC
      rw [List.getElem?_append_left (by simpa using hi), List.getElem?_map, hj]
      show some ((σ[j]?).getD none) = _
      rw [e1]; rfl
    · refine Is.mono (zZ.kp s _) h.ol (fun a z nn => ?_) _ _ q
      rcases z with (z | z) | ⟨k, l, ek, _⟩
      · exact z
      · subst z; exact absurd hp nn
      · exact absurd ek (noO k l)
  · rw [List.getElem?_append_right (by simpa using Nat.le_of_not_lt hi), List.getElem?_replicate] at e
    split at e <;> cases e
section
variable {X : Cx} {N' : List Str} {cap : List Nat} {scope : Scope} {elt tg iter : Expr} {ifs : List Expr} {pos : Pos} {it : ML} {bd : D -> En -> Option En} {c : MB} {x : ME}
theorem comp_read {tc : Option TT} (htc : ∀ {σ : St} {H : Hp} {K1 : V -> Hp -> Prop} {K0 : Hp -> Prop} {te : TE}, (lT X.K c σ H fun b H1 => if b = true then te σ H1 K1 else K0 H1) -> tComp1 tc te K1 K0 σ H)
    (n : Nat) {σ : St} {H : Hp} {Q : VK} (h : lF X.K (qA cap n it bd c x) σ H Q) : tComp cap n (lI X.K it) (lG X.K bd) tc (lE X.K x) σ H Q := by
  obtain ⟨O0, r, out, hR, e, q⟩ := h
  obtain ⟨l, e1, e2⟩ := bind_some e
  split at e2
  · rename_i hlen
    refine ⟨O0, r, l, hR, e1, fun J H1 s1 yl p hp => ?_⟩
    have hpH : H p = none := s1.free hp
    refine ⟨fun i m ys σ2 H2 => m = l.length - i /\ i <= l.length /\ ys.length <= i /\ H2 p = some (.lst ys) /\ zZ H1 H2 /\ ∃ r2 dn rest, R X.K (fun b => Ow O0 r σ b \/ b = p) H2 r2 σ2 /\ (∀ a, ¬ OwnAt r2 σ2 a) /\ IsL X.K (fun b => Ow O0 r σ b \/ b = p) H2 dn ys /\ qV bd c x (l.drop i) r2 = some rest /\ dn ++ rest = out,
      ⟨l.length, by simp, Nat.zero_le _, Nat.le_refl _, xK, xC hp, capR cap n r, [], out, ?_, ?_, .nil, by simpa using e2, rfl⟩, ?_⟩
    · exact R.cap hR (s1.trans (xC hp)) hpH xK
    · rintro a ⟨i, l', e', _⟩
      unfold capR at e'
      by_cases hi : i < cap.length
      · rw [List.getElem?_append_left (by simpa using hi), List.getElem?_map] at e'
        obtain ⟨j, hj⟩ : ∃ j, cap[i]? = some j := ⟨cap[i], by simp [hi]⟩
        rw [hj] at e'
        have e'' : (capS r[j]?).own = some l' := e'
        cases ej : r[j]? with
        | none => rw [ej] at e''; cases e''
        | some y => rw [ej] at e''; cases y <;> cases e''
      · rw [List.getElem?_append_right (by simpa using Nat.le_of_not_lt hi), List.getElem?_replicate] at e'
        split at e' <;> cases e'
    · rintro i m ys σ2 H2 ⟨rfl, hil, hyl, hp2, s2, r2, dn, rest, R2, no2, il2, e3, eo⟩
      refine ⟨hp2, by lia, ?_⟩
      obtain ⟨y1, y2⟩ := yl i H2 (fun b => Ow O0 r σ b \/ b = p) (zZ.kp s2 _) fun a z nn => z.elim id fun z => by subst z; exact absurd hp nn
      by_cases hlt : i < l.length
      · obtain ⟨go, yd⟩ := y1 hlt
        have hd : l[i]? = some l[i] := by simp [hlt]
        rw [drop_cons hd] at e3
        obtain ⟨r3, e4, e5⟩ := bind_some e3
        obtain ⟨b, e6, e7⟩ := bind_some e5
        refine .inr ⟨go, fun v H3 yv => ?_⟩
        obtain ⟨s3, iv⟩ := yd v H3 yv
        have R3 := R2.same s3
        have ow2 : ∀ a, Ow (fun b => Ow O0 r σ b \/ b = p) r2 σ2 a -> Ow O0 r σ a \/ a = p := fun a z => z.elim id fun z => absurd z (no2 a)
        refine ⟨_, r2, l[i], r3, R3, ?_, e4, fun σ4 R4 k4 => ?_⟩
        · exact Is.mono (zZ.kp (zZ.refl H3) _) R3.o0 (fun a z _ => ow2 a z) _ _ (iv _ hd)
        have no4 : ∀ a, ¬ OwnAt r3 σ4 a := fun a z => by
          rcases k4.new a z with z' | z'
          · exact no2 a z'
          · obtain ⟨xs, ex, _⟩ := R4.ol a (.inr z)
            rw [z'] at ex; cases ex
        have ow4 : ∀ a, Ow (fun b => Ow O0 r σ b \/ b = p) r3 σ4 a -> Ow O0 r σ a \/ a = p := fun a z => z.elim id fun z => absurd z (no4 a)
        refine htc ⟨_, r3, b, R4, e6, fun H5 s5 => ?_⟩
        have R5 := R4.same s5
        cases b with
        | false =>
          rw [if_neg Bool.false_ne_true] at e7
          refine iteF ⟨l.length - (i + 1), by lia, rfl, hlt, by lia, (s3.trans s5) _ _ hp2, s2.trans (s3.trans s5), r3, dn, rest, R5, no4, ?_, e7, eo⟩
          exact il2.same (s3.trans s5) R2.o0
        | true =>
          rw [if_pos rfl] at e7
          obtain ⟨y, e8, e9⟩ := bind_some e7
          obtain ⟨rest', e10, e11⟩ := map_some e9
          refine iteT ⟨_, r3, y, R5, e8, fun u H6 s6 iu => ?_⟩
          have s26 := s3.trans (s5.trans s6)
          have hp6 := s26 _ _ hp2
          have R6 := R5.same s6
          have kk : Keep (fun b => Ow O0 r σ b \/ b = p) H6 (upd H6 p (.lst (ys ++ [u]))) := fun b' o e' nn => by rw [xH (fun z => nn (.inr z))]; exact e'
          refine ⟨hp6, l.length - (i + 1), by lia, rfl, hlt, by simp; lia, xK, ?_, r3, dn ++ [y], rest', ?_, no4, ?_, e10, ?_⟩
          · intro b' o e'
            have hb : b' ≠ p := fun z => by subst z; rw [hp] at e'; cases e'
            rw [xH hb]
            exact s26 _ _ (s2 _ _ e')
          · refine ⟨R6.len, fun j d ej => ?_, fun j m ej => ?_, R6.apart, fun b' z => ?_, R6.loc, R6.par, fun j ks m ej => ?_⟩
            · obtain ⟨w, q1, q2⟩ := R6.val j d ej
              exact ⟨w, q1, Is.mono (fun b' o e' nn => kk b' o e' fun z => nn (.inl z)) R6.ol (fun _ z _ => z) _ _ q2⟩
            · obtain ⟨a', xs', q1, q2, _⟩ := R6.own j m ej
              exact absurd ⟨j, m, ls_own' ej, q1⟩ (no4 a')
            · rcases z with z | z
              · by_cases hb : b' = p
                · subst hb; exact ⟨_, xK, trivial⟩
                · rw [xH hb]; exact R6.o0 b' (.inl z)
              · subst z; exact ⟨_, xK, trivial⟩
            · obtain ⟨a', kvs, q1, q2, _⟩ := R6.dct j ks m ej
              exact absurd ⟨j, m, by rw [ej]; rfl, q1⟩ (no4 a')
          · have i1 := il2.same s26 R2.o0
            have i2 : Is X.K (fun b => Ow O0 r σ b \/ b = p) H6 y u := Is.mono (zZ.kp (zZ.refl H6) _) R6.ol (fun a z _ => .inl z) _ _ iu
            exact IsL.mono kk R6.o0 (fun _ z _ => z) _ _ (i1.append (.cons i2 .nil))
          · rw [<- eo, <- e11]; simp
      · have hl : l.drop i = [] := List.drop_eq_nil_of_le (by lia)
        rw [hl] at e3
        have e3' : some [] = some rest := e3
        cases e3'
        rw [List.append_nil] at eo
        subst eo
        exact .inl ⟨y2 (by lia), q p ys H2 (s1.trans s2) hpH hp2 il2⟩
  · cases e2
theorem df_comp (hc : X.calm = true) (o : CmpOk X N' cap scope) (hi : DI X tg iter it) (hg : ∀ C fp s H, DG (cxC X N' scope C fp s H) tg bd) (he : ∀ C fp s H, DE (cxC X N' scope C fp s H) elt x)
    (n : Nat) (hn : N'.length = n := by rfl) (hs : ∀ x, foldedSetIterable iter X.env x = pure x := by intro _; rfl) : DF X (.ListComp elt [⟨tg, iter, [], 0⟩] scope pos) (wY cap n it bd x) := by
  subst hn
  exact PE.conseq (pe_lcomp (g := lG X.K bd) (te := lE X.K x) (tc := none) hc o hi hg rfl he hs) fun σ H Q h => comp_read (tc := none) (fun {σ H K1 K0 te} z => by
    obtain ⟨O0, r, b, hR, e, q⟩ := z
    unfold mTrue at e; cases e
    have z1 : (if true = true then te σ H K1 else K0 H) := q H (zZ.refl H)
    rw [if_pos rfl] at z1
    exact z1) N'.length h
theorem df_compIf {ce : Expr} (hc : X.calm = true) (o : CmpOk X N' cap scope) (hi : DI X tg iter it) (hg : ∀ C fp s H, DG (cxC X N' scope C fp s H) tg bd) (ht : ∀ C fp s H, DT (cxC X N' scope C fp s H) ce c) (he : ∀ C fp s H, DE (cxC X N' scope C fp s H) elt x)
    (n : Nat) (hn : N'.length = n := by rfl) (hs : ∀ x, foldedSetIterable iter X.env x = pure x := by intro _; rfl) : DF X (.ListComp elt [⟨tg, iter, [ce], 0⟩] scope pos) (qA cap n it bd c x) := by
  subst hn
  exact PE.conseq (pe_lcomp (g := lG X.K bd) (te := lE X.K x) (tc := some (lT X.K c)) hc o hi hg ⟨ce, rfl, ht⟩ he hs) fun σ H Q h => comp_read (tc := some (lT X.K c)) (fun z => z) N'.length h
end
noncomputable def CapOk (X : Cx) (scope : Scope) : List Nat -> List Str -> Prop
  | [], _ => True
  | j :: t, x :: r => X.N[j]? = some x /\ scope.names.lookup x = some .free /\ CapOk X scope t r
  | _ :: _, [] => False
theorem CapOk.get {X : Cx} {scope : Scope} : ∀ {cap : List Nat} {N' : List Str}, CapOk X scope cap N' -> ∀ (i j : Nat), cap[i]? = some j -> ∃ x, N'[i]? = some x /\ X.N[j]? = some x /\ scope.names.lookup x = some .free
  | [], _, _, i, j, e => by simp at e
  | k :: t, [], h, _, _, _ => False.elim h
  | k :: t, x :: r, h, 0, j, e => by
    have e' : k = j := by simpa using e
    subst e'
    exact ⟨x, rfl, h.1, h.2.1⟩
  | k :: t, x :: r, h, i + 1, j, e => by
    obtain ⟨y, q1, q2⟩ := CapOk.get h.2.2 i j (by simpa using e)
    exact ⟨y, by simpa using q1, q2⟩
theorem CapOk.len {X : Cx} {scope : Scope} : ∀ {cap : List Nat} {N' : List Str}, CapOk X scope cap N' -> cap.length <= N'.length
  | [], _, _ => Nat.zero_le _
  | k :: t, [], h => False.elim h
  | k :: t, x :: r, h => Nat.succ_le_succ (CapOk.len h.2.2)
theorem cmp_mk {X : Cx} {N' : List Str} {cap : List Nat} {scope : Scope} (kind : scope.kind = .function := by rfl) (nc : ∀ y ∈ scope.names, y.2 ≠ .cell := by decide +kernel) (nm : ∀ y ∈ scope.names, y.2 = .local -> scope.names.lookup y.1 = some .local := by decide +kernel)
    (fr : ∀ y ∈ scope.names, y.2 = .free -> X.env.kindOf y.1 = some .cell \/ X.env.kindOf y.1 = some .free := by repeat (first | exact List.forall_mem_nil _ | refine List.forall_mem_cons.mpr ⟨fun e => (by first | exact absurd e (by decide) | exact .inl rfl | exact .inr rfl), ?_⟩))
    (capt : CapOk X scope cap N' := by repeat (first | exact trivial | refine ⟨rfl, rfl, ?_⟩)) : CmpOk X N' cap scope := ⟨kind, nc, nm, fr, capt.get, capt.len⟩
end DD
namespace ZZ
open PySem
section
variable {prog : Program} {w : World} {A : Around} {E : Value -> Shared -> Prop} {s : Shared}
theorem tnext {ti tu : Addr} {k : Nat} {ys : Array Value} {y : Value} {Q : Value -> Shared -> Prop} (h1 : s.heap.IsTupleIter ti tu k) (h2 : s.heap.IsTuple tu ys) (h3 : ys[k]? = some y)
    (h4 : ∀ g, g.IsTupleIter ti tu (k + 1) -> Heap.SameBut ti s.heap g -> Q y { s with heap := g }) : wpAny (model prog w) A (Builtin.SmallTypes.nextOf (.ref ti)) Q E s := by
  obtain ⟨a, ha, ca, da⟩ := id h1
  obtain ⟨b, hb, _, nb, db⟩ := h2
  unfold Builtin.SmallTypes.nextOf; refine wpAny_bind (wpAny_callSpecial?_slot (name := Str.ofString "__next__") h1.typeIs F.slot_tuple_iterator_next (wpAny_call_entry F.slot_tuple_iterator_next h1.typeIs F.entry_tuple_iterator_next (?_) (F.args_tuple_iterator_next_1 _)))
  show wpAny _ _ (field (.ref ti) 0 >>= _) _ _ s; refine wpAny_bind (wpAny_field ha da (x := .ref tu) rfl (?_))
  show wpAny _ _ (if (Value.ref tu == Value.none) = true then _ else _) _ _ s; rw [if_neg (show ¬ ((Value.ref tu == Value.none) = true) from Bool.false_ne_true)]
  show wpAny _ _ (field (.ref ti) 1 >>= _) _ _ s; refine wpAny_bind (wpAny_field ha da (x := .int k 0) rfl (?_))
  show wpAny _ _ (seqItems? (.ref tu) >>= _) _ _ s; refine wpAny_bind (wpAny_seqItems hb db (?_)); simp only [Int.toNat_natCast, h3]
  refine wpAny_bind (wpAny_setField ha da (by simp) (wpAny_pure ⟨y, rfl, wpAny_pure (h4 _ (?_) (Heap.SameBut.update ..))⟩))
  refine ⟨_, Heap.get?_update_self _ ha (Obj.isFreed_of_fields (Obj.data_mapFields da _)), (Obj.cls_mapFields ..).trans ca, ?_⟩; rw [Obj.data_mapFields da]; simp [rawInt]
theorem tend {ti tu : Addr} {k : Nat} {ys : Array Value} {Q : Value -> Shared -> Prop} (hh : A.handled = none) (h1 : s.heap.IsTupleIter ti tu k) (h2 : s.heap.IsTuple tu ys) (h3 : ys[k]? = none)
    (h4 : ∀ g e, Heap.ExtBut ti s.heap g -> (∃ o, g.get? e = some o /\ o.cls = .type "StopIteration") -> E (.ref e) { s with heap := g }) : wpAny (model prog w) A (Builtin.SmallTypes.nextOf (.ref ti)) Q E s := by
  obtain ⟨a, ha, ca, da⟩ := id h1
  obtain ⟨b, hb, _, nb, db⟩ := h2
  unfold Builtin.SmallTypes.nextOf; refine wpAny_bind (wpAny_callSpecial?_slot (name := Str.ofString "__next__") h1.typeIs F.slot_tuple_iterator_next (wpAny_call_entry F.slot_tuple_iterator_next h1.typeIs F.entry_tuple_iterator_next (?_) (F.args_tuple_iterator_next_1 _)))
  show wpAny _ _ (field (.ref ti) 0 >>= _) _ _ s; refine wpAny_bind (wpAny_field ha da (x := .ref tu) rfl (?_))
  show wpAny _ _ (if (Value.ref tu == Value.none) = true then _ else _) _ _ s; rw [if_neg (show ¬ ((Value.ref tu == Value.none) = true) from Bool.false_ne_true)]
  show wpAny _ _ (field (.ref ti) 1 >>= _) _ _ s; refine wpAny_bind (wpAny_field ha da (x := .int k 0) rfl (?_))
  show wpAny _ _ (seqItems? (.ref tu) >>= _) _ _ s; refine wpAny_bind (wpAny_seqItems hb db (?_)); simp only [Int.toNat_natCast, h3]
  refine wpAny_bind (wpAny_rule (wpAny_bind (wpAny_setField ha da (by simp) (?_)))); show wpAny _ _ (newExc (.type "StopIteration") [] >>= _) _ _ _
  refine wpAny_bind (?_); simp only [newExc, newTuple]; refine wpAny_bind (wpAny_newObj_type (?_) (by size_fits))
  refine wpAny_bind (m := firstArgMember _ _) (wpAny_of_eq (a := Value.none) (by first | rfl | (simp only [firstArgMember]; rfl)) (?_)); refine wpAny_newObj_type (?_) (by size_fits)
  simp only [raiseNew]; refine wpAny_bind (wpAny_handled (?_)); first | rw [show A.in1.handled = none from hh] | rw [hh]
  refine wpAny_bind (wpAny_pure (wpAny_throw (?_))); exact h4 _ _ (((Heap.SameBut.update ..).extBut.push _).push _) ⟨_, Heap.get?_push_size _ rfl, rfl⟩
end
theorem drawsT {prog : Program} {w : World} {A : Around} (hh : A.handled = none) (ti tu : Addr) (ne : tu ≠ ti) (ys : Array Value) : Draws prog w A ti [ti, tu] ys.size (fun i v => ys[i]? = some v) (fun i h => h.IsTupleIter ti tu i /\ h.IsTuple tu ys) where
  live := fun _ _ st => let ⟨o, e, _⟩ := st.1; ⟨o, e⟩
  frame := fun _ _ _ st k => ⟨st.1.at fun o e => k ti (by simp) o e, st.2.at fun o e => k tu (by simp) o e⟩
  item := fun i s Q E hi st q => tnext st.1 st.2 (y := ys[i]) (by simp [hi]) fun g a b => q _ g s.toks (by simp [hi]) ⟨a, st.2.at fun o e => b.extBut _ _ ne e⟩ b
  done := fun s Q E st q => tend hh st.1 st.2 (by simp) q
structure Ap (z a b i j : Addr) (f g : List Addr) : Prop where
  az : a ≠ z
  bz : b ≠ z
  iz : i ≠ z
  jz : j ≠ z
  ab : a ≠ b
  ai : a ≠ i
  aj : a ≠ j
  bi : b ≠ i
  bj : b ≠ j
  ij : i ≠ j
  fz : z ∉ f
  fb : b ∉ f
  fj : j ∉ f
  gz : z ∉ g
  gb : b ∉ g
  gi : i ∉ g
section
variable {prog : Program} {w : World} {A : Around} {E : Value -> Shared -> Prop} {s : Shared} {z a b i j : Addr} {f g : List Addr} {n m k : Nat} {P R : Nat -> Value -> Prop} {S U : Nat -> Heap -> Prop} {p q : Value}
theorem zitem {Q : Value -> Shared -> Prop} (D : Draws prog w A i f n P S) (C : Draws prog w A j g m R U) (ap : Ap z a b i j f g) (hz : IsZip s.heap z a b .none) (ha : IsPair s.heap a (.ref i) (.ref j)) (hb : IsPair s.heap b p q) (hS : S k s.heap) (hU : U k s.heap) (hn : k < n) (hm : k < m)
    (h : ∀ x y g' tk, P k x -> R k y -> IsZip g' z a b (rawInt s.heap.objs.size) -> IsPair g' b x y -> S (k + 1) g' -> U (k + 1) g' -> IsPair g' s.heap.objs.size x y -> g'.objs.size = s.heap.objs.size + 1 ->
      (∀ c o, c ≠ z -> c ≠ b -> c ≠ i -> c ≠ j -> s.heap.get? c = some o -> g'.get? c = some o) -> Q (.ref s.heap.objs.size) { s with heap := g', toks := tk }) :
    wpAny (model prog w) A (Builtin.«zip.__next__» ⟨[.ref z], []⟩) (fun r s' => ∃ y, r = .done (.ret y) /\ Q y s') E s := by
  show wpAny _ _ (field (.ref z) 2 >>= _) _ _ _; refine wpAny_bind (wpAny_field hz rfl (x := .bool false) rfl (?_))
  show wpAny _ _ (field (.ref z) 3 >>= _) _ _ _; refine wpAny_bind (wpAny_field hz rfl (x := .ref a) rfl (wpAny_bind (wpAny_seqItems ha rfl (?_))))
  show wpAny _ _ (Builtin.SmallTypes.ownedTupleIsFree (.ref z) >>= _) _ _ _; refine wpAny_bind (?_); unfold Builtin.SmallTypes.ownedTupleIsFree
  refine wpAny_bind (wpAny_field hz rfl (x := .none) rfl (wpAny_pure (?_))); simp only [if_true]; refine wpAny_bind (wpAny_rule (wpAny_bind (wpAny_field hz rfl (x := .ref b) rfl (?_))))
  refine wpAny_bind (wpAny_setField_rec hz (by simp) fun g1 z1 t1 => ?_)
  replace z1 : IsZip g1 z a b .ellipsis := z1
  have keep1 : ∀ {c : Addr} {o : Obj}, c ≠ z -> s.heap.get? c = some o -> g1.get? c = some o := fun n e => t1.extBut _ _ n e
  refine wpAny_bind (?_); simp only [List.zipIdx_cons, List.zipIdx_nil, List.forIn_cons, List.forIn_nil]; refine wpAny_bind (wpAny_bind (wpAny_onRaise (?_)))
  show wpAny _ _ (Builtin.SmallTypes.nextOf (.ref i) >>= _) _ _ _
  refine wpAny_bind (D.item k _ _ _ hn (D.frame _ _ _ hS fun c hc o e => keep1 (fun w' => ap.fz (w' ▸ hc)) e) fun x g2 tk2 Px S2 t2 => wpAny_pure (?_))
  have b2 : IsPair g2 b p q := t2.extBut _ _ ap.bi (keep1 ap.bz hb)
  refine wpAny_bind (wpAny_seqItems b2 rfl (wpAny_bind (wpAny_updateSeq_pair b2 fun g3 b3 t3 => ?_)))
  replace b3 : IsPair g3 b x q := b3
  refine wpAny_bind (wpAny_letGo (wpAny_pure (?_))); refine wpAny_bind (wpAny_bind (wpAny_onRaise (?_)))
  show wpAny _ _ (Builtin.SmallTypes.nextOf (.ref j) >>= _) _ _ _
  have U3 : U k g3 := C.frame _ _ _ hU fun c hc o e => t3.extBut _ _ (fun w' => ap.gb (w' ▸ hc)) (t2.extBut _ _ (fun w' => ap.gi (w' ▸ hc)) (keep1 (fun w' => ap.gz (w' ▸ hc)) e))
  refine wpAny_bind (C.item k _ _ _ hm U3 fun y g4 tk4 Ry U4 t4 => wpAny_pure (?_))
  have b4 : IsPair g4 b x q := t4.extBut _ _ ap.bj b3
  refine wpAny_bind (wpAny_seqItems b4 rfl (wpAny_bind (wpAny_updateSeq_pair b4 fun g5 b5 t5 => ?_)))
  replace b5 : IsPair g5 b x y := b5
  refine wpAny_bind (wpAny_letGo (wpAny_pure (wpAny_pure (?_)))); refine wpAny_bind (wpAny_seqItems b5 rfl (wpAny_bind (wpAny_newTuple (?_))))
  have sz : g5.objs.size = s.heap.objs.size := by rw [t5.1, t4.1, t3.1, t2.1, t1.1]
  have z5 : IsZip g5 z a b .ellipsis := t5.extBut _ _ ap.bz.symm (t4.extBut _ _ ap.jz.symm (t3.extBut _ _ ap.bz.symm (t2.extBut _ _ ap.iz.symm z1)))
  have k5 : ∀ c o, c ≠ z -> c ≠ b -> c ≠ i -> c ≠ j -> s.heap.get? c = some o -> g5.get? c = some o := fun c o c1 c2 c3 c4 e => t5.extBut _ _ c2 (t4.extBut _ _ c4 (t3.extBut _ _ c2 (t2.extBut _ _ c3 (keep1 c1 e))))
  have S5 : S (k + 1) g5 := D.frame _ _ _ S2 fun c hc o e => t5.extBut _ _ (fun w' => ap.fb (w' ▸ hc)) (t4.extBut _ _ (fun w' => ap.fj (w' ▸ hc)) (t3.extBut _ _ (fun w' => ap.fb (w' ▸ hc)) e))
  have U5 : U (k + 1) g5 := C.frame _ _ _ U4 fun c hc o e => t5.extBut _ _ (fun w' => ap.gb (w' ▸ hc)) e
  have zl : z < g5.objs.size := Heap.lt_size z5
  show wpAny _ _ (Builtin.SmallTypes.ownedTupleHandOut (.ref z) (.ref g5.objs.size) >>= _) _ _ _; refine wpAny_bind (?_); unfold Builtin.SmallTypes.ownedTupleHandOut
  have z6 : IsZip (g5.push { cls := .type "tuple", data := .seq #[x, y] }) z a b .ellipsis := Heap.get?_push_of_some _ z5
  refine wpAny_bind (wpAny_setField_rec z6 (by simp) fun g7 z7 t7 => ?_)
  replace z7 : IsZip g7 z a b (rawInt g5.objs.size) := z7
  refine wpAny_setField_rec z7 (by simp) fun g8 z8 t8 => ?_
  replace z8 : IsZip g8 z a b (rawInt g5.objs.size) := z8
  have up : ∀ c o, c ≠ z -> g5.get? c = some o -> g8.get? c = some o := fun c o c1 e => t8.extBut _ _ c1 (t7.extBut _ _ c1 (Heap.get?_push_of_some _ e))
  have p8 : IsPair g8 g5.objs.size x y := t8.extBut _ _ (Nat.ne_of_gt zl) (t7.extBut _ _ (Nat.ne_of_gt zl) (Heap.get?_push_size _ rfl))
  have s8 : g8.objs.size = g5.objs.size + 1 := by rw [t8.1, t7.1, Heap.size_push]
  rw [sz] at z8 p8 s8
  refine wpAny_pure ⟨_, rfl, (?_)⟩; show Q (.ref g5.objs.size) _; rw [sz]
  exact h x y g8 _ Px Ry z8 (up _ _ ap.bz b5) (D.frame _ _ _ S5 fun c hc o e => up c o (fun w' => ap.fz (w' ▸ hc)) e) (C.frame _ _ _ U5 fun c hc o e => up c o (fun w' => ap.gz (w' ▸ hc)) e) p8 s8 fun c o c1 c2 c3 c4 e => up c o c1 (k5 c o c1 c2 c3 c4 e)
theorem zend {Q : Fin -> Shared -> Prop} (D : Draws prog w A i f n P S) (C : Draws prog w A j g m R U) (ap : Ap z a b i j f g) (hz : IsZip s.heap z a b .none) (ha : IsPair s.heap a (.ref i) (.ref j)) (hb : IsPair s.heap b p q) (hS : S k s.heap) (hU : U k s.heap) (hk : (k = n) \/ (k < n /\ k = m))
    (h : ∀ g' e, (∀ c o, c ≠ z -> c ≠ b -> c ≠ i -> c ≠ j -> s.heap.get? c = some o -> g'.get? c = some o) -> (∃ o, g'.get? e = some o /\ o.cls = .type "StopIteration") -> ∀ tk, E (.ref e) { s with heap := g', toks := tk }) :
    wpAny (model prog w) A (PySem.Builtin.«zip.__next__» ⟨[.ref z], []⟩) Q E s := by
  show wpAny _ _ (field (.ref z) 2 >>= _) _ _ _; refine wpAny_bind (wpAny_field hz rfl (x := .bool false) rfl (?_))
  show wpAny _ _ (field (.ref z) 3 >>= _) _ _ _; refine wpAny_bind (wpAny_field hz rfl (x := .ref a) rfl (wpAny_bind (wpAny_seqItems ha rfl (?_))))
  show wpAny _ _ (Builtin.SmallTypes.ownedTupleIsFree (.ref z) >>= _) _ _ _; refine wpAny_bind (?_); unfold Builtin.SmallTypes.ownedTupleIsFree
  refine wpAny_bind (wpAny_field hz rfl (x := .none) rfl (wpAny_pure (?_))); simp only [if_true]; refine wpAny_bind (wpAny_rule (wpAny_bind (wpAny_field hz rfl (x := .ref b) rfl (?_))))
  refine wpAny_bind (wpAny_setField_rec hz (by simp) fun g1 z1 t1 => ?_)
  replace z1 : IsZip g1 z a b .ellipsis := z1
  have keep1 : ∀ {c : Addr} {o : Obj}, c ≠ z -> s.heap.get? c = some o -> g1.get? c = some o := fun n e => t1.extBut _ _ n e
  refine wpAny_bind (?_); simp only [List.zipIdx_cons, List.zipIdx_nil, List.forIn_cons, List.forIn_nil]; refine wpAny_bind (wpAny_bind (wpAny_onRaise (?_)))
  show wpAny _ _ (Builtin.SmallTypes.nextOf (.ref i) >>= _) _ _ _
  have S1 : S k g1 := D.frame _ _ _ hS fun c hc o e => keep1 (fun w' => ap.fz (w' ▸ hc)) e
  rcases hk with hk | ⟨hn, hk⟩
  · subst hk
    refine wpAny_bind (D.done _ _ _ S1 fun g2 e t2 he => ?_)
    obtain ⟨oe, ho, ce⟩ := he
    have z2 : IsZip g2 z a b .ellipsis := t2 _ _ ap.iz.symm z1
    have ez : e ≠ z := fun x => by subst x; rw [z2] at ho; cases ho; simp at ce
    exact wpAny_setField_rec z2 (by simp) fun g3 _ t3 => h g3 e (fun c o c1 _ c3 _ x => t3.extBut _ _ c1 (t2 _ _ c3 (keep1 c1 x))) ⟨oe, t3.extBut _ _ ez ho, ce⟩ _
  · subst hk
    refine wpAny_bind (D.item k _ _ _ hn S1 fun x g2 tk2 Px S2 t2 => wpAny_pure (?_))
    have b2 : IsPair g2 b p q := t2.extBut _ _ ap.bi (keep1 ap.bz hb)
    refine wpAny_bind (wpAny_seqItems b2 rfl (wpAny_bind (wpAny_updateSeq_pair b2 fun g3 b3 t3 => ?_)))
    refine wpAny_bind (wpAny_letGo (wpAny_pure (?_))); refine wpAny_bind (wpAny_bind (wpAny_onRaise (?_)))
    show wpAny _ _ (Builtin.SmallTypes.nextOf (.ref j) >>= _) _ _ _
    have U3 : U k g3 := C.frame _ _ _ hU fun c hc o e => t3.extBut _ _ (fun w' => ap.gb (w' ▸ hc)) (t2.extBut _ _ (fun w' => ap.gi (w' ▸ hc)) (keep1 (fun w' => ap.gz (w' ▸ hc)) e))
    refine wpAny_bind (C.done _ _ _ U3 fun g4 e t4 he => ?_)
    obtain ⟨oe, ho, ce⟩ := he
    have z4 : IsZip g4 z a b .ellipsis := t4 _ _ ap.jz.symm (t3.extBut _ _ ap.bz.symm (t2.extBut _ _ ap.iz.symm z1))
    have ez : e ≠ z := fun x => by subst x; rw [z4] at ho; cases ho; simp at ce
    exact wpAny_setField_rec z4 (by simp) fun g5 _ t5 => h g5 e (fun c o c1 c2 c3 c4 x => t5.extBut _ _ c1 (t4 _ _ c4 (t3.extBut _ _ c2 (t2.extBut _ _ c3 (keep1 c1 x))))) ⟨oe, t5.extBut _ _ ez ho, ce⟩ _
end
open PySem
noncomputable abbrev tI (t : Addr) : Obj := { cls := .type "tuple_iterator", data := .fields #[.ref t, .int 0 0] }
noncomputable abbrev tP (u v : Value) : Obj := { cls := .type "tuple", data := .seq #[u, v] }
noncomputable abbrev tZ (a b : Addr) : Obj := { cls := .type "zip", data := .fields #[.none, .bool false, .bool false, .ref a, .ref b] }
noncomputable abbrev zH (h : Heap) (t u : Addr) : Heap := ((((h.push (tI t)).push (tI u)).push (tP (.ref h.objs.size) (.ref (h.push (tI t)).objs.size))).push (tP .none .none)).push (tZ ((h.push (tI t)).push (tI u)).objs.size (((h.push (tI t)).push (tI u)).push (tP (.ref h.objs.size) (.ref (h.push (tI t)).objs.size))).objs.size)
theorem znew (t u : Addr) (xs ys : Array Value) : Meets (Builtin.«zip.__new__» ⟨[.type "zip", .ref t, .ref u], []⟩) (fun _ R s => s.heap.IsTuple t xs /\ s.heap.IsTuple u ys /\ R (.ok (.ret (.ref ((((s.heap.push (tI t)).push (tI u)).push (tP (.ref s.heap.objs.size) (.ref (s.heap.push (tI t)).objs.size))).push (tP .none .none)).objs.size))) { s with heap := zH s.heap t u }) :=
  .of_wp fun prog w A R s h => by
    obtain ⟨hp, g, d, tk, os⟩ := s; obtain ⟨h1, h2, h⟩ := h
    have hsub := sub_zip
    have L1 : Heap.IsTuple (Shared.heap ⟨hp, g, d, tk, os⟩) t xs := h1
    have L2 : Heap.IsTuple (Shared.heap ⟨hp.push (tI t), g, d, tk, os⟩) u ys := h2.at fun o e => Heap.get?_push_of_some _ e
    wp_walk using wpAny_pyIter_tuple L1, wpAny_pyIter_tuple L2
    exact ⟨_, rfl, h⟩
section
variable {prog : Program} {w : World} {A : Around} {E : Value -> Shared -> Prop} {s : Shared}
theorem zcall {t u : Addr} {xs ys : Array Value} {Q : Value -> Shared -> Prop} (h1 : s.heap.IsTuple t xs) (h2 : s.heap.IsTuple u ys)
    (h : ∀ g, IsZip g (s.heap.objs.size + 4) (s.heap.objs.size + 2) (s.heap.objs.size + 3) .none -> IsPair g (s.heap.objs.size + 2) (.ref s.heap.objs.size) (.ref (s.heap.objs.size + 1)) -> IsPair g (s.heap.objs.size + 3) .none .none ->
      g.IsTupleIter s.heap.objs.size t 0 -> g.IsTupleIter (s.heap.objs.size + 1) u 0 -> (∀ c o, s.heap.get? c = some o -> g.get? c = some o) -> Q (.ref (s.heap.objs.size + 4)) { s with heap := g }) :
    wpAny (model prog w) A (call (.type "zip") [.ref t, .ref u]) Q E s := by
  refine callType_new F.called_zip (by decide) (F.typeCall_zip_2 _ _) (F.newCall_zip_2 _ _) (fun obj => F.args_object_init_3 obj _ _) F.entry_zip_new (znew t u xs ys) ⟨h1, h2, ?_⟩
  have z1 : (s.heap.push (tI t)).objs.size = s.heap.objs.size + 1 := Heap.size_push ..
  have z2 : ((s.heap.push (tI t)).push (tI u)).objs.size = s.heap.objs.size + 2 := by rw [Heap.size_push, z1]
  have z3 : (((s.heap.push (tI t)).push (tI u)).push (tP (.ref s.heap.objs.size) (.ref (s.heap.push (tI t)).objs.size))).objs.size = s.heap.objs.size + 3 := by rw [Heap.size_push, z2]
  have z4 : ((((s.heap.push (tI t)).push (tI u)).push (tP (.ref s.heap.objs.size) (.ref (s.heap.push (tI t)).objs.size))).push (tP .none .none)).objs.size = s.heap.objs.size + 4 := by rw [Heap.size_push, z3]
  have kp : ∀ c o, s.heap.get? c = some o -> (zH s.heap t u).get? c = some o := fun c o x => Heap.get?_push_of_some _ (Heap.get?_push_of_some _ (Heap.get?_push_of_some _ (Heap.get?_push_of_some _ (Heap.get?_push_of_some _ x))))
  have g1 : (zH s.heap t u).get? s.heap.objs.size = some (tI t) := Heap.get?_push_of_some _ (Heap.get?_push_of_some _ (Heap.get?_push_of_some _ (Heap.get?_push_of_some _ (Heap.get?_push_size _ rfl))))
  have g2 : (zH s.heap t u).get? (s.heap.push (tI t)).objs.size = some (tI u) := Heap.get?_push_of_some _ (Heap.get?_push_of_some _ (Heap.get?_push_of_some _ (Heap.get?_push_size _ rfl)))
  have g3 : (zH s.heap t u).get? ((s.heap.push (tI t)).push (tI u)).objs.size = some (tP (.ref s.heap.objs.size) (.ref (s.heap.push (tI t)).objs.size)) := Heap.get?_push_of_some _ (Heap.get?_push_of_some _ (Heap.get?_push_size _ rfl))
  have g4 : (zH s.heap t u).get? (((s.heap.push (tI t)).push (tI u)).push (tP (.ref s.heap.objs.size) (.ref (s.heap.push (tI t)).objs.size))).objs.size = some (tP .none .none) := Heap.get?_push_of_some _ (Heap.get?_push_size _ rfl)
  have g5 : (zH s.heap t u).get? ((((s.heap.push (tI t)).push (tI u)).push (tP (.ref s.heap.objs.size) (.ref (s.heap.push (tI t)).objs.size))).push (tP .none .none)).objs.size = some (tZ ((s.heap.push (tI t)).push (tI u)).objs.size (((s.heap.push (tI t)).push (tI u)).push (tP (.ref s.heap.objs.size) (.ref (s.heap.push (tI t)).objs.size))).objs.size) := Heap.get?_push_size _ rfl
  rw [z4] at g5 ⊢
  rw [z3] at g4 g5
  rw [z2] at g3 g5
  rw [z1] at g2 g3
  exact ⟨⟨_, g5, rfl⟩, h _ g5 g3 g4 ⟨_, g1, rfl, rfl⟩ ⟨_, g2, rfl, rfl⟩ kp⟩
theorem znextI {z a b i j : Addr} {f g : List Addr} {n m k : Nat} {P R : Nat -> Value -> Prop} {S U : Nat -> Heap -> Prop} {p q : Value} {Q : Option Value -> Shared -> Prop} (D : Draws prog w A.in1 i f n P S) (C : Draws prog w A.in1 j g m R U) (ap : Ap z a b i j f g) (hz : IsZip s.heap z a b .none) (ha : IsPair s.heap a (.ref i) (.ref j)) (hb : IsPair s.heap b p q) (hS : S k s.heap) (hU : U k s.heap) (hn : k < n) (hm : k < m)
    (h : ∀ x y g' tk, P k x -> R k y -> IsZip g' z a b (rawInt s.heap.objs.size) -> IsPair g' b x y -> S (k + 1) g' -> U (k + 1) g' -> IsPair g' s.heap.objs.size x y -> g'.objs.size = s.heap.objs.size + 1 ->
      (∀ c o, c ≠ z -> c ≠ b -> c ≠ i -> c ≠ j -> s.heap.get? c = some o -> g'.get? c = some o) -> Q (some (.ref s.heap.objs.size)) { s with heap := g', toks := tk }) : wpAny (model prog w) A (pyNext (.ref z)) Q E s := by
  have hT : s.TypeIs (.ref z) "zip" := ⟨_, hz, rfl⟩; unfold pyNext
  refine wpAny_bind (wpAny_attempt (wpAny_callSpecial?_slot (name := Str.ofString "__next__") hT F.slot_zip_next (wpAny_call_entry F.slot_zip_next hT F.entry_zip_next (?_) (F.args_zip_next_1 _))))
  refine wpAny_mono (zitem (Q := fun v s' => Q (some v) s') D C ap hz ha hb hS hU hn hm h) (fun fin s' hq => ?_) fun _ _ x => x
  obtain ⟨v, e, hq⟩ := hq
  exact ⟨v, e, wpAny_pure hq⟩
theorem znextE {z a b i j : Addr} {f g : List Addr} {n m k : Nat} {P R : Nat -> Value -> Prop} {S U : Nat -> Heap -> Prop} {p q : Value} {Q : Option Value -> Shared -> Prop} (D : Draws prog w A.in1 i f n P S) (C : Draws prog w A.in1 j g m R U) (ap : Ap z a b i j f g) (hz : IsZip s.heap z a b .none) (ha : IsPair s.heap a (.ref i) (.ref j)) (hb : IsPair s.heap b p q) (hS : S k s.heap) (hU : U k s.heap) (hk : (k = n) \/ (k < n /\ k = m))
    (h : ∀ g' tk, (∀ c o, c ≠ z -> c ≠ b -> c ≠ i -> c ≠ j -> s.heap.get? c = some o -> g'.get? c = some o) -> Q none { s with heap := g', toks := tk }) : wpAny (model prog w) A (pyNext (.ref z)) Q E s := by
  have hT : s.TypeIs (.ref z) "zip" := ⟨_, hz, rfl⟩; unfold pyNext
  refine wpAny_bind (wpAny_attempt (wpAny_callSpecial?_slot (name := Str.ofString "__next__") hT F.slot_zip_next (wpAny_call_entry F.slot_zip_next hT F.entry_zip_next (zend D C ap hz ha hb hS hU hk fun g' e kp he tk => ?_) (F.args_zip_next_1 _))))
  obtain ⟨o, ho, hc⟩ := he
  refine wpAny_bind (wpAny_isInstance (T := "StopIteration") (b := true) ⟨o, ho, hc⟩ isSubtype_stop (?_))
  exact wpAny_pure (h _ _ kp)
end
end ZZ
namespace DD
open PySem PySem.Spec PyProof.Rows L2
section
variable {X : Cx} {pins : List (Addr × Obj)} {σ : St} {H : Hp} {s : Shared} {h' : Heap}
theorem inv_drew {t' : Nat} {ch : List Addr} {T : Addr} {vs : List V} {its : List Value} (I : Inv X pins σ H s) (hch : ∀ b ∈ ch, FpOk X pins H b) (hT : s.heap.objs.size <= T) (kp : ∀ b o, b ∉ ch -> s.heap.get? b = some o -> h'.get? b = some o)
    (hz : vs.length <= sizeLine) (hv : yU vs its) (ht : IsTup h' T its.toArray) : Inv X pins σ (upd H T (.tup vs)) { s with heap := h', toks := t' } := by
  have hn : H T = none := I.hok.fresh hT
  have old : ∀ {b : Addr} {o : Obj}, s.heap.get? b = some o -> b ≠ T := fun e => Nat.ne_of_lt (Nat.lt_of_lt_of_le (Heap.lt_size e) hT)
  have tr : ∀ {b : Addr} {u : HO}, H b = some u -> b ≠ T := fun e => qM e hn
  have trc : ∀ {b : Addr} {u : HO}, H b = some u -> b ∉ ch := fun {b u} e z => by rw [(hch b z).1] at e; cases e
  refine I.step (g' := s.gens) (d' := s.drawn) (ch := ch) (fun b hb => ⟨(hch b hb).2.2.2.1, (hch b hb).2.1, (hch b hb).2.2.2.2.1, (hch b hb).2.2.2.2.2⟩) (fun b o _ _ hc e _ => kp b o hc e) (fun b o _ _ hc e _ => ⟨o.slots, kp b o hc e⟩)
    (fun b o _ e n => by rw [xH (old e)]; exact n) (fun b o hc e => ⟨o, kp b o hc e⟩) (fun b xs e => by rw [xH (tr e)]; exact e) (fun b o u e => by rw [xH (tr e)]; exact e) (fun b ps e => ⟨#[], by rw [xH (tr e), e]; simp⟩) (fun m hm => ?_) (fun b u e => ?_) I.bare
  · obtain ⟨o, es, ep, ho, r⟩ := hm
    exact ⟨o, es, ep, kp _ o (fun z => (hch _ z).2.1 rfl) ho, r⟩
  · by_cases hb : b = T
    · subst hb
      rw [xK] at e; cases e
      exact ⟨hz, its, hv, ht⟩
    · rw [xH hb] at e
      refine (I.hok b u e).stay (fun c v hc q => kp c v ?_ q) (fun c q => by rw [xH (tr q)]; exact q) (fun c xs q => by rw [xH (tr q)]; exact q) fun c o u q => by rw [xH (tr q)]; exact q
      rcases hc with z | z
      · rw [z]; exact trc e
      · exact trc z
theorem inv_turnL {t' : Nat} {ch : List Addr} (I : Inv X pins σ H s) (hch : ∀ b ∈ ch, FpOk X pins H b) (kp : ∀ b o, b ∉ ch -> s.heap.get? b = some o -> h'.get? b = some o) : Inv X pins σ H { s with heap := h', toks := t' } := by
  have trc : ∀ {b : Addr} {u : HO}, H b = some u -> b ∉ ch := fun {b u} e z => by rw [(hch b z).1] at e; cases e
  refine I.step (g' := s.gens) (d' := s.drawn) (ch := ch) (fun b hb => ⟨(hch b hb).2.2.2.1, (hch b hb).2.1, (hch b hb).2.2.2.2.1, (hch b hb).2.2.2.2.2⟩) (fun b o _ _ hc e _ => kp b o hc e) (fun b o _ _ hc e _ => ⟨o.slots, kp b o hc e⟩)
    (fun b o _ e n => n) (fun b o hc e => ⟨o, kp b o hc e⟩) (fun b xs e => e) (fun b o u e => e) (fun b ps e => ⟨#[], by rw [e]; simp⟩) (fun m hm => ?_) (fun b u e => ?_) I.bare
  · obtain ⟨o, es, ep, ho, r⟩ := hm
    exact ⟨o, es, ep, kp _ o (fun z => (hch _ z).2.1 rfl) ho, r⟩
  · refine (I.hok b u e).stay (fun c v hc q => kp c v ?_ q) (fun _ q => q) (fun _ _ q => q) fun _ _ _ q => q
    rcases hc with z | z
    · rw [z]; exact trc e
    · exact trc z
end
theorem cls_ne {h : Heap} {a b : Addr} {o o' : Obj} {n m : String} (e : h.get? a = some o) (c : o.cls = .type n) (e' : h.get? b = some o') (c' : o'.cls = .type m) (d : n ≠ m) : a ≠ b := by
  rintro rfl
  rw [e] at e'; cases e'
  rw [c] at c'; injection c' with q; exact d q
noncomputable def ItE (K : Fg) (a : Addr) : It :=
  ⟨fun i H => ∃ xs x, SqL K H a xs /\ xs[i]? = some x, fun i H x H' => ∃ T y, x = .ref T /\ H T = none /\ H' = upd H T (.tup [.int i, y]) /\ ∀ xs, SqL K H a xs -> xs[i]? = some y, fun i H => ∃ xs, SqL K H a xs /\ xs.length = i⟩
theorem turn_enum {P : Program} {w : World} {K : Fg} {elts : List Expr} {k : Nat} {tp : Pos} (a e it : Addr) (hei : e ≠ it) : Turn P w K (.Tuple elts k tp) (ItE K a) [e, it] e (fun i h => (∃ old, IsEnum h e it i old) /\ h.IsListIter it a i) where
  mem := by simp
  obj := fun i h st b hb => by
    obtain ⟨⟨old, h1⟩, o, h2, h3, h4⟩ := st
    have hb' : b = e \/ b = it := by simpa using hb
    rcases hb' with rfl | rfl
    · exact ⟨_, h1, fun v z => by cases z⟩
    · exact ⟨o, h2, fun v z => by rw [h4] at z; cases z⟩
  keep := fun i h g st kp => ⟨let ⟨old, h1⟩ := st.1; ⟨old, kp e (by simp) _ h1⟩, st.2.at fun o q => kp it (by simp) o q⟩
  item := by
    intro X hP hw hK hc i pins s σ H E I hf st hg
    subst hP hw hK
    obtain ⟨xs, x, hq, hx⟩ := hg
    obtain ⟨its, rv, p, hz⟩ := I.list hq
    obtain ⟨u, hu, ru⟩ := rv.get hx
    obtain ⟨oa, na, ea, ca, _⟩ := id p
    obtain ⟨⟨old, h1⟩, oi, h2, h3, h4⟩ := id st
    have hae : a ≠ e := cls_ne ea ca h1 rfl (by decide)
    have hai : a ≠ it := cls_ne ea ca h2 h3 (by decide)
    have W := WalksT.enumerate (prog := X.prog) (w := X.w) (A := X.A) (I.ok.hd hc) e it a hei hae hai its.toArray
    have hi : i < its.toArray.size := by
      obtain ⟨q, _⟩ := List.getElem?_eq_some_iff.mp hu
      simpa using q
    refine W.item i s _ _ hi ⟨st.1, st.2, p.isList⟩ fun T vals g tk pt hT isT mid kp => ⟨_, rfl, W.go elts k tp i T _ _ _ mid fun g2 st2 kp2 => ?_⟩
    obtain ⟨t, y, hy, rfl⟩ := pt
    have hy' : y = u := by
      have : its[i]? = some y := by simpa using hy
      rw [hu] at this; exact (Option.some.inj this).symm
    subst hy'
    have isT2 : IsTup g2 T #[.int i t, y] := by
      obtain ⟨o, q1, q2⟩ := isT
      exact ⟨o, kp2 T o (W.apart i T _ mid) q1, q2⟩
    refine ⟨.ref T, upd H T (.tup [.int i, x]), inv_drew (s := s) (t' := tk) I (its := [.int i t, y]) (ch := [e, it]) hf hT (fun b o hb q => kp2 b o hb (kp b o hb q)) (by show 2 <= sizeLine; decide) (.cons ⟨t, rfl⟩ (.cons ru .nil)) isT2, rfl, ⟨T, x, rfl, I.hok.fresh hT, rfl, fun ys hys => by rw [I.list_inj hys hq]; exact hx⟩, ⟨st2.1, st2.2.1⟩, fun b hb => ?_⟩
    have hbT : b ≠ T := by
      have hb' : b = e \/ b = it := by simpa using hb
      rcases hb' with rfl | rfl
      · exact Nat.ne_of_lt (Nat.lt_of_lt_of_le (Heap.lt_size h1) hT)
      · exact Nat.ne_of_lt (Nat.lt_of_lt_of_le (Heap.lt_size h2) hT)
    rw [xH hbT]
    exact (hf b hb).1
  done := by
    intro X hP hw hK hc i pins s σ H E I hf st hg
    subst hP hw hK
    obtain ⟨xs, hq, hx⟩ := hg
    obtain ⟨its, rv, p, hz⟩ := I.list hq
    obtain ⟨oa, na, ea, ca, _⟩ := id p
    obtain ⟨⟨old, h1⟩, oi, h2, h3, h4⟩ := id st
    have hae : a ≠ e := cls_ne ea ca h1 rfl (by decide)
    have hai : a ≠ it := cls_ne ea ca h2 h3 (by decide)
    have W := WalksT.enumerate (prog := X.prog) (w := X.w) (A := X.A) (I.ok.hd hc) e it a hei hae hai its.toArray
    have hl : its.toArray.size = i := by rw [List.size_toArray, <- rv.length]; exact hx
    exact W.done s _ _ (by rw [hl]; exact ⟨st.1, st.2, p.isList⟩) fun g tk kp => ⟨rfl, inv_turnL I hf kp⟩
  self := fun _ _ _ _ _ st h => let ⟨⟨_, h1⟩, _⟩ := st; wpAny_pyIter_enum h1 h
noncomputable def ItZ (sq : Hp -> Addr -> List V -> Prop) (a b : Addr) : It :=
  ⟨fun i H => ∃ xs ys x y, sq H a xs /\ sq H b ys /\ xs[i]? = some x /\ ys[i]? = some y, fun i H x H' => ∃ T u v, x = .ref T /\ H T = none /\ H' = upd H T (.tup [u, v]) /\ (∀ xs, sq H a xs -> xs[i]? = some u) /\ ∀ ys, sq H b ys -> ys[i]? = some v, fun i H => ∃ xs ys, sq H a xs /\ sq H b ys /\ (xs.length = i \/ (i < xs.length /\ ys.length = i))⟩
theorem fp_ne {X : Cx} {pins : List (Addr × Obj)} {σ : St} {H : Hp} {s : Shared} {a b : Addr} {o : Obj} (I : Inv X pins σ H s) (h : X.K.lookup a = some o) (f : FpOk X pins H b) : a ≠ b := by
  rintro rfl
  have e := I.ok.mod.kin a o h
  rcases f.2.2.2.1 with z | z
  · exact I.ok.noex a o e z
  · exact absurd (Nat.lt_of_lt_of_le (Nat.lt_of_lt_of_le (Heap.lt_size e) I.ok.bsz) z) (Nat.lt_irrefl _)
theorem fp_rd {X : Cx} {pins : List (Addr × Obj)} {H : Hp} {a b : Addr} {u : HO} (h : Rd H a u) (f : FpOk X pins H b) : a ≠ b := by
  rintro rfl
  obtain ⟨o, e⟩ := Rd.some h
  rw [f.1] at e; cases e
structure Dw (K : Fg) (sq : Hp -> Addr -> List V -> Prop) (isI : Heap -> Addr -> Addr -> Nat -> Prop) (nm : String) : Prop where
  get : ∀ {X : Cx} {pins σ H s a xs}, X.K = K -> Inv X pins σ H s -> sq H a xs -> ∃ its : List Value, yU xs its /\ xs.length <= sizeLine /\ ∃ o, s.heap.get? a = some o /\ o.cls = .type nm /\ ∃ n, o.data = .seq its.toArray n
  inj : ∀ {X : Cx} {pins σ H s a xs ys}, X.K = K -> Inv X pins σ H s -> sq H a xs -> sq H a ys -> xs = ys
  ne : ∀ {X : Cx} {pins σ H s a xs b}, X.K = K -> Inv X pins σ H s -> sq H a xs -> FpOk X pins H b -> a ≠ b
  it : ∀ {h i a k}, isI h i a k -> ∃ o, h.get? i = some o /\ ∃ vs, o.data = .fields vs
  at_ : ∀ {h h' : Heap} {i a k}, isI h i a k -> (∀ o, h.get? i = some o -> h'.get? i = some o) -> isI h' i a k
  dr : ∀ {prog w A} (_ : A.handled = none) (i a : Addr) (_ : a ≠ i) (ys : Array Value), Draws prog w A i [i, a] ys.size (fun k v => ys[k]? = some v) (fun k h => isI h i a k /\ ∃ o, h.get? a = some o /\ o.cls = .type nm /\ ∃ n, o.data = .seq ys n)
theorem dw_list (K : Fg) : Dw K (SqL K) Heap.IsListIter "list" where
  get := fun {X pins σ H s a xs} hK I h => by
    subst hK
    obtain ⟨its, r, ⟨o, n, e, c, _, d⟩, z⟩ := I.list h
    exact ⟨its, r, z, o, e, c, n, d⟩
  inj := fun {X pins σ H s a xs ys} hK I h g => by subst hK; exact I.list_inj h g
  ne := fun {X pins σ H s a xs b} hK I h f => by
    subst hK
    rcases h with h | ⟨o, _, _, hk, _⟩
    · exact fp_rd h f
    · exact fp_ne I hk f
  it := fun {h i a k} ⟨o, e, c, d⟩ => ⟨o, e, _, d⟩
  at_ := fun h k => h.at k
  dr := fun hh i a ne ys => Draws.list hh i a ne ys
theorem dw_tup (K : Fg) : Dw K (SqT K) Heap.IsTupleIter "tuple" where
  get := fun {X pins σ H s a xs} hK I h => by
    subst hK
    obtain ⟨its, r, ⟨o, e, c, n, d⟩, z⟩ := I.tuple h
    exact ⟨its, r, z, o, e, c, n, d⟩
  inj := fun {X pins σ H s a xs ys} hK I h g => by subst hK; exact I.tuple_inj h g
  ne := fun {X pins σ H s a xs b} hK I h f => by
    subst hK
    rcases h with h | ⟨o, _, _, hk, _⟩
    · exact fp_rd h f
    · exact fp_ne I hk f
  it := fun {h i a k} ⟨o, e, c, d⟩ => ⟨o, e, _, d⟩
  at_ := fun h k => h.at k
  dr := fun hh i a ne ys => ZZ.drawsT hh i a ne ys
structure ZA (z p q i j : Addr) : Prop where
  pz : p ≠ z
  qz : q ≠ z
  iz : i ≠ z
  jz : j ≠ z
  pq : p ≠ q
  pi : p ≠ i
  pj : p ≠ j
  qi : q ≠ i
  qj : q ≠ j
  ij : i ≠ j
theorem turn_zip {P : Program} {w : World} {K : Fg} {elts : List Expr} {k : Nat} {tp : Pos} {sq : Hp -> Addr -> List V -> Prop} {isI : Heap -> Addr -> Addr -> Nat -> Prop} {nm : String} (W : Dw K sq isI nm) (a b z p q i j : Addr) (ap : ZA z p q i j) :
    Turn P w K (.Tuple elts k tp) (ItZ sq a b) [z, p, q, i, j] z (fun n h => IsZip h z p q .none /\ IsPair h p (.ref i) (.ref j) /\ (∃ u v, IsPair h q u v) /\ isI h i a n /\ isI h j b n) where
  mem := by simp
  obj := fun n h st c hc => by
    obtain ⟨h1, h2, ⟨u, v, h3⟩, h4, h5⟩ := st
    obtain ⟨oi, ei, vi, di⟩ := W.it h4
    obtain ⟨oj, ej, vj, dj⟩ := W.it h5
    have hc' : c = z \/ c = p \/ c = q \/ c = i \/ c = j := by simpa using hc
    rcases hc' with rfl | rfl | rfl | rfl | rfl
    · exact ⟨_, h1, fun v z => by cases z⟩
    · exact ⟨_, h2, fun v z => by cases z⟩
    · exact ⟨_, h3, fun v z => by cases z⟩
    · exact ⟨_, ei, fun v z => by rw [di] at z; cases z⟩
    · exact ⟨_, ej, fun v z => by rw [dj] at z; cases z⟩
  keep := fun n h g st kp => by
    obtain ⟨h1, h2, ⟨u, v, h3⟩, h4, h5⟩ := st
    exact ⟨kp z (by simp) _ h1, kp p (by simp) _ h2, ⟨u, v, kp q (by simp) _ h3⟩, W.at_ h4 fun o e => kp i (by simp) o e, W.at_ h5 fun o e => kp j (by simp) o e⟩
  item := by
    intro X hP hw hK hc n pins s σ H E I hf st hg
    subst hP hw
    obtain ⟨xs, ys, x, y, hx, hy, ex, ey⟩ := hg
    obtain ⟨its, rv, hzx, oa, ea, ca, na, da⟩ := W.get hK I hx
    obtain ⟨its2, rv2, hzy, ob, eb, cb, nb, db⟩ := W.get hK I hy
    obtain ⟨u, hu, ru⟩ := rv.get ex
    obtain ⟨v, hv, rw'⟩ := rv2.get ey
    obtain ⟨h1, h2, ⟨u0, v0, h3⟩, h4, h5⟩ := st
    have fa : ∀ c ∈ [z, p, q, i, j], a ≠ c := fun c hc => W.ne hK I hx (hf c hc)
    have fb : ∀ c ∈ [z, p, q, i, j], b ≠ c := fun c hc => W.ne hK I hy (hf c hc)
    have hn : n < its.toArray.size := by obtain ⟨q', _⟩ := List.getElem?_eq_some_iff.mp hu; simpa using q'
    have hm : n < its2.toArray.size := by obtain ⟨q', _⟩ := List.getElem?_eq_some_iff.mp hv; simpa using q'
    have ap' : ZZ.Ap z p q i j [i, a] [j, b] := ⟨ap.pz, ap.qz, ap.iz, ap.jz, ap.pq, ap.pi, ap.pj, ap.qi, ap.qj, ap.ij,
      by simp; exact ⟨ap.iz.symm, (fa z (by simp)).symm⟩, by simp; exact ⟨ap.qi, (fa q (by simp)).symm⟩, by simp; exact ⟨ap.ij.symm, (fa j (by simp)).symm⟩, by simp; exact ⟨ap.jz.symm, (fb z (by simp)).symm⟩, by simp; exact ⟨ap.qj, (fb q (by simp)).symm⟩, by simp; exact ⟨ap.ij, (fb i (by simp)).symm⟩⟩
    refine ZZ.znextI (W.dr (A := X.A.in1) (I.ok.hd hc) i a (fa i (by simp)) its.toArray) (W.dr (A := X.A.in1) (I.ok.hd hc) j b (fb j (by simp)) its2.toArray) ap' h1 h2 h3 ⟨h4, oa, ea, ca, na, da⟩ ⟨h5, ob, eb, cb, nb, db⟩ hn hm fun x' y' g tk px py z1 q1 s1 u1 t1 sz kp => ⟨_, rfl, ?_⟩
    refine wpAny_letOwnedTupleGo_zip z1 fun g2 z2 sb => ?_
    have hx' : x' = u := by
      have : its[n]? = some x' := by simpa using px
      rw [hu] at this; exact (Option.some.inj this).symm
    have hy' : y' = v := by
      have : its2[n]? = some y' := by simpa using py
      rw [hv] at this; exact (Option.some.inj this).symm
    subst hx' hy'
    have zl : z < s.heap.objs.size := Heap.lt_size h1
    have kp2 : ∀ c o, c ∉ [z, q, i, j] -> s.heap.get? c = some o -> g2.get? c = some o := fun c o hc e => by
      simp at hc
      exact sb.extBut _ _ hc.1 (kp c o hc.1 hc.2.1 hc.2.2.1 hc.2.2.2 e)
    have isT : IsTup g2 s.heap.objs.size #[x', y'] := ⟨_, sb.extBut _ _ (Nat.ne_of_gt zl) t1, rfl, _, rfl⟩
    have hf' : ∀ c ∈ [z, q, i, j], FpOk X pins H c := fun c hc => hf c (by simp at hc ⊢; rcases hc with h | h | h | h <;> simp [h])
    refine ⟨.ref s.heap.objs.size, upd H s.heap.objs.size (.tup [x, y]), inv_drew (s := s) (t' := tk) I (its := [x', y']) (ch := [z, q, i, j]) hf' (Nat.le_refl _) kp2 (by show 2 <= sizeLine; decide) (.cons ru (.cons rw' .nil)) isT, rfl, ⟨_, x, y, rfl, I.hok.fresh (Nat.le_refl _), rfl, fun zs hzs => by rw [W.inj hK I hzs hx]; exact ex, fun zs hzs => by rw [W.inj hK I hzs hy]; exact ey⟩, ?_, fun c hc => ?_⟩
    · refine ⟨z2, sb.extBut _ _ ap.pz (kp p _ ap.pz ap.pq ap.pi ap.pj h2), ⟨_, _, sb.extBut _ _ ap.qz q1⟩, W.at_ s1.1 fun o e => sb.extBut _ _ ap.iz e, W.at_ u1.1 fun o e => sb.extBut _ _ ap.jz e⟩
    · have hlt : c < s.heap.objs.size := by
        obtain ⟨oi, ei, _⟩ := W.it h4
        obtain ⟨oj, ej, _⟩ := W.it h5
        simp at hc
        rcases hc with rfl | rfl | rfl | rfl | rfl
        · exact zl
        · exact Heap.lt_size h2
        · exact Heap.lt_size h3
        · exact Heap.lt_size ei
        · exact Heap.lt_size ej
      rw [xH (Nat.ne_of_lt hlt)]
      exact (hf c hc).1
  done := by
    intro X hP hw hK hc n pins s σ H E I hf st hg
    subst hP hw
    obtain ⟨xs, ys, hx, hy, hl⟩ := hg
    obtain ⟨its, rv, hzx, oa, ea, ca, na, da⟩ := W.get hK I hx
    obtain ⟨its2, rv2, hzy, ob, eb, cb, nb, db⟩ := W.get hK I hy
    obtain ⟨h1, h2, ⟨u0, v0, h3⟩, h4, h5⟩ := st
    have fa : ∀ c ∈ [z, p, q, i, j], a ≠ c := fun c hc => W.ne hK I hx (hf c hc)
    have fb : ∀ c ∈ [z, p, q, i, j], b ≠ c := fun c hc => W.ne hK I hy (hf c hc)
    have e1 := rv.length
    have e2 := rv2.length
    have ap' : ZZ.Ap z p q i j [i, a] [j, b] := ⟨ap.pz, ap.qz, ap.iz, ap.jz, ap.pq, ap.pi, ap.pj, ap.qi, ap.qj, ap.ij,
      by simp; exact ⟨ap.iz.symm, (fa z (by simp)).symm⟩, by simp; exact ⟨ap.qi, (fa q (by simp)).symm⟩, by simp; exact ⟨ap.ij.symm, (fa j (by simp)).symm⟩, by simp; exact ⟨ap.jz.symm, (fb z (by simp)).symm⟩, by simp; exact ⟨ap.qj, (fb q (by simp)).symm⟩, by simp; exact ⟨ap.ij, (fb i (by simp)).symm⟩⟩
    have hf' : ∀ c ∈ [z, q, i, j], FpOk X pins H c := fun c hc => hf c (by simp at hc ⊢; rcases hc with h | h | h | h <;> simp [h])
    refine ZZ.znextE (W.dr (A := X.A.in1) (I.ok.hd hc) i a (fa i (by simp)) its.toArray) (W.dr (A := X.A.in1) (I.ok.hd hc) j b (fb j (by simp)) its2.toArray) ap' h1 h2 h3 ⟨h4, oa, ea, ca, na, da⟩ ⟨h5, ob, eb, cb, nb, db⟩ ?_ fun g tk kp => ⟨rfl, inv_turnL I hf' fun c o hc e => ?_⟩
    · simp only [List.size_toArray]
      rcases hl with h | ⟨h, h'⟩
      · left; lia
      · right; lia
    · simp at hc
      exact kp c o hc.1 hc.2.1 hc.2.2.1 hc.2.2.2 e
  self := fun _ _ _ _ _ st h => wpAny_pyIter_zip st.1 h
section
variable {X : Cx} {pos : Pos} {a b c : Expr} {f g h : ME}
theorem de_neg (ha : DE X a f) : DE X (.UnaryOp .USub a pos) (mUn negD f) := de_un un_neg (fun O H dx d vx Q i e q => by
  cases dx <;> first | (simp only [negD, reduceCtorEq] at e; done) | skip
  simp only [negD, Option.some.injEq] at e
  subst e
  rw [Is.int_iff] at i
  exact ⟨_, i, q _ (by rw [Is.int_iff])⟩) ha
noncomputable def leA : D -> D -> Option D
  | .int i, .int j => some (.bl (decide (i <= j)))
  | .str s, .str t => some (.bl (!decide (t < s)))
  | _, _ => none
theorem op_leS : OpR X (compareOp .LtE) (fun x y H Q => ∃ i j, x = .str i /\ y = .str j /\ Q (.bl (!decide (j.cps.toList < i.cps.toList))) H) := by
  intro pins s σ H x y v u Q I rx ry hq
  obtain ⟨i, j, rfl, rfl, q⟩ := hq
  obtain ⟨t, rfl⟩ := rx
  obtain ⟨t', rfl⟩ := ry
  exact PySem.P.le_str ⟨.bl _, H, I, rfl, q⟩
noncomputable def rLeA : R2 := fun x y H Q => rI0 (fun i j => .bl (decide (i <= j))) x y H Q \/ ∃ i j, x = .str i /\ y = .str j /\ Q (.bl (!decide (j.cps.toList < i.cps.toList))) H
theorem op_leA : OpR X (compareOp .LtE) rLeA := op_le.or op_leS
theorem od_leA {K : Fg} : OpD K rLeA leA := by
  intro O H dx dy d vx vy Q ol ix iy e q
  unfold leA at e
  split at e
  · have e := Option.some.inj e
    subst e
    rw [Is.int_iff] at ix iy
    exact .inl ⟨_, _, ix, iy, q _ H (zZ.refl H) (by rw [Is.bl_iff])⟩
  · have e := Option.some.inj e
    subst e
    rw [Is.str_iff] at ix iy
    exact .inr ⟨_, _, ix, iy, q _ H (zZ.refl H) (by rw [Is.bl_iff])⟩
  · cases e
noncomputable def mChain (m m' : D -> D -> Option D) (f g h : ME) : ME := fun r => (f r).bind fun x => (g r).bind fun y => (m x y).bind fun k => match k with
  | .bl true => (h r).bind fun z => m' y z
  | .bl false => some (.bl false)
  | _ => none
theorem chain_read {r2 r3 : R2} {m m' : D -> D -> Option D} (hd : OpD X.K r2 m) (hd' : OpD X.K r3 m') {σ : St} {H : Hp} {Q : VK} (hq : lE X.K (mChain m m' f g h) σ H Q) : tChain r2 r3 (lE X.K f) (lE X.K g) (lE X.K h) σ H Q := by
  obtain ⟨O0, r, d, hR, e, q⟩ := hq
  obtain ⟨x, e1, e⟩ := bind_some e
  obtain ⟨y, e2, e⟩ := bind_some e
  obtain ⟨k, e3, e⟩ := bind_some e
  refine ⟨O0, r, x, hR, e1, fun v1 H1 s1 i1 => ⟨O0, r, y, hR.same s1, e2, fun v2 H2 s2 i2 => ?_⟩⟩
  have R2 := hR.same (s1.trans s2)
  refine hd (Ow O0 r σ) H2 x y k v1 v2 _ R2.ol (i1.same s2 (hR.same s1).ol) i2 e3 fun v H3 s3 i3 => ?_
  have s13 := (s1.trans s2).trans s3
  cases k with
  | bl kb =>
    rw [Is.bl_iff] at i3
    refine ⟨kb, i3, ?_⟩
    cases kb with
    | true =>
      obtain ⟨z, e4, e5⟩ := bind_some e
      refine iteT ⟨O0, r, z, hR.same s13, e4, fun v3 H4 s4 i4 => ?_⟩
      exact hd' (Ow O0 r σ) H4 y z d v2 v3 Q (hR.same (s13.trans s4)).ol (i2.same (s3.trans s4) R2.ol) i4 e5 fun v' H' s' i' => q v' H' ((s13.trans s4).trans s') i'
    | false =>
      cases e
      exact iteF (q _ H3 s13 (by rw [Is.bl_iff]))
  | _ => cases e
theorem de_chain {op op' : CmpOp} {r2 r3 : R2} {m m' : D -> D -> Option D} (ho : OpR X (compareOp op) r2) (hd : OpD X.K r2 m) (ho' : OpR X (compareOp op') r3) (hd' : OpD X.K r3 m') (ha : DE X a f) (hb : DE X b g) (hc : DE X c h)
    (hm : lastMarks [op, op'] [b, c] = false := by with_unfolding_all rfl) : DE X (.Compare a [op, op'] [b, c] pos) (mChain m m' f g h) :=
  PE.conseq (pe_chain ho ho' ha hb hc hm) fun σ H Q hq => chain_read hd hd' hq
theorem dt_chain {op op' : CmpOp} {r2 r3 : R2} {m m' : D -> D -> Option D} (ho : OpR X (compareOp op) r2) (hd : OpD X.K r2 m) (ho' : OpR X (compareOp op') r3) (hd' : OpD X.K r3 m') (ha : DE X a f) (hb : DE X b g) (hc : DE X c h)
    (hm : lastMarks [op, op'] [b, c] = false := by with_unfolding_all rfl) : DT X (.Compare a [op, op'] [b, c] pos) (mBl (mChain m m' f g h)) := by
  refine PT.conseq (pt_chain ho ho' ha hb hc hm) fun σ H Q hq => ?_
  obtain ⟨O0, r, k, hR, e, q⟩ := hq
  obtain ⟨d, e1, e⟩ := bind_some e
  refine chain_read (m := m) (m' := m') hd hd' ⟨O0, r, d, hR, e1, fun v H' s' i' => ?_⟩
  cases d <;> first | cases e | skip
  rw [Is.bl_iff] at i'
  exact ⟨_, i', q H' s'⟩
noncomputable def intsD : List D -> Option (List Int)
  | [] => some []
  | .int i :: r => (intsD r).map (i :: ·)
  | _ => none
noncomputable def mMax (fs : ML) : ME := fun r => (fs r).bind fun l => match l with
  | [.int i, .int j] => some (.int (if j > i then j else i))
  | [.int i, .int j, .int k] => some (.int (if j > i then (if k > j then k else j) else (if k > i then k else i)))
  | _ => none
theorem call_max3 (hc : X.calm = true) : CallR X (.builtin "max") (fun xs H Q => ∃ i j k, xs = [.int i, .int j, .int k] /\ Q (.int (if j > i then (if k > j then k else j) else (if k > i then k else i))) H) := by
  intro pins s σ H xs us Q I r hq
  obtain ⟨i, j, k, rfl, q⟩ := hq
  cases r with
  | cons r1 r =>
    obtain ⟨u2, u3, rfl, ⟨t2, rfl⟩, ⟨t3, rfl⟩⟩ := yU.two r
    obtain ⟨t1, rfl⟩ := r1
    refine max_three_ints (I.ok.hd hc) fun h' tk kp => ⟨_, H, I.kept kp, ?_, q⟩
    split <;> split <;> exact ⟨_, rfl⟩
theorem de_max {p' : Pos} {es : List Expr} {fs : ML} (hc : X.calm = true) (hg : Gl X "max") (hm : X.mg "max" = none) (ha : DA X (a :: es) fs)
    (hs : starEach (a :: es) X.env = (false, eval a X.env) :: starEach es X.env := by rfl) (hpl : (backTo pos (starEach es X.env)).any (·.1) = false := by rfl) : DE X (.Call (.Name "max" p') (a :: es) [] pos) (mMax fs) := by
  refine PE.conseq (pe_callB ((call_max2 hc).or (call_max3 hc)) hg hm PyProof.Rows.boot_max ha (he := hs) (hpl := hpl)) fun σ H Q hq => ?_
  obtain ⟨O0, r, d, hR, e, q⟩ := hq
  obtain ⟨l, e1, e2⟩ := bind_some e
  refine ⟨O0, r, l, hR, e1, fun vs H1 s1 il => ?_⟩
  split at e2
  · cases e2
    obtain ⟨v, u, rfl, i1, i2⟩ := il.inv2
    rw [Is.int_iff] at i1 i2
    exact .inl ⟨_, _, by rw [i1, i2], q _ H1 s1 (by rw [Is.int_iff])⟩
  · cases e2
    obtain ⟨v, u, w, rfl, i1, i2, i3⟩ := il.inv3
    rw [Is.int_iff] at i1 i2 i3
    exact .inr ⟨_, _, _, by rw [i1, i2, i3], q _ H1 s1 (by rw [Is.int_iff])⟩
  · cases e2
noncomputable def mMaxL (fl : ML) : ME := fun r => (fl r).bind fun l => (intsD l).bind fun ns => match ns with
  | [] => none
  | i :: t => some (.int (t.foldl max i))
theorem intsD_ok {K : Fg} {O : Addr -> Prop} {H : Hp} : ∀ {l : List D} {ns : List Int} {vs : List V}, intsD l = some ns -> IsL K O H l vs -> vs = ns.map V.int
  | [], ns, vs, e, il => by cases e; unfold IsL at il; subst il; rfl
  | d :: l, ns, vs, e, il => by
    unfold IsL at il
    obtain ⟨v, r, rfl, i1, i2⟩ := il
    cases d <;> first | (simp only [intsD, reduceCtorEq] at e; done) | skip
    simp only [intsD] at e
    obtain ⟨ms, e1, rfl⟩ := map_some e
    rw [Is.int_iff] at i1
    rw [i1, intsD_ok e1 i2]; rfl
theorem foldl_max : ∀ (t : List Int) (i : Int), t.foldl max i ∈ i :: t /\ ∀ x ∈ i :: t, x <= t.foldl max i
  | [], i => ⟨List.mem_cons_self, fun x hx => by simp at hx; rw [hx]; exact Int.le_refl _⟩
  | j :: t, i => by
    obtain ⟨h1, h2⟩ := foldl_max t (max i j)
    refine ⟨?_, fun x hx => ?_⟩
    · rw [List.foldl_cons]
      rcases List.mem_cons.mp h1 with z | z
      · rw [z]
        rcases Int.le_total i j with y | y
        · rw [Int.max_eq_right y]; simp
        · rw [Int.max_eq_left y]; simp
      · exact List.mem_cons_of_mem _ (List.mem_cons_of_mem _ z)
    · rw [List.foldl_cons]
      have hm := h2 (max i j) List.mem_cons_self
      rcases List.mem_cons.mp hx with z | z
      · rw [z]; exact Int.le_trans (Int.le_max_left i j) hm
      · rcases List.mem_cons.mp z with z | z
        · rw [z]; exact Int.le_trans (Int.le_max_right i j) hm
        · exact h2 x (List.mem_cons_of_mem _ z)
theorem call_maxL (hc : X.calm = true) : CallR X (.builtin "max") (fun xs H Q => ∃ p i ns, xs = [.ref p] /\ SqL X.K H p ((i :: ns).map V.int) /\ Q (.int (ns.foldl max i)) H) := by
  intro pins s σ H xs us Q I r hq
  obtain ⟨p, i, ns, rfl, hS, q⟩ := hq
  obtain ⟨u, rfl, ru⟩ := yU.one r
  cases ru
  obtain ⟨its, rv, pl, hz⟩ := I.list hS
  have hi : IntsAre its (i :: ns) := intsAre_of rv
  obtain ⟨xs, e⟩ := hi.allInts.items; have hns : (i :: ns) = xs.toList.map (·.1) := by rw [<- hi.numsOf, <- nums_intItems, <- e]
  have hsz : 0 < xs.size := by
    have h3 := congrArg List.length hns
    have h4 : ns.length + 1 = xs.toList.length := by simpa using h3
    have h5 : xs.toList.length = xs.size := by simp
    lia
  have pl' := pl.isList
  rw [e] at pl'
  refine max_intList (I.ok.hd hc) pl' hsz fun v h' tk hv hk => ?_
  obtain ⟨t, rfl⟩ := intItems_at hv; obtain ⟨h1, h2⟩ := argBest_gt (numAt xs) (xs.size - 1)
  refine ⟨.int (ns.foldl max i), H, I.kept hk, ⟨t, ?_⟩, q⟩
  obtain ⟨m1, m2⟩ := foldl_max ns i
  congr 1
  refine Int.le_antisymm ?_ ?_
  · refine m2 _ ?_
    rw [hns, numAt_eq]; exact getD_mem (by rw [List.length_map, Array.length_toList]; lia)
  · rw [hns] at m1
    obtain ⟨k, hk', ek⟩ := mem_getD m1
    rw [<- ek]
    rw [List.length_map, Array.length_toList] at hk'
    rw [<- numAt_eq]; exact h2 k (by lia)
theorem de_maxL {p' : Pos} {fl : ML} (hc : X.calm = true) (hg : Gl X "max") (hm : X.mg "max" = none) (ha : DB X a fl)
    (hs : starEach [a] X.env = (false, eval a X.env) :: starEach [] X.env := by rfl) : DE X (.Call (.Name "max" p') [a] [] pos) (mMaxL fl) := by
  refine PE.conseq (pe_callB (call_maxL hc) hg hm PyProof.Rows.boot_max (xT ha qR hs) (he := hs)) fun σ H Q hq => ?_
  obtain ⟨O0, r, d, hR, e, q⟩ := hq
  obtain ⟨l, e1, e2⟩ := bind_some e
  obtain ⟨ns, e3, e4⟩ := bind_some e2
  refine ⟨O0, r, l, hR, e1, fun p xs H1 s1 sq il => ?_⟩
  cases ns with
  | nil => cases e4
  | cons i t =>
    cases e4
    have ex := intsD_ok e3 il
    subst ex
    exact ⟨p, i, t, rfl, sq, q _ H1 s1 (by rw [Is.int_iff])⟩
noncomputable def qD (i : Int) : List Nat := (Str.ofString (toString i)).cps.toList
noncomputable def strD : D -> Option D
  | .int i => if i.natAbs.log2 < 1920 then some (.str (qD i)) else none
  | .str s => some (.str s)
  | _ => none
theorem call_strS : CallR X (.type "str") (fun xs H Q => ∃ x, xs = [.str x] /\ Q (.str x) H) := by
  intro pins s σ H xs us Q I r hq
  obtain ⟨x, rfl, q⟩ := hq
  obtain ⟨u, rfl, t, rfl⟩ := yU.one r
  exact PySem.P.str_of_str ⟨.str x, H, I, ⟨t, rfl⟩, q⟩
theorem de_strOf {p' : Pos} (hg : Gl X "str") (hm : X.mg "str" = none) (ha : DE X a f) (hs : starEach [a] X.env = (false, eval a X.env) :: starEach [] X.env := by rfl) : DE X (.Call (.Name "str" p') [a] [] pos) (mUn strD f) := by
  refine PE.conseq (pe_callTy (call_str_int.or call_strS) hg hm PyProof.Rows.boot_str (xT ha qR hs) (he := hs)) fun σ H Q hq => ?_
  obtain ⟨O0, r, d, hR, e, q⟩ := hq
  obtain ⟨x, e1, e2⟩ := bind_some e
  refine ⟨O0, r, x, hR, e1, fun v H1 s1 i1 => ?_⟩
  cases x <;> first | (simp only [strD, reduceCtorEq] at e2; done) | skip
  · simp only [strD] at e2
    split at e2
    · rename_i hl
      cases e2
      rw [Is.int_iff] at i1
      exact .inl ⟨_, by rw [i1], hl, q _ H1 s1 (by rw [Is.str_iff]; unfold qD; simp)⟩
    · cases e2
  · simp only [strD, Option.some.injEq] at e2
    subst e2
    have i1' := i1
    rw [Is.str_iff] at i1'
    exact .inr ⟨_, by rw [i1'], q _ H1 s1 (by rw [<- i1']; exact i1)⟩
noncomputable def mTupOf (fl : ML) : ME := fun r => (fl r).map .tup
theorem de_tupleOf {p' : Pos} {fl : ML} (hg : Gl X "tuple") (hm : X.mg "tuple" = none) (ha : DB X a fl) (hs : starEach [a] X.env = (false, eval a X.env) :: starEach [] X.env := by rfl) : DE X (.Call (.Name "tuple" p') [a] [] pos) (mTupOf fl) := by
  refine PE.conseq (pe_callTy call_tuple_of hg hm PyProof.Rows.boot_tuple (xT ha qR hs) (he := hs)) fun σ H Q hq => ?_
  obtain ⟨O0, r, d, hR, e, q⟩ := hq
  obtain ⟨l, e1, rfl⟩ := map_some e
  refine ⟨O0, r, l, hR, e1, fun p xs H1 s1 sq il => ⟨p, xs, rfl, .inl ⟨sq, fun t ht => q _ _ (s1.trans (xC ht)) ?_⟩⟩⟩
  rw [Is.tup_iff]
  exact ⟨t, xs, rfl, SqT.of xK, il.same (xC ht) (hR.same s1).ol⟩
theorem db_f {fl : ML} (h : DF X a fl) : DB X a fl := by
  refine PE.conseq h fun σ H Q hq => ?_
  obtain ⟨O0, r, l, hR, e, q⟩ := hq
  refine ⟨O0, r, l, hR, e, fun p xs H1 s1 n1 e1 il => q p xs H1 s1 (SqL.of e1) ?_⟩
  have ol : OLst (fun b => Ow O0 r σ b \/ b = p) H1 := fun b z => z.elim (fun z => (hR.same s1).ol b z) fun z => by subst z; exact ⟨.lst xs, e1, trivial⟩
  exact IsL.mono (zZ.kp (zZ.refl H1) _) ol (fun a z _ => .inl z) l xs il
end
noncomputable def sAsg (f : ME) (bd : D -> En -> Option En) : MS := fun r => (f r).bind fun d => (bd d r).map .nx
theorem ds_asg {X : Cx} {pos : Pos} {tg e : Expr} {f : ME} {bd : D -> En -> Option En} (he : DE X e f) (hg : DG X tg bd) (hs : swapsWithSole [tg] e pos.line X.env = pure false := by rfl) (hw : swappedStores [tg] e X.env = pure none := by rfl)
    (h1 : (assignEach [tg] X.env).map (·.2) = [assign tg X.env] := by rfl) : DS X (.Assign [tg] e pos) (sAsg f bd) := by
  refine PS.conseq (ps_asg he hg hs hw h1) fun Dn σ H hq => ?_
  obtain ⟨O0, r, fl, hR, e, q⟩ := hq
  obtain ⟨d, e1, e2⟩ := bind_some e
  obtain ⟨r', e3, rfl⟩ := map_some e2
  refine ⟨O0, r, d, hR, e1, fun v H1 s1 i1 => ⟨O0, r, d, r', hR.same s1, i1, e3, fun σ' R' k' => q σ' H1 R' ((Kp.of_same r σ s1).trans k')⟩⟩
open PySem PySem.Spec PyProof.Rows L2 PySem.StrLaws
noncomputable def wT {α : Type} (xs : List α) (lo hi : Option Int) : List α := (xs.drop (HT.sIx xs.length 0 lo)).take (HT.sIx xs.length xs.length hi - HT.sIx xs.length 0 lo)
theorem sIx_le' (n d : Nat) (hd : d <= n) (o : Option Int) : HT.sIx n d o <= n := HT.sIx_le n d hd o
theorem sliceIdx_eq (lo hi : Option Int) (n : Nat) : Builtin.Str.strSliceIndices lo hi 1 n = Builtin.Str.strSliceIndices (some ((HT.sIx n 0 lo : Nat) : Int)) (some ((HT.sIx n n hi : Nat) : Int)) 1 n := by
  have key : ∀ (v : Option Int) (d : Nat), d <= n -> (match v with | none => (d : Int) | some i => max 0 (min (if i < 0 then i + (n : Int) else i) (n : Int))) = max 0 (min (if ((HT.sIx n d v : Nat) : Int) < 0 then ((HT.sIx n d v : Nat) : Int) + (n : Int) else ((HT.sIx n d v : Nat) : Int)) (n : Int)) := by
    intro v d hd
    have hle := sIx_le' n d hd v
    have h0 : ¬ (((HT.sIx n d v : Nat) : Int) < 0) := by lia
    rw [if_neg h0]
    cases v with
    | none =>
      have e : HT.sIx n d none = d := rfl
      rw [e]; show (d : Int) = _; lia
    | some i =>
      have e : HT.sIx n d (some i) = if i < 0 then (i + (n : Int)).toNat else min i.toNat n := rfl
      show max 0 (min (if i < 0 then i + (n : Int) else i) (n : Int)) = _
      rw [e] at hle ⊢
      split <;> split at hle <;> lia
  have e1 : (1 : Int) > 0 := by lia
  unfold PySem.Builtin.Str.strSliceIndices
  simp only [e1, if_true]
  have k1 := key lo 0 (Nat.zero_le _)
  have k2 := key hi n (Nat.le_refl _)
  cases lo <;> cases hi <;> simp only at k1 k2 ⊢ <;> rw [<- k1, <- k2] <;> rfl
theorem sliceText_eq (x : Str) (lo hi : Option Int) : sliceText x lo hi = ⟨(wT x.cps.toList lo hi).toArray⟩ := by
  have hl : x.cps.toList.length = x.length := by simp [Str.length]
  unfold wT
  rw [hl]
  have ha := sIx_le' x.length 0 (Nat.zero_le _) lo
  have hb := sIx_le' x.length x.length (Nat.le_refl _) hi
  have e : sliceText x lo hi = sliceText x (some ((HT.sIx x.length 0 lo : Nat) : Int)) (some ((HT.sIx x.length x.length hi : Nat) : Int)) := by
    unfold sliceText
    rw [sliceIdx_eq lo hi x.length]
  rw [e]
  by_cases hab : HT.sIx x.length 0 lo <= HT.sIx x.length x.length hi
  · exact sliceText_nat x hab hb
  · have z : HT.sIx x.length x.length hi - HT.sIx x.length 0 lo = 0 := by lia
    rw [z, List.take_zero]
    have em : Builtin.Str.strSliceIndices (some ((HT.sIx x.length 0 lo : Nat) : Int)) (some ((HT.sIx x.length x.length hi : Nat) : Int)) 1 x.length = [] := by
      have e1 : (1 : Int) > 0 := by lia
      unfold PySem.Builtin.Str.strSliceIndices
      simp only [e1, if_true]
      have h0 : ¬ (((HT.sIx x.length 0 lo : Nat) : Int) < 0) := by lia
      have h1 : ¬ (((HT.sIx x.length x.length hi : Nat) : Int) < 0) := by lia
      rw [if_neg h0, if_neg h1]
      unfold PySem.sliceRange
      simp only [e1, if_true]
      split
      · lia
      · rfl
    unfold sliceText
    rw [em]
    split
    · rename_i q
      have q' : x.length = 0 := by have : 0 = x.length := by simpa using q
                                   exact this.symm
      apply Str.ext'
      have : x.cps.size = 0 := q'
      exact Array.eq_empty_of_size_eq_zero this
    · rfl
section
variable {X : Cx} {pos p2 : Pos} {a b : Expr} {f g : ME}
noncomputable def rSlS : V -> Option Int -> Option Int -> Hp -> VK -> Prop := fun x lo hi H Q => ∃ z, x = .str z /\ z.length <= sizeLine /\ Q (.str ⟨(wT z.cps.toList lo hi).toArray⟩) H
theorem cutL_len {α : Type} (xs : List α) (lo hi : Option Int) : (wT xs lo hi).length <= xs.length := by
  unfold wT
  rw [List.length_take, List.length_drop]
  lia
theorem sl_str : SlR X rSlS := by
  intro pins s σ H x v vl vu lo hi sl Q I rx hs pl pu hq
  obtain ⟨z, rfl, hz, q⟩ := hq
  obtain ⟨t, rfl⟩ := rx
  refine ⟨"str", _, PySem.F.slot_str_getitem.lookup, typeIs_str _ _ _, ?_⟩
  have main : ∀ (l u : Option (Int × Tok)), l.map (·.1) = lo -> u.map (·.1) = hi -> s.heap.IsSlice sl l u none -> wpAny (model X.prog X.w) X.A (getItem (.str z t) (.ref sl)) (EP X pins σ Q) X.xe s := by
    intro l u hl hu hsl
    refine wpAny_getItem_str_slice hsl rfl ?_
    have e : ∀ t' k, EP X pins σ Q (.str (sliceText z lo hi) t') { s with toks := k } := fun t' k => ⟨.str _, H, I.tok k, ⟨t', rfl⟩, by rw [sliceText_eq]; exact q⟩
    have hle : (sliceText z lo hi).length <= sizeLine := by
      rw [sliceText_eq, qF]
      have := cutL_len z.cps.toList lo hi
      have h2 : z.cps.toList.length = z.length := by simp [Str.length]
      lia
    unfold sliceMade slicePicked
    rw [hl, hu]
    exact post_val_or_str ⟨hle, e⟩
  obtain ⟨o, h1, h2, h3⟩ := hs
  cases pl with
  | none => cases pu with
    | none => exact main none none rfl rfl ⟨o, h1, h2, h3⟩
    | int j tj => exact main none (some (j, tj)) rfl rfl ⟨o, h1, h2, h3⟩
  | int i ti => cases pu with
    | none => exact main (some (i, ti)) none rfl rfl ⟨o, h1, h2, h3⟩
    | int j tj => exact main (some (i, ti)) (some (j, tj)) rfl rfl ⟨o, h1, h2, h3⟩
noncomputable abbrev MO := En -> Option (Option Int)
noncomputable def xL : MO := fun _ => some none
noncomputable def yV (f : ME) : MO := fun r => (f r).bind fun d => (intD d).map some
noncomputable def lO (K : Fg) (f : MO) : TO := fun σ H Q => ∃ O0 r o, R K O0 H r σ /\ f r = some o /\ ∀ H', zZ H H' -> Q o H'
noncomputable def DO (X : Cx) (e : Option Expr) (f : MO) : Prop := PO X e (lO X.K f)
theorem PO.conseq {e : Option Expr} {t t' : TO} (h : PO X e t) (i : ∀ σ H Q, t' σ H Q -> t σ H Q) : PO X e t' := fun pins s σ H Q I q => h pins s σ H Q I (i σ H Q q)
theorem wQ : DO X none xL := PO.conseq po_none fun σ H Q ⟨O0, r, o, hR, e, q⟩ => by
  unfold xL at e; cases e
  exact q H (zZ.refl H)
theorem wD (ha : DE X a f) : DO X (some a) (yV f) := PO.conseq (po_some ha) fun σ H Q ⟨O0, r, o, hR, e, q⟩ => by
  obtain ⟨d, e1, e2⟩ := bind_some e
  obtain ⟨i, e3, rfl⟩ := map_some e2
  cases intD_some e3
  exact ⟨O0, r, _, hR, e1, fun v H1 s1 i1 => ⟨i, by rw [Is.int_iff] at i1; exact i1, q H1 s1⟩⟩
noncomputable def slD (d : D) (lo hi : Option Int) : Option D := match d with
  | .lst l => some (.lst (wT l lo hi))
  | .tup l => if HT.sIx l.length 0 lo = 0 /\ HT.sIx l.length l.length hi = l.length then none else some (.tup (wT l lo hi))
  | .str s => if s.length <= sizeLine then some (.str (wT s lo hi)) else none
  | _ => none
noncomputable def mSl (f : ME) (lo hi : MO) : ME := fun r => (f r).bind fun d => (lo r).bind fun i => (hi r).bind fun j => slD d i j
noncomputable def rSlA (K : Fg) : V -> Option Int -> Option Int -> Hp -> VK -> Prop := fun x lo hi H Q => rSlL K x lo hi H Q \/ rSlT K x lo hi H Q \/ rSlS x lo hi H Q
theorem IsL.cut {K : Fg} {O : Addr -> Prop} {H : Hp} {l : List D} {xs : List V} (h : IsL K O H l xs) (lo hi : Option Int) : IsL K O H (wT l lo hi) (cutV xs lo hi) := by
  unfold wT cutV
  rw [h.length]
  exact (h.drop _).take _
theorem de_sl {lo hi : Option Expr} {fl fh : MO} (ha : DE X a f) (hl : DO X lo fl) (hh : DO X hi fh) : DE X (.Subscript a (.Slice lo hi none p2) pos) (mSl f fl fh) := by
  refine PE.conseq (pe_slice (r := rSlA X.K) (sl_list.or (sl_tup.or sl_str)) ha hl hh) fun σ H Q hq => ?_
  obtain ⟨O0, r, d, hR, e, q⟩ := hq
  obtain ⟨x, e1, e⟩ := bind_some e
  obtain ⟨i, e2, e⟩ := bind_some e
  obtain ⟨j, e3, e⟩ := bind_some e
  refine ⟨O0, r, x, hR, e1, fun v H1 s1 i1 => ⟨O0, r, i, hR.same s1, e2, fun H2 s2 => ⟨O0, r, j, hR.same (s1.trans s2), e3, fun H3 s3 => ?_⟩⟩⟩
  have s13 := (s1.trans s2).trans s3
  have R3 := hR.same s13
  have i3 := i1.same (s2.trans s3) (hR.same s1).ol
  cases x <;> first | (simp only [slD, reduceCtorEq] at e; done) | skip
  · simp only [slD] at e
    split at e
    · rename_i hl'
      cases e
      rw [Is.str_iff] at i3
      refine .inr (.inr ⟨_, i3, by rw [qF]; exact hl', q _ H3 s13 (by rw [Is.str_iff])⟩)
    · cases e
  · simp only [slD] at e
    split at e
    · cases e
    · rename_i hw
      cases e
      rw [Is.tup_iff] at i3
      obtain ⟨p, xs, rfl, hs, il⟩ := i3
      refine .inr (.inl ⟨p, xs, rfl, hs, by rw [<- il.length]; exact hw, fun t ht => q _ _ (s13.trans (xC ht)) ?_⟩)
      rw [Is.tup_iff]
      exact ⟨t, _, rfl, SqT.of xK, (il.cut i j).same (xC ht) R3.ol⟩
  · simp only [slD, Option.some.injEq] at e
    subst e
    rw [Is.lst_iff] at i3
    obtain ⟨p, xs, rfl, hs, il⟩ := i3
    refine .inl ⟨p, xs, rfl, hs.sq, fun t ht => q _ _ (s13.trans (xC ht)) ?_⟩
    rw [Is.lst_iff]
    exact ⟨t, _, rfl, .inl ⟨R3.nofresh ht, .inl xK⟩, (il.cut i j).same (xC ht) R3.ol⟩
end
open PySem PySem.Spec PyProof.Rows L2 PySem.StrLaws
section
variable {prog : Program} {w : World} {A : Around} {E : Value -> Shared -> Prop} {s : Shared}
theorem rev_ad (n : Nat) : Builtin.Slice.sliceAdjust none none (-1) (n : Int) = ((n : Int) - 1, -1) := by
  unfold Builtin.Slice.sliceAdjust
  simp
theorem rev_pl (n : Nat) : Builtin.Slice.slicePlaces ((n : Int) - 1) (-1) (-1) = n := by
  unfold Builtin.Slice.slicePlaces
  have h1 : ¬ ((-1 : Int) > 0) := by lia
  simp only [h1, if_false]
  split
  · have : -(-1 : Int) = 1 := by lia
    rw [this, Int.ediv_one]; lia
  · lia
theorem rev_ap {sl : Addr} {t : Tok} {n : Nat} {Q : Int × Int × Nat -> Shared -> Prop} (hs : s.heap.IsSliceOf sl .none .none (.int (-1) t)) (h : Q ((n : Int) - 1, -1, n) s) : wpAny (model prog w) A (Builtin.Slice.sliceApplied (.ref sl) (pure (n : Int))) Q E s := by
  obtain ⟨os, ho, hc, hd⟩ := id hs
  unfold Builtin.Slice.sliceApplied Builtin.Slice.sliceFields
  refine wpAny_bind (wpAny_bind (wpAny_field ho hd (x := .none) rfl (wpAny_bind (wpAny_field ho hd (x := .none) rfl (wpAny_bind (wpAny_field ho hd (x := .int (-1) t) rfl (wpAny_pure (?_))))))))
  refine wpAny_bind (slicePart_int (?_)); show wpAny _ _ (if ((-1 : Int) == 0) = true then _ else _) _ _ s; rw [if_neg (by decide)]
  refine wpAny_bind (slicePart_none (wpAny_bind (slicePart_none (wpAny_bind (wpAny_pure (?_))))))
  show wpAny _ _ (match Builtin.Slice.sliceAdjust none none (-1) (n : Int) with | (lo, hi) => pure (lo, (-1 : Int), Builtin.Slice.slicePlaces lo hi (-1))) _ _ s
  rw [rev_ad n]; show wpAny _ _ (pure ((n : Int) - 1, (-1 : Int), Builtin.Slice.slicePlaces ((n : Int) - 1) (-1) (-1))) _ _ s; rw [rev_pl]
  exact wpAny_pure h
theorem fm_map {α β : Type} {F : α -> Option β} {G : α -> β} : ∀ (l : List α), (∀ m ∈ l, F m = some (G m)) -> l.filterMap F = l.map G
  | [], _ => rfl
  | a :: l, h => by
    rw [List.filterMap_cons, h a List.mem_cons_self, List.map_cons, fm_map l fun m hm => h m (List.mem_cons_of_mem _ hm)]
theorem rev_pick (xs : Array Value) : ((List.range xs.size).filterMap fun (m : Nat) => xs[((xs.size : Int) - 1 + (m : Int) * (-1)).toNat]?).toArray = xs.toList.reverse.toArray := by
  congr 1
  apply List.ext_getElem?
  intro k
  have e : ∀ m, m < xs.size -> xs[((xs.size : Int) - 1 + (m : Int) * (-1)).toNat]? = some (xs.toList.reverse.getD m .none) := by
    intro m hm
    have h1 : ((xs.size : Int) - 1 + (m : Int) * (-1)).toNat = xs.size - 1 - m := by lia
    rw [h1, List.getD_eq_getElem?_getD, List.getElem?_reverse (by simpa using hm)]
    have h2 : xs.size - 1 - m < xs.size := by lia
    simp [h2]
  have e2 : (List.range xs.size).filterMap (fun (m : Nat) => xs[((xs.size : Int) - 1 + (m : Int) * (-1)).toNat]?) = (List.range xs.size).map fun m => xs.toList.reverse.getD m .none := by
    exact fm_map _ fun m hm => e m (List.mem_range.mp hm)
  rw [e2, List.getElem?_map]
  by_cases hk : k < xs.size
  · rw [List.getElem?_range hk, List.getElem?_eq_getElem (by simpa using hk)]
    simp [List.getD_eq_getElem?_getD, hk]
  · rw [List.getElem?_eq_none (by simpa using hk), List.getElem?_eq_none (by simpa using hk)]; rfl
theorem rev_tup {t sl : Addr} {its : Array Value} {tk : Tok} {Q : Value -> Shared -> Prop} (ht : IsTup s.heap t its) (hs : s.heap.IsSliceOf sl .none .none (.int (-1) tk)) (hsz : its.size <= sizeLine)
    (h : Q (.ref s.heap.objs.size) { s with heap := s.heap.push { cls := .type "tuple", data := .seq its.toList.reverse.toArray } }) : wpAny (model prog w) A (getItem (.ref t) (.ref sl)) Q E s := by
  have hz : sizeOk (.seq its.toList.reverse.toArray) := by show its.toList.reverse.toArray.size <= sizeLine; simpa using hsz
  obtain ⟨os, ho, hc, hd⟩ := id hs
  have hT : s.TypeIs (.ref sl) "slice" := ⟨os, ho, hc⟩
  unfold getItem
  try with_reducible refine wpAny_holding ?_
  first | refine wpAny_bind (wpAny_pure ?_) | skip
  refine wpAny_bind (wpAny_sequenceKey ht.typeIs (by decide) ?_)
  refine wpAny_bind (wpAny_callSpecial?_slot (name := Str.ofString "__getitem__") ht.typeIs PyProof.Rows.slot_tuple_getitem (wpAny_call_entry PyProof.Rows.slot_tuple_getitem ht.typeIs entry_tuple_getitem (?_) (args_tuple_getitem _ _)))
  show wpAny _ _ (Builtin.Tuple.tupleItemsOf (.ref t) >>= _) _ _ s; refine wpAny_bind (tupleItemsOf_ ht (wpAny_bind (wpAny_typeOf hT (?_)))); rw [if_pos (by decide)]; refine wpAny_bind (rev_ap hs (?_))
  show wpAny _ _ (if (((its.size : Int) - 1) == 0 && (-1 : Int) == 1 && its.size == its.size) = true then _ else _) _ _ s
  rw [if_neg (by simp), rev_pick]
  first
    | exact wpAny_bind (m := Builtin.Tuple.tupleExact _) (wpAny_newObj_type (wpAny_pure ⟨_, rfl, wpAny_pure h⟩) hz)
    | exact wpAny_bind (m := Builtin.Tuple.tupleExact _) (wpAny_newObj_type (wpAny_bind (wpAny_pure (wpAny_pure ⟨_, rfl, wpAny_pure h⟩))) hz)
    | exact wpAny_bind (wpAny_bind (m := Builtin.Tuple.tupleExact _) (wpAny_newObj_type (wpAny_pure (wpAny_pure ⟨_, rfl, wpAny_pure h⟩)) hz))
    | exact wpAny_bind (wpAny_bind (m := Builtin.Tuple.tupleExact _) (wpAny_newObj_type (wpAny_pure ⟨_, rfl, wpAny_pure h⟩) hz))
end
section
variable {X : Cx} {pos p2 p3 : Pos} {a b : Expr} {f g : ME} {j : Nat}
noncomputable def tRev (K : Fg) (ta : TE) : TE := fun σ H Q => ta σ H fun x H1 => (∃ p xs, x = .ref p /\ SqL K H1 p xs /\ ∀ q, H1 q = none -> Q (.ref q) (upd H1 q (.lst xs.reverse))) \/ (∃ p xs, x = .ref p /\ SqT K H1 p xs /\ ∀ q, H1 q = none -> Q (.ref q) (upd H1 q (.tup xs.reverse)))
theorem pe_rev {ta : TE} (he : PE X a ta) : PE X (.Subscript a (.Slice none none (some (.UnaryOp .USub (.Constant (.int 1) j p3) pos)) p2) pn) (tRev X.K ta) := by
  intro pins s σ H Q I h
  refine Subscript_ (thn (he pins s σ H _ I h) fun v s1 ⟨x, H1, I1, r1, q1⟩ => ?_)
  refine wpAny_Slice ?_
  rw [evalPart_none]
  refine wpAny_pure (wpAny_pure ?_); rw [evalPart_some]
  have hst : PE X (.UnaryOp .USub (.Constant (.int 1) j p3) pos) (tUn (rU fun i => .int (-i)) (tC (.int 1))) := pe_un un_neg pe_int
  refine thn (hst pins s1 σ H1 (fun w H' => w = .int (-1) /\ H' = H1) I1 ⟨1, rfl, rfl, rfl⟩) fun u s2 ⟨y, H2, I2, r2, q2, eH⟩ => ?_
  subst eH q2
  obtain ⟨t, rfl⟩ := r2
  have I4 : Inv X pins σ H2 { s2 with heap := s2.heap.push { cls := .type "slice", data := .fields #[.none, .none, .int (-1) t] } } := I2.kept (t' := s2.toks) fun b ob q => Heap.get?_push_of_some _ q
  have hsl : ({ s2 with heap := s2.heap.push { cls := .type "slice", data := .fields #[.none, .none, .int (-1) t] } } : Shared).heap.IsSliceOf s2.heap.objs.size .none .none (.int (-1) t) := Heap.IsSliceOf.new ..
  rcases q1 with ⟨p, xs, rfl, hx, q⟩ | ⟨p, xs, rfl, hx, q⟩
  · cases r1
    obtain ⟨its, r, pl, hz⟩ := I4.list hx
    have hlen := r.length
    refine tail_any (ops := [.ref p, .ref s2.heap.objs.size]) pl.isList.typeIs slot_list_getitem.lookup (wpAny_getItem_list_slice pl.isList hsl .none .none (.int (-1) t) (by simp) ?_ (by simp only [List.size_toArray]; lia)) (by with_unfolding_all rfl)
    rw [PySem.W.krv_pick]
    exact ⟨.ref _, _, I4.lnew (t' := s2.toks) r.reverse (by rw [List.length_reverse]; exact hz), rfl, q _ I4.fresh⟩
  · cases r1
    obtain ⟨its, r, pl, hz⟩ := I4.tuple hx
    have hlen := r.length
    refine tail_any (ops := [.ref p, .ref s2.heap.objs.size]) pl.typeIs PyProof.Rows.slot_tuple_getitem.lookup (rev_tup pl hsl (by simp only [List.size_toArray]; lia) ?_) (by with_unfolding_all rfl)
    refine ⟨.ref _, _, I4.laid (t' := s2.toks) (o := .tup xs.reverse) (fun b ob q => Heap.get?_push_of_some _ q) (Nat.le_refl _) ?_, rfl, q _ (I4.hok.fresh (Nat.le_refl _))⟩
    exact ⟨by rw [List.length_reverse]; exact hz, _, r.reverse, IsTup.new _ _⟩
noncomputable def revD : D -> Option D
  | .lst l => some (.lst l.reverse)
  | .tup l => some (.tup l.reverse)
  | _ => none
theorem de_rev (ha : DE X a f) : DE X (.Subscript a (.Slice none none (some (.UnaryOp .USub (.Constant (.int 1) j p3) pos)) p2) pn) (mUn revD f) := by
  refine PE.conseq (pe_rev ha) fun σ H Q hq => ?_
  obtain ⟨O0, r, d, hR, e, q⟩ := hq
  obtain ⟨x, e1, e2⟩ := bind_some e
  refine ⟨O0, r, x, hR, e1, fun v H1 s1 i1 => ?_⟩
  have R1 := hR.same s1
  cases x <;> first | (simp only [revD, reduceCtorEq] at e2; done) | skip
  · simp only [revD, Option.some.injEq] at e2
    subst e2
    rw [Is.tup_iff] at i1
    obtain ⟨p, xs, rfl, hs, il⟩ := i1
    refine .inr ⟨p, xs, rfl, hs, fun t ht => q _ _ (s1.trans (xC ht)) ?_⟩
    rw [Is.tup_iff]
    exact ⟨t, _, rfl, SqT.of xK, il.reverse.same (xC ht) R1.ol⟩
  · simp only [revD, Option.some.injEq] at e2
    subst e2
    rw [Is.lst_iff] at i1
    obtain ⟨p, xs, rfl, hs, il⟩ := i1
    refine .inl ⟨p, xs, rfl, hs.sq, fun t ht => q _ _ (s1.trans (xC ht)) ?_⟩
    rw [Is.lst_iff]
    exact ⟨t, _, rfl, .inl ⟨R1.nofresh ht, .inl xK⟩, il.reverse.same (xC ht) R1.ol⟩
noncomputable def mRevF (fl : ML) : ML := fun r => (fl r).map List.reverse
theorem df_rev {fl : ML} (ha : DB X a fl) : DF X (.Subscript a (.Slice none none (some (.UnaryOp .USub (.Constant (.int 1) j p3) pos)) p2) pn) (mRevF fl) := by
  refine PE.conseq (pe_rev ha) fun σ H Q hq => ?_
  obtain ⟨O0, r, l', hR, e, q⟩ := hq
  obtain ⟨l, e1, rfl⟩ := map_some e
  refine ⟨O0, r, l, hR, e1, fun p xs H1 s1 sq il => .inl ⟨p, xs, rfl, sq, fun t ht => q t _ _ (s1.trans (xC ht)) (s1.free ht) xK ?_⟩⟩
  refine IsL.mono (zZ.kp (xC ht) _) (hR.same s1).ol (fun b z n => ?_) _ _ il.reverse
  rcases z with z | z
  · exact z
  · subst z; exact absurd ht n
noncomputable def strsD : List D -> Option (List (List Nat))
  | [] => some []
  | .str s :: r => (strsD r).map (s :: ·)
  | _ => none
noncomputable def xZ (sep : List Nat) : List (List Nat) -> List Nat
  | [] => []
  | [s] => s
  | s :: r => s ++ sep ++ xZ sep r
theorem strsD_ok {K : Fg} {O : Addr -> Prop} {H : Hp} : ∀ {l : List D} {ss : List (List Nat)} {vs : List V}, strsD l = some ss -> IsL K O H l vs -> vs = ss.map fun s => V.str ⟨s.toArray⟩
  | [], ss, vs, e, il => by cases e; unfold IsL at il; subst il; rfl
  | d :: l, ss, vs, e, il => by
    unfold IsL at il
    obtain ⟨v, r, rfl, i1, i2⟩ := il
    cases d <;> first | (simp only [strsD, reduceCtorEq] at e; done) | skip
    simp only [strsD] at e
    obtain ⟨ms, e1, rfl⟩ := map_some e
    rw [Is.str_iff] at i1
    rw [i1, strsD_ok e1 i2]; rfl
theorem strsAre_of : ∀ {ss : List (List Nat)} {us : List Value}, yU (ss.map fun s => V.str ⟨s.toArray⟩) us -> StrsAre us (ss.map fun s => (⟨s.toArray⟩ : Str))
  | [], us, r => by rw [List.map_nil] at r; cases r; exact .nil
  | s :: ss, us, r => by
    rw [List.map_cons] at r
    cases r with
    | cons r1 r2 =>
      obtain ⟨t, e⟩ := r1
      subst e
      exact .cons _ t (strsAre_of r2)
theorem join_eq (sep : List Nat) : ∀ ss : List (List Nat), Str.join (⟨sep.toArray⟩ : Str) (ss.map fun s => (⟨s.toArray⟩ : Str)) = ⟨(xZ sep ss).toArray⟩
  | [] => rfl
  | [s] => rfl
  | s :: t :: r => by
    have ih := join_eq sep (t :: r)
    show (⟨s.toArray⟩ : Str) ++ ⟨sep.toArray⟩ ++ Str.join _ ((t :: r).map fun s => (⟨s.toArray⟩ : Str)) = _
    rw [ih, str_app, str_app]
    rfl
noncomputable def rJoin (K : Fg) : V -> List V -> Hp -> VK -> Prop := fun x vs H Q => ∃ sep p ss, x = .str ⟨sep.toArray⟩ /\ vs = [.ref p] /\ SqL K H p (ss.map fun s => V.str ⟨s.toArray⟩) /\ (ss.map List.length).sum + ss.length * sep.length <= 16777216 /\ Q (.str ⟨(xZ sep ss).toArray⟩) H
theorem mt_join : MtR X "str.join" (rJoin X.K) := by
  intro pins s σ H x vs v us Q I rx rv hq
  obtain ⟨sep, p, ss, rfl, rfl, hs, hl, q⟩ := hq
  obtain ⟨t, rfl⟩ := rx
  obtain ⟨u, rfl, ru⟩ := yU.one rv
  cases ru
  obtain ⟨its, r, pl, hz⟩ := I.list hs
  refine join_list pl.isList (ys := ss.map fun s => (⟨s.toArray⟩ : Str)) (by simpa using strsAre_of r) ?_ fun t' k => ⟨.str _, H, I.tok k, ⟨t', rfl⟩, ?_⟩
  · have e : (ss.map fun s => (⟨s.toArray⟩ : Str)).map (·.length) = ss.map List.length := by rw [List.map_map]; exact List.map_congr_left fun s _ => qF s
    rw [e, List.length_map, qF]; exact hl
  · show Q (.str (Txt.join _ _)) H
    unfold Txt.join
    rw [glued_eq_join, join_eq]; exact q
noncomputable def mJoin (f : ME) (fl : ML) : ME := fun r => (f r).bind fun d => match d with
  | .str sep => (fl r).bind fun l => (strsD l).bind fun ss => if (ss.map List.length).sum + ss.length * sep.length <= 16777216 then some (.str (xZ sep ss)) else none
  | _ => none
theorem de_join {fl : ML} {apos cpos : Pos} (ho : DE X a f) (ha : DB X b fl) (hbase : attributeBase a "join" X.env (eval a X.env) = eval a X.env := by rfl) (hline : (apos.endLine == cpos.line) = true := by rfl)
    (hfew : ((backTo cpos (starEach [b] X.env)).all (fun x => !x.1) && (backToKw cpos (keywordEach [] X.env)).all (fun x => x.1.isSome) && decide ([b].length + ([] : List Keyword).length + (if ([] : List Keyword).isEmpty then 0 else 1) < 30)) = true := by rfl)
    (hs : starEach [b] X.env = (false, eval b X.env) :: starEach [] X.env := by rfl) : DE X (.Call (.Attribute a "join" apos) [b] [] cpos) (mJoin f fl) := by
  refine PE.conseq (pe_bm PySem.F.plainAttrs_str PySem.F.slot_str_join PySem.F.type_str_join mt_join ho (xT ha qR hs) hbase hfew hline hs) fun σ H Q hq => ?_
  obtain ⟨O0, r, d, hR, e, q⟩ := hq
  obtain ⟨x, e1, e2⟩ := bind_some e
  refine ⟨O0, r, x, hR, e1, fun v H1 s1 i1 => ?_⟩
  cases x <;> first | (simp only [reduceCtorEq] at e2; done) | skip
  simp only at e2
  obtain ⟨l, e3, e4⟩ := bind_some e2
  obtain ⟨ss, e5, e6⟩ := bind_some e4
  rw [Is.str_iff] at i1
  subst i1
  split at e6
  · rename_i hl
    cases e6
    refine ⟨rfl, O0, r, l, hR.same s1, e3, fun p xs H2 s2 sq il => ?_⟩
    have ex := strsD_ok e5 il
    subst ex
    exact ⟨_, p, ss, rfl, rfl, sq, hl, q _ H2 (s1.trans s2) (by rw [Is.str_iff])⟩
  · cases e6
end
open PySem PySem.Spec PyProof.Rows L2 PySem.StrLaws PySem.Builtin.Str
section
variable {X : Cx} {pos : Pos} {a b : Expr} {f g : ME}
noncomputable def rSplit : V -> List V -> Hp -> VK -> Prop := fun x vs H Q => ∃ z y, x = .str z /\ vs = [.str y] /\ (y.length == 0) = false /\ z.length <= sizeLine /\ (partsBetween z (occurrences z y 0 z.length (z.length + 1)) y.length).length <= sizeLine /\ ∀ p, H p = none -> Q (.ref p) (upd H p (.lst ((Txt.split z y).map V.str)))
theorem vals_strs : ∀ (l : List (Str × Tok)), yU ((l.map (·.1)).map V.str) (strValues l)
  | [] => .nil
  | (x, t) :: l => .cons ⟨t, rfl⟩ (vals_strs l)
theorem split_len (z y : Str) (h : (partsBetween z (occurrences z y 0 z.length (z.length + 1)) y.length).length <= sizeLine) : (Txt.split z y).length <= sizeLine := by
  unfold Txt.split
  have h1 : 1 <= sizeLine := by decide
  split
  · exact h1
  · split
    · exact h1
    · exact h
theorem mt_split : MtR X "str.split" rSplit := by
  intro pins s σ H x vs v us Q I rx rv hq
  obtain ⟨z, y, rfl, rfl, hy, hz, hn, q⟩ := hq
  obtain ⟨t, rfl⟩ := rx
  obtain ⟨uu, rfl, u, rfl⟩ := yU.one rv
  have lay : ∀ (l : List (Str × Tok)) (tk : Nat), l.map (·.1) = Txt.split z y -> EP X pins σ Q (.ref s.heap.objs.size) { s with heap := s.heap.push { cls := .type "list", data := .seq (strValues l).toArray }, toks := tk } := fun l tk e => by
    have hv := vals_strs l
    rw [e] at hv
    exact ⟨.ref _, _, I.lnew (t' := tk) hv (by rw [List.length_map]; exact split_len z y hn), rfl, q _ I.fresh⟩
  cases h1 : (decide (z.length < y.length) || decide (strKind z < strKind y)) with
  | true => exact call_meets F.slot_str_split (typeIs_str _ _ _) F.entry_str_split (F.args_str_split_2 _ _) (meets_str_split_cannot_occur z y t u h1) (lay [(z, t)] s.toks (by unfold Txt.split; rw [if_pos h1]; rfl))
  | false =>
    cases hf : (occurrences z y 0 z.length (z.length + 1)).isEmpty with
    | true => exact call_meets F.slot_str_split (typeIs_str _ _ _) F.entry_str_split (F.args_str_split_2 _ _) (meets_str_split_not_found z y t u h1 hy hf) (lay [(z, t)] s.toks (by unfold Txt.split; rw [if_neg (ne_true_of_eq_false h1), if_pos hf]; rfl))
    | false =>
      refine call_meets F.slot_str_split (typeIs_str _ _ _) F.entry_str_split (F.args_str_split_2 _ _) (meets_str_split_sep z y t u h1 hy hf hz hn) ?_
      show EP X pins σ Q _ { s with toks := _, heap := s.heap.push { cls := .type "list", data := .seq (strsFrom s.toks (partsBetween z (occurrences z y 0 z.length (z.length + 1)) y.length)).toArray } }
      rw [strsFrom_eq]
      exact lay (numbered s.toks _) _ ((numbered_texts _ _).trans (by unfold Txt.split; rw [if_neg (ne_true_of_eq_false h1), if_neg (ne_true_of_eq_false hf)]))
noncomputable def splitC (c : Nat) : List Nat -> List (List Nat)
  | [] => [[]]
  | x :: r => if x = c then [] :: splitC c r else match splitC c r with
    | [] => [[x]]
    | s :: t => (x :: s) :: t
noncomputable def splitS (s sep : List Nat) : List (List Nat) := (Txt.split ⟨s.toArray⟩ ⟨sep.toArray⟩).map fun x => x.cps.toList
noncomputable def mSplit (f g : ME) : ML := fun r => (f r).bind fun d => (g r).bind fun e => match d, e with
  | .str s, .str sep => if sep.length ≠ 0 /\ s.length < sizeLine then some ((splitS s sep).map .str) else none
  | _, _ => none
theorem chain_len {z y : Str} {n : Nat} (hy : 1 <= y.length) : ∀ (cuts : List Nat) (a f : Nat), ChainTo z y n a cuts f -> a <= n -> a + cuts.length <= n
  | [], a, f, _, h => h
  | c :: r, a, f, h, _ => by
    obtain ⟨h1, ⟨h2, _⟩, h3⟩ := h
    have := chain_len hy r (c + y.length) f h3 h2
    rw [List.length_cons]; lia
theorem occ_len (z y : Str) (hy : (y.length == 0) = false) : (partsBetween z (occurrences z y 0 z.length (z.length + 1)) y.length).length <= z.length + 1 := by
  rw [len_partsBetween]
  obtain ⟨e, hc⟩ := occ_chain z y (z.length + 1)
  have hy1 : 1 <= y.length := by
    have : y.length ≠ 0 := by simpa using hy
    lia
  have := chain_len hy1 _ 0 e hc (Nat.zero_le _)
  lia
theorem isL_strs {K : Fg} {O : Addr -> Prop} {H : Hp} : ∀ (ts : List Str), IsL K O H ((ts.map fun x => x.cps.toList).map D.str) (ts.map V.str)
  | [] => .nil
  | t :: ts => .cons (by rw [Is.str_iff]) (isL_strs ts)
theorem df_split {apos cpos : Pos} (ho : DE X a f) (ha : DE X b g) (hbase : attributeBase a "split" X.env (eval a X.env) = eval a X.env := by rfl) (hline : (apos.endLine == cpos.line) = true := by rfl)
    (hfew : ((backTo cpos (starEach [b] X.env)).all (fun x => !x.1) && (backToKw cpos (keywordEach [] X.env)).all (fun x => x.1.isSome) && decide ([b].length + ([] : List Keyword).length + (if ([] : List Keyword).isEmpty then 0 else 1) < 30)) = true := by rfl)
    (hs : starEach [b] X.env = (false, eval b X.env) :: starEach [] X.env := by rfl) : DF X (.Call (.Attribute a "split" apos) [b] [] cpos) (mSplit f g) := by
  refine PE.conseq (pe_bm PySem.F.plainAttrs_str PySem.F.slot_str_split PySem.F.type_str_split mt_split ho (xT ha qR hs) hbase hfew hline hs) fun σ H Q hq => ?_
  obtain ⟨O0, r, l, hR, e, q⟩ := hq
  obtain ⟨x, e1, e2⟩ := bind_some e
  obtain ⟨y, e3, e4⟩ := bind_some e2
  refine ⟨O0, r, x, hR, e1, fun v H1 s1 i1 => ?_⟩
  cases x <;> first | (simp only [reduceCtorEq] at e4; done) | skip
  cases y <;> first | (simp only [reduceCtorEq] at e4; done) | skip
  rename_i s sep
  simp only at e4
  split at e4
  · rename_i hl
    have e5 : (splitS s sep).map D.str = l := Option.some.inj e4
    subst e5
    rw [Is.str_iff] at i1
    subst i1
    refine ⟨rfl, O0, r, _, hR.same s1, e3, fun v2 H2 s2 i2 => ?_⟩
    rw [Is.str_iff] at i2
    have hy : ((⟨sep.toArray⟩ : Str).length == 0) = false := by rw [qF]; simpa using hl.1
    have h5 := occ_len (⟨s.toArray⟩ : Str) ⟨sep.toArray⟩ hy
    have h6 : (⟨s.toArray⟩ : Str).length = s.length := qF s
    refine ⟨_, _, rfl, by rw [i2], hy, by rw [h6]; lia, by lia, fun p hp => q p _ _ ((s1.trans s2).trans (xC hp)) ((s1.trans s2).free hp) xK ?_⟩
    exact isL_strs _
  · cases e4
end
section
variable {X : Cx} {a b : Expr} {f g : ME} {p pos : Pos} {elts : List Expr} {k : Nat} {tp : Pos}
noncomputable def z2 (F : V -> V -> Hp -> Prop) : List V -> Hp -> Prop
  | [x, y], H => F x y H
  | _, _ => False
theorem z2_inv {F : V -> V -> Hp -> Prop} : ∀ {vs : List V} {H : Hp}, z2 F vs H -> ∃ x y, vs = [x, y] /\ F x y H
  | [x, y], _, h => ⟨x, y, rfl, h⟩
  | [], _, h => h.elim
  | [_], _, h => h.elim
  | _ :: _ :: _ :: _, _, h => h.elim
noncomputable def z1 (F : V -> Hp -> Prop) : List V -> Hp -> Prop
  | [x], H => F x H
  | _, _ => False
theorem z1_inv {F : V -> Hp -> Prop} : ∀ {vs : List V} {H : Hp}, z1 F vs H -> ∃ x, vs = [x] /\ F x H
  | [x], _, h => ⟨x, rfl, h⟩
  | [], _, h => h.elim
  | _ :: _ :: _, _, h => h.elim
noncomputable def tZip (K : Fg) (ta tb : TE) : TI := fun σ H R => ta σ H fun x H1 => tb σ H1 fun y H2 => ∃ u v, x = .ref u /\ y = .ref v /\
  (((∃ xs, SqL K H2 u xs) /\ (∃ ys, SqL K H2 v ys) /\ R (ItZ (SqL K) u v) H2) \/ ((∃ xs, SqT K H2 u xs) /\ (∃ ys, SqT K H2 v ys) /\ R (ItZ (SqT K) u v) H2))
theorem adn (n : Nat) {i j : Nat} (h : i ≠ j) : @Ne Addr (n + i : Nat) (n + j : Nat) := fun e => h (Nat.add_left_cancel (show n + i = n + j from e))
theorem adn0 (n : Nat) {j : Nat} (h : 0 ≠ j) : @Ne Addr (n : Nat) (n + j : Nat) := fun e => h (Nat.add_left_cancel (show n + 0 = n + j from e))
theorem za5 (n : Nat) : ZA (n + 4) (n + 2) (n + 3) n (n + 1) := ⟨adn n (by decide), adn n (by decide), adn0 n (by decide), adn n (by decide), adn n (by decide), (adn0 n (by decide)).symm, adn n (by decide), (adn0 n (by decide)).symm, adn n (by decide), adn0 n (by decide)⟩
theorem pi_zip {ta tb : TE} (hg : Gl X "zip") (hm : X.mg "zip" = none) (ha : PE X a ta) (hb : PE X b tb) (hs : starEach [a, b] X.env = [(false, eval a X.env), (false, eval b X.env)] := by rfl) (hs2 : starEach [b] X.env = [(false, eval b X.env)] := by rfl) :
    PI X (.Tuple elts k tp) (.Call (.Name "zip" p) [a, b] [] pos) (tZip X.K ta tb) := by
  intro pins s σ H R I h
  have hA : PA X [a, b] (tCons ta (tCons tb tNil)) := xT ha (xT hb qR (by rw [hs2]; rfl)) (by rw [hs, hs2])
  refine Call_ (ld_blt I hg hm PyProof.Rows.boot_zip (PyProof.Rows.callWith_type1 (thn (hA pos pins s σ H (z2 fun x y H2 => ∃ u v, x = .ref u /\ y = .ref v /\ (((∃ xs, SqL X.K H2 u xs) /\ (∃ ys, SqL X.K H2 v ys) /\ R (ItZ (SqL X.K) u v) H2) \/ ((∃ xs, SqT X.K H2 u xs) /\ (∃ ys, SqT X.K H2 v ys) /\ R (ItZ (SqT X.K) u v) H2))) I h) fun us s1 ⟨vs, H1, I1, r1, q1⟩ => ?_) (by rw [hs, hs2]) (by rw [hs2]; rfl)))
  obtain ⟨_, _, rfl, u, v, rfl, rfl, q5⟩ := z2_inv q1
  obtain ⟨uu, vv, rfl, ru, rv⟩ := yU.two r1
  cases ru
  cases rv
  have fp5 : ∀ b ∈ [s1.heap.objs.size + 4, s1.heap.objs.size + 2, s1.heap.objs.size + 3, s1.heap.objs.size, s1.heap.objs.size + 1], FpOk X pins H1 b := fun b hb => by
    have hle : s1.heap.objs.size <= b := by
      simp only [List.not_mem_nil, List.mem_cons, or_false] at hb
      rcases hb with h | h | h | h | h
      · rw [h]; exact Nat.le_add_right _ _
      · rw [h]; exact Nat.le_add_right _ _
      · rw [h]; exact Nat.le_add_right _ _
      · rw [h]; exact Nat.le_refl _
      · rw [h]; exact Nat.le_add_right _ _
    exact I1.fpOk hle (I1.hok.fresh hle)
  refine q5.elim (fun q2 => ?_) (fun q2 => ?_)
  · obtain ⟨⟨xs, hx⟩, ⟨ys, hy⟩, q⟩ := q2
    obtain ⟨its, _, pl, _⟩ := I1.list hx
    obtain ⟨its2, _, pl2, _⟩ := I1.list hy
    refine call_zip_2 pl.isList pl2.isList fun h' z1 z2 z3 z4 z5 _ kp => wpAny_pyIter_zip z1 ?_
    exact ⟨_, _, _, _, H1, rfl, I1.kept (t' := s1.toks) kp, turn_zip (dw_list X.K) u v _ _ _ _ _ (za5 _), ⟨z1, z2, ⟨_, _, z3⟩, z4, z5⟩, fp5, q⟩
  · obtain ⟨⟨xs, hx⟩, ⟨ys, hy⟩, q⟩ := q2
    obtain ⟨its, _, pl, _⟩ := I1.tuple hx
    obtain ⟨its2, _, pl2, _⟩ := I1.tuple hy
    refine ZZ.zcall pl pl2 fun h' z1 z2 z3 z4 z5 kp => wpAny_pyIter_zip z1 ?_
    exact ⟨_, _, _, _, H1, rfl, I1.kept (t' := s1.toks) kp, turn_zip (dw_tup X.K) u v _ _ _ _ _ (za5 _), ⟨z1, z2, ⟨_, _, z3⟩, z4, z5⟩, fp5, q⟩
noncomputable def zipD (l m : List D) : List D := List.zipWith (fun x y => .tup [x, y]) l m
noncomputable def mZip (f g : ME) : ML := fun r => (f r).bind fun d => (g r).bind fun e => match d, e with
  | .lst l, .lst m => some (zipD l m)
  | .tup l, .tup m => some (zipD l m)
  | _, _ => none
theorem zip_get {l m : List D} {i : Nat} {d : D} (h : (zipD l m)[i]? = some d) : ∃ x y, l[i]? = some x /\ m[i]? = some y /\ d = .tup [x, y] := by
  unfold zipD at h
  rw [List.getElem?_zipWith] at h
  cases e1 : l[i]? with
  | none => rw [e1] at h; cases h
  | some x =>
    cases e2 : m[i]? with
    | none => rw [e1, e2] at h; cases h
    | some y => rw [e1, e2] at h; cases h; exact ⟨x, y, rfl, rfl, rfl⟩
theorem yl_zip {K : Fg} {O M : Addr -> Prop} {sq : Hp -> Addr -> List V -> Prop} (mo : ∀ a, M a -> O a) {H : Hp} {u v : Addr} {xs ys : List V} {l m : List D} (ol : OLst O H) (kx : ∀ H1, Keep M H H1 -> sq H1 u xs) (ky : ∀ H1, Keep M H H1 -> sq H1 v ys)
    (il : IsL K O H l xs) (im : IsL K O H m ys) : Ylds K O M H (ItZ sq u v) (zipD l m) := by
  intro i H1 O' kp oo
  have kp' : Keep O H H1 := fun b o e n => kp b o e fun z => n (mo b z)
  have hlen : (zipD l m).length = min l.length m.length := by simp [zipD]
  refine ⟨fun hi => ⟨?_, fun x H' y => ?_⟩, fun hi => ⟨xs, ys, kx H1 kp, ky H1 kp, ?_⟩⟩
  · obtain ⟨d, e⟩ := get_of_lt hi
    obtain ⟨dx, dy, e1, e2, _⟩ := zip_get e
    obtain ⟨vx, q1, _⟩ := il.get e1
    obtain ⟨vy, q2, _⟩ := im.get e2
    exact ⟨xs, ys, vx, vy, kx H1 kp, ky H1 kp, q1, q2⟩
  · obtain ⟨T, p, q, rfl, nT, rfl, h1, h2⟩ := y
    refine ⟨xC nT, fun d e => ?_⟩
    obtain ⟨dx, dy, e1, e2, rfl⟩ := zip_get e
    obtain ⟨vx, q1, i1⟩ := il.get e1
    obtain ⟨vy, q2, i2⟩ := im.get e2
    have p1 := h1 xs (kx H1 kp)
    have p2 := h2 ys (ky H1 kp)
    rw [q1] at p1; rw [q2] at p2
    cases p1; cases p2
    have kk : Keep O H (upd H1 T (.tup [p, q])) := fun b o e' n => by
      have := kp' b o e' n
      rw [xH (qM this nT)]; exact this
    rw [Is.tup_iff]
    exact ⟨T, _, rfl, SqT.of xK, .cons (Is.mono kk ol oo _ _ i1) (.cons (Is.mono kk ol oo _ _ i2) .nil)⟩
  · have e1 := il.length
    have e2 := im.length
    rw [hlen] at hi
    lia
theorem keepL {K : Fg} {O M : Addr -> Prop} (mo : ∀ a, M a -> O a) {H : Hp} {a : Addr} {xs : List V} (h : LsAt K O H a xs) : ∀ H1, Keep M H H1 -> SqL K H1 a xs := fun H1 k => h.imp (fun z => Rd.keep k (fun y => z.1 (mo _ y)) z.2) id
theorem keepT {K : Fg} {O M : Addr -> Prop} (mo : ∀ a, M a -> O a) {H : Hp} {a : Addr} {xs : List V} (ol : OLst O H) (h : SqT K H a xs) : ∀ H1, Keep M H H1 -> SqT K H1 a xs := fun H1 k => SqT.keep (fun b o e n => k b o e fun z => n (mo b z)) ol h
theorem di_zip (hg : Gl X "zip") (hm : X.mg "zip" = none) (ha : DE X a f) (hb : DE X b g) (hs : starEach [a, b] X.env = [(false, eval a X.env), (false, eval b X.env)] := by rfl) (hs2 : starEach [b] X.env = [(false, eval b X.env)] := by rfl) :
    DI X (.Tuple elts k tp) (.Call (.Name "zip" p) [a, b] [] pos) (mZip f g) := by
  refine PI.conseq (pi_zip hg hm ha hb hs hs2) fun σ H Rr hq => ?_
  obtain ⟨O0, r, ds, hR, e, q⟩ := hq
  obtain ⟨x, e1, e⟩ := bind_some e
  obtain ⟨y, e2, e⟩ := bind_some e
  refine ⟨O0, r, x, hR, e1, fun v1 H1 s1 i1 => ⟨O0, r, y, hR.same s1, e2, fun v2 H2 s2 i2 => ?_⟩⟩
  have R2 := hR.same (s1.trans s2)
  have i1' := i1.same s2 (hR.same s1).ol
  have mo : ∀ a, MutAt r σ a -> Ow O0 r σ a := fun a z => .inr z.own
  cases x <;> first | (simp only [reduceCtorEq] at e; done) | skip
  all_goals cases y <;> first | (simp only [reduceCtorEq] at e; done) | skip
  · simp only [Option.some.injEq] at e
    subst e
    rw [Is.tup_iff] at i1' i2
    obtain ⟨u, xs, rfl, hx, il⟩ := i1'
    obtain ⟨v, ys, rfl, hy, im⟩ := i2
    exact ⟨u, v, rfl, rfl, .inr ⟨⟨xs, hx⟩, ⟨ys, hy⟩, q _ H2 (s1.trans s2) (yl_zip mo R2.ol (keepT mo R2.ol hx) (keepT mo R2.ol hy) il im)⟩⟩
  · simp only [Option.some.injEq] at e
    subst e
    rw [Is.lst_iff] at i1' i2
    obtain ⟨u, xs, rfl, hx, il⟩ := i1'
    obtain ⟨v, ys, rfl, hy, im⟩ := i2
    exact ⟨u, v, rfl, rfl, .inl ⟨⟨xs, hx.sq⟩, ⟨ys, hy.sq⟩, q _ H2 (s1.trans s2) (yl_zip mo R2.ol (keepL mo hx) (keepL mo hy) il im)⟩⟩
theorem pi_enum {ta : TE} (hg : Gl X "enumerate") (hm : X.mg "enumerate" = none) (ha : PE X a ta) (hs : starEach [a] X.env = [(false, eval a X.env)] := by rfl) :
    PI X (.Tuple elts k tp) (.Call (.Name "enumerate" p) [a] [] pos) (fun σ H R => ta σ H fun x H1 => ∃ u, x = .ref u /\ (∃ xs, SqL X.K H1 u xs) /\ R (ItE X.K u) H1) := by
  intro pins s σ H R I h
  have hA : PA X [a] (tCons ta tNil) := xT ha qR (by rw [hs]; rfl)
  refine Call_ (ld_blt I hg hm PyProof.Rows.boot_enumerate (PyProof.Rows.callWith_type1 (thn (hA pos pins s σ H (z1 fun x H1 => ∃ u, x = .ref u /\ (∃ xs, SqL X.K H1 u xs) /\ R (ItE X.K u) H1) I h) fun us s1 ⟨vs, H1, I1, r1, q1⟩ => ?_) hs rfl))
  obtain ⟨_, rfl, u, rfl, ⟨xs, hx⟩, q⟩ := z1_inv q1
  obtain ⟨uu, rfl, ru⟩ := yU.one r1
  cases ru
  obtain ⟨its, _, pl, _⟩ := I1.list hx
  refine call_enumerate_list pl.isList fun h' z1 z2 _ kp => wpAny_pyIter_enum z1 ?_
  refine ⟨_, [s1.heap.objs.size + 1, s1.heap.objs.size], _, _, H1, rfl, I1.kept (t' := s1.toks) kp, turn_enum u _ _ (adn0 _ (by decide)).symm, ⟨⟨_, z1⟩, z2⟩, fun b hb => ?_, q⟩
  have hle : s1.heap.objs.size <= b := by
    simp only [List.not_mem_nil, List.mem_cons, or_false] at hb
    rcases hb with h | h
    · rw [h]; exact Nat.le_add_right _ _
    · rw [h]; exact Nat.le_refl _
  exact I1.fpOk hle (I1.hok.fresh hle)
noncomputable def enumD (l : List D) : List D := l.zipIdx.map fun p => .tup [.int (p.2 : Nat), p.1]
noncomputable def mEnum (f : ME) : ML := fun r => (f r).bind fun d => match d with
  | .lst l => some (enumD l)
  | _ => none
theorem enum_get {l : List D} {i : Nat} {d : D} (h : (enumD l)[i]? = some d) : ∃ x, l[i]? = some x /\ d = .tup [.int i, x] := by
  unfold enumD at h
  rw [List.getElem?_map, List.getElem?_zipIdx] at h
  cases e1 : l[i]? with
  | none => rw [e1] at h; cases h
  | some x => rw [e1] at h; simp at h; exact ⟨x, rfl, h.symm⟩
theorem di_enum (hg : Gl X "enumerate") (hm : X.mg "enumerate" = none) (ha : DE X a f) (hs : starEach [a] X.env = [(false, eval a X.env)] := by rfl) : DI X (.Tuple elts k tp) (.Call (.Name "enumerate" p) [a] [] pos) (mEnum f) := by
  refine PI.conseq (pi_enum hg hm ha hs) fun σ H Rr hq => ?_
  obtain ⟨O0, r, ds, hR, e, q⟩ := hq
  obtain ⟨x, e1, e⟩ := bind_some e
  refine ⟨O0, r, x, hR, e1, fun v1 H1 s1 i1 => ?_⟩
  have R1 := hR.same s1
  cases x <;> first | (simp only [reduceCtorEq] at e; done) | skip
  rename_i l
  simp only [Option.some.injEq] at e
  subst e
  rw [Is.lst_iff] at i1
  obtain ⟨u, xs, rfl, hx, il⟩ := i1
  refine ⟨u, rfl, ⟨xs, hx.sq⟩, q _ H1 s1 ?_⟩
  intro i H2 O' kp oo
  have kp' : Keep (Ow O0 r σ) H1 H2 := fun b o e n => kp b o e fun z => n (.inr z.own)
  have sq2 := keepL (M := MutAt r σ) (fun a z => .inr z.own) hx H2 kp
  have hlen : (enumD l).length = l.length := by simp [enumD]
  refine ⟨fun hi => ⟨?_, fun y H' yy => ?_⟩, fun hi => ⟨xs, sq2, by rw [<- il.length, <- hlen]; exact hi.symm⟩⟩
  · obtain ⟨d, ed⟩ := get_of_lt hi
    obtain ⟨dx, ex, _⟩ := enum_get ed
    obtain ⟨vx, q1, _⟩ := il.get ex
    exact ⟨xs, vx, sq2, q1⟩
  · obtain ⟨T, w, rfl, nT, rfl, h1⟩ := yy
    refine ⟨xC nT, fun d ed => ?_⟩
    obtain ⟨dx, ex, rfl⟩ := enum_get ed
    obtain ⟨vx, q1, i1⟩ := il.get ex
    have p1 := h1 xs sq2
    rw [q1] at p1
    cases p1
    have kk : Keep (Ow O0 r σ) H1 (upd H2 T (.tup [.int i, w])) := fun b o e' n => by
      have := kp' b o e' n
      rw [xH (qM this nT)]; exact this
    rw [Is.tup_iff]
    exact ⟨T, _, rfl, SqT.of xK, .cons (by rw [Is.int_iff]) (.cons (Is.mono kk R1.ol oo _ _ i1) .nil)⟩
end
noncomputable def sRel (i : Nat) (g : MS) : MS := fun r => match r[i]? with
  | some (.o l) => g (r.set i (.v (.lst l)))
  | _ => none
theorem R.rel {K : Fg} {O0 : Addr -> Prop} {H : Hp} {r : En} {σ : St} {i : Nat} {l : List D} (h : R K O0 H r σ) (e : r[i]? = some (.o l)) : R K O0 H (r.set i (.v (.lst l))) σ /\ Kp H r σ H (r.set i (.v (.lst l))) σ := by
  have hi : i < r.length := (List.getElem?_eq_some_iff.mp e).1
  obtain ⟨a, xs, e1, e2, e3⟩ := h.own i l (by rw [e]; rfl)
  have sub : ∀ {q : Sl -> Option (List D)} (_ : ∀ d, q (.v d) = none) b, AtS q (r.set i (.v (.lst l))) σ b -> AtS q r σ b := fun {q} hq b ⟨j, m, ej, qj⟩ => by
    by_cases hj : i = j
    · subst hj
      rw [yJ hi] at ej
      have ej' : q (.v (.lst l)) = some m := ej
      rw [hq] at ej'; cases ej'
    · rw [zN hj] at ej; exact ⟨j, m, ej, qj⟩
  have subO : ∀ b, Ow O0 (r.set i (.v (.lst l))) σ b -> H b ≠ none -> Ow O0 r σ b := fun b z _ => z.imp id (sub (fun _ => rfl) b)
  have na : ¬ Ow O0 (r.set i (.v (.lst l))) σ a := fun z => by
    rcases z with z | ⟨j, m, ej, qj⟩
    · exact h.loc i l a (.inl e) e1 z
    · have hj : i ≠ j := fun z => by subst z; rw [yJ hi] at ej; cases ej
      rw [zN hj] at ej
      exact hj (h.apart i j a l m (by rw [e]; rfl) ej e1 qj)
  have ne : ∀ (j : Nat) (m : List D), ((r.set i (.v (.lst l)))[j]?).bind Sl.own = some m -> i ≠ j := fun j m ej z => by subst z; rw [yJ hi] at ej; cases ej
  refine ⟨⟨by simp [h.len], fun j d ej => ?_, fun j m ej => ?_, fun j k b m n e4 e5 q1 q2 => ?_, h.o0, fun j m b ej q => ?_, fun j m b ej q => ?_, fun j ks m ej => ?_⟩, ⟨fun b o eb _ => eb, fun b eb => eb, fun b o eb mb => ⟨o, eb, mb⟩, fun b z => .inl (sub (fun _ => rfl) b z), fun b z => .inl (sub (fun _ => rfl) b z), fun j m ej => ?_, fun j m ej => ?_⟩⟩
  · by_cases hj : i = j
    · subst hj
      rw [yJ hi] at ej; cases ej
      refine ⟨.ref a, e1, ?_⟩
      rw [Is.lst_iff]
      exact ⟨a, xs, rfl, .inl ⟨na, .inl e2⟩, IsL.mono (zZ.kp (zZ.refl H) _) h.ol subO _ _ e3⟩
    · rw [zN hj] at ej
      obtain ⟨v, q1, q2⟩ := h.val j d ej
      exact ⟨v, q1, Is.mono (zZ.kp (zZ.refl H) _) h.ol subO _ _ q2⟩
  · have hj := ne j m (ls_own' ej)
    rw [zN hj] at ej
    obtain ⟨b, ys, q1, q2, q3⟩ := h.own j m ej
    exact ⟨b, ys, q1, q2, IsL.mono (zZ.kp (zZ.refl H) _) h.ol subO _ _ q3⟩
  · have hj := ne j m e4
    have hk := ne k n e5
    rw [zN hj] at e4
    rw [zN hk] at e5
    exact h.apart j k b m n e4 e5 q1 q2
  · have hj : i ≠ j := ne j m (by rcases ej with ej | ej | ⟨_, ej⟩ <;> rw [ej] <;> rfl)
    rw [zN hj] at ej
    exact h.loc j m b ej q
  · have hj : i ≠ j := ne j m (by rw [ej]; rfl)
    rw [zN hj] at ej
    exact h.par j m b ej q
  · have hj := ne j m (by rw [ej]; rfl)
    rw [zN hj] at ej
    obtain ⟨b, kvs, q1, q2, q4, q3⟩ := h.dct j ks m ej
    exact ⟨b, kvs, q1, q2, q4, IsL.mono (zZ.kp (zZ.refl H) _) h.ol subO _ _ q3⟩
  · have hj : i ≠ j := fun z => by subst z; rw [e] at ej; cases ej
    exact ⟨⟨m, by rw [zN hj]; exact ej⟩, rfl⟩
  · have hj : i ≠ j := fun z => by subst z; rw [e] at ej; cases ej
    exact ⟨by rw [zN hj]; exact ej, rfl⟩
theorem ds_rel (i : Nat) {X : Cx} {sts : List Stmt} {g : MS} (h : DSs X sts g) : DSs X sts (sRel i g) := by
  refine PSs.conseq h fun Dn σ H hq => ?_
  obtain ⟨O0, r, fl, hR, e, q⟩ := hq
  unfold sRel at e
  have ⟨l, e1, e2⟩ : ∃ l, r[i]? = some (.o l) /\ g (r.set i (.v (.lst l))) = some fl := by
    split at e
    · rename_i l h; exact ⟨l, h, e⟩
    · cases e
  obtain ⟨R1, k1⟩ := hR.rel e1
  exact ⟨O0, _, fl, R1, e2, PostS.before R1 k1 q⟩
noncomputable def frZ (i : Nat) (r : En) : Option En := match r[i]? with
  | some (.o l) => some (r.set i (.z l))
  | _ => none
theorem R.swap {K : Fg} {O0 : Addr -> Prop} {H : Hp} {r : En} {σ : St} {i : Nat} {l : List D} {y : Sl} (h : R K O0 H r σ) (hy : (r[i]? = some (.o l) /\ y = .z l) \/ (r[i]? = some (.z l) /\ y = .o l)) : R K O0 H (r.set i y) σ /\ ∀ b, OwnAt (r.set i y) σ b ↔ OwnAt r σ b := by
  have eo : (r[i]?).bind Sl.own = some l := by rcases hy with ⟨e, _⟩ | ⟨e, _⟩ <;> rw [e] <;> rfl
  have yo : y.own = some l := by rcases hy with ⟨_, e⟩ | ⟨_, e⟩ <;> rw [e] <;> rfl
  have hi : i < r.length := by
    rcases hy with ⟨e, _⟩ | ⟨e, _⟩ <;> exact (List.getElem?_eq_some_iff.mp e).1
  have own : ∀ j, ((r.set i y)[j]?).bind Sl.own = (r[j]?).bind Sl.own := fun j => by
    by_cases hj : i = j
    · subst hj; rw [yJ hi, eo]; exact yo
    · rw [zN hj]
  have lss : ∀ j, ((r.set i y)[j]?).bind Sl.ls = (r[j]?).bind Sl.ls := fun j => by
    by_cases hj : i = j
    · subst hj; rw [yJ hi]; rcases hy with ⟨e, e2⟩ | ⟨e, e2⟩ <;> rw [e, e2] <;> rfl
    · rw [zN hj]
  have at_ : ∀ b, OwnAt (r.set i y) σ b ↔ OwnAt r σ b := fun b => ⟨fun ⟨j, m, e, q⟩ => ⟨j, m, by rw [<- own j]; exact e, q⟩, fun ⟨j, m, e, q⟩ => ⟨j, m, by rw [own j]; exact e, q⟩⟩
  have ow : ∀ b, Ow O0 (r.set i y) σ b -> H b ≠ none -> Ow O0 r σ b := fun b z _ => z.imp id (at_ b).mp
  refine ⟨⟨by simp [h.len], fun j d ej => ?_, fun j m ej => ?_, fun j k b m n e4 e5 => ?_, h.o0, fun j m b ej q => ?_, fun j m b ej q => ?_, fun j ks m ej => ?_⟩, at_⟩
  · have hj : i ≠ j := fun z => by subst z; rw [yJ hi] at ej; cases ej; cases yo
    rw [zN hj] at ej
    obtain ⟨v, q1, q2⟩ := h.val j d ej
    exact ⟨v, q1, Is.mono (zZ.kp (zZ.refl H) _) h.ol ow _ _ q2⟩
  · rw [lss j] at ej
    obtain ⟨b, ys, q1, q2, q3⟩ := h.own j m ej
    exact ⟨b, ys, q1, q2, IsL.mono (zZ.kp (zZ.refl H) _) h.ol ow _ _ q3⟩
  · rw [own j] at e4
    rw [own k] at e5
    exact h.apart j k b m n e4 e5
  · by_cases hj : i = j
    · subst hj
      rcases hy with ⟨e, _⟩ | ⟨e, _⟩
      · exact h.loc i l b (.inl e) q
      · exact h.loc i l b (.inr (.inl e)) q
    · rw [zN hj] at ej
      exact h.loc j m b ej q
  · by_cases hj : i = j
    · subst hj
      rw [yJ hi] at ej
      rcases hy with ⟨_, e⟩ | ⟨_, e⟩ <;> rw [e] at ej <;> cases ej
    · rw [zN hj] at ej
      exact h.par j m b ej q
  · have hj : i ≠ j := fun z => by
      subst z
      rw [yJ hi] at ej
      rcases hy with ⟨_, e⟩ | ⟨_, e⟩ <;> rw [e] at ej <;> cases ej
    rw [zN hj] at ej
    obtain ⟨b, kvs, q1, q2, q4, q3⟩ := h.dct j ks m ej
    exact ⟨b, kvs, q1, q2, q4, IsL.mono (zZ.kp (zZ.refl H) _) h.ol ow _ _ q3⟩
theorem frZ_some {i : Nat} {r r1 : En} (e : frZ i r = some r1) : ∃ l, r[i]? = some (.o l) /\ r1 = r.set i (.z l) := by
  unfold frZ at e
  split at e
  · rename_i l h; cases e; exact ⟨l, h, rfl⟩
  · cases e
section
variable {X : Cx} {a b : Expr} {f g : ME} {p pos : Pos} {elts : List Expr} {k : Nat} {tp : Pos}
noncomputable def lK (K : Fg) (f : ML) : TE := fun σ H Q => ∃ O0 r l, R K O0 H r σ /\ f r = some l /\ ∀ u xs H', zZ H H' -> (∀ H1, Keep (MutAt r σ) H' H1 -> SqL K H1 u xs) -> IsL K (Ow O0 r σ) H' l xs -> Q (.ref u) H'
noncomputable def DK (X : Cx) (e : Expr) (f : ML) : Prop := PE X e (lK X.K f)
noncomputable def mZs (i : Nat) : ML := fun r => match r[i]? with
  | some (.z l) => some l
  | _ => none
theorem dk_z (i : Nat) {x : Str} (h : PE X (.Name x pos) (tVar i)) : DK X (.Name x pos) (mZs i) := by
  refine PE.conseq h fun σ H Q hq => ?_
  obtain ⟨O0, r, l, hR, e, q⟩ := hq
  have e' : r[i]? = some (.z l) := by
    unfold mZs at e
    split at e
    · rename_i l' h; cases e; exact h
    · cases e
  obtain ⟨u, xs, e1, e2, e3⟩ := hR.own i l (by rw [e']; rfl)
  refine ⟨.ref u, e1, q u xs H (zZ.refl H) (fun H1 k1 => SqL.of (k1 _ _ e2 fun ⟨j, m, ej, qj⟩ => ?_)) e3⟩
  obtain ⟨y, ey, ym⟩ := bind_some ej
  have := hR.apart i j u l m (by rw [e']; rfl) (by rw [ey]; exact mt_own ym) e1 qj
  subst this
  rw [e'] at ey; cases ey; cases ym
noncomputable def lW (K : Fg) (f : ML) : TA := fun σ H Q => ∃ O0 r l, R K O0 H r σ /\ f r = some l /\ ∀ vs H', zZ H H' -> IsL K (fun _ => False) H' l vs -> Q vs H'
noncomputable def DV (X : Cx) (es : List Expr) (f : ML) : Prop := PA X es (lW X.K f)
noncomputable def mConsB (f g : ML) : ML := fun r => (f r).bind fun x => (g r).bind fun l => some (.lst x :: l)
theorem noF {H : Hp} : OLst (fun _ => False) H := fun _ z => z.elim
theorem dv_nil : DV X [] zJ := PA.conseq qR fun σ H Q ⟨O0, r, l, hR, e, q⟩ => by
  unfold zJ at e; cases e
  exact q [] H (zZ.refl H) .nil
theorem dv_e {es : List Expr} {fs : ML} (ha : DE X a f) (hr : DV X es fs) (hs : starEach (a :: es) X.env = (false, eval a X.env) :: starEach es X.env := by rfl) : DV X (a :: es) (zB f fs) := by
  refine PA.conseq (xT ha hr hs) fun σ H Q hq => ?_
  obtain ⟨O0, r, d, hR, e, q⟩ := hq
  obtain ⟨x, e1, e⟩ := bind_some e
  obtain ⟨l, e2, e⟩ := bind_some e
  cases e
  refine ⟨O0, r, x, hR, e1, fun v1 H1 s1 i1 => ⟨O0, r, l, hR.same s1, e2, fun vs H2 s2 i2 => q _ H2 (s1.trans s2) (.cons ?_ i2)⟩⟩
  exact Is.mono (zZ.kp s2 _) (hR.same s1).ol (fun _ z _ => z.elim) _ _ i1
theorem dv_b {es : List Expr} {fl fs : ML} (ha : DB X a fl) (hr : DV X es fs) (hs : starEach (a :: es) X.env = (false, eval a X.env) :: starEach es X.env := by rfl) : DV X (a :: es) (mConsB fl fs) := by
  refine PA.conseq (xT ha hr hs) fun σ H Q hq => ?_
  obtain ⟨O0, r, d, hR, e, q⟩ := hq
  obtain ⟨x, e1, e⟩ := bind_some e
  obtain ⟨l, e2, e⟩ := bind_some e
  cases e
  refine ⟨O0, r, x, hR, e1, fun u xs H1 s1 sq i1 => ⟨O0, r, l, hR.same s1, e2, fun vs H2 s2 i2 => q _ H2 (s1.trans s2) (.cons ?_ i2)⟩⟩
  rw [Is.lst_iff]
  refine ⟨u, xs, rfl, ?_, IsL.mono (zZ.kp s2 _) (hR.same s1).ol (fun _ z _ => z.elim) _ _ i1⟩
  exact (s2.seq sq).imp (fun z => ⟨id, z⟩) id
noncomputable def scalD : D -> Bool
  | .bl _ => true
  | .int _ => true
  | .str _ => true
  | _ => false
noncomputable def mCallS (n : Nat) (m : MF) (fs : ML) : ME := fun r => (fs r).bind fun ds => if ds.length = n then (m (ds.map .v)).bind fun p => match p.1 with
  | .v d => if scalD d = true then some d else none
  | _ => none
  else none
theorem scal_is {K : Fg} {O O' : Addr -> Prop} {H : Hp} {d : D} {v : V} (h : Is K O H d v) (s : scalD d = true) : Is K O' H d v := by
  cases d <;> first | (cases s; done) | skip
  · rw [Is.bl_iff] at h ⊢; exact h
  · rw [Is.int_iff] at h ⊢; exact h
  · rw [Is.str_iff] at h ⊢; exact h
theorem de_callS {kk n : Nat} {fa : Addr} {fd : FuncData} {ps : List Str} {m : MF} {x : Str} {es : List Expr} {fs : ML} (F : FnOk X.prog X.w X.K X.mg X.base CX0 kk fa fd ps (spD X.K n m)) (hr : Room kk X.A) (hg : Gl X x) (hm : X.mg x = some (.ref fa)) (hk : PySem.W.keepIn X.K (.ref fa) = true) (hb : Binds X.K fd ps []) (ha : DV X (a :: es) fs)
    (hdb : (x == ("__debug__" : Str)) = false := by decide) (he : starEach (a :: es) X.env = (false, eval a X.env) :: starEach es X.env := by rfl) (hpl : (backTo pos (starEach es X.env)).any (·.1) = false := by rfl) :
    DE X (.Call (.Name x p) (a :: es) [] pos) (mCallS n m fs) := by
  refine PE.conseq (pe_call (E := fun _ _ _ => False) (dvs := []) F hr hg hm hk hb .nil pass0 ha hdb he hpl) fun σ H Q hq => ?_
  obtain ⟨O0, r, d, hR, e, q⟩ := hq
  obtain ⟨ds, e1, e2⟩ := bind_some e
  split at e2
  · rename_i hl
    obtain ⟨⟨rs, as'⟩, e3, e4⟩ := bind_some e2
    refine ⟨O0, r, ds, hR, e1, fun vs H1 s1 il => ?_⟩
    show spD X.K n m (vs ++ []) H1 Q _
    rw [List.append_nil]
    refine ⟨fun _ => False, ds.map .v, rs, as', by simpa using hl, R.args noF il, fun i l => ?_, e3, ?_⟩
    · rw [List.getElem?_map]
      cases e1 : ds[i]? with
      | none => exact ⟨(fun z => by cases z), (fun z => by cases z), (fun _ z => by cases z)⟩
      | some y => exact ⟨(fun z => by cases z), (fun z => by cases z), (fun _ z => by cases z)⟩
    · cases rs with
      | v d' =>
        simp only at e4
        split at e4
        · rename_i hs
          cases e4
          exact fun v H2 pf iv => q v H2 (s1.trans pf.same) (scal_is iv hs)
        · cases e4
      | f l => cases e4
      | g ks l => cases e4
  · cases e2
end
section
variable {w : World} {prog : Program} {E : Value -> Shared -> Prop} {A : Around}
theorem drawL {it l : Addr} {ys : Array Value} (hne : l ≠ it) : ∀ (n i : Nat) (s : Shared) (Q : List Value -> Shared -> Prop), s.heap.IsListIter it l i -> s.heap.IsList l ys -> i + n <= ys.size ->
    (∀ g, g.IsListIter it l (i + n) -> Heap.SameBut it s.heap g -> Q ((ys.toList.drop i).take n) { s with heap := g }) -> wpAny (model prog w) A (draw (.ref it) n) Q E s
  | 0, i, s, Q, h1, _, _, h => by
    show wpAny _ _ (pure []) Q E s; exact wpAny_pure (by simpa using h s.heap h1 (Heap.SameBut.refl ..))
  | n + 1, i, s, Q, h1, h2, h3, h => by
    have hl : i < ys.size := by lia
    show wpAny _ _ (pyNext (.ref it) >>= _) Q E s; refine wpAny_bind (wpAny_pyNext_list_item h1 h2 (x := ys[i]) (by simp [hl]) fun g1 k1 t1 => ?_)
    refine wpAny_bind (wpAny_holding (drawL hne n (i + 1) _ _ k1 (h2.extBut t1.extBut hne) (by lia) fun g2 k2 t2 => wpAny_pure (?_)))
    have hd : ys.toList.drop i = ys[i] :: ys.toList.drop (i + 1) := by simp [List.drop_eq_getElem_cons, hl]
    have := h g2 (by rw [show i + (n + 1) = i + 1 + n by lia]; exact k2) (t1.trans t2)
    rw [hd, List.take_succ_cons] at this; exact this
theorem unpackL {l : Addr} {ys : Array Value} {s : Shared} {Q : List Value -> Shared -> Prop} (hh : A.handled = none) (h2 : s.heap.IsList l ys) (h : ∀ g, Heap.ExtBut s.heap.objs.size s.heap g -> Q ys.toList { s with heap := g }) : wpAny (model prog w) A (unpackItems (.ref l) ys.size none) Q E s := by
  have hlt : l ≠ s.heap.objs.size := by obtain ⟨o, e, _⟩ := h2; exact Nat.ne_of_lt (Heap.lt_size e)
  unfold unpackItems; refine wpAny_bind (?_); unfold notIterableAtAll
  refine wpAny_bind (wpAny_specialOf h2.typeIs F.slot_list_iter.lookup (wpAny_pure (?_))); simp only [Bool.false_eq_true, if_false]; refine wpAny_bind (wpAny_holding (wpAny_pyIter_list h2 (?_)))
  refine wpAny_bind (wpAny_holding (drawL hlt ys.size 0 _ _ ⟨_, Heap.get?_push_size _ rfl, rfl, rfl⟩ (h2.push _) (by lia) fun g1 k1 t1 => ?_))
  have ha : List.take ys.size (List.drop 0 ys.toList) = ys.toList := by rw [List.drop_zero]; exact List.take_of_length_le (by simp)
  rw [ha, if_neg (by simp)]
  refine wpAny_bind (wpAny_holding (wpAny_pyNext_list_end hh k1 ((h2.push _).extBut t1.extBut hlt) (by simp) fun g2 t2 => ?_)); simp only [Option.isSome_none, Bool.false_eq_true, if_false]
  exact wpAny_pure (h g2 fun b o hb e => t2 b o hb (t1.extBut b o hb (Heap.get?_push_of_some _ e)))
end
section
variable {X : Cx} {pos : Pos} {es : List Expr} {k n : Nat}
theorem pg_seq {t : TGs} (hc : X.calm = true) (h : PGs X es t) (hn : (assignEach es X.env).length = n := by rfl) (hst : (assignEach es X.env).findIdx? (·.1) = none := by rfl) :
    PG X (.Tuple es k pos) (fun v σ H Q => ∃ a xs, v = .ref a /\ (SqT X.K H a xs \/ SqL X.K H a xs) /\ xs.length = n /\ t xs σ H Q) := by
  intro pins s σ H v u Q I r hw
  obtain ⟨a, xs, e1, hq, hl, hw⟩ := hw
  subst e1
  cases r
  rcases hq with hq | hq
  · exact pg_tup hc h hn hst pins s σ H (.ref a) (.ref a) Q I rfl ⟨a, xs, rfl, hq, hl, hw⟩
  · obtain ⟨its, rv, pl, hz⟩ := I.list hq
    rw [assign_Tuple]
    refine wpAny_bind (wpAny_standAt ?_)
    unfold unpack
    rw [hst]
    have hsz : (assignEach es X.env).length = its.toArray.size := by rw [hn, List.size_toArray, <- rv.length]; exact hl.symm
    rw [hsz]
    refine wpAny_bind (wpAny_holding (unpackL (I.ok.hd hc) pl.isList fun g hx => ?_))
    have I1 : Inv X pins σ H { s with heap := g } := I.kept (t' := s.toks) fun b o e => hx b o (Nat.ne_of_lt (Heap.lt_size e)) e
    exact h pins _ σ H xs _ Q I1 (by simpa using rv) hw
noncomputable def qO (n : Nat) (bs : List D -> En -> Option En) : D -> En -> Option En := fun d r => match d with
  | .tup l => if l.length = n then bs l r else none
  | .lst l => if l.length = n then bs l r else none
  | _ => none
theorem dg_seq {bs : List D -> En -> Option En} (hc : X.calm = true) (h : DGs X es bs) (hn : (assignEach es X.env).length = n := by rfl) (hst : (assignEach es X.env).findIdx? (·.1) = none := by rfl) : DG X (.Tuple es k pos) (qO n bs) := by
  refine PG.conseq (pg_seq hc h hn hst) fun v σ H Q h => ?_
  obtain ⟨O0, r, d, r', hR, iv, e, q⟩ := h
  cases d <;> first | (simp only [qO, reduceCtorEq] at e; done) | skip
  · rename_i l
    rw [Is.tup_iff] at iv
    obtain ⟨a, xs, rfl, hs, il⟩ := iv
    simp only [qO] at e
    split at e
    · rename_i hl
      exact ⟨a, xs, rfl, .inl hs, by rw [<- il.length]; exact hl, O0, r, l, r', hR, il, e, q⟩
    · cases e
  · rename_i l
    rw [Is.lst_iff] at iv
    obtain ⟨a, xs, rfl, hs, il⟩ := iv
    simp only [qO] at e
    split at e
    · rename_i hl
      exact ⟨a, xs, rfl, .inr hs.sq, by rw [<- il.length]; exact hl, O0, r, l, r', hR, il, e, q⟩
    · cases e
end
set_option maxRecDepth 9000 in
theorem extT (l : Addr) (xs : Array Value) (n : Nat) (b : Addr) (cl : Value) (dd : Option Addr) (ys : Array Value) (n2 : Nat) (sl : Array (Option Value)) (hcl : cl = .type "tuple") (h0 : ¬(!xs.isEmpty && Builtin.List.listTooLong (xs.size + ys.size)) = true) (h1 : xs.size <= sizeLine) (h2 : xs.size + ys.size <= sizeLine + 1) :
    Meets (Builtin.«list.extend» ⟨[.ref l, .ref b], []⟩) (fun _ R s => s.heap.get? l = some { cls := .type "list", dict := none, data := .seq xs n, slots := #[] } /\ s.heap.get? b = some { cls := cl, dict := dd, data := .seq ys n2, slots := sl } /\ R (.ok (.ret Value.none)) { s with heap := s.heap.update l (Obj.mapSeq fun x => x ++ ys), toks := s.toks }) :=
  .of_wp fun prog w A R s h => by
    subst hcl
    obtain ⟨hp, g, d, tk, os⟩ := s; obtain ⟨hl, hb, h⟩ := h; have f1 := AutoSeq1.idx_int; have f2 := AutoSeq1.sub_tuple_tuple; have f3 := AutoSeq1.sub_list_list; have f4 := AutoSeq1.sub_tuple_list; have f5 := AutoSeq1.sub_list_tuple
    have hz : (xs ++ ys).size <= sizeLine + 1 := by rw [Array.size_append]; exact h2
    wp_walk using (wpAny_updateSeq hl rfl (hz := h1) (_hz' := hz)), wpAny_loadPart' hl, wpAny_loadPart' hb; exact ⟨_, rfl, h⟩
set_option maxRecDepth 9000 in
theorem extL (l : Addr) (xs : Array Value) (n : Nat) (b : Addr) (cl : Value) (dd : Option Addr) (ys : Array Value) (n2 : Nat) (sl : Array (Option Value)) (hcl : cl = .type "list") (h0 : ¬(!xs.isEmpty && Builtin.List.listTooLong (xs.size + ys.size)) = true) (h1 : xs.size <= sizeLine) (h2 : xs.size + ys.size <= sizeLine + 1) :
    Meets (Builtin.«list.extend» ⟨[.ref l, .ref b], []⟩) (fun _ R s => s.heap.get? l = some { cls := .type "list", dict := none, data := .seq xs n, slots := #[] } /\ s.heap.get? b = some { cls := cl, dict := dd, data := .seq ys n2, slots := sl } /\ R (.ok (.ret Value.none)) { s with heap := s.heap.update l (Obj.mapSeq fun x => x ++ ys), toks := s.toks }) :=
  .of_wp fun prog w A R s h => by
    subst hcl
    obtain ⟨hp, g, d, tk, os⟩ := s; obtain ⟨hl, hb, h⟩ := h; have f1 := AutoSeq1.idx_int; have f2 := AutoSeq1.sub_tuple_tuple; have f3 := AutoSeq1.sub_list_list; have f4 := AutoSeq1.sub_tuple_list; have f5 := AutoSeq1.sub_list_tuple
    have hz : (xs ++ ys).size <= sizeLine + 1 := by rw [Array.size_append]; exact h2
    wp_walk using (wpAny_updateSeq hl rfl (hz := h1) (_hz' := hz)), wpAny_loadPart' hl, wpAny_loadPart' hb; exact ⟨_, rfl, h⟩
section
variable {X : Cx}
noncomputable def rExtA (K : Fg) : V -> List V -> Hp -> VK -> Prop := fun x vs H Q => ∃ l b xs zs, x = .ref l /\ vs = [.ref b] /\ H l = some (.lst xs) /\ (SqL K H b zs \/ SqT K H b zs) /\ xs.length + zs.length <= sizeLine /\ Q .non (upd H l (.lst (xs ++ zs)))
theorem mt_extA : MtR X "list.extend" (rExtA X.K) := by
  intro pins s σ H x vs v us Q I rx rv h
  obtain ⟨l, b, xs, zs, rfl, rfl, hH, hB, hz, q⟩ := h
  cases rx
  obtain ⟨u, rfl, ru⟩ := rv.one
  cases ru
  obtain ⟨z, its, n, r, hl, e⟩ := I.lstM hH
  have fin : ∀ (its2 : List Value), yU zs its2 -> ¬ (!its.toArray.isEmpty && Builtin.List.listTooLong (its.toArray.size + its2.toArray.size)) = true /\ its.toArray.size <= sizeLine /\ its.toArray.size + its2.toArray.size <= sizeLine + 1 /\
      EP X pins σ Q Value.none { s with heap := s.heap.update l (Obj.mapSeq fun x => x ++ its2.toArray), toks := s.toks } := fun its2 r2 => by
    have hl2 := r2.length
    have hsz : its.toArray.size + its2.toArray.size <= sizeLine := by rw [List.size_toArray, List.size_toArray]; lia
    refine ⟨by rw [notLongL hsz, Bool.and_false]; exact Bool.false_ne_true, by rw [List.size_toArray]; lia, by lia, .non, _, I.lset (its' := its ++ its2) hH e (by simp) (r.append r2) ?_, rfl, q⟩
    rw [List.length_append]; lia
  rcases hB with hB | hB
  · obtain ⟨its2, r2, ⟨⟨c2, d2, dt2, sl2⟩, n2, g2, hc, hd, hs⟩, z2⟩ := I.list hB
    simp only at hc hd hs
    subst hs
    obtain ⟨f1, f2, f3, f4⟩ := fin its2 r2
    exact call_meets F.slot_list_extend ⟨_, e, rfl⟩ F.entry_list_extend (F.args_list_extend_2 _ _) (extL l its.toArray n b _ _ its2.toArray n2 _ hc f1 f2 f3) ⟨e, g2, f4⟩
  · obtain ⟨its2, r2, ⟨⟨c2, d2, dt2, sl2⟩, g2, hc, n2, hs⟩, z2⟩ := I.tuple hB
    simp only at hc hs
    subst hs
    obtain ⟨f1, f2, f3, f4⟩ := fin its2 r2
    exact call_meets F.slot_list_extend ⟨_, e, rfl⟩ F.entry_list_extend (F.args_list_extend_2 _ _) (extT l its.toArray n b _ _ its2.toArray n2 _ hc f1 f2 f3) ⟨e, g2, f4⟩
variable {apos cpos pn : Pos} {e : Expr} {f : ME}
theorem dx_extend (i : Nat) {x : Str} (h : PE X (.Name x pn) (tVar i)) (he : DE X e f)
    (hline : (apos.endLine == cpos.line) = true := by rfl) (hbase : attributeBase (.Name x pn) "extend" X.env (eval (.Name x pn) X.env) = eval (.Name x pn) X.env := by rfl)
    (hfew : ((backTo cpos (starEach [e] X.env)).all (fun x => !x.1) && (backToKw cpos (keywordEach [] X.env)).all (fun x => x.1.isSome) && decide ([e].length + ([] : List Keyword).length + (if ([] : List Keyword).isEmpty then 0 else 1) < 30)) = true := by rfl)
    (hs : starEach [e] X.env = (false, eval e X.env) :: starEach [] X.env := by rfl) :
    DX X (.Call (.Attribute (.Name x pn) "extend" apos) [e] [] cpos) (mExt i f) := by
  refine PE.conseq (pe_bm PySem.F.plainAttrs_list PySem.F.slot_list_extend PySem.F.type_list_extend mt_extA h (xT he qR hs) hbase hfew hline hs) fun σ H Q hq => ?_
  obtain ⟨O0, r, d', r', hR, e, q⟩ := hq
  obtain ⟨d, e1, e⟩ := bind_some e
  obtain ⟨m, em, e⟩ := bind_some e
  obtain ⟨l, e2, e⟩ := bind_some e
  split at e
  · rename_i hl
    obtain ⟨r2, e3, e4⟩ := map_some e
    cases e4
    obtain ⟨a, xs, q1, q2, q3⟩ := mt_at hR e2
    refine ⟨.ref a, q1, .inl ⟨rfl, xs, SqL.of q2⟩, O0, r, d, hR, e1, fun v H1 s1 i1 => ?_⟩
    have R1 := hR.same s1
    have key : ∃ b zs, v = .ref b /\ (SqL X.K H1 b zs \/ SqT X.K H1 b zs) /\ IsL X.K (Ow O0 r σ) H1 m zs := by
      cases d <;> first | (cases em; done) | skip
      · cases em; rw [Is.tup_iff] at i1; obtain ⟨b, zs, rfl, h1, h2⟩ := i1; exact ⟨b, zs, rfl, .inr h1, h2⟩
      · cases em; rw [Is.lst_iff] at i1; obtain ⟨b, zs, rfl, h1, h2⟩ := i1; exact ⟨b, zs, rfl, .inl h1.sq, h2⟩
    obtain ⟨b, zs, rfl, hb, il⟩ := key
    obtain ⟨R2, k2⟩ := R1.upd (xs' := xs ++ zs) e3 q1 (s1 _ _ q2) ((q3.same s1 hR.ol).append il)
    exact ⟨a, b, xs, zs, rfl, rfl, s1 _ _ q2, hb, by rw [<- q3.length, <- il.length]; exact hl, q _ _ R2 ((Kp.of_same r σ s1).trans k2) (by rw [Is.non_iff])⟩
  · cases e
end
noncomputable def eqLV : List V -> List V -> Bool
  | [], [] => true
  | x :: xs, y :: ys => eqV x y && eqLV xs ys
  | _, _ => false
noncomputable def eqLF : List D -> List D -> Bool
  | [], [] => true
  | x :: xs, y :: ys => eqF x y && eqLF xs ys
  | _, _ => false
noncomputable def eqAtJ (xs ys : List V) (j : Nat) : Bool := match xs[j]?, ys[j]? with
  | some x, some y => eqV x y
  | _, _ => false
theorem range_eqJ : ∀ (xs ys : List V), xs.length = ys.length -> (List.range xs.length).all (eqAtJ xs ys) = eqLV xs ys
  | [], [], _ => rfl
  | x :: xs, y :: ys, h => by
    rw [List.length_cons, List.range_succ_eq_map, List.all_cons, List.all_map, eqLV, <- range_eqJ xs ys (by simpa using h)]
    rfl
  | [], y :: ys, h => by simp at h
  | x :: xs, [], h => by simp at h
theorem eqLV_len : ∀ (xs ys : List V), xs.length ≠ ys.length -> eqLV xs ys = false
  | [], [], h => by simp at h
  | x :: xs, y :: ys, h => by rw [eqLV, eqLV_len xs ys (by simpa using h), Bool.and_false]
  | [], y :: ys, h => rfl
  | x :: xs, [], h => rfl
theorem flatL_ok {K : Fg} {O : Addr -> Prop} {H : Hp} : ∀ {l : List D} {xs : List V}, IsL K O H l xs -> l.all qB = true -> xs.all flatV = true
  | [], xs, h, _ => by unfold IsL at h; subst h; rfl
  | d :: l, xs, h, f => by
    rw [List.all_cons, Bool.and_eq_true] at f
    unfold IsL at h; obtain ⟨v, r, rfl, h1, h2⟩ := h
    rw [List.all_cons, flat_ok h1 f.1, flatL_ok h2 f.2]; rfl
theorem eqLE_ok {K : Fg} {O : Addr -> Prop} {H : Hp} : ∀ {l m : List D} {xs ys : List V}, IsL K O H l xs -> IsL K O H m ys -> l.all qB = true -> m.all qB = true -> eqLV xs ys = eqLF l m
  | [], m, xs, ys, h, h', _, _ => by
    unfold IsL at h; subst h
    cases m with
    | nil => unfold IsL at h'; subst h'; rfl
    | cons e m => unfold IsL at h'; obtain ⟨v, r, rfl, _, _⟩ := h'; rfl
  | d :: l, m, xs, ys, h, h', f, f' => by
    unfold IsL at h; obtain ⟨v, r, rfl, h1, h2⟩ := h
    cases m with
    | nil => unfold IsL at h'; subst h'; rfl
    | cons e m =>
      rw [List.all_cons, Bool.and_eq_true] at f f'
      unfold IsL at h'; obtain ⟨v', r', rfl, h1', h2'⟩ := h'
      rw [eqLV, eqLF, eqLE_ok h2 h2' f.2 f'.2, eqF_ok h1 f.1 h1' f'.1]
theorem eqLF_ok {K : Fg} {O : Addr -> Prop} {H : Hp} : ∀ {l m : List D} {xs ys : List V}, IsL K O H l xs -> IsL K O H m ys -> l.all qB = true -> m.all qB = true -> xs.all flatV = true /\ ys.all flatV = true /\ eqLV xs ys = eqLF l m := fun h h' f f' => ⟨flatL_ok h f, flatL_ok h' f', eqLE_ok h h' f f'⟩
section
variable {X : Cx}
noncomputable def rEqL (K : Fg) (neg : Bool) : R2 := fun x y H Q => ∃ p q xs ys, x = .ref p /\ y = .ref q /\ SqL K H p xs /\ SqL K H q ys /\ xs.all flatV = true /\ ys.all flatV = true /\ Q (.bl (if neg then !eqLV xs ys else eqLV xs ys)) H
theorem all_get {xs : List V} {j : Nat} {x : V} (h : xs.all flatV = true) (e : xs[j]? = some x) : flatV x = true := List.all_eq_true.mp h x (List.mem_of_getElem? e)
theorem vals_at {xs : List V} {its : List Value} (r : yU xs its) {j : Nat} (h : j < its.toArray.size) : ∃ x, xs[j]? = some x /\ wU x its.toArray[j] := by
  have hj : j < xs.length := by rw [r.length]; simpa using h
  obtain ⟨u, e, q⟩ := r.get (i := j) (x := xs[j]) (by simp [hj])
  refine ⟨xs[j], by simp [hj], ?_⟩
  have : its.toArray[j] = u := by
    have h' : j < its.length := by simpa using h
    simp only [List.getElem_toArray]
    rw [List.getElem?_eq_getElem h'] at e
    exact Option.some.inj e
  rw [this]; exact q
theorem items_eq {A : Around} {s : Shared} {xs ys : List V} {its its2 : List Value} (r : yU xs its) (r2 : yU ys its2) (fx : xs.all flatV = true) (fy : ys.all flatV = true) : ∀ j (h1 : j < its.toArray.size) (h2 : j < its2.toArray.size), SeqAt.EqAt A s its.toArray[j] its2.toArray[j] (eqAtJ xs ys j) := by
  intro j h1 h2
  obtain ⟨x, e1, q1⟩ := vals_at r h1
  obtain ⟨y, e2, q2⟩ := vals_at r2 h2
  have : eqAtJ xs ys j = eqV x y := by unfold eqAtJ; rw [e1, e2]
  rw [this]
  exact eqAt_V q1 q2 (all_get fx e1) (all_get fy e2)
theorem op_eqL (hu : X.A.units < cLine) : OpR X (compareOp .Eq) (rEqL X.K false) := by
  intro pins s σ H x y v u Q I rx ry h
  obtain ⟨p, q', xs, ys, rfl, rfl, h1, h2, fx, fy, q⟩ := h
  cases rx; cases ry
  obtain ⟨its, r, pl, hz⟩ := I.list h1
  obtain ⟨its2, r2, pl2, hz2⟩ := I.list h2
  have n1 := r.length
  have n2 := r2.length
  by_cases hl : xs.length = ys.length
  · refine SeqAt.eq_listAt pl.isList pl2.isList (by simp only [List.size_toArray]; lia) hu (items_eq r r2 fx fy) (xR I q ?_)
    rw [List.size_toArray, <- n1, range_eqJ xs ys hl]; rfl
  · refine SeqAt.eq_list_lengthsAt pl.isList pl2.isList (by simp only [List.size_toArray, bne_iff_ne]; lia) hu (xR I q ?_)
    rw [eqLV_len xs ys hl]; rfl
theorem op_neL (hu : X.A.units < cLine) : OpR X (compareOp .NotEq) (rEqL X.K true) := by
  intro pins s σ H x y v u Q I rx ry h
  obtain ⟨p, q', xs, ys, rfl, rfl, h1, h2, fx, fy, q⟩ := h
  cases rx; cases ry
  obtain ⟨its, r, pl, hz⟩ := I.list h1
  obtain ⟨its2, r2, pl2, hz2⟩ := I.list h2
  have n1 := r.length
  have n2 := r2.length
  by_cases hl : xs.length = ys.length
  · refine SeqAt.RcNeAt.lists pl.isList pl2.isList (by simp only [List.size_toArray]; lia) hu (items_eq r r2 fx fy) _ _ _ _ (xR I q ?_)
    rw [List.size_toArray, <- n1, range_eqJ xs ys hl]; rfl
  · refine SeqAt.RcNeAt.lists_lengths pl.isList pl2.isList (by simp only [List.size_toArray, bne_iff_ne]; lia) hu _ _ _ _ (xR I q ?_)
    rw [eqLV_len xs ys hl]; rfl
noncomputable def eqA (x y : D) : Option D := match x, y with
  | .lst l, .lst m => if l.all qB = true /\ m.all qB = true then some (.bl (eqLF l m)) else none
  | x, y => eqD x y
noncomputable def neA (x y : D) : Option D := match x, y with
  | .lst l, .lst m => if l.all qB = true /\ m.all qB = true then some (.bl (!eqLF l m)) else none
  | x, y => neD x y
noncomputable def rEqA (K : Fg) : R2 := fun x y H Q => rEqL K false x y H Q \/ rEq x y H Q
noncomputable def rNeA (K : Fg) : R2 := fun x y H Q => rEqL K true x y H Q \/ rNe x y H Q
theorem op_eqA (hu : X.A.units < cLine) : OpR X (compareOp .Eq) (rEqA X.K) := (op_eqL hu).or op_eq
theorem op_neA (hu : X.A.units < cLine) : OpR X (compareOp .NotEq) (rNeA X.K) := (op_neL hu).or op_ne
theorem od_eqA {K : Fg} : OpD K (rEqA K) eqA := by
  intro O H dx dy d vx vy Q ol ix iy e q
  unfold eqA at e
  split at e
  · rename_i l m
    split at e
    · rename_i hf
      cases e
      rw [Is.lst_iff] at ix iy
      obtain ⟨a, xs, rfl, hs, il⟩ := ix
      obtain ⟨b, ys, rfl, hs', il'⟩ := iy
      obtain ⟨f1, f2, f3⟩ := eqLF_ok il il' hf.1 hf.2
      exact .inl ⟨a, b, xs, ys, rfl, rfl, hs.sq, hs'.sq, f1, f2, q _ H (zZ.refl H) (by rw [Is.bl_iff, f3]; rfl)⟩
    · cases e
  · exact .inr (od_eq O H dx dy d vx vy Q ol ix iy e q)
theorem od_neA {K : Fg} : OpD K (rNeA K) neA := by
  intro O H dx dy d vx vy Q ol ix iy e q
  unfold neA at e
  split at e
  · rename_i l m
    split at e
    · rename_i hf
      cases e
      rw [Is.lst_iff] at ix iy
      obtain ⟨a, xs, rfl, hs, il⟩ := ix
      obtain ⟨b, ys, rfl, hs', il'⟩ := iy
      obtain ⟨f1, f2, f3⟩ := eqLF_ok il il' hf.1 hf.2
      exact .inl ⟨a, b, xs, ys, rfl, rfl, hs.sq, hs'.sq, f1, f2, q _ H (zZ.refl H) (by rw [Is.bl_iff, f3]; rfl)⟩
    · cases e
  · exact .inr (od_ne O H dx dy d vx vy Q ol ix iy e q)
end
section
variable {X : Cx} {a b l tg : Expr} {f : ME} {pos p : Pos}
theorem di_k {fl : ML} (hl : DK X l fl) : DI X tg l fl := by
  refine PI.conseq (pi_seq hl) fun σ H Rr h => ?_
  obtain ⟨O0, r, ds, hR, e, q⟩ := h
  refine ⟨O0, r, ds, hR, e, fun u xs H1 s1 kp il => ?_⟩
  exact ⟨u, rfl, .inl ⟨⟨xs, kp H1 fun b o e _ => e⟩, q _ H1 s1 (yl_list (fun a z => .inr z.own) (hR.same s1).ol kp il)⟩⟩
end
section
variable {X : Cx} {a : Expr} {es : List Expr} {f : ME} {fs : ML} {i : Nat} {pos p pn : Pos}
noncomputable abbrev MZ := En -> Option (List D × List D)
noncomputable def zP (fs : ML) : MZ := fun r => (fs r).map fun es => ([], es)
noncomputable def lZ (K : Fg) (i : Nat) (f : MZ) : TA := fun σ H Q => ∃ O0 r l ds es, R K O0 H r σ /\ mtOf r i = some l /\ f r = some (ds, es) /\ ∀ vs a us H', zZ H H' -> σ[i]? = some (some (.ref a)) -> IsL K (Ow O0 r σ) H' ds vs -> IsL K (Ow O0 r σ) H' es us -> Q (vs ++ .ref a :: us) H'
noncomputable def DZ (X : Cx) (i : Nat) (es : List Expr) (f : MZ) : Prop := PA X es (lZ X.K i f)
theorem dz_p {x : Str} (h : PE X (.Name x pn) (tVar i)) (hr : DA X es fs) (hs : starEach (.Name x pn :: es) X.env = (false, eval (.Name x pn) X.env) :: starEach es X.env := by rfl) : DZ X i (.Name x pn :: es) (zP fs) := by
  refine PA.conseq (xT h hr hs) fun σ H Q hq => ?_
  obtain ⟨O0, r, l, ds, us, hR, em, e, q⟩ := hq
  obtain ⟨us', e1, e2⟩ := map_some e
  cases e2
  obtain ⟨c, xs, q1, q2, q3⟩ := mt_at hR em
  exact ⟨.ref c, q1, O0, r, _, hR, e1, fun vs H1 s1 i1 => q [] c vs H1 s1 q1 .nil i1⟩
noncomputable def zArgs (ds : List D) (l : List D) (es : List D) : List Sl := ds.map .v ++ .p l :: es.map .v
theorem zArgs_get {ds l es : List D} {j : Nat} {x : Sl} (e : (zArgs ds l es)[j]? = some x) : (∃ d, x = .v d /\ (ds ++ .non :: es)[j]? = some d /\ j ≠ ds.length) \/ (x = .p l /\ j = ds.length) := by
  unfold zArgs at e
  by_cases h : j < ds.length
  · rw [List.getElem?_append_left (by simpa using h), List.getElem?_map] at e
    rw [List.getElem?_append_left h]
    cases e1 : ds[j]? with
    | none => rw [e1] at e; cases e
    | some d => rw [e1] at e; cases e; exact .inl ⟨d, rfl, rfl, by lia⟩
  · rw [List.getElem?_append_right (by simpa using h)] at e
    rw [List.getElem?_append_right (by lia)]
    simp only [List.length_map] at e
    cases e2 : j - ds.length with
    | zero => rw [e2] at e; cases e; exact .inr ⟨rfl, by lia⟩
    | succ k =>
      rw [e2, List.getElem?_cons_succ, List.getElem?_map] at e
      rw [List.getElem?_cons_succ]
      cases e1 : es[k]? with
      | none => rw [e1] at e; cases e
      | some d => rw [e1] at e; cases e; exact .inl ⟨d, rfl, rfl, by lia⟩
theorem zArgs_own {ds l es m : List D} {j : Nat} {q : Sl -> Option (List D)} (hq : ∀ d, q (.v d) = none) (e : ((zArgs ds l es)[j]?).bind q = some m) : j = ds.length /\ q (.p l) = some m := by
  obtain ⟨x, e1, e2⟩ := bind_some e
  rcases zArgs_get e1 with ⟨d, rfl, _⟩ | ⟨rfl, h⟩
  · rw [hq] at e2; cases e2
  · exact ⟨h, e2⟩
theorem zVs_get {vs us : List V} {c : Addr} : (vs ++ V.ref c :: us)[vs.length]? = some (.ref c) := by rw [List.getElem?_append_right (Nat.le_refl _), Nat.sub_self]; rfl
theorem zIs_get {K : Fg} {O : Addr -> Prop} {H : Hp} {ds es : List D} {vs us : List V} {c : Addr} {j : Nat} {d : D} (h1 : IsL K O H ds vs) (h2 : IsL K O H es us) (e : (ds ++ .non :: es)[j]? = some d) (hj : j ≠ ds.length) : ∃ v, (vs ++ V.ref c :: us)[j]? = some v /\ Is K O H d v := by
  have hl := h1.length
  by_cases h : j < ds.length
  · rw [List.getElem?_append_left h] at e
    obtain ⟨v, e1, i1⟩ := h1.get e
    exact ⟨v, by rw [List.getElem?_append_left (by lia)]; exact e1, i1⟩
  · rw [List.getElem?_append_right (by lia)] at e
    rw [List.getElem?_append_right (by lia)]
    obtain ⟨k, hk⟩ : ∃ k, j - ds.length = k + 1 := ⟨j - ds.length - 1, by lia⟩
    rw [hk, List.getElem?_cons_succ] at e
    rw [<- hl, hk, List.getElem?_cons_succ]
    exact h2.get e
theorem R.zargs {K : Fg} {O : Addr -> Prop} {H : Hp} {ds l es : List D} {vs us xs : List V} {c : Addr} (ol : OLst O H) (hc : O c) (ec : H c = some (.lst xs)) (il : IsL K O H l xs) (h1 : IsL K O H ds vs) (h2 : IsL K O H es us) : R K O H (zArgs ds l es) ((vs ++ V.ref c :: us).map some) := by
  have hl := h1.length
  have hl2 := h2.length
  have ow : ∀ b, Ow O (zArgs ds l es) ((vs ++ V.ref c :: us).map some) b -> H b ≠ none -> O b := fun b z _ => z.elim id fun ⟨j, m, ej, qj⟩ => by
    obtain ⟨rfl, _⟩ := zArgs_own (fun _ => rfl) ej
    rw [List.getElem?_map, hl, zVs_get] at qj
    cases qj; exact hc
  refine ⟨by simp [zArgs, hl, hl2], fun j d e => ?_, fun j m e => ?_, fun j k b m m' e1 e2 q1 q2 => ?_, ol, fun j m b e q => ?_, fun j m b e q => ?_, fun j ks m e => ?_⟩
  · rcases zArgs_get e with ⟨d', e', e2, e3⟩ | ⟨e', _⟩
    · cases e'
      obtain ⟨v, e4, i4⟩ := zIs_get (c := c) h1 h2 e2 e3
      exact ⟨v, by rw [List.getElem?_map, e4]; rfl, Is.mono (zZ.kp (zZ.refl H) _) ol ow _ _ i4⟩
    · cases e'
  · obtain ⟨rfl, e2⟩ := zArgs_own (fun _ => rfl) e
    cases e2
    exact ⟨c, xs, by rw [List.getElem?_map, hl, zVs_get]; rfl, ec, IsL.mono (zZ.kp (zZ.refl H) _) ol ow _ _ il⟩
  · rw [(zArgs_own (fun _ => rfl) e1).1, (zArgs_own (fun _ => rfl) e2).1]
  · exfalso
    rcases e with e | e | ⟨_, e⟩ <;> rcases zArgs_get e with ⟨d', e', _⟩ | ⟨e', _⟩ <;> cases e'
  · obtain ⟨rfl, _⟩ := zArgs_own (q := Sl.own) (fun _ => rfl) (m := m) (by rw [e]; rfl)
    rw [List.getElem?_map, hl, zVs_get] at q
    cases q; exact hc
  · rcases zArgs_get e with ⟨d', e', _⟩ | ⟨e', _⟩ <;> cases e'
noncomputable def mCallX (n : Nat) (m : MF) (i : Nat) (z : MZ) : En -> Option (D × En) := fun r => (mtOf r i).bind fun l => (z r).bind fun q => if q.1.length + 1 + q.2.length = n then (m (zArgs q.1 l q.2)).bind fun p => match p.1 with
  | .v d => match p.2[q.1.length]? with
    | some (.p l') => (putO i l' r).map fun r' => (d, r')
    | _ => none
  | _ => none
  else none
theorem own_put {r r' : En} {σ : St} {l' : List D} {b : Addr} (e : putO i l' r = some r') (h : OwnAt r' σ b) : OwnAt r σ b := by
  obtain ⟨x, y, ex, rfl, yo, ym, ⟨l0, xm⟩, _⟩ := putO_some e
  obtain ⟨j, m, ej, qj⟩ := h
  by_cases hj : j = i
  · subst hj; exact ⟨j, l0, by rw [ex]; exact mt_own xm, qj⟩
  · rw [zN (fun z => hj z.symm)] at ej; exact ⟨j, m, ej, qj⟩
theorem dx_call {k n : Nat} {fa : Addr} {fd : FuncData} {ps : List Str} {m : MF} {x : Str} {z : MZ} (F : FnOk X.prog X.w X.K X.mg X.base CX0 k fa fd ps (spD X.K n m)) (hr : Room k X.A) (hg : Gl X x) (hm : X.mg x = some (.ref fa)) (hk : PySem.W.keepIn X.K (.ref fa) = true) (hb : Binds X.K fd ps []) (ha : DZ X i (a :: es) z)
    (hdb : (x == ("__debug__" : Str)) = false := by decide) (he : starEach (a :: es) X.env = (false, eval a X.env) :: starEach es X.env := by rfl) (hpl : (backTo pos (starEach es X.env)).any (·.1) = false := by rfl) :
    DX X (.Call (.Name x p) (a :: es) [] pos) (mCallX n m i z) := by
  refine PE.conseq (pe_call (E := fun _ _ _ => False) (dvs := []) F hr hg hm hk hb .nil pass0 ha hdb he hpl) fun σ H Q hq => ?_
  obtain ⟨O0, r, d, r', hR, e, q⟩ := hq
  obtain ⟨l, e1, e⟩ := bind_some e
  obtain ⟨⟨ds, us⟩, e2, e⟩ := bind_some e
  split at e
  · rename_i hn
    obtain ⟨⟨rs, as'⟩, e3, e⟩ := bind_some e
    refine ⟨O0, r, l, ds, us, hR, e1, e2, fun vs c ws H1 s1 hc i1 i2 => ?_⟩
    show spD X.K n m ((vs ++ .ref c :: ws) ++ []) H1 Q _
    rw [List.append_nil]
    have R1 := hR.same s1
    obtain ⟨c', xs, p1, p2, p3⟩ := mt_at R1 e1
    rw [hc] at p1; cases p1
    have hoc : Ow O0 r σ c := by
      obtain ⟨y, z1, z2⟩ := bind_some e1
      exact .inr ⟨i, l, by rw [z1]; exact mt_own (ml_mt z2).1, hc⟩
    refine ⟨Ow O0 r σ, zArgs ds l us, rs, as', by simp [zArgs]; simp only at hn; lia, R.zargs R1.ol hoc p2 p3 i1 i2, fun j m' => ⟨fun e => ?_, fun e => ?_, fun _ e => ?_⟩, e3, ?_⟩
    · rcases zArgs_get e with ⟨d', e', _⟩ | ⟨e', _⟩ <;> cases e'
    · rcases zArgs_get e with ⟨d', e', _⟩ | ⟨e', _⟩ <;> cases e'
    · rcases zArgs_get e with ⟨d', e', _⟩ | ⟨e', _⟩ <;> cases e'
    · cases rs with
      | f l => cases e
      | g ks l => cases e
      | v d' =>
        simp only at e
        split at e
        · rename_i l' ek
          obtain ⟨r2, e5, e6⟩ := map_some e
          have hd1 : d' = d := congrArg Prod.fst e6
          have hr1 : r2 = r' := congrArg Prod.snd e6
          subst hd1 hr1
          refine fun v H2 pf iv => ?_
          have hkk : (zArgs ds l us)[ds.length]? = some (.p l) := by unfold zArgs; rw [List.getElem?_append_right (by simp)]; simp
          obtain ⟨l2, c2, xs2, f1, f2, f3, f4⟩ := pf.par ds.length l hkk
          rw [ek] at f1; cases f1
          rw [i1.length, zVs_get] at f2; cases f2
          have mutc : ∀ b, MutAt (zArgs ds l us) ((vs ++ V.ref c :: ws).map some) b -> b = c := fun b ⟨j, m', ej, qj⟩ => by
            obtain ⟨rfl, _⟩ := zArgs_own (fun _ => rfl) ej
            rw [List.getElem?_map, i1.length, zVs_get] at qj
            cases qj; rfl
          obtain ⟨R2, k2⟩ := R1.put e5 hc (fun b o hb eb => pf.keep b o eb fun z => hb (mutc b z)) (fun b hb eb => pf.live b eb) f3 f4
          exact q v H2 R2 ((Kp.of_same r σ s1).trans k2) (Is.mono (zZ.kp (zZ.refl H2) _) (fun b zb => zb.elim (R2.o0 b) fun zb => by
            obtain ⟨ys, ey, mb⟩ := R1.ol b (.inr zb); exact pf.lst b ys ey mb) (fun b zb _ => zb.imp id (own_put e5)) _ _ iv)
        · cases e
  · cases e
end
section
variable {es : List Expr} {env : Env} {p : Pos}
theorem yS {c k} : starEach (.Constant c k p :: es) env = (false, eval (.Constant c k p) env) :: starEach es env := rfl
theorem zQ {x} : starEach (.Name x p :: es) env = (false, eval (.Name x p) env) :: starEach es env := rfl
theorem stTuple {l k} : starEach (.Tuple l k p :: es) env = (false, eval (.Tuple l k p) env) :: starEach es env := rfl
theorem qC {f l k} : starEach (.Call f l k p :: es) env = (false, eval (.Call f l k p) env) :: starEach es env := rfl
theorem stList {l} : starEach (.List l p :: es) env = (false, eval (.List l p) env) :: starEach es env := rfl
theorem xG {a b} : starEach (.Subscript a b p :: es) env = (false, eval (.Subscript a b p) env) :: starEach es env := rfl
theorem wN {a o b} : starEach (.BinOp a o b p :: es) env = (false, eval (.BinOp a o b p) env) :: starEach es env := rfl
end
noncomputable def litS : List Expr -> Option (List (List Nat))
  | [] => some []
  | .Constant (.str x) _ _ :: es => (litS es).map (x.cps.toList :: ·)
  | _ => none
noncomputable def mLit (ss : List (List Nat)) : ML := fun _ => some (ss.map D.str)
theorem da_strs {X : Cx} : ∀ {es : List Expr} {ss : List (List Nat)}, litS es = some ss -> DA X es (mLit ss)
  | [], ss, h => by
    cases h; exact zK
  | e :: es, ss, h => by
    cases e <;> first | (simp only [litS, reduceCtorEq] at h; done) | skip
    rename_i c j p
    cases c <;> first | (simp only [litS, reduceCtorEq] at h; done) | skip
    rename_i x
    simp only [litS] at h
    obtain ⟨ss', e1, rfl⟩ := map_some h
    exact zD (f := mC (.str x.cps.toList)) (fs := mLit ss') (yN rfl) (da_strs e1) (hs := yS)
section
variable {X : Cx} {pos : Pos} {a b tg : Expr} {f g : ME}
noncomputable def sNever : MS := fun _ => none
theorem ds_never {st : Stmt} : DS X st sNever := fun _ _ _ _ _ _ q => by
  obtain ⟨O0, r, fl, hR, e, q⟩ := q
  cases e
noncomputable def Its (x : Str) : It := ⟨fun i _ => i < x.cps.size, fun i H v H' => H' = H /\ ∃ c, x.cps[i]? = some c /\ v = .str ⟨#[c]⟩, fun i _ => x.cps.size <= i⟩
theorem turn_str {P : Program} {w : World} {K : Fg} (x : Str) (t : Tok) (it : Addr) : Turn P w K tg (Its x) [it] it (fun i h => h.IsStrIter it (strIterType x) x t i) where
  mem := by simp
  obj := fun i h st b hb => by
    obtain rfl : b = it := by simpa using hb
    obtain ⟨o, e, c, d⟩ := st
    exact ⟨o, e, fun v z => by rw [d] at z; cases z⟩
  keep := fun i h h' st k => by
    obtain ⟨o, e, c, d⟩ := st
    exact ⟨o, k it (by simp) o e, c, d⟩
  item := by
    intro X hP hw hK hc i pins s σ H E I hf st hg
    subst hP hw hK
    obtain ⟨f0, f1, f2, f3, f4, f5⟩ := hf it (by simp)
    have hg : i < x.cps.size := hg
    have hx : x.cps[i]? = some (x.cps[i]'hg) := Array.getElem?_eq_getElem hg
    have fin : ∀ h', h'.IsStrIter it (strIterType x) x t (i + 1) -> Heap.SameBut it s.heap h' -> ∃ u, some (Value.str ⟨#[x.cps[i]'hg]⟩ s.toks) = some u /\
        wpAny (model X.prog X.w) X.A (letOwnedTupleGo tg (.ref it) u) (fun _ s2 => ∃ x' H', Inv X pins σ H' s2 /\ wU x' u /\ (Its x).yld i H x' H' /\ s2.heap.IsStrIter it (strIterType x) x t (i + 1) /\ ∀ b ∈ [it], H' b = none) E { s with heap := h', toks := s.toks + 1 } := fun h' st' sb => by
      have I1 : Inv X pins σ H { s with heap := h', toks := s.toks + 1 } := I.turned (t' := s.toks + 1) (fun b o hb e => (sb.2 b hb).trans e) f0 f1 f3 f4 f5
      obtain ⟨o, e, c, d⟩ := id st'
      refine ⟨_, rfl, go_of (s := { s with heap := h', toks := s.toks + 1 }) e c d ?_ ⟨.str ⟨#[x.cps[i]'hg]⟩, H, I1, ⟨_, rfl⟩, ⟨rfl, _, hx, rfl⟩, st', fun b hb => (hf b hb).1⟩⟩
      unfold strIterType
      split <;> decide
    rcases ha : x.cps.all (· < 128) with _ | _
    · have ht : strIterType x = "str_iterator" := by unfold strIterType; rw [ha]; rfl
      rw [ht] at st
      exact wpAny_pyNext_wide_item st hx fun h' st' sb => fin h' (by rw [ht]; exact st') sb
    · have ht : strIterType x = "str_ascii_iterator" := by unfold strIterType; rw [ha]; rfl
      rw [ht] at st
      exact wpAny_pyNext_ascii_item st hx fun h' st' sb => fin h' (by rw [ht]; exact st') sb
  done := by
    intro X hP hw hK hc i pins s σ H E I hf st hg
    subst hP hw hK
    obtain ⟨f0, f1, f2, f3, f4, f5⟩ := hf it (by simp)
    have hx : x.cps[i]? = none := by
      have : x.cps.size <= i := hg
      simp [this]
    rcases ha : x.cps.all (· < 128) with _ | _
    · have ht : strIterType x = "str_iterator" := by unfold strIterType; rw [ha]; rfl
      rw [ht] at st
      exact wpAny_pyNext_wide_end (I.ok.hd hc) st hx fun h' eb => ⟨rfl, I.turned (t' := s.toks) (fun b o hb e => eb b o hb e) f0 f1 f3 f4 f5⟩
    · have ht : strIterType x = "str_ascii_iterator" := by unfold strIterType; rw [ha]; rfl
      rw [ht] at st
      exact wpAny_pyNext_ascii_end (I.ok.hd hc) st hx fun h' eb => ⟨rfl, I.turned (t' := s.toks) (fun b o hb e => eb b o hb e) f0 f1 f3 f4 f5⟩
  self := fun A i s Q E st h => by
    rcases ha : x.cps.all (· < 128) with _ | _
    · have ht : strIterType x = "str_iterator" := by unfold strIterType; rw [ha]; rfl
      rw [ht] at st
      exact wpAny_pyIter_striter_wide st h
    · have ht : strIterType x = "str_ascii_iterator" := by unfold strIterType; rw [ha]; rfl
      rw [ht] at st
      exact wpAny_pyIter_striter_ascii st h
noncomputable def signsD : D -> Option (List D)
  | .str s => some (s.map fun c => .str [c])
  | _ => none
noncomputable def mItS (f : ME) : ML := fun r => (f r).bind signsD
theorem yl_str {K : Fg} {O M : Addr -> Prop} {H : Hp} (s : List Nat) : Ylds K O M H (Its ⟨s.toArray⟩) (s.map fun c => .str [c]) := by
  intro i H1 O' kp oo
  refine ⟨fun hi => ⟨by rw [List.length_map] at hi; show i < s.toArray.size; simpa using hi, fun x H' y => ?_⟩, fun hi => by rw [List.length_map] at hi; show s.toArray.size <= i; simp; lia⟩
  obtain ⟨rfl, c, ec, rfl⟩ := y
  refine ⟨zZ.refl _, fun d e => ?_⟩
  rw [List.getElem?_map] at e
  have ec' : s[i]? = some c := by simpa using ec
  rw [ec'] at e
  cases e
  rw [Is.str_iff]
theorem di_str (hl : DE X a f) : DI X tg a (mItS f) := by
  intro pins s σ H Rr I h
  obtain ⟨O0, r, ds, hR, e, q⟩ := h
  obtain ⟨d, e1, e2⟩ := bind_some e
  cases d <;> first | (cases e2; done) | skip
  rename_i y
  cases e2
  refine thn (hl pins s σ H (fun v H1 => zZ H H1 /\ v = .str ⟨y.toArray⟩) I ⟨O0, r, _, hR, e1, fun v H1 s1 i1 => ⟨s1, by rw [Is.str_iff] at i1; exact i1⟩⟩) fun v s1 ⟨x, H1, I1, r1, s1', ex⟩ => ?_
  subst ex
  obtain ⟨t, rfl⟩ := r1
  refine wpAny_pyIter_strU ?_
  refine ⟨s1.heap.objs.size, [s1.heap.objs.size], _, _, H1, rfl, I1.kept (t' := s1.toks) fun b o e => Heap.get?_push_of_some _ e, turn_str _ t _, ⟨_, Heap.get?_push_size _ rfl, rfl, rfl⟩, fun b hb => ?_, q _ H1 s1' (yl_str y)⟩
  obtain rfl : b = s1.heap.objs.size := by simpa using hb
  exact I1.fpOk (Nat.le_refl _) (I1.hok.fresh (Nat.le_refl _))
noncomputable def blsD : List D -> Option (List Bool)
  | [] => some []
  | .bl i :: r => (blsD r).map (i :: ·)
  | _ => none
noncomputable def mAll (fl : ML) : ME := fun r => (fl r).bind fun l => (blsD l).map fun bs => .bl (bs.all id)
theorem blsD_ok {K : Fg} {O : Addr -> Prop} {H : Hp} : ∀ {l : List D} {ns : List Bool} {vs : List V}, blsD l = some ns -> IsL K O H l vs -> vs = ns.map V.bl
  | [], ns, vs, e, il => by cases e; unfold IsL at il; subst il; rfl
  | d :: l, ns, vs, e, il => by
    unfold IsL at il
    obtain ⟨v, r, rfl, i1, i2⟩ := il
    cases d <;> first | (simp only [blsD, reduceCtorEq] at e; done) | skip
    simp only [blsD] at e
    obtain ⟨ms, e1, rfl⟩ := map_some e
    rw [Is.bl_iff] at i1
    rw [i1, blsD_ok e1 i2]; rfl
theorem call_allB (hc : X.calm = true) : CallR X (.builtin "all") (fun xs H Q => ∃ (p : Addr) (bs : List Bool), xs = [.ref p] /\ SqL X.K H p (bs.map V.bl) /\ Q (.bl (bs.all id)) H) := by
  intro pins s σ H xs us Q I r hq
  obtain ⟨p, bs, rfl, hS, q⟩ := hq
  obtain ⟨u, rfl, ru⟩ := yU.one r
  cases ru
  obtain ⟨its, rv, pl, hz⟩ := I.list hS
  have hl := pl.isList
  have hlt : p < s.heap.objs.size := by obtain ⟨_, e, _⟩ := hl; exact Heap.lt_size e
  have ln : its.length = bs.length := by have := rv.length; rw [List.length_map] at this; exact this.symm
  refine call_all_walk (wpAny_pyIter_list hl ?_); refine ⟨s.heap.objs.size, [s.heap.objs.size, p], [s.heap.objs.size], its.toArray.size, _, _, fun i => (bs[i]?).getD true, rfl, Walks.list (A := X.A.in1) (I.ok.hd hc) _ p (Nat.ne_of_lt hlt) its.toArray, ⟨⟨_, Heap.get?_push_size _ rfl, rfl, rfl⟩, hl.push _⟩, fun i v s' Q' E' hP hQ => ?_, fun h' tk hk => ?_⟩
  · have hv : its[i]? = some v := by simpa using hP
    have hi : i < bs.length := by have := (List.getElem?_eq_some_iff.mp hv).1; lia
    have e : bs[i]? = some (bs[i]'hi) := List.getElem?_eq_getElem hi
    obtain ⟨w', e1, e2⟩ := rv.get (i := i) (x := .bl (bs[i]'hi)) (by rw [List.getElem?_map, e]; rfl)
    rw [hv] at e1
    cases e1
    obtain rfl : v = .bool (bs[i]'hi) := e2
    simp only [Option.getD_some, e] at hQ
    exact wpAny_truthy_bool hQ
  · have e : ((List.range its.toArray.size).all fun i => (bs[i]?).getD true) = bs.all id := by
      rw [List.size_toArray, ln]; exact LSm.range_all bs
    rw [e]
    exact ⟨.bl _, H, I.kept (LSm.kept_iter hk), rfl, q⟩
theorem de_all {p' : Pos} {fl : ML} (hg : Gl X "all") (hm : X.mg "all" = none) (ha : DB X a fl) (hc : X.calm = true := by rfl)
    (hs : starEach [a] X.env = (false, eval a X.env) :: starEach [] X.env := by rfl) : DE X (.Call (.Name "all" p') [a] [] pos) (mAll fl) := by
  refine PE.conseq (pe_callB (call_allB hc) hg hm PyProof.Rows.boot_all (xT ha qR hs) (he := hs)) fun σ H Q hq => ?_
  obtain ⟨O0, r, d, hR, e, q⟩ := hq
  obtain ⟨l, e1, e2⟩ := bind_some e
  obtain ⟨bs, e3, rfl⟩ := map_some e2
  refine ⟨O0, r, l, hR, e1, fun p xs H1 s1 sq il => ?_⟩
  have ex := blsD_ok e3 il
  subst ex
  exact ⟨p, bs, rfl, sq, q _ H1 s1 (by rw [Is.bl_iff])⟩
noncomputable def intOfD : D -> Option D
  | .str s => if s ≠ [] /\ s.length <= 600 /\ (s.all fun c => decide (48 <= c) && decide (c <= 57)) = true then some (.int (PySem.NumText.digitsVal s : Nat)) else none
  | _ => none
theorem call_intS : CallR X (.type "int") (fun xs H Q => ∃ s : List Nat, xs = [.str ⟨s.toArray⟩] /\ s ≠ [] /\ s.length <= 600 /\ (s.all fun c => decide (48 <= c) && decide (c <= 57)) = true /\ Q (.int (PySem.NumText.digitsVal s : Nat)) H) := by
  intro pins s σ H xs us Q I r hq
  obtain ⟨y, rfl, y0, y1, y2, q⟩ := hq
  obtain ⟨u, rfl, t, rfl⟩ := yU.one r
  have hd : PySem.NumText.AllDigits y := fun c hc => by
    have := List.all_eq_true.mp y2 c hc
    simpa using this
  refine PySem.W.KIN.call_text (n := (PySem.NumText.digitsVal y : Nat)) ?_ ?_ ⟨.int _, H, I.tok _, ⟨_, rfl⟩, q⟩
  · have := PySem.intText_digits (x := ⟨y.toArray⟩) (by simpa using hd) (by simpa using y0) (by rw [qF]; lia)
    simpa using this
  · rw [qF]; lia
theorem de_intOf {p' : Pos} (hg : Gl X "int") (hm : X.mg "int" = none) (ha : DE X a f) (hs : starEach [a] X.env = (false, eval a X.env) :: starEach [] X.env := by rfl) : DE X (.Call (.Name "int" p') [a] [] pos) (mUn intOfD f) := by
  refine PE.conseq (pe_callTy call_intS hg hm PyProof.Rows.boot_int (xT ha qR hs) (he := hs)) fun σ H Q hq => ?_
  obtain ⟨O0, r, d, hR, e, q⟩ := hq
  obtain ⟨x, e1, e2⟩ := bind_some e
  refine ⟨O0, r, x, hR, e1, fun v H1 s1 i1 => ?_⟩
  cases x <;> first | (simp only [intOfD, reduceCtorEq] at e2; done) | skip
  simp only [intOfD] at e2
  split at e2
  · rename_i hl
    cases e2
    rw [Is.str_iff] at i1
    exact ⟨_, by rw [i1], hl.1, hl.2.1, hl.2.2, q _ H1 s1 (by rw [Is.int_iff])⟩
  · cases e2
theorem de_gint {x : Str} {i : Int} (h : ∃ t, X.mg x = some (.int i t)) (hg : Gl X x) (hd : (x == ("__debug__" : Str)) = false := by decide) : DE X (.Name x pos) (mC (.int i)) := by
  obtain ⟨t, h⟩ := h
  exact de_con (pe_glob (v := .int i) hg h ⟨t, rfl⟩ hd) fun O H => by rw [Is.int_iff]
noncomputable def GTup (mg : Str -> Option Value) (K : Fg) (x : Str) (ss : List (List Nat)) : Prop := ∃ (p : Addr) (o : Obj) (its : Array Value) (n : Nat), mg x = some (.ref p) /\ K.lookup p = some o /\ o.cls = .type "tuple" /\ o.data = .seq its n /\ its.size <= sizeLine /\ yU (ss.map fun s => V.str ⟨s.toArray⟩) its.toList
theorem isl_strs {K : Fg} {O : Addr -> Prop} {H : Hp} : ∀ ss : List (List Nat), IsL K O H (ss.map D.str) (ss.map fun s => V.str ⟨s.toArray⟩)
  | [] => IsL.nil
  | s :: ss => .cons (by rw [Is.str_iff]) (isl_strs ss)
theorem de_gtup {x : Str} {ss : List (List Nat)} (h : GTup X.mg X.K x ss) (hg : Gl X x) (hd : (x == ("__debug__" : Str)) = false := by decide) : DE X (.Name x pos) (mC (.tup (ss.map D.str))) := by
  obtain ⟨p, o, its, n, h1, h2, h3, h4, h5, h6⟩ := h
  refine de_con (pe_glob (v := .ref p) hg h1 rfl hd) fun O H => ?_
  rw [Is.tup_iff]
  exact ⟨p, _, rfl, .inr ⟨o, its, n, h2, h3, h4, h5, h6⟩, isl_strs ss⟩
noncomputable def Ent (e : DictEntry) (q : List Nat × List Nat) : Prop := ∃ t u, e.key = .str ⟨q.1.toArray⟩ t /\ e.val = .str ⟨q.2.toArray⟩ u
noncomputable def Ents : List DictEntry -> List (List Nat × List Nat) -> Prop
  | [], l => l = []
  | e :: es, l => ∃ q r, l = q :: r /\ Ent e q /\ Ents es r
noncomputable def GDict (mg : Str -> Option Value) (K : Fg) (Ps : Params) (x : Str) (tbl : List (List Nat × List Nat)) : Prop := ∃ (p : Addr) (es : Array DictEntry) (n : Nat), mg x = some (.ref p) /\ (p == sysModules) = false /\ K.lookup p = some ⟨.type "dict", none, .dict es n, #[]⟩ /\ PySem.W.KeysLit Ps es.toList /\ Ents es.toList tbl
noncomputable def look (tbl : List (List Nat × List Nat)) (s : List Nat) : Option (List Nat) := (tbl.find? fun q => decide (q.1 = s)).map (·.2)
theorem ents_find : ∀ {es : List DictEntry} {tbl : List (List Nat × List Nat)} (s : List Nat), Ents es tbl -> match look tbl s with
    | some v => ∃ u, (es.find? fun d => Value.isStrOf ⟨s.toArray⟩ d.key).map (·.val) = some (.str ⟨v.toArray⟩ u)
    | none => (es.find? fun d => Value.isStrOf ⟨s.toArray⟩ d.key).map (·.val) = none
  | [], tbl, s, h => by unfold Ents at h; subst h; rfl
  | e :: es, tbl, s, h => by
    unfold Ents at h
    obtain ⟨q, r, rfl, ⟨t, u, h1, h2⟩, h3⟩ := h
    have ih := ents_find s h3
    have k : Value.isStrOf (⟨s.toArray⟩ : Str) e.key = decide (q.1 = s) := by
      rw [h1]
      show ((⟨q.1.toArray⟩ : Str) == ⟨s.toArray⟩) = _
      by_cases c : q.1 = s
      · rw [decide_eq_true c, c]; simp
      · rw [decide_eq_false c]
        refine beq_eq_false_iff_ne.mpr fun z => c ?_
        have z2 := congrArg (fun x : Str => x.cps.toList) z
        simpa using z2
    unfold look at ih ⊢
    rw [List.find?_cons, List.find?_cons, k]
    cases hc : decide (q.1 = s)
    · exact ih
    · exact ⟨u, by rw [Option.map_some, h2]⟩
theorem gd_map {Ps : Params} {x : Str} {tbl : List (List Nat × List Nat)} {pins : List (Addr × Obj)} {σ : St} {H : Hp} {s : Shared} {p : Addr} {es : Array DictEntry} {n : Nat} (I : Inv X pins σ H s) (hl : X.K.lookup p = some ⟨.type "dict", none, .dict es n, #[]⟩) (hk : PySem.W.KeysLit X.w.params es.toList) : s.heap.MapOf (strKind X.prog X.w) p (fun k => findBy Value.isStrOf es k) := PySem.W.mapOf_K (I.mod.kin.keeps I.bk) hl hk
noncomputable def rHas (p : Addr) (tbl : List (List Nat × List Nat)) (neg : Bool) : R2 := fun x y H Q => ∃ s : List Nat, x = .str ⟨s.toArray⟩ /\ y = .ref p /\ Q (.bl (if neg then !(look tbl s).isSome else (look tbl s).isSome)) H
theorem find_toArr (es : Array DictEntry) (k : Str) : findBy Value.isStrOf es k = (es.toList.find? fun d => Value.isStrOf k d.key).map (·.val) := by
  obtain ⟨l⟩ := es
  unfold findBy
  rw [List.find?_toArray]
theorem has_look {es : Array DictEntry} {tbl : List (List Nat × List Nat)} (s : List Nat) (h : Ents es.toList tbl) : (findBy Value.isStrOf es ⟨s.toArray⟩).isSome = (look tbl s).isSome := by
  have q := ents_find s h
  rw [find_toArr]
  cases e : look tbl s with
  | none => rw [e] at q; rw [q]; rfl
  | some v => rw [e] at q; obtain ⟨u, q⟩ := q; rw [q]; rfl
theorem op_notHas {p : Addr} {tbl : List (List Nat × List Nat)} {es : Array DictEntry} {n : Nat} (hp : (p == sysModules) = false) (hl : X.K.lookup p = some ⟨.type "dict", none, .dict es n, #[]⟩) (hk : PySem.W.KeysLit X.w.params es.toList) (he : Ents es.toList tbl) : OpR X (compareOp .NotIn) (rHas p tbl true) := by
  intro pins s σ H x y v u Q I rx ry h
  obtain ⟨z, rfl, rfl, q⟩ := h
  obtain ⟨t, rfl⟩ := rx
  cases ry
  refine wpAny_notIn_of (strKind_is _ _ _ t) hp (gd_map (tbl := tbl) (Ps := X.w.params) (x := "") I hl hk) ⟨.bl _, H, I.tok _, rfl, ?_⟩
  simp only [has_look z he]
  exact q
noncomputable def hasT (tbl : List (List Nat × List Nat)) (neg : Bool) : D -> Option D
  | .str s => some (.bl (if neg then !(look tbl s).isSome else (look tbl s).isSome))
  | _ => none
noncomputable def hasB (p : Addr) (tbl : List (List Nat × List Nat)) (neg : Bool) (x y : D) : Option D := match y with
  | .ref b => if b = p then hasT tbl neg x else none
  | _ => none
theorem od_has (p : Addr) (tbl : List (List Nat × List Nat)) (neg : Bool) : OpD X.K (rHas p tbl neg) (hasB p tbl neg) := by
  intro O H dx dy d vx vy Q ol ix iy e q
  cases dy <;> first | (simp only [hasB, reduceCtorEq] at e; done) | skip
  simp only [hasB] at e
  split at e
  · rename_i hb
    subst hb
    cases dx <;> first | (simp only [hasT, reduceCtorEq] at e; done) | skip
    simp only [hasT, Option.some.injEq] at e
    subst e
    rw [Is.str_iff] at ix
    rw [Is.ref_iff] at iy
    exact ⟨_, ix, iy, q _ H (zZ.refl H) (by rw [Is.bl_iff])⟩
  · cases e
theorem de_gref {x : Str} {p : Addr} (h : X.mg x = some (.ref p)) (hg : Gl X x) (hd : (x == ("__debug__" : Str)) = false := by decide) : DE X (.Name x pos) (mC (.ref p)) :=
  de_con (pe_glob (v := .ref p) hg h rfl hd) fun O H => by rw [Is.ref_iff]
theorem mB_has {p : Addr} {tbl : List (List Nat × List Nat)} {neg : Bool} : zF (hasB p tbl neg) f (mC (.ref p)) = mUn (hasT tbl neg) f := by
  funext r
  unfold zF mUn mC
  cases f r with
  | none => rfl
  | some x => exact if_pos rfl
theorem dt_notHas {x : Str} {tbl : List (List Nat × List Nat)} {p' : Pos} (h : GDict X.mg X.K X.w.params x tbl) (hg : Gl X x) (ha : DE X a f) (hm : behindInMarks .NotIn (.Name x p') = false := by rfl) (hd : (x == ("__debug__" : Str)) = false := by decide) : DT X (.Compare a [.NotIn] [.Name x p'] pos) (mBl (mUn (hasT tbl true) f)) := by
  obtain ⟨p, es, n, h1, h2, h3, h4, h5⟩ := h
  rw [<- mB_has (p := p)]
  exact yX (op_notHas h2 h3 h4 h5) (od_has p tbl true) ha (de_gref h1 hg hd) hm
noncomputable def rAt (p : Addr) (tbl : List (List Nat × List Nat)) : R2 := fun x y H Q => ∃ s v : List Nat, x = .ref p /\ y = .str ⟨s.toArray⟩ /\ look tbl s = some v /\ Q (.str ⟨v.toArray⟩) H
theorem ix_gd {p : Addr} {tbl : List (List Nat × List Nat)} {es : Array DictEntry} {n : Nat} (hl : X.K.lookup p = some ⟨.type "dict", none, .dict es n, #[]⟩) (hk : PySem.W.KeysLit X.w.params es.toList) (he : Ents es.toList tbl) : IxR X (rAt p tbl) := by
  intro value slice pins s σ H x y v u Q I rx ry h hs
  obtain ⟨z, c, rfl, rfl, e, q⟩ := h
  cases rx
  obtain ⟨t, rfl⟩ := ry
  have hmap := gd_map (tbl := tbl) (Ps := X.w.params) (x := "") I hl hk
  have fnd := ents_find z he
  rw [e] at fnd
  obtain ⟨u', fnd⟩ := fnd
  rw [<- find_toArr] at fnd
  exact subscriptTail_builtinR (x := .str ⟨c.toArray⟩ u') hmap.typeIs slot_dict_getitem.lookup (wpAny_getItem_of (Q := fun r s' => r = Value.str ⟨c.toArray⟩ u' /\ EP X pins σ Q r s') (strKind_is _ _ _ t) hmap fnd ⟨rfl, .str ⟨c.toArray⟩, H, I.tok _, ⟨u', rfl⟩, q⟩) hs
noncomputable def atT (tbl : List (List Nat × List Nat)) : D -> Option D
  | .str s => (look tbl s).map .str
  | _ => none
theorem de_gat {x : Str} {tbl : List (List Nat × List Nat)} {p' : Pos} (h : GDict X.mg X.K X.w.params x tbl) (hg : Gl X x) (hb : DE X b f) (hs : PlainIx b := by intro _ _; rfl) (hd : (x == ("__debug__" : Str)) = false := by decide) : DE X (.Subscript (.Name x p') b pos) (mUn (atT tbl) f) := by
  obtain ⟨p, es, n, h1, h2, h3, h4, h5⟩ := h
  refine PE.conseq (pe_ix (ix_gd h3 h4 h5) (de_gref (p := p) h1 hg hd) hb hs) fun σ H Q hq => ?_
  obtain ⟨O0, r, d, hR, e, q⟩ := hq
  obtain ⟨k, e1, e2⟩ := bind_some e
  cases k <;> first | (simp only [atT, reduceCtorEq] at e2; done) | skip
  simp only [atT] at e2
  obtain ⟨v, e3, rfl⟩ := map_some e2
  refine ⟨O0, r, _, hR, rfl, fun v1 H1 s1 i1 => ⟨O0, r, _, hR.same s1, e1, fun v2 H2 s2 i2 => ?_⟩⟩
  rw [Is.ref_iff] at i1
  rw [Is.str_iff] at i2
  exact ⟨_, v, i1, i2, e3, q _ H2 (s1.trans s2) (by rw [Is.str_iff])⟩
end
open Builtin.Str
section
variable {X : Cx} {pos pn apos cpos : Pos} {a b e : Expr} {f g : ME}
noncomputable def mAppZ (i : Nat) (f : ME) : En -> Option (D × En) := fun r => (frZ i r).bind fun r1 => (f r1).bind fun d => (mtOf r i).bind fun l => if l.length < sizeLine then (putO i (l ++ [d]) r).map fun r' => (.non, r') else none
theorem dx_appendZ (i : Nat) {x : Str} (h : PE X (.Name x pn) (tVar i)) (he : DE X e f)
    (hline : (apos.endLine == cpos.line) = true := by rfl) (hbase : attributeBase (.Name x pn) "append" X.env (eval (.Name x pn) X.env) = eval (.Name x pn) X.env := by rfl)
    (hfew : ((backTo cpos (starEach [e] X.env)).all (fun x => !x.1) && (backToKw cpos (keywordEach [] X.env)).all (fun x => x.1.isSome) && decide ([e].length + ([] : List Keyword).length + (if ([] : List Keyword).isEmpty then 0 else 1) < 30)) = true := by rfl)
    (hs : starEach [e] X.env = (false, eval e X.env) :: starEach [] X.env := by rfl) :
    DX X (.Call (.Attribute (.Name x pn) "append" apos) [e] [] cpos) (mAppZ i f) := by
  refine PE.conseq (pe_bm PySem.F.plainAttrs_list PySem.F.slot_list_append PySem.F.type_list_append mt_append h (xT he qR hs) hbase hfew hline hs) fun σ H Q hq => ?_
  obtain ⟨O0, r, d', r', hR, e, q⟩ := hq
  obtain ⟨rz, ez, e⟩ := bind_some e
  obtain ⟨d, e1, e⟩ := bind_some e
  obtain ⟨l, e2, e⟩ := bind_some e
  split at e
  · rename_i hl
    obtain ⟨r2, e3, e4⟩ := map_some e
    cases e4
    obtain ⟨lz, elz, rfl⟩ := frZ_some ez
    obtain ⟨Rz, oz⟩ := hR.swap (y := .z lz) (.inl ⟨elz, rfl⟩)
    obtain ⟨a, xs, q1, q2, q3⟩ := mt_at hR e2
    refine ⟨.ref a, q1, .inl ⟨rfl, xs, SqL.of q2⟩, O0, _, d, Rz, e1, fun v H1 s1 i1 => ?_⟩
    have R1 := hR.same s1
    have i2 : Is X.K (Ow O0 r σ) H1 d v := Is.mono (fun b o e' _ => e') (Rz.same s1).ol (fun b z _ => z.imp id (oz b).mpr) _ _ i1
    obtain ⟨R2, k2⟩ := R1.upd (xs' := xs ++ [v]) e3 q1 (s1 _ _ q2) ((q3.same s1 hR.ol).append (.cons i2 .nil))
    exact ⟨a, xs, v, rfl, rfl, s1 _ _ q2, by rw [<- q3.length]; exact hl, q _ _ R2 ((Kp.of_same r σ s1).trans k2) (by rw [Is.non_iff])⟩
  · cases e
noncomputable def intBD : D -> Option D
  | .bl b => some (.int (if b then 1 else 0))
  | _ => none
theorem call_intB : CallR X (.type "int") (fun xs H Q => ∃ b : Bool, xs = [.bl b] /\ Q (.int (if b then 1 else 0)) H) := by
  intro pins s σ H xs us Q I r hq
  obtain ⟨y, rfl, q⟩ := hq
  obtain ⟨u, rfl, ru⟩ := yU.one r
  obtain rfl : u = .bool y := ru
  exact call_int_bool ⟨.int _, H, I.tok _, ⟨_, rfl⟩, q⟩
theorem de_intB {p' : Pos} (hg : Gl X "int") (hm : X.mg "int" = none) (ha : DE X a f) (hs : starEach [a] X.env = (false, eval a X.env) :: starEach [] X.env := by rfl) : DE X (.Call (.Name "int" p') [a] [] pos) (mUn intBD f) := by
  refine PE.conseq (pe_callTy call_intB hg hm PyProof.Rows.boot_int (xT ha qR hs) (he := hs)) fun σ H Q hq => ?_
  obtain ⟨O0, r, d, hR, e, q⟩ := hq
  obtain ⟨x, e1, e2⟩ := bind_some e
  refine ⟨O0, r, x, hR, e1, fun v H1 s1 i1 => ?_⟩
  cases x <;> first | (simp only [intBD, reduceCtorEq] at e2; done) | skip
  cases e2
  rw [Is.bl_iff] at i1
  exact ⟨_, by rw [i1], q _ H1 s1 (by rw [Is.int_iff])⟩
noncomputable def rSplitM : V -> List V -> Hp -> VK -> Prop := fun x vs H Q => ∃ z y k, x = .str z /\ vs = [.str y, .int k] /\ (y.length == 0) = false /\ (decide (k < -(2 ^ 63 : Int)) || decide (k ≥ 2 ^ 63)) = false /\ z.length <= sizeLine /\ (partsBetween z (occurrences z y 0 z.length (limitOf z k)) y.length).length <= sizeLine /\ ∀ p, H p = none -> Q (.ref p) (upd H p (.lst ((Txt.splitMax z y k).map V.str)))
theorem splitM_len (z y : Str) (k : Int) (h : (partsBetween z (occurrences z y 0 z.length (limitOf z k)) y.length).length <= sizeLine) : (Txt.splitMax z y k).length <= sizeLine := by
  unfold Txt.splitMax
  have h1 : 1 <= sizeLine := by decide
  split
  · exact h1
  · split
    · exact h1
    · exact h
theorem vals2 {x y : V} {us : List Value} (r : yU [x, y] us) : ∃ u v, us = [u, v] /\ wU x u /\ wU y v := by
  cases r with
  | cons r1 r2 =>
    obtain ⟨v, rfl, rv⟩ := yU.one r2
    exact ⟨_, v, rfl, r1, rv⟩
theorem mt_splitM : MtR X "str.split" rSplitM := by
  intro pins s σ H x vs v us Q I rx rv hq
  obtain ⟨z, y, k, rfl, rfl, hy, hk, hz, hn, q⟩ := hq
  obtain ⟨t, rfl⟩ := rx
  obtain ⟨u1, u2, rfl, ⟨u, rfl⟩, ⟨kt, rfl⟩⟩ := vals2 rv
  have lay : ∀ (l : List (Str × Tok)) (tk : Nat), l.map (·.1) = Txt.splitMax z y k -> EP X pins σ Q (.ref s.heap.objs.size) { s with heap := s.heap.push { cls := .type "list", data := .seq (strValues l).toArray }, toks := tk } := fun l tk e => by
    have hv := vals_strs l
    rw [e] at hv
    exact ⟨.ref _, _, I.lnew (t' := tk) hv (by rw [List.length_map]; exact splitM_len z y k hn), rfl, q _ I.fresh⟩
  cases h1 : (decide (z.length < y.length) || decide (strKind z < strKind y)) with
  | true => exact call_meets F.slot_str_split (typeIs_str _ _ _) F.entry_str_split (F.args_str_split_3 _ _ _) (meets_str_split_max_cannot_occur z y k t u kt hk h1) (lay [(z, t)] s.toks (by unfold Txt.splitMax; rw [if_pos h1]; rfl))
  | false =>
    cases hf : (occurrences z y 0 z.length (limitOf z k)).isEmpty with
    | true => exact call_meets F.slot_str_split (typeIs_str _ _ _) F.entry_str_split (F.args_str_split_3 _ _ _) (meets_str_split_max_not_found z y k t u kt hk h1 hy hf) (lay [(z, t)] s.toks (by unfold Txt.splitMax; rw [if_neg (ne_true_of_eq_false h1), if_pos hf]; rfl))
    | false =>
      refine call_meets F.slot_str_split (typeIs_str _ _ _) F.entry_str_split (F.args_str_split_3 _ _ _) (meets_str_split_sep_max z y k t u kt hk h1 hy hf hz hn) ?_
      show EP X pins σ Q _ { s with toks := _, heap := s.heap.push { cls := .type "list", data := .seq (strsFrom s.toks (partsBetween z (occurrences z y 0 z.length (limitOf z k)) y.length)).toArray } }
      rw [strsFrom_eq]
      exact lay (numbered s.toks _) _ ((numbered_texts _ _).trans (by unfold Txt.splitMax; rw [if_neg (ne_true_of_eq_false h1), if_neg (ne_true_of_eq_false hf)]))
theorem occ_lenM (z y : Str) (lim : Nat) (hy : (y.length == 0) = false) : (partsBetween z (occurrences z y 0 z.length lim) y.length).length <= z.length + 1 := by
  rw [len_partsBetween]
  obtain ⟨e, hc⟩ := StrLaws.occ_chain z y lim
  have hy1 : y.length ≠ 0 := by simpa using hy
  have := chain_len (by lia) _ 0 e hc (Nat.zero_le _)
  lia
noncomputable def splitMS (s sep : List Nat) (k : Int) : List (List Nat) := (Txt.splitMax ⟨s.toArray⟩ ⟨sep.toArray⟩ k).map fun x => x.cps.toList
noncomputable def mSplitM (f g : ME) (k : Int) : ML := fun r => (f r).bind fun d => (g r).bind fun e => match d, e with
  | .str s, .str sep => if sep.length ≠ 0 /\ s.length < sizeLine /\ 0 <= k /\ k < 1000 then some ((splitMS s sep k).map .str) else none
  | _, _ => none
theorem df_splitM {k : Int} {j : Nat} {kp : Pos} (ho : DE X a f) (ha : DE X b g) (hbase : attributeBase a "split" X.env (eval a X.env) = eval a X.env := by rfl) (hline : (apos.endLine == cpos.line) = true := by rfl)
    (hfew : ((backTo cpos (starEach [b, .Constant (.int k) j kp] X.env)).all (fun x => !x.1) && (backToKw cpos (keywordEach [] X.env)).all (fun x => x.1.isSome) && decide ([b, .Constant (.int k) j kp].length + ([] : List Keyword).length + (if ([] : List Keyword).isEmpty then 0 else 1) < 30)) = true := by rfl)
    (hs : starEach [b, .Constant (.int k) j kp] X.env = (false, eval b X.env) :: starEach [.Constant (.int k) j kp] X.env := by rfl)
    (hs2 : starEach [.Constant (.int k) j kp] X.env = (false, eval (.Constant (.int k) j kp) X.env) :: starEach [] X.env := by rfl) : DF X (.Call (.Attribute a "split" apos) [b, .Constant (.int k) j kp] [] cpos) (mSplitM f g k) := by
  refine PE.conseq (pe_bm PySem.F.plainAttrs_str PySem.F.slot_str_split PySem.F.type_str_split mt_splitM ho (xT ha (xT (zG (X := X) (i := k) (j := j) (pos := kp)) qR hs2) hs) hbase hfew hline hs) fun σ H Q hq => ?_
  obtain ⟨O0, r, l, hR, e, q⟩ := hq
  obtain ⟨x, e1, e2⟩ := bind_some e
  obtain ⟨y, e3, e4⟩ := bind_some e2
  refine ⟨O0, r, x, hR, e1, fun v H1 s1 i1 => ?_⟩
  cases x <;> first | (simp only [reduceCtorEq] at e4; done) | skip
  cases y <;> first | (simp only [reduceCtorEq] at e4; done) | skip
  rename_i s sep
  simp only at e4
  split at e4
  · rename_i hl
    have e5 : (splitMS s sep k).map D.str = l := Option.some.inj e4
    subst e5
    rw [Is.str_iff] at i1
    subst i1
    refine ⟨rfl, O0, r, _, hR.same s1, e3, fun v2 H2 s2 i2 => ?_⟩
    rw [Is.str_iff] at i2
    refine ⟨O0, r, .int k, hR.same (s1.trans s2), rfl, fun v3 H3 s3 i3 => ?_⟩
    rw [Is.int_iff] at i3
    have hy : ((⟨sep.toArray⟩ : Str).length == 0) = false := by rw [qF]; simpa using hl.1
    have h5 := occ_lenM (⟨s.toArray⟩ : Str) ⟨sep.toArray⟩ (limitOf ⟨s.toArray⟩ k) hy
    have h6 : (⟨s.toArray⟩ : Str).length = s.length := qF s
    have h7 := hl.2.1
    refine ⟨_, _, k, rfl, by rw [i2, i3], hy, by simp; lia, by rw [h6]; lia, by lia, fun p hp => q p _ _ (((s1.trans s2).trans s3).trans (xC hp)) (((s1.trans s2).trans s3).free hp) xK ?_⟩
    exact isL_strs _
  · cases e4
noncomputable abbrev MJ := En -> Option (List (List Nat))
noncomputable def jNil : MJ := fun _ => some []
noncomputable def jE (f : ME) (g : MJ) : MJ := fun r => (f r).bind fun d => match d with
  | .str s => (g r).map (s :: ·)
  | _ => none
noncomputable def lJ (K : Fg) (f : MJ) (out : Str) : TE := fun σ H Q => ∃ O0 r l, R K O0 H r σ /\ f r = some l /\ out.length + (l.map List.length).sum <= sizeLine /\ ∀ H', zZ H H' -> Q (.str (out ++ ⟨l.flatten.toArray⟩)) H'
noncomputable def DJ (X : Cx) (es : List Expr) (f : MJ) : Prop := ∀ (pins : List (Addr × Obj)) (s : Shared) (σ : St) (H : Hp) (Q : VK) (out : Str), Inv X pins σ H s -> lJ X.K f out σ H Q -> wpAny (model X.prog X.w) X.A (joinParts out (evalEach es X.env)) (EP X pins σ Q) X.xe s
theorem str_app0 (x : Str) : x ++ (⟨([] : List Nat).toArray⟩ : Str) = x := by
  show (⟨x.cps ++ #[]⟩ : Str) = x
  simp
theorem dj_nil : DJ X [] jNil := by
  intro pins s σ H Q out I h
  obtain ⟨O0, r, l, hR, e, hl, q⟩ := h
  cases e
  have q' := q H (zZ.refl H)
  rw [List.flatten_nil, str_app0] at q'
  exact joinParts_nil ⟨.str out, H, I.tok _, ⟨_, rfl⟩, q'⟩ (by simpa using hl)
theorem app_cons (x : Str) (y z : List Nat) : (x ++ (⟨y.toArray⟩ : Str)) ++ (⟨z.toArray⟩ : Str) = x ++ (⟨(y ++ z).toArray⟩ : Str) := by
  show (⟨(x.cps ++ y.toArray) ++ z.toArray⟩ : Str) = ⟨x.cps ++ (y ++ z).toArray⟩
  simp
theorem app_len (x : Str) (y : List Nat) : (x ++ (⟨y.toArray⟩ : Str)).length = x.length + y.length := by
  show (x.cps ++ y.toArray).size = x.cps.size + y.length
  simp
theorem dj_of {es : List Expr} {gj : MJ} (heval : ∀ (pins : List (Addr × Obj)) (s : Shared) (σ : St) (H : Hp) (Q : VK), Inv X pins σ H s -> lE X.K f σ H (fun v H1 => ∃ x : Str, v = .str x /\ x.length <= sizeLine /\ Q v H1) -> wpAny (model X.prog X.w) X.A (eval a X.env) (EP X pins σ Q) X.xe s) (h2 : DJ X es gj) : DJ X (a :: es) (jE f gj) := by
  intro pins s σ H Q out I h
  obtain ⟨O0, r, l, hR, e, hl, q⟩ := h
  obtain ⟨d, e1, e2⟩ := bind_some e
  cases d <;> first | (cases e2; done) | skip
  rename_i y
  simp only at e2
  obtain ⟨t, e3, rfl⟩ := map_some e2
  rw [List.map_cons, List.sum_cons] at hl
  refine joinParts_cons (wpAny_mono (heval pins s σ H (fun v H1 => zZ H H1 /\ v = .str ⟨y.toArray⟩) I ⟨O0, r, _, hR, e1, fun v H1 s1 i1 => ?_⟩) (fun v s1 ⟨x, H1, I1, r1, sm, ex⟩ => ?_) fun _ _ z => z)
  · rw [Is.str_iff] at i1
    exact ⟨_, i1, by rw [qF]; lia, s1, i1⟩
  · subst ex
    obtain ⟨tk, rfl⟩ := r1
    refine ⟨by rw [app_len]; lia, h2 pins s1 σ H1 Q _ I1 ⟨O0, r, t, hR.same sm, e3, by rw [app_len]; lia, fun H' s' => ?_⟩⟩
    rw [app_cons]
    exact q H' (sm.trans s')
theorem dj_c {es : List Expr} {gj : MJ} (h : DE X a f) (h2 : DJ X es gj) : DJ X (a :: es) (jE f gj) := dj_of (fun pins s σ H Q I ⟨O0, r, d, hR, e, q⟩ => h pins s σ H Q I ⟨O0, r, d, hR, e, fun v H1 s1 i1 => (q v H1 s1 i1).elim fun _ z => z.2.2⟩) h2
theorem dj_v {es : List Expr} {gj : MJ} {fp : Pos} (h : DE X a f) (h2 : DJ X es gj) : DJ X (.FormattedValue a (-1) none fp :: es) (jE f gj) := dj_of (fun pins s σ H Q I ⟨O0, r, d, hR, e, q⟩ => by
  refine FormattedValue_plain (wpAny_mono (h pins s σ H (fun v H1 => ∃ x : Str, v = .str x /\ x.length <= sizeLine /\ Q v H1) I ⟨O0, r, d, hR, e, q⟩) (fun v s1 ⟨x, H1, I1, r1, y, ey, hy, q1⟩ => ?_) fun _ _ z => z)
  subst ey
  obtain ⟨tk, rfl⟩ := r1
  exact formatField_str (fun t' tk' => ⟨.str y, H1, I1.tok _, ⟨_, rfl⟩, q1⟩) hy) h2
noncomputable def mFstr (g : MJ) : ME := fun r => (g r).bind fun l => if (l.map List.length).sum <= sizeLine then some (.str l.flatten) else none
theorem de_fstr {v1 v2 : Expr} {rest : List Expr} {gj : MJ} (h : DJ X (v1 :: v2 :: rest) gj) : DE X (.JoinedStr (v1 :: v2 :: rest) pos) (mFstr gj) := by
  intro pins s σ H Q I hq
  obtain ⟨O0, r, d, hR, e, q⟩ := hq
  obtain ⟨l, e1, e2⟩ := bind_some e
  split at e2
  · rename_i hl
    cases e2
    refine JoinedStr_many (h pins s σ H Q Str.empty I ⟨O0, r, l, hR, e1, by show 0 + _ <= _; lia, fun H' s' => ?_⟩)
    have e0 : (Str.empty ++ (⟨l.flatten.toArray⟩ : Str)) = ⟨l.flatten.toArray⟩ := by
      show (⟨#[] ++ l.flatten.toArray⟩ : Str) = _
      simp
    rw [e0]
    exact q _ H' s' (by rw [Is.str_iff])
  · cases e2
end
theorem new_val {K : Fg} {fl : ML} {i : Nat} {σ : St} {H : Hp} {Dn : Ends} (h : lS K (yW i (yM fl)) Dn σ H) : lF K fl σ H (fun v H1 => gName i v σ H1 Dn.nx) := by
  obtain ⟨O0, r, fl', hR, e, q⟩ := h
  obtain ⟨d, e1, e2⟩ := bind_some e
  obtain ⟨r', e3, rfl⟩ := map_some e2
  obtain ⟨l, e4, rfl⟩ := map_some e1
  obtain ⟨hl, np, rfl⟩ := setV_some e3
  refine ⟨O0, r, l, hR, e4, fun p xs H1 s1 n1 e5 i1 => ?_⟩
  have ol : OLst (fun b => Ow O0 r σ b \/ b = p) H1 := fun b z => z.elim (fun z => (hR.same s1).ol b z) fun z => by subst z; exact ⟨.lst xs, e5, trivial⟩
  have iv : Is K (Ow O0 r σ) H1 (.lst l) (.ref p) := by
    rw [Is.lst_iff]
    exact ⟨p, xs, rfl, .inl ⟨hR.nofresh n1, .inl e5⟩, IsL.mono (zZ.kp (zZ.refl H1) _) ol (fun a z _ => .inl z) l xs i1⟩
  obtain ⟨R1, k1⟩ := (hR.same s1).setv hl np iv
  exact q _ H1 R1 ((Kp.of_same r σ s1).trans k1)
section
variable {X : Cx} {pos spos py : Pos} {elt tg iter : Expr} {it : ML} {bd : D -> En -> Option En} {c : MB} {x : ME} {cap : List Nat} {N' : List Str} {scope : Scope}
theorem ds_comp (i : Nat) {y : Str} (hc : X.calm = true) (o : CmpOk X N' cap scope) (hi : DI X tg iter it) (hg : ∀ C fp s H, DG (cxC X N' scope C fp s H) tg bd) (he : ∀ C fp s H, DE (cxC X N' scope C fp s H) elt x)
    (n : Nat) (hN : X.N.Nodup) (hn : N'.length = n := by rfl) (hy : X.N[i]? = some y := by rfl) (hx : Loc X.env.scope y := by first | exact Or.inl rfl | exact Or.inr rfl) (hf : X.fn y = true \/ X.env.scope.names.lookup y = some .local := by first | exact .inl rfl | exact .inr rfl)
    (hsw : swapsWith (.ListComp elt [⟨tg, iter, [], 0⟩] scope pos) (some (.Name y py)) spos.line X.env = pure true := by rfl) (hs : ∀ x, foldedSetIterable iter X.env x = pure x := by intro _; rfl) :
    DS X (.Assign [.Name y py] (.ListComp elt [⟨tg, iter, [], 0⟩] scope pos) spos) (yW i (yM (wY cap n it bd x))) := by
  subst hn
  exact PS.conseq (ps_lcomp (i := i) (g := lG X.K bd) (te := lE X.K x) (tc := none) hc o hi hg rfl he hN hy hx hf hsw hs) fun Dn σ H h => comp_read (tc := none) (fun {σ H K1 K0 te} z => by
    obtain ⟨O0, r, b, hR, e, q⟩ := z
    unfold mTrue at e; cases e
    have z1 : (if true = true then te σ H K1 else K0 H) := q H (zZ.refl H)
    rw [if_pos rfl] at z1
    exact z1) N'.length (new_val h)
theorem ds_compIf (i : Nat) {y : Str} {ce : Expr} (hc : X.calm = true) (o : CmpOk X N' cap scope) (hi : DI X tg iter it) (hg : ∀ C fp s H, DG (cxC X N' scope C fp s H) tg bd) (ht : ∀ C fp s H, DT (cxC X N' scope C fp s H) ce c) (he : ∀ C fp s H, DE (cxC X N' scope C fp s H) elt x)
    (n : Nat) (hN : X.N.Nodup) (hn : N'.length = n := by rfl) (hy : X.N[i]? = some y := by rfl) (hx : Loc X.env.scope y := by first | exact Or.inl rfl | exact Or.inr rfl) (hf : X.fn y = true \/ X.env.scope.names.lookup y = some .local := by first | exact .inl rfl | exact .inr rfl)
    (hsw : swapsWith (.ListComp elt [⟨tg, iter, [ce], 0⟩] scope pos) (some (.Name y py)) spos.line X.env = pure true := by rfl) (hs : ∀ x, foldedSetIterable iter X.env x = pure x := by intro _; rfl) :
    DS X (.Assign [.Name y py] (.ListComp elt [⟨tg, iter, [ce], 0⟩] scope pos) spos) (yW i (yM (qA cap n it bd c x))) := by
  subst hn
  exact PS.conseq (ps_lcomp (i := i) (g := lG X.K bd) (te := lE X.K x) (tc := some (lT X.K c)) hc o hi hg ⟨ce, rfl, ht⟩ he hN hy hx hf hsw hs) fun Dn σ H h => comp_read (tc := some (lT X.K c)) (fun z => z) N'.length (new_val h)
end
end DD
namespace K05
open PySem PySem.Spec PyProof.Rows L2 DD
noncomputable def top (i : Nat) : Stmt := PySem.Challenge.pw_fieldrows_k05_programs_read.main.body.getD i (.Pass ⟨0, 0, 0, 0⟩)
noncomputable def RF : Nat := 40
noncomputable def WF : Nat := 100000
noncomputable def wV : List (List Nat) := [[100, 101, 102], [102, 110], [100, 111], [101, 109, 112, 116, 121], [103, 101, 116], [119, 105, 116, 104], [112, 117, 116], [108, 101, 115, 115], [116, 97, 103], [119, 105, 100, 101], [99, 97, 115, 101], [110, 101, 118, 101, 114], [105, 102]]
noncomputable def xS : List (List Nat × List Nat) := [([102, 110], [110, 69]), ([100, 111], [69, 69]), ([101, 109, 112, 116, 121], []), ([103, 101, 116], [110, 69]), ([119, 105, 116, 104], [110, 69, 69]), ([112, 117, 116], [110, 69, 69]), ([108, 101, 115, 115], [110, 69]), ([116, 97, 103], [110, 69]), ([119, 105, 100, 101], [110, 69]), ([99, 97, 115, 101], [69, 110, 110, 69, 110, 69]), ([110, 101, 118, 101, 114], [69]), ([105, 102], [69, 69, 69]), ([43], [69, 69]), ([45], [69, 69]), ([42], [69, 69]), ([60], [69, 69])]
noncomputable def g_inner : MS := (xF (yM (qA [] 1 (mIt (zA 0)) (yF 0) (qS (mUn (wG "tuple") (zA 0))) (zA 0))))
noncomputable def F_inner : MF := mkF 1 1 g_inner
noncomputable def g_places : MS := (zW (sOwn 1 (yI zJ))
 (zW (sOwn 2 (yI (zB (zA 0) zJ)))
 (zW (qL WF (mTruB (mOwn 2))
 (zW (sSetX 3 (mPop 2))
 (zW (sX (mApp 1 (zA 3)))
 (sX (mExt 2 (mUn revD (zS 1 F_inner (zB (zA 3) zJ))))))))
 (sRetOwn 1))))
noncomputable def F_places : MF := mkF 1 4 g_places
noncomputable def g_all_between : MS := (xF (mAll (wY [1, 2] 3 (mItS (zA 0)) (yF 2) (mChain leA leA (zA 0) (zA 2) (zA 1)))))
noncomputable def qN : MF := mkF 3 3 g_all_between
noncomputable def g_is_name : MS := (xF (mAnd (mChain leA leA (mC (.int 1)) (mUn wE (zA 0)) (mC (.int 8))) (mAnd (zS 3 qN (zB (zA 0) (zB (mC (.str [97])) (zB (mC (.str [122])) zJ)))) (zF (inD true) (zA 0) (mC (.tup (wV.map D.str)))))))
noncomputable def qE : MF := mkF 1 1 g_is_name
noncomputable def g_is_number : MS := (zW (sIf (mOrT (wX (mBl (mChain leA leA (mC (.int 1)) (mUn wE (zA 0)) (mC (.int 6))))) (wX (qS (zS 3 qN (zB (zA 0) (zB (mC (.str [48])) (zB (mC (.str [57])) zJ)))))))
 (xF (mC (.bl false)))
 xD)
 (xF (mOr (zF eqA (zA 0) (mC (.str [48]))) (zF neA (zF ixD (zA 0) (mC (.int 0))) (mC (.str [48]))))))
noncomputable def F_is_number : MF := mkF 1 1 g_is_number
noncomputable def g_read_number : MS := (zW (sIf (wX (qS (zS 1 F_is_number (zB (zA 0) zJ))))
 sNever
 xD)
 (xF (mUn intOfD (zA 0))))
noncomputable def F_read_number : MF := mkF 1 1 g_read_number
noncomputable def g_take_word : MS := (zW (sIf (wX (mTruB (mOwn 0)))
 sNever
 xD)
 (sRetX (mPop 0)))
noncomputable def F_take_word : MF := mkF 1 1 g_take_word
noncomputable def g_take_name : MS := (zW (sSetX 1 (mCallX 1 F_take_word 0 (zP zJ)))
 (zW (sIf (wX (qS (zS 1 qE (zB (zA 1) zJ))))
 sNever
 xD)
 (xF (zA 1))))
noncomputable def F_take_name : MF := mkF 1 2 g_take_name
noncomputable def g_read_leaf : MS := (zW (sIf (qS (zS 1 qE (zB (zA 0) zJ)))
 (xF (xJ (zB (mC (.str [110, 97, 109, 101])) (zB (zA 0) zJ))))
 xD)
 (xF (xJ (zB (mC (.str [110, 117, 109])) (zB (zS 1 F_read_number (zB (zA 0) zJ)) zJ)))))
noncomputable def F_read_leaf : MF := mkF 1 1 g_read_leaf
noncomputable def yG (m : MF) : MS := (zW (sIf (mBl (zF gtD (zA 1) (mC (.int 30))))
 sNever
 xD)
 (zW (sSetX 2 (mCallX 1 F_take_word 0 (zP zJ)))
 (zW (sIf (mBl (mUn (hasT xS true) (zA 2)))
 (xF (zS 1 F_read_leaf (zB (zA 2) zJ)))
 xD)
 (zW (sOwn 3 (yI (zB (zA 2) zJ)))
 (zW (sFor (yF 4) (mItS (mUn (atT xS) (zA 2)))
 (sIf (mBl (zF eqA (zA 4) (mC (.str [110]))))
 (sX (mAppX 3 (mCallX 1 F_take_name 0 (zP zJ))))
 (sX (mAppX 3 (mCallX 2 m 0 (zP (zB (zF yD (zA 1) (mC (.int 1))) zJ)))))))
 (xF (mTupOf (mOwn 3))))))))
noncomputable def yA : Nat -> MF
  | 0 => fun _ => none
  | k + 1 => mkF 2 5 (yG (yA k))
noncomputable def qI : MS := (zW (sOwn 1 (mRevF (mSplit (zA 0) (mC (.str [32])))))
 (zW (sSetX 2 (mCallX 2 (yA RF) 1 (zP (zB (mC (.int 0)) zJ))))
 (zW (sIf (mTruB (mOwn 1))
 sNever
 xD)
 (xF (zA 2)))))
noncomputable def F_read_expression : MF := mkF 1 3 qI
noncomputable def g_written_parts : MS := (zW (sIf (mBl (zF (inD false) (zF ixD (zA 0) (mC (.int 0))) (xJ (zB (mC (.str [110, 117, 109])) (zB (mC (.str [110, 97, 109, 101])) zJ)))))
 (xF (mSl (zA 0) (yV (mC (.int 1))) xL))
 xD)
 (xF (zA 0)))
noncomputable def xU : MF := mkF 1 1 g_written_parts
noncomputable def g_shown_expression : MS := (zW (sOwn 1 (yI zJ))
 (zW (sOwn 2 (yI (zB (zA 0) zJ)))
 (zW (qL WF (mTruB (mOwn 2))
 (zW (sSetX 3 (mPop 2))
 (sIf (qS (mUn (wG "tuple") (zA 3)))
 (sX (mExt 2 (mUn revD (zS 1 xU (zB (zA 3) zJ)))))
 (sX (mApp 1 (mUn strD (zA 3)))))))
 (xF (mJoin (mC (.str [32])) (mOwn 1))))))
noncomputable def F_shown_expression : MF := mkF 1 4 g_shown_expression
noncomputable def g_refuse_open_name : MS := (sIf (qT (mBl (zF eqA (zF ixD (zA 0) (mC (.int 0))) (mC (.str [110, 97, 109, 101])))) (mBl (zF (inD true) (zF ixD (zA 0) (mC (.int 1))) (zA 1))))
 (zW (yW 2 (zF ixD (zA 0) (mC (.int 1))))
 sNever)
 xD)
noncomputable def xY : MF := mkF 2 3 g_refuse_open_name
noncomputable def g_scopes_in : MS := (zW (sIf (mBl (zF eqA (zF ixD (zA 0) (mC (.int 0))) (mC (.str [102, 110]))))
 (xF (yM (yI (zB (xJ (zB (zF ixD (zA 0) (mC (.int 2))) (zB (zF yD (zA 1) (yM (yI (zB (zF ixD (zA 0) (mC (.int 1))) zJ)))) zJ))) zJ))))
 xD)
 (zW (sIf (mBl (zF eqA (zF ixD (zA 0) (mC (.int 0))) (mC (.str [99, 97, 115, 101]))))
 (zW (yW 2 (xJ (zB (zF ixD (zA 0) (mC (.int 4))) (zB (zF yD (zA 1) (yM (yI (zB (zF ixD (zA 0) (mC (.int 3))) zJ)))) zJ))))
 (zW (yW 3 (xJ (zB (zF ixD (zA 0) (mC (.int 6))) (zB (zF yD (zA 1) (yM (yI (zB (zF ixD (zA 0) (mC (.int 5))) zJ)))) zJ))))
 (xF (yM (yI (zB (xJ (zB (zF ixD (zA 0) (mC (.int 1))) (zB (zA 1) zJ))) (zB (zA 2) (zB (zA 3) zJ))))))))
 xD)
 (xF (yM (wY [1] 2 (mIt (zS 1 F_inner (zB (zA 0) zJ))) (yF 1) (xJ (zB (zA 1) (zB (zA 0) zJ))))))))
noncomputable def F_scopes_in : MF := mkF 2 4 g_scopes_in
noncomputable def qQ : MS := (zW (sOwn 2 (yI (zB (xJ (zB (zA 0) (zB (zA 1) zJ))) zJ)))
 (qL WF (mTruB (mOwn 2))
 (zW (sSetX 3 (mPop 2))
 (zW (sExpr (zS 2 xY (zB (zF ixD (zA 3) (mC (.int 0))) (zB (zF ixD (zA 3) (mC (.int 1))) zJ))))
 (sX (mExt 2 (zS 2 F_scopes_in (zB (zF ixD (zA 3) (mC (.int 0))) (zB (zF ixD (zA 3) (mC (.int 1))) zJ)))))))))
noncomputable def wO : MF := mkF 2 4 qQ
noncomputable def g_read_def : MS := (zW (yW 2 (yM (mSplitM (zA 0) (mC (.str [32])) 2)))
 (zW (sIf (mOrT (mBl (zF neA (mUn wE (zA 2)) (mC (.int 3)))) (mOrT (mBl (zF neA (zF ixD (zA 2) (mC (.int 0))) (mC (.str [100, 101, 102])))) (wX (qS (zS 1 qE (zB (zF ixD (zA 2) (mC (.int 1))) zJ))))))
 sNever
 xD)
 (zW (yW 3 (zF ixD (zA 2) (mC (.int 1))))
 (zW (yW 4 (zS 1 F_read_expression (zB (zF ixD (zA 2) (mC (.int 2))) zJ)))
 (zW (sIf (mBl (zF gtD (mUn wE (yM (mCallF 1 F_places (zB (zA 4) zJ)))) (mC (.int 80))))
 sNever
 xD)
 (zW (sIf (mBl (zF (inD false) (zA 3) (zA 1)))
 sNever
 xD)
 (zW (sExpr (zS 2 wO (zB (zA 4) (zB (zF yD (zA 1) (yM (yI (zB (zA 3) zJ)))) zJ))))
 (xF (xJ (zB (zA 3) (zB (zA 4) zJ)))))))))))
noncomputable def F_read_def : MF := mkF 2 5 g_read_def
noncomputable def g_read : MS := (zW (yW 1 (yM (mSplit (zA 0) (mC (.str [10])))))
 (zW (sIf (mBl (zF gtD (mUn wE (zA 1)) (mC (.int 12))))
 sNever
 xD)
 (zW (sOwn 2 (yI zJ))
 (zW (sFor (yF 3) (mIt (zA 1))
 (sX (mAppZ 2 (zS 2 F_read_def (zB (zA 3) (zB (yM (wY [] 1 (mZs 2) (yF 0) (zF ixD (zA 0) (mC (.int 0))))) zJ))))))
 (zW (sIf (mBl (zF neA (zF ixD (mIxB (mOwn 2) (mUn negD (mC (.int 1)))) (mC (.int 0))) (mC (.str [109, 97, 105, 110]))))
 sNever
 xD)
 (sRetOwn 2))))))
noncomputable def F_read : MF := mkF 1 4 g_read
noncomputable def g_shown_defs : MS := (xF (yM (wY [] 2 (mIt (zA 0)) (qO 2 (yR (yF 0) (yR (yF 1) bdNil))) (xJ (zB (zA 0) (zB (zS 1 F_shown_expression (zB (zA 1) zJ)) zJ))))))
noncomputable def F_shown_defs : MF := mkF 1 1 g_shown_defs
noncomputable def g_shown : MS := (xF (mJoin (mC (.str [10])) (wY [] 2 (mIt (zS 1 F_shown_defs (zB (zA 0) zJ))) (qO 2 (yR (yF 0) (yR (yF 1) bdNil))) (mFstr (jE (mC (.str [100, 101, 102, 32])) (jE (zA 0) (jE (mC (.str [32])) (jE (zA 1) jNil))))))))
noncomputable def F_shown : MF := mkF 1 1 g_shown
noncomputable def g__law_cell : MS := (zW (sIf (mBl (zF ltD (zA 1) (mUn wE (zA 0))))
 (xF (zF ixD (zA 0) (zA 1)))
 xD)
 (xF (mC (.int 0))))
noncomputable def qK : MF := mkF 2 2 g__law_cell
noncomputable def g__law_mixed : MS := (zW (yW 2 (zF wH (zF yD (zF yD (zF wH (zA 0) (mC (.int 2147483647))) (zF mulD (mC (.int 16807)) (zA 1))) (mC (.int 7))) (mC (.int 2147483629))))
 (zW (yW 2 (zF wH (zF mulD (zA 2) (zA 2)) (mC (.int 2147483587))))
 (xF (zF fdivD (zF wH (zF mulD (zA 2) (zF yD (zA 2) (mC (.int 48271)))) (mC (.int 2147483579))) (mC (.int 5))))))
noncomputable def yE : MF := mkF 2 3 g__law_mixed
noncomputable def g__law_kept : MS := (xF (yM (yI (mLit [[100, 101, 102], [102, 110], [100, 111], [101, 109, 112, 116, 121], [103, 101, 116], [119, 105, 116, 104], [112, 117, 116], [108, 101, 115, 115], [116, 97, 103], [119, 105, 100, 101], [99, 97, 115, 101], [110, 101, 118, 101, 114], [105, 102]]))))
noncomputable def F__law_kept : MF := mkF 0 0 g__law_kept
noncomputable def g__law_name : MS := (zW (yW 1 (mC (.str [])))
 (zW (sFor (yF 2) (mRng1 (zF yD (mC (.int 1)) (zF wH (zA 0) (mC (.int 8)))))
 (yW 1 (zF yD (zA 1) (zF ixD (mC (.str [97, 98, 99, 100, 101, 102, 103, 104, 105, 106, 107, 108, 109, 110, 111, 112, 113, 114, 115, 116, 117, 118, 119, 120, 121, 122])) (zF wH (zS 2 yE (zB (zA 0) (zB (zF yD (mC (.int 30)) (zA 2)) zJ))) (mC (.int 26)))))))
 (zW (sIf (mBl (zF (inD false) (zA 1) (zS 0 F__law_kept zJ)))
 (xF (zF yD (mC (.str [113])) (mSl (zA 1) (yV (mC (.int 1))) xL)))
 xD)
 (xF (zA 1)))))
noncomputable def F__law_name : MF := mkF 1 3 g__law_name
noncomputable def g__law_names : MS := (zW (yW 1 (mSl (zS 1 F__law_name (zB (zS 2 yE (zB (zA 0) (zB (mC (.int 3)) zJ))) zJ)) xL (yV (mC (.int 7)))))
 (zW (yW 2 (yM (yI (zB (zA 1) (zB (zF yD (zA 1) (mC (.str [113]))) (zB (zF yD (mSl (zA 1) xL (yV (mUn negD (mC (.int 1))))) (mC (.str [122]))) (zB (zF yD (mC (.str [122])) (mSl (zA 1) (yV (mC (.int 1))) xL)) zJ)))))))
 (xF (zF yD (zA 2) (yM (yI (zB (zS 1 F__law_name (zB (zS 2 yE (zB (zA 0) (zB (mC (.int 4)) zJ))) zJ)) (zB (zS 1 F__law_name (zB (zS 2 yE (zB (zA 0) (zB (mC (.int 5)) zJ))) zJ)) zJ))))))))
noncomputable def F__law_names : MF := mkF 1 3 g__law_names
noncomputable def g__law_leaf : MS := (zW (sIf (mBl (zF eqA (zF wH (zA 1) (mC (.int 5))) (mC (.int 0))))
 (xF (xJ (zB (xJ (zB (mC (.str [101, 109, 112, 116, 121])) zJ)) (zB (yM (yI (zB (mC (.str [101, 109, 112, 116, 121])) zJ))) (zB (mC (.int 0)) zJ)))))
 xD)
 (zW (sIf (mBl (zF ltD (zF wH (zA 1) (mC (.int 5))) (mC (.int 3))))
 (zW (yW 3 (zF ixD (zA 2) (zF wH (zF fdivD (zA 1) (mC (.int 5))) (mC (.int 6)))))
 (xF (xJ (zB (xJ (zB (mC (.str [110, 97, 109, 101])) (zB (zA 3) zJ))) (zB (yM (yI (zB (zA 3) zJ))) (zB (mC (.int 0)) zJ))))))
 xD)
 (zW (yW 4 (zF wH (zF yD (zA 0) (zA 1)) (zF powD (mC (.int 10)) (mC (.int 6)))))
 (zW (sIf (mBl (zF eqA (zF wH (zF fdivD (zA 1) (mC (.int 5))) (mC (.int 2))) (mC (.int 0))))
 (yW 4 (zF wH (zF fdivD (zA 1) (mC (.int 10))) (mC (.int 12))))
 xD)
 (xF (xJ (zB (xJ (zB (mC (.str [110, 117, 109])) (zB (zA 4) zJ))) (zB (yM (yI (zB (mUn strD (zA 4)) zJ))) (zB (mC (.int 0)) zJ)))))))))
noncomputable def F__law_leaf : MF := mkF 3 5 g__law_leaf
noncomputable def g__law_one : MS := (zW (yW 3 (zF ixD (yM (yI (mLit [[102, 110], [103, 101, 116], [108, 101, 115, 115], [116, 97, 103], [119, 105, 100, 101], [110, 101, 118, 101, 114]]))) (zF wH (zA 0) (mC (.int 6)))))
 (zW (yW 4 (zF ixD (zA 1) (zF wH (zF fdivD (zA 0) (mC (.int 6))) (mC (.int 6)))))
 (zW (sIf (mBl (zF eqA (zA 3) (mC (.str [110, 101, 118, 101, 114]))))
 (xF (xJ (zB (xJ (zB (mC (.str [110, 101, 118, 101, 114])) (zB (zF ixD (zA 2) (mC (.int 0))) zJ))) (zB (zF yD (yM (yI (zB (mC (.str [110, 101, 118, 101, 114])) zJ))) (zF ixD (zA 2) (mC (.int 1)))) (zB (zF yD (zF ixD (zA 2) (mC (.int 2))) (mC (.int 1))) zJ)))))
 xD)
 (xF (xJ (zB (xJ (zB (zA 3) (zB (zA 4) (zB (zF ixD (zA 2) (mC (.int 0))) zJ)))) (zB (zF yD (yM (yI (zB (zA 3) (zB (zA 4) zJ)))) (zF ixD (zA 2) (mC (.int 1)))) (zB (zF yD (zF ixD (zA 2) (mC (.int 2))) (mC (.int 1))) zJ))))))))
noncomputable def F__law_one : MF := mkF 3 5 g__law_one
noncomputable def g__law_two : MS := (zW (yW 4 (zF ixD (yM (yI (mLit [[100, 111], [43], [45], [42], [60], [119, 105, 116, 104], [112, 117, 116]]))) (zF wH (zA 0) (mC (.int 7)))))
 (zW (yW 5 (zF ixD (zA 1) (zF wH (zF fdivD (zA 0) (mC (.int 7))) (mC (.int 6)))))
 (zW (yW 6 (zF yD (mC (.int 1)) (mMax (zB (zF ixD (zA 2) (mC (.int 2))) (zB (zF ixD (zA 3) (mC (.int 2))) zJ)))))
 (zW (sIf (mBl (zF ltD (zF wH (zA 0) (mC (.int 7))) (mC (.int 5))))
 (xF (xJ (zB (xJ (zB (zA 4) (zB (zF ixD (zA 2) (mC (.int 0))) (zB (zF ixD (zA 3) (mC (.int 0))) zJ)))) (zB (zF yD (zF yD (yM (yI (zB (zA 4) zJ))) (zF ixD (zA 2) (mC (.int 1)))) (zF ixD (zA 3) (mC (.int 1)))) (zB (zA 6) zJ)))))
 xD)
 (xF (xJ (zB (xJ (zB (zA 4) (zB (zA 5) (zB (zF ixD (zA 2) (mC (.int 0))) (zB (zF ixD (zA 3) (mC (.int 0))) zJ))))) (zB (zF yD (zF yD (yM (yI (zB (zA 4) (zB (zA 5) zJ)))) (zF ixD (zA 2) (mC (.int 1)))) (zF ixD (zA 3) (mC (.int 1)))) (zB (zA 6) zJ)))))))))
noncomputable def F__law_two : MF := mkF 4 7 g__law_two
noncomputable def g__law_three : MS := (zW (sAsg (zA 2) (qO 3 (yR (yF 3) (yR (yF 4) (yR (yF 5) bdNil)))))
 (zW (yW 6 (zF yD (mC (.int 1)) (mMax (zB (zF ixD (zA 3) (mC (.int 2))) (zB (zF ixD (zA 4) (mC (.int 2))) (zB (zF ixD (zA 5) (mC (.int 2))) zJ))))))
 (zW (yW 7 (zF ixD (zA 1) (zF wH (zF fdivD (zA 0) (mC (.int 2))) (mC (.int 6)))))
 (zW (yW 8 (zF ixD (zA 1) (zF wH (zF fdivD (zA 0) (mC (.int 12))) (mC (.int 6)))))
 (zW (yW 9 (zF ixD (zA 1) (zF wH (zF fdivD (zA 0) (mC (.int 72))) (mC (.int 6)))))
 (zW (sIf (mBl (zF eqA (zF wH (zA 0) (mC (.int 2))) (mC (.int 0))))
 (xF (xJ (zB (xJ (zB (mC (.str [105, 102])) (zB (zF ixD (zA 3) (mC (.int 0))) (zB (zF ixD (zA 4) (mC (.int 0))) (zB (zF ixD (zA 5) (mC (.int 0))) zJ))))) (zB (zF yD (zF yD (zF yD (yM (yI (zB (mC (.str [105, 102])) zJ))) (zF ixD (zA 3) (mC (.int 1)))) (zF ixD (zA 4) (mC (.int 1)))) (zF ixD (zA 5) (mC (.int 1)))) (zB (zA 6) zJ)))))
 xD)
 (zW (yW 10 (xJ (zB (mC (.str [99, 97, 115, 101])) (zB (zF ixD (zA 3) (mC (.int 0))) (zB (zA 7) (zB (zA 8) (zB (zF ixD (zA 4) (mC (.int 0))) (zB (zA 9) (zB (zF ixD (zA 5) (mC (.int 0))) zJ)))))))))
 (xF (xJ (zB (zA 10) (zB (zF yD (zF yD (zF yD (zF yD (zF yD (yM (yI (zB (mC (.str [99, 97, 115, 101])) zJ))) (zF ixD (zA 3) (mC (.int 1)))) (yM (yI (zB (zA 7) (zB (zA 8) zJ))))) (zF ixD (zA 4) (mC (.int 1)))) (yM (yI (zB (zA 9) zJ)))) (zF ixD (zA 5) (mC (.int 1)))) (zB (zA 6) zJ))))))))))))
noncomputable def F__law_three : MF := mkF 3 11 g__law_three
noncomputable def g__law_grown : MS := (zW (yW 4 (zS 2 yE (zB (zA 1) (zB (zF yD (mC (.int 50)) (zA 2)) zJ))))
 (zW (yW 5 (zF wH (zS 2 yE (zB (zA 1) (zB (zF yD (mC (.int 250)) (zA 2)) zJ))) (mC (.int 9))))
 (zW (sIf (qT (mBl (zF gtD (zA 5) (mC (.int 6)))) (qT (mBl (zF gtD (mUn wE (zA 0)) (mC (.int 2)))) (mBl (zF ltD (mMaxL (wY [] 1 (mIt (mSl (zA 0) (yV (mUn negD (mC (.int 3)))) xL)) (yF 0) (zF ixD (zA 0) (mC (.int 2))))) (mC (.int 10))))))
 (xF (zF yD (mSl (zA 0) xL (yV (mUn negD (mC (.int 3))))) (yM (yI (zB (zS 3 F__law_three (zB (zA 4) (zB (zA 3) (zB (mSl (zA 0) (yV (mUn negD (mC (.int 3)))) xL) zJ)))) zJ)))))
 xD)
 (zW (sIf (qT (mBl (zF gtD (zA 5) (mC (.int 4)))) (qT (mBl (zF gtD (mUn wE (zA 0)) (mC (.int 1)))) (mBl (zF ltD (mMaxL (wY [] 1 (mIt (mSl (zA 0) (yV (mUn negD (mC (.int 2)))) xL)) (yF 0) (zF ixD (zA 0) (mC (.int 2))))) (mC (.int 10))))))
 (xF (zF yD (mSl (zA 0) xL (yV (mUn negD (mC (.int 2))))) (yM (yI (zB (zS 4 F__law_two (zB (zA 4) (zB (zA 3) (zB (zF ixD (zA 0) (mUn negD (mC (.int 2)))) (zB (zF ixD (zA 0) (mUn negD (mC (.int 1)))) zJ))))) zJ)))))
 xD)
 (zW (sIf (qT (mBl (zF gtD (zA 5) (mC (.int 2)))) (qT (mBl (zF gtD (mUn wE (zA 0)) (mC (.int 0)))) (mBl (zF ltD (zF ixD (zF ixD (zA 0) (mUn negD (mC (.int 1)))) (mC (.int 2))) (mC (.int 10))))))
 (xF (zF yD (mSl (zA 0) xL (yV (mUn negD (mC (.int 1))))) (yM (yI (zB (zS 3 F__law_one (zB (zA 4) (zB (zA 3) (zB (zF ixD (zA 0) (mUn negD (mC (.int 1)))) zJ)))) zJ)))))
 xD)
 (xF (zF yD (zA 0) (yM (yI (zB (zS 3 F__law_leaf (zB (zA 1) (zB (zA 4) (zB (zA 3) zJ)))) zJ))))))))))
noncomputable def F__law_grown : MF := mkF 4 6 g__law_grown
noncomputable def g__law_folded : MS := (zW (yW 3 (mC (.int 0)))
 (zW (qL WF (mBl (zF gtD (mUn wE (zA 0)) (mC (.int 1))))
 (zW (yW 0 (zF yD (mSl (zA 0) (yV (mC (.int 2))) xL) (yM (yI (zB (zS 4 F__law_two (zB (zS 2 yE (zB (zA 1) (zB (zF yD (mC (.int 500)) (zA 3)) zJ))) (zB (zA 2) (zB (zF ixD (zA 0) (mC (.int 0))) (zB (zF ixD (zA 0) (mC (.int 1))) zJ))))) zJ)))))
 (yW 3 (zF yD (zA 3) (mC (.int 1))))))
 (xF (zF ixD (zA 0) (mC (.int 0))))))
noncomputable def F__law_folded : MF := mkF 3 4 g__law_folded
noncomputable def wK (m : MF) : MS := (zW (sIf (mBl (zF eqA (zF ixD (zA 0) (mC (.int 0))) (mC (.str [110, 97, 109, 101]))))
 (xF (mSl (yM (yI (zB (zF ixD (zA 0) (mC (.int 1))) zJ))) xL (yV (mUn intBD (zF (inD true) (zF ixD (zA 0) (mC (.int 1))) (zA 1))))))
 xD)
 (zW (sIf (mBl (zF eqA (zF ixD (zA 0) (mC (.int 0))) (mC (.str [102, 110]))))
 (xF (zS 2 m (zB (zF ixD (zA 0) (mC (.int 2))) (zB (zF yD (zA 1) (yM (yI (zB (zF ixD (zA 0) (mC (.int 1))) zJ)))) zJ))))
 xD)
 (zW (sIf (mBl (zF eqA (zF ixD (zA 0) (mC (.int 0))) (mC (.str [99, 97, 115, 101]))))
 (zW (yW 2 (zF yD (zS 2 m (zB (zF ixD (zA 0) (mC (.int 1))) (zB (zA 1) zJ))) (zS 2 m (zB (zF ixD (zA 0) (mC (.int 4))) (zB (zF yD (zA 1) (yM (yI (zB (zF ixD (zA 0) (mC (.int 3))) zJ)))) zJ)))))
 (xF (zF yD (zA 2) (zS 2 m (zB (zF ixD (zA 0) (mC (.int 6))) (zB (zF yD (zA 1) (yM (yI (zB (zF ixD (zA 0) (mC (.int 5))) zJ)))) zJ))))))
 xD)
 (zW (yW 2 (yM (yI zJ)))
 (zW (sFor (yF 3) (mIt (mSl (zA 0) (yV (mC (.int 1))) xL))
 (sIf (qS (mUn (wG "tuple") (zA 3)))
 (yW 2 (zF yD (zA 2) (zS 2 m (zB (zA 3) (zB (zA 1) zJ)))))
 xD))
 (xF (zA 2)))))))
noncomputable def xN : Nat -> MF
  | 0 => fun _ => none
  | k + 1 => mkF 2 4 (wK (xN k))
noncomputable def g__law_closed : MS := (zW (yW 3 (zS 2 (xN RF) (zB (zF ixD (zA 0) (mC (.int 0))) (zB (zA 2) zJ))))
 (zW (qL WF (mBl (zF neA (zA 3) (yM (yI zJ))))
 (zW (yW 4 (zS 2 yE (zB (zA 1) (zB (zF yD (mC (.int 600)) (zF ixD (zA 0) (mC (.int 2)))) zJ))))
 (zW (yW 5 (zF ixD (zA 3) (zF wH (zA 4) (mUn wE (zA 3)))))
 (zW (yW 0 (xJ (zB (xJ (zB (mC (.str [102, 110])) (zB (zA 5) (zB (zF ixD (zA 0) (mC (.int 0))) zJ)))) (zB (zF yD (yM (yI (zB (mC (.str [102, 110])) (zB (zA 5) zJ)))) (zF ixD (zA 0) (mC (.int 1)))) (zB (zF yD (zF ixD (zA 0) (mC (.int 2))) (mC (.int 1))) zJ)))))
 (zW (sIf (mBl (zF gtD (zF wH (zF fdivD (zA 4) (mC (.int 7))) (mC (.int 3))) (mC (.int 0))))
 (zW (yW 6 (mUn strD (zF wH (zF fdivD (zA 4) (mC (.int 21))) (zF powD (mC (.int 10)) (mC (.int 6))))))
 (yW 0 (xJ (zB (xJ (zB (mC (.str [100, 111])) (zB (zF ixD (zA 0) (mC (.int 0))) (zB (xJ (zB (mC (.str [110, 117, 109])) (zB (mUn intOfD (zA 6)) zJ))) zJ)))) (zB (zF yD (zF yD (yM (yI (zB (mC (.str [100, 111])) zJ))) (zF ixD (zA 0) (mC (.int 1)))) (yM (yI (zB (zA 6) zJ)))) (zB (zF yD (zF ixD (zA 0) (mC (.int 2))) (mC (.int 1))) zJ))))))
 xD)
 (yW 3 (yM (qA [5] 2 (mIt (zA 3)) (yF 1) (mBl (zF neA (zA 1) (zA 0))) (zA 1)))))))))
 (xF (zA 0))))
noncomputable def F__law_closed : MF := mkF 3 7 g__law_closed
noncomputable def qU : MS := (zW (yW 2 (zF yD (mC (.str [113])) (mSl (zS 1 F__law_name (zB (zA 0) zJ)) xL (yV (mC (.int 6))))))
 (zW (yW 3 (zF wH (zF fdivD (zA 0) (mC (.int 3))) (mUn wE (zA 2))))
 (zW (sOwn 4 (yI zJ))
 (zW (sFor (yF 5) (mRng1 (zF subD (zA 1) (mC (.int 1))))
 (sX (mApp 4 (zF yD (zF yD (mSl (zA 2) xL (yV (zA 3))) (zF ixD (mC (.str [97, 98, 99, 100, 101, 102, 103, 104, 105, 106, 107, 108, 109])) (zA 5))) (mSl (zA 2) (yV (zA 3)) xL)))))
 (sRel 4 (xF (zF yD (zA 4) (yM (yI (zB (mC (.str [109, 97, 105, 110])) zJ))))))))))
noncomputable def F__law_def_names : MF := mkF 2 6 qU
noncomputable def g__law_defs : MS := (zW (yW 3 (zF yD (zF yD (mC (.int 1)) (zF fdivD (mMax (zB (zF subD (mUn wE (zA 0)) (mC (.int 1))) (zB (zF wH (zA 1) (mC (.int 5))) zJ))) (mC (.int 26)))) (zF wH (zF fdivD (zA 1) (mC (.int 5))) (mC (.int 4)))))
 (zW (yW 4 (zS 2 F__law_def_names (zB (zA 2) (zB (zA 3) zJ))))
 (zW (sOwn 5 (yI zJ))
 (zW (sFor (yF 6) (mRng1 (zA 3))
 (zW (yW 7 (mSl (zA 4) (yV (mMax (zB (mC (.int 0)) (zB (zF subD (zA 6) (mC (.int 2))) zJ)))) (yV (zF yD (zA 6) (mC (.int 1))))))
 (zW (yW 8 (zF yD (mSl (zS 1 F__law_names (zB (zS 2 yE (zB (zA 2) (zB (zA 6) zJ))) zJ)) xL (yV (zF subD (mC (.int 6)) (mUn wE (zA 7))))) (zA 7)))
 (zW (yW 9 (yM (qA [3, 6] 4 (mEnum (zA 0)) (qO 2 (yR (yF 2) (yR (yF 3) bdNil))) (mBl (zF eqA (zF wH (zA 2) (zA 0)) (zA 1))) (xJ (zB (zA 2) (zB (zA 3) zJ))))))
 (zW (yW 10 (yM (yI (zB (zS 3 F__law_leaf (zB (zA 2) (zB (zS 2 yE (zB (zA 2) (zB (zF yD (mC (.int 20)) (zA 6)) zJ))) (zB (zA 8) zJ)))) zJ))))
 (zW (sFor (qO 2 (yR (yF 11) (yR (yF 12) bdNil))) (mIt (zA 9))
 (yW 10 (zS 4 F__law_grown (zB (zA 10) (zB (zA 12) (zB (zA 11) (zB (zA 8) zJ)))))))
 (zW (yW 13 (zS 3 F__law_closed (zB (zS 3 F__law_folded (zB (zA 10) (zB (zA 2) (zB (zA 8) zJ)))) (zB (zA 2) (zB (mSl (zA 4) xL (yV (zF yD (zA 6) (mC (.int 1))))) zJ)))))
 (sX (mApp 5 (xJ (zB (zF ixD (zA 4) (zA 6)) (zB (zA 13) zJ))))))))))))
 (sRetOwn 5)))))
noncomputable def F__law_defs : MF := mkF 3 14 g__law_defs
noncomputable def wP (m : MF) : MS := (zW (sIf (mOrT (qS (mUn (wG "tuple") (zA 1))) (qS (mUn (wG "list") (zA 1))))
 (zW (sIf (mOrT (mBl (zF neA (mUn (wG "tuple") (zA 0)) (mUn (wG "tuple") (zA 1)))) (mBl (zF neA (mUn (wG "list") (zA 0)) (mUn (wG "list") (zA 1)))))
 (xF (mC (.bl false)))
 xD)
 (zW (sIf (mBl (zF neA (mUn wE (zA 0)) (mUn wE (zA 1))))
 (xF (mC (.bl false)))
 xD)
 (zW (sFor (qO 2 (yR (yF 2) (yR (yF 3) bdNil))) (mZip (zA 0) (zA 1))
 (sIf (wX (qS (zS 2 m (zB (zA 2) (zB (zA 3) zJ)))))
 (xF (mC (.bl false)))
 xD))
 (xF (mC (.bl true))))))
 xD)
 (zW (sIf (qS (mUn (wG "int") (zA 1)))
 (xF (mAnd (mUn (wG "int") (zA 0)) (mAnd (mUn notD (mUn (wG "bool") (zA 0))) (zF eqA (zA 0) (zA 1)))))
 xD)
 (xF (mAnd (mUn (wG "str") (zA 0)) (zF eqA (zA 0) (zA 1))))))
noncomputable def yH : Nat -> MF
  | 0 => fun _ => none
  | k + 1 => mkF 2 4 (wP (yH k))
noncomputable def g_law : MS := (zW (yW 1 (zS 2 yE (zB (zS 2 qK (zB (zA 0) (zB (mC (.int 0)) zJ))) (zB (mC (.int 900)) zJ))))
 (zW (yW 2 (yM (mCallF 3 F__law_defs (zB (mSl (zA 0) (yV (mC (.int 3))) (yV (mC (.int 203)))) (zB (zA 1) (zB (zS 2 yE (zB (zF yD (zS 2 qK (zB (zA 0) (zB (mC (.int 1)) zJ))) (zS 2 qK (zB (zA 0) (zB (mC (.int 2)) zJ)))) (zB (mC (.int 901)) zJ))) zJ))))))
 (zW (yW 3 (yM (wY [] 2 (mIt (zA 2)) (qO 2 (yR (yF 0) (yR (yF 1) bdNil))) (xJ (zB (zA 0) (zB (zF ixD (zA 1) (mC (.int 0))) zJ))))))
 (zW (yW 4 (mJoin (mC (.str [10])) (wY [] 2 (mIt (zA 2)) (qO 2 (yR (yF 0) (yR (yF 1) bdNil))) (mJoin (mC (.str [32])) (mAsL (zF yD (yM (yI (zB (mC (.str [100, 101, 102])) (zB (zA 0) zJ)))) (zF ixD (zA 1) (mC (.int 1)))))))))
 (zW (sOwn 5 (mCallF 1 F_read (zB (zA 4) zJ)))
 (zW (sIf (wX (qS (mCallS 2 (yH RF) (mConsB (mOwn 5) (zB (zA 3) zJ)))))
 (xF (mC (.bl false)))
 xD)
 (zW (yW 6 (mCallS 1 F_shown (mConsB (mOwn 5) zJ)))
 (zW (sIf (mOrT (wX (qS (mUn (wG "str") (zA 6)))) (mOrT (mBl (zF neA (zA 6) (zA 4))) (wX (qS (mCallS 2 (yH RF) (mConsB (mOwn 5) (zB (zA 3) zJ)))))))
 (xF (mC (.bl false)))
 xD)
 (zW (sX (mPop 5))
 (xF (zS 2 (yH RF) (zB (yM (mCallF 1 F_read (zB (zA 4) zJ))) (zB (zA 3) zJ)))))))))))))
noncomputable def F_law : MF := mkF 1 7 g_law
structure De (K : Fg) (mg : Str -> Option Value) (n : Str) (i : Nat) (ps : List Str) where
  a : Addr
  d : FuncData
  F : Fun K n n (top i) a d
  m : mg n = some (.ref a)
  b : Binds K d ps []
noncomputable abbrev Ok (P : Program) (w : World) {K : Fg} {mg : Str -> Option Value} (base : Heap) {n : Str} {i : Nat} {ps : List Str} (D : De K mg n i ps) (k m : Nat) (F : MF) : Prop := FnOk P w K mg base CX0 k D.a D.d ps (spD K m F)
set_option genInjectivity false in
set_option genSizeOf false in
structure Txt (K : Fg) (mg : Str -> Option Value) (Ps : Params) where
  d_inner : De K mg "inner" 7 ["expression"]
  d_places : De K mg "places" 6 ["E"]
  d_all_between : De K mg "all_between" 14 ["text", "least", "greatest"]
  d_is_name : De K mg "is_name" 15 ["text"]
  d_is_number : De K mg "is_number" 16 ["text"]
  d_read_number : De K mg "read_number" 17 ["text"]
  d_take_word : De K mg "take_word" 19 ["waiting"]
  d_take_name : De K mg "take_name" 20 ["waiting"]
  d_read_leaf : De K mg "read_leaf" 22 ["word"]
  d_take_expression : De K mg "take_expression" 21 ["waiting", "around"]
  d_read_expression : De K mg "read_expression" 18 ["text"]
  d_written_parts : De K mg "written_parts" 24 ["expression"]
  d_shown_expression : De K mg "shown_expression" 23 ["E"]
  d_refuse_open_name : De K mg "refuse_open_name" 31 ["expression", "known"]
  d_scopes_in : De K mg "scopes_in" 32 ["expression", "known"]
  d_refuse_open_names : De K mg "refuse_open_names" 30 ["expression", "known"]
  d_read_def : De K mg "read_def" 29 ["line", "above"]
  d_read : De K mg "read" 28 ["text"]
  d_shown_defs : De K mg "shown_defs" 34 ["program"]
  d_shown : De K mg "shown" 33 ["program"]
  d__law_cell : De K mg "_law_cell" 36 ["_law_script", "_law_k"]
  d__law_mixed : De K mg "_law_mixed" 37 ["_law_cell_here", "_law_k"]
  d__law_kept : De K mg "_law_kept" 38 []
  d__law_name : De K mg "_law_name" 39 ["_law_number"]
  d__law_names : De K mg "_law_names" 40 ["_law_cell_here"]
  d__law_leaf : De K mg "_law_leaf" 41 ["_law_cell_here", "_law_number", "_law_names_here"]
  d__law_one : De K mg "_law_one" 42 ["_law_number", "_law_names_here", "_law_one_here"]
  d__law_two : De K mg "_law_two" 43 ["_law_number", "_law_names_here", "_law_one_here", "_law_other"]
  d__law_three : De K mg "_law_three" 44 ["_law_number", "_law_names_here", "_law_parts_here"]
  d__law_grown : De K mg "_law_grown" 45 ["_law_pile", "_law_cell_here", "_law_k", "_law_names_here"]
  d__law_folded : De K mg "_law_folded" 46 ["_law_pile", "_law_cell_here", "_law_names_here"]
  d__law_free : De K mg "_law_free" 47 ["_law_told", "_law_known"]
  d__law_closed : De K mg "_law_closed" 48 ["_law_item", "_law_cell_here", "_law_known"]
  d__law_def_names : De K mg "_law_def_names" 49 ["_law_cell_here", "_law_many"]
  d__law_defs : De K mg "_law_defs" 50 ["_law_cells", "_law_first", "_law_second"]
  d__law_alike : De K mg "_law_alike" 51 ["_law_found", "_law_due"]
  d_law : De K mg "law" 52 ["_law_script"]
  z_all : mg "all" = none
  z_bool : mg "bool" = none
  z_enumerate : mg "enumerate" = none
  z_int : mg "int" = none
  z_isinstance : mg "isinstance" = none
  z_len : mg "len" = none
  z_list : mg "list" = none
  z_max : mg "max" = none
  z_range : mg "range" = none
  z_str : mg "str" = none
  z_tuple : mg "tuple" = none
  z_zip : mg "zip" = none
  c_LONGEST_NAME : ∃ t, mg "LONGEST_NAME" = some (.int 8 t)
  c_MOST_FIGURES : ∃ t, mg "MOST_FIGURES" = some (.int 6 t)
  c_DEEPEST : ∃ t, mg "DEEPEST" = some (.int 30 t)
  c_KEPT_WORDS : GTup mg K "KEPT_WORDS" wV
  c_FORMS : GDict mg K Ps "FORMS" xS
  c_MOST_LINES : ∃ t, mg "MOST_LINES" = some (.int 12 t)
  c_MOST_PLACES : ∃ t, mg "MOST_PLACES" = some (.int 80 t)
section
variable {P : Program} {w : World} {K : Fg} {mg : Str -> Option Value} {base : Heap}
theorem sc_inner : FnScope ["expression"] ["expression"] (zY (top 7)) := ⟨rfl, rfl, rfl, by decide +kernel, rfl, by decide +kernel, by decide +kernel⟩
theorem ok_inner (T : Txt K mg w.params) : Ok P w base T.d_inner 1 1 F_inner := by
  refine fn_d T.d_inner.F sc_inner 1 1 rfl rfl (g := g_inner) (fun cdv A outer s H E hr => ?_)
  unfold g_inner
  exact (by refine zR ?_; exact (by refine yK ?_; exact (by refine wW ?_; exact (df_compIf (N' := ["part"]) (cap := []) rfl cmp_mk (di_seq (zC 0 (pv 0))) (fun _ _ _ _ => (xE 0 (show (["part"] : List Str).Nodup by decide +kernel))) (fun _ _ _ _ => by exact (dt_tru (wM (by rfl) (by exact T.z_isinstance) (zC 0 (pv 0)) (pe_bltn (by rfl) (by exact T.z_tuple) boot_tuple rfl)))) (fun _ _ _ _ => by exact (zC 0 (pv 0))) 1))))
theorem sc_places : FnScope ["E", "found", "waiting", "place"] ["E"] (zY (top 6)) := ⟨rfl, rfl, rfl, by decide +kernel, rfl, by decide +kernel, by decide +kernel⟩
theorem ok_places (T : Txt K mg w.params) : Ok P w base T.d_places 2 1 F_places := by
  refine fn_d T.d_places.F sc_places 1 4 rfl rfl (g := g_places) (fun cdv A outer s H E hr => ?_)
  unfold g_places
  exact (by refine zL ?_ ?_; exact (ds_own 1 (by refine yT ?_; exact zK) sc_places.nd); exact (by refine zL ?_ ?_; exact (ds_own 2 (by refine yT ?_; exact (zD (zC 0 (pv 0)) zK (hs := zQ))) sc_places.nd); exact (by refine zL ?_ ?_; exact (ds_while WF PassesOwn.never (dt_truB (db_own 2 (pv 2))) (by refine zL ?_ ?_; exact (ds_setX 3 (dx_pop 2 (pv 2)) sc_places.nd); exact (by refine zL ?_ ?_; exact (ds_x (dx_append 1 (pv 1) (zC 3 (pv 3)))); exact (by refine zR ?_; exact (ds_x (dx_extend 2 (pv 2) (de_rev (yC (ok_inner T) (hr.mono (by decide)) (by rfl) T.d_inner.m T.d_inner.F.kp T.d_inner.b (zD (zC 3 (pv 3)) zK (hs := zQ)))))))))); exact (by refine zR ?_; exact (ds_retOwn 1 (pv 1))))))
theorem sc_all_between : FnScope ["text", "least", "greatest"] ["text", "least", "greatest"] (zY (top 14)) := ⟨rfl, rfl, rfl, by decide +kernel, rfl, by decide +kernel, by decide +kernel⟩
theorem ok_all_between (T : Txt K mg w.params) : Ok P w base T.d_all_between 1 3 qN := by
  refine fn_d T.d_all_between.F sc_all_between 3 3 rfl rfl (g := g_all_between) (fun cdv A outer s H E hr => ?_)
  unfold g_all_between
  exact (by refine zR ?_; exact (by refine yK ?_; exact (de_all (by rfl) T.z_all (by refine db_f ?_; exact (df_comp (N' := ["least", "greatest", "sign"]) (cap := [1, 2]) rfl cmp_mk (di_str (zC 0 (pv 0))) (fun _ _ _ _ => (xE 2 (show (["least", "greatest", "sign"] : List Str).Nodup by decide +kernel))) (fun _ _ _ _ => by exact (de_chain op_leA od_leA op_leA od_leA (zC 0 (pv 0)) (zC 2 (pv 2)) (zC 1 (pv 1)))) 3)))))
theorem sc_is_name : FnScope ["text"] ["text"] (zY (top 15)) := ⟨rfl, rfl, rfl, by decide +kernel, rfl, by decide +kernel, by decide +kernel⟩
theorem ok_is_name (T : Txt K mg w.params) : Ok P w base T.d_is_name 2 1 qE := by
  refine fn_d T.d_is_name.F sc_is_name 1 1 rfl rfl (g := g_is_name) (fun cdv A outer s H E hr => ?_)
  unfold g_is_name
  exact (by refine zR ?_; exact (by refine yK ?_; exact (de_and (de_chain op_leA od_leA op_leA od_leA zG (de_len (by rfl) T.z_len (zC 0 (pv 0))) (de_gint T.c_LONGEST_NAME (by rfl))) (de_and (yC (ok_all_between T) (hr.mono (by decide)) (by rfl) T.d_all_between.m T.d_all_between.F.kp T.d_all_between.b (by refine zD (zC 0 (pv 0)) ?_ (hs := zQ); refine zD (yN (s := [97]) (by rfl)) ?_ (hs := yS); refine zD (yN (s := [122]) (by rfl)) ?_ (hs := yS); exact zK)) (de_one (de_cmp op_notIn_seq (od_in true) (zC 0 (pv 0)) (de_gtup T.c_KEPT_WORDS (by rfl)) rfl))))))
theorem sc_is_number : FnScope ["text"] ["text"] (zY (top 16)) := ⟨rfl, rfl, rfl, by decide +kernel, rfl, by decide +kernel, by decide +kernel⟩
theorem ok_is_number (T : Txt K mg w.params) : Ok P w base T.d_is_number 2 1 F_is_number := by
  refine fn_d T.d_is_number.F sc_is_number 1 1 rfl rfl (g := g_is_number) (fun cdv A outer s H E hr => ?_)
  unfold g_is_number
  exact (by refine zL ?_ ?_; exact (xW (dt_w (dw_or (dt_not (dt_chain op_leA od_leA op_leA od_leA zG (de_len (by rfl) T.z_len (zC 0 (pv 0))) (de_gint T.c_MOST_FIGURES (by rfl)))) (dw_or1 (dt_not (dt_tru (yC (ok_all_between T) (hr.mono (by decide)) (by rfl) T.d_all_between.m T.d_all_between.F.kp T.d_all_between.b (by refine zD (zC 0 (pv 0)) ?_ (hs := zQ); refine zD (yN (s := [48]) (by rfl)) ?_ (hs := yS); refine zD (yN (s := [57]) (by rfl)) ?_ (hs := yS); exact zK))))))) (by refine zR ?_; exact (by refine yK ?_; exact de_bl)) xB); exact (by refine zR ?_; exact (by refine yK ?_; exact (de_or (de_cmp (op_eqA hr.units0) od_eqA (zC 0 (pv 0)) (yN (s := [48]) (by rfl)) (yZ _)) (de_one (de_cmp (op_neA hr.units0) od_neA (zX (zC 0 (pv 0)) zG) (yN (s := [48]) (by rfl)) (yZ _)))))))
theorem sc_read_number : FnScope ["text"] ["text"] (zY (top 17)) := ⟨rfl, rfl, rfl, by decide +kernel, rfl, by decide +kernel, by decide +kernel⟩
theorem ok_read_number (T : Txt K mg w.params) : Ok P w base T.d_read_number 3 1 F_read_number := by
  refine fn_d T.d_read_number.F sc_read_number 1 1 rfl rfl (g := g_read_number) (fun cdv A outer s H E hr => ?_)
  unfold g_read_number
  exact (by refine zL ?_ ?_; exact (xW (dt_not (dt_tru (yC (ok_is_number T) (hr.mono (by decide)) (by rfl) T.d_is_number.m T.d_is_number.F.kp T.d_is_number.b (zD (zC 0 (pv 0)) zK (hs := zQ))))) (by refine zR ?_; exact ds_never) xB); exact (by refine zR ?_; exact (by refine yK ?_; exact (de_intOf (by rfl) T.z_int (zC 0 (pv 0))))))
theorem sc_take_word : FnScope ["waiting"] ["waiting"] (zY (top 19)) := ⟨rfl, rfl, rfl, by decide +kernel, rfl, by decide +kernel, by decide +kernel⟩
theorem ok_take_word (T : Txt K mg w.params) : Ok P w base T.d_take_word 1 1 F_take_word := by
  refine fn_d T.d_take_word.F sc_take_word 1 1 rfl rfl (g := g_take_word) (fun cdv A outer s H E hr => ?_)
  unfold g_take_word
  exact (by refine zL ?_ ?_; exact (xW (dt_not (dt_truB (db_own 0 (pv 0)))) (by refine zR ?_; exact ds_never) xB); exact (by refine zR ?_; exact (ds_retX (dx_pop 0 (pv 0)))))
theorem sc_take_name : FnScope ["waiting", "word"] ["waiting"] (zY (top 20)) := ⟨rfl, rfl, rfl, by decide +kernel, rfl, by decide +kernel, by decide +kernel⟩
theorem ok_take_name (T : Txt K mg w.params) : Ok P w base T.d_take_name 3 1 F_take_name := by
  refine fn_d T.d_take_name.F sc_take_name 1 2 rfl rfl (g := g_take_name) (fun cdv A outer s H E hr => ?_)
  unfold g_take_name
  exact (by refine zL ?_ ?_; exact (ds_setX 1 (dx_call (ok_take_word T) (hr.mono (by decide)) (by rfl) T.d_take_word.m T.d_take_word.F.kp T.d_take_word.b (dz_p (pv 0) zK)) sc_take_name.nd); exact (by refine zL ?_ ?_; exact (xW (dt_not (dt_tru (yC (ok_is_name T) (hr.mono (by decide)) (by rfl) T.d_is_name.m T.d_is_name.F.kp T.d_is_name.b (zD (zC 1 (pv 1)) zK (hs := zQ))))) (by refine zR ?_; exact ds_never) xB); exact (by refine zR ?_; exact (by refine yK ?_; exact (zC 1 (pv 1))))))
theorem sc_read_leaf : FnScope ["word"] ["word"] (zY (top 22)) := ⟨rfl, rfl, rfl, by decide +kernel, rfl, by decide +kernel, by decide +kernel⟩
theorem ok_read_leaf (T : Txt K mg w.params) : Ok P w base T.d_read_leaf 4 1 F_read_leaf := by
  refine fn_d T.d_read_leaf.F sc_read_leaf 1 1 rfl rfl (g := g_read_leaf) (fun cdv A outer s H E hr => ?_)
  unfold g_read_leaf
  exact (by refine zL ?_ ?_; exact (xW (dt_tru (yC (ok_is_name T) (hr.mono (by decide)) (by rfl) T.d_is_name.m T.d_is_name.F.kp T.d_is_name.b (zD (zC 0 (pv 0)) zK (hs := zQ)))) (by refine zR ?_; exact (by refine yK ?_; exact (by refine xI ?_; exact (zD (yN (s := [110, 97, 109, 101]) (by rfl)) (zD (zC 0 (pv 0)) zK (hs := zQ)) (hs := yS))))) xB); exact (by refine zR ?_; exact (by refine yK ?_; exact (by refine xI ?_; exact (zD (yN (s := [110, 117, 109]) (by rfl)) (zD (yC (ok_read_number T) (hr.mono (by decide)) (by rfl) T.d_read_number.m T.d_read_number.F.kp T.d_read_number.b (zD (zC 0 (pv 0)) zK (hs := zQ))) zK (hs := qC)) (hs := yS))))))
theorem sc_take_expression : FnScope ["waiting", "around", "word", "taken", "part"] ["waiting", "around"] (zY (top 21)) := ⟨rfl, rfl, rfl, by decide +kernel, rfl, by decide +kernel, by decide +kernel⟩
theorem ok_take_expression : ∀ (k : Nat) (T : Txt K mg w.params), Ok P w base T.d_take_expression (k + 4) 2 (yA k)
  | 0, T => fn_0 2
  | k + 1, T => by
    have G := ok_take_expression k T
    rw [show k + 1 + 4 = (k + 4) + 1 by lia]
    refine fn_d T.d_take_expression.F sc_take_expression 2 5 rfl rfl (g := yG (yA k)) (fun cdv A outer s H E hr => ?_)
    unfold yG
    exact (by refine zL ?_ ?_; exact (xW (yX op_gt od_gt (zC 1 (pv 1)) (de_gint T.c_DEEPEST (by rfl)) (yZ _)) (by refine zR ?_; exact ds_never) xB); exact (by refine zL ?_ ?_; exact (ds_setX 2 (dx_call (ok_take_word T) (hr.mono (by lia)) (by rfl) T.d_take_word.m T.d_take_word.F.kp T.d_take_word.b (dz_p (pv 0) zK)) sc_take_expression.nd); exact (by refine zL ?_ ?_; exact (xW (dt_notHas T.c_FORMS (by rfl) (zC 2 (pv 2))) (by refine zR ?_; exact (by refine yK ?_; exact (yC (ok_read_leaf T) (hr.mono (by lia)) (by rfl) T.d_read_leaf.m T.d_read_leaf.F.kp T.d_read_leaf.b (zD (zC 2 (pv 2)) zK (hs := zQ))))) xB); exact (by refine zL ?_ ?_; exact (ds_own 3 (by refine yT ?_; exact (zD (zC 2 (pv 2)) zK (hs := zQ))) sc_take_expression.nd); exact (by refine zL ?_ ?_; exact (ds_for PassesOwn.never rfl (di_str (de_gat T.c_FORMS (by rfl) (zC 2 (pv 2)))) (xE 4 sc_take_expression.nd) (by refine zR ?_; exact (xW (yX (op_eqA hr.units0) od_eqA (zC 4 (pv 4)) (yN (s := [110]) (by rfl)) (yZ _)) (by refine zR ?_; exact (ds_x (dx_appendX 3 (pv 3) (dx_call (ok_take_name T) (hr.mono (by lia)) (by rfl) T.d_take_name.m T.d_take_name.F.kp T.d_take_name.b (dz_p (pv 0) zK))))) (by refine zR ?_; exact (ds_x (dx_appendX 3 (pv 3) (dx_call G (hr.mono (by lia)) (by rfl) T.d_take_expression.m T.d_take_expression.F.kp T.d_take_expression.b (dz_p (pv 0) (zD (zM zT zU (zC 1 (pv 1)) zG) zK (hs := wN)))))))))); exact (by refine zR ?_; exact (by refine yK ?_; exact (de_tupleOf (by rfl) T.z_tuple (db_own 3 (pv 3))))))))))
theorem sc_read_expression : FnScope ["text", "waiting", "expression"] ["text"] (zY (top 18)) := ⟨rfl, rfl, rfl, by decide +kernel, rfl, by decide +kernel, by decide +kernel⟩
theorem ok_read_expression (T : Txt K mg w.params) : Ok P w base T.d_read_expression 45 1 F_read_expression := by
  refine fn_d T.d_read_expression.F sc_read_expression 1 3 rfl rfl (g := qI) (fun cdv A outer s H E hr => ?_)
  unfold qI
  exact (by refine zL ?_ ?_; exact (ds_own 1 (df_rev (db_f (df_split (zC 0 (pv 0)) (yN (s := [32]) (by rfl))))) sc_read_expression.nd); exact (by refine zL ?_ ?_; exact (ds_setX 2 (dx_call (ok_take_expression RF T) (hr.mono (by decide)) (by rfl) T.d_take_expression.m T.d_take_expression.F.kp T.d_take_expression.b (dz_p (pv 1) (zD zG zK (hs := yS)))) sc_read_expression.nd); exact (by refine zL ?_ ?_; exact (xW (dt_truB (db_own 1 (pv 1))) (by refine zR ?_; exact ds_never) xB); exact (by refine zR ?_; exact (by refine yK ?_; exact (zC 2 (pv 2)))))))
theorem sc_written_parts : FnScope ["expression"] ["expression"] (zY (top 24)) := ⟨rfl, rfl, rfl, by decide +kernel, rfl, by decide +kernel, by decide +kernel⟩
theorem ok_written_parts (T : Txt K mg w.params) : Ok P w base T.d_written_parts 1 1 xU := by
  refine fn_d T.d_written_parts.F sc_written_parts 1 1 rfl rfl (g := g_written_parts) (fun cdv A outer s H E hr => ?_)
  unfold g_written_parts
  exact (by refine zL ?_ ?_; exact (xW (yX op_in_seq (od_in false) (zX (zC 0 (pv 0)) zG) (by refine xI ?_; exact (zD (yN (s := [110, 117, 109]) (by rfl)) (zD (yN (s := [110, 97, 109, 101]) (by rfl)) zK (hs := yS)) (hs := yS))) rfl) (by refine zR ?_; exact (by refine yK ?_; exact (de_sl (zC 0 (pv 0)) (wD zG) wQ))) xB); exact (by refine zR ?_; exact (by refine yK ?_; exact (zC 0 (pv 0)))))
theorem qP : FnScope ["E", "words", "waiting", "part"] ["E"] (zY (top 23)) := ⟨rfl, rfl, rfl, by decide +kernel, rfl, by decide +kernel, by decide +kernel⟩
theorem ok_shown_expression (T : Txt K mg w.params) : Ok P w base T.d_shown_expression 2 1 F_shown_expression := by
  refine fn_d T.d_shown_expression.F qP 1 4 rfl rfl (g := g_shown_expression) (fun cdv A outer s H E hr => ?_)
  unfold g_shown_expression
  exact (by refine zL ?_ ?_; exact (ds_own 1 (by refine yT ?_; exact zK) qP.nd); exact (by refine zL ?_ ?_; exact (ds_own 2 (by refine yT ?_; exact (zD (zC 0 (pv 0)) zK (hs := zQ))) qP.nd); exact (by refine zL ?_ ?_; exact (ds_while WF PassesOwn.never (dt_truB (db_own 2 (pv 2))) (by refine zL ?_ ?_; exact (ds_setX 3 (dx_pop 2 (pv 2)) qP.nd); exact (by refine zR ?_; exact (xW (dt_tru (wM (by rfl) T.z_isinstance (zC 3 (pv 3)) (pe_bltn (by rfl) T.z_tuple boot_tuple rfl))) (by refine zR ?_; exact (ds_x (dx_extend 2 (pv 2) (de_rev (yC (ok_written_parts T) (hr.mono (by decide)) (by rfl) T.d_written_parts.m T.d_written_parts.F.kp T.d_written_parts.b (zD (zC 3 (pv 3)) zK (hs := zQ))))))) (by refine zR ?_; exact (ds_x (dx_append 1 (pv 1) (de_strOf (by rfl) T.z_str (zC 3 (pv 3)))))))))); exact (by refine zR ?_; exact (by refine yK ?_; exact (de_join (yN (s := [32]) (by rfl)) (db_own 1 (pv 1))))))))
theorem sc_refuse_open_name : FnScope ["expression", "known", "name"] ["expression", "known"] (zY (top 31)) := ⟨rfl, rfl, rfl, by decide +kernel, rfl, by decide +kernel, by decide +kernel⟩
theorem ok_refuse_open_name (T : Txt K mg w.params) : Ok P w base T.d_refuse_open_name 1 2 xY := by
  refine fn_d T.d_refuse_open_name.F sc_refuse_open_name 2 3 rfl rfl (g := g_refuse_open_name) (fun cdv A outer s H E hr => ?_)
  unfold g_refuse_open_name
  exact (by refine zR ?_; exact (xW (dt_w (dw_and (yX (op_eqA hr.units0) od_eqA (zX (zC 0 (pv 0)) zG) (yN (s := [110, 97, 109, 101]) (by rfl)) (yZ _)) (dw_and1 (yX op_notIn_seq (od_in true) (zX (zC 0 (pv 0)) zG) (zC 1 (pv 1)) rfl)))) (by refine zL ?_ ?_; exact (yQ 2 (zX (zC 0 (pv 0)) zG) sc_refuse_open_name.nd); exact (by refine zR ?_; exact ds_never)) xB))
theorem sc_scopes_in : FnScope ["expression", "known", "first", "second"] ["expression", "known"] (zY (top 32)) := ⟨rfl, rfl, rfl, by decide +kernel, rfl, by decide +kernel, by decide +kernel⟩
theorem ok_scopes_in (T : Txt K mg w.params) : Ok P w base T.d_scopes_in 2 2 F_scopes_in := by
  refine fn_d T.d_scopes_in.F sc_scopes_in 2 4 rfl rfl (g := g_scopes_in) (fun cdv A outer s H E hr => ?_)
  unfold g_scopes_in
  exact (by refine zL ?_ ?_; exact (xW (yX (op_eqA hr.units0) od_eqA (zX (zC 0 (pv 0)) zG) (yN (s := [102, 110]) (by rfl)) (yZ _)) (by refine zR ?_; exact (by refine yK ?_; exact (by refine wW ?_; exact (by refine yT ?_; exact (zD (by refine xI ?_; exact (zD (zX (zC 0 (pv 0)) zG) (zD (zM zT zU (zC 1 (pv 1)) (by refine wW ?_; exact (by refine yT ?_; exact (zD (zX (zC 0 (pv 0)) zG) zK (hs := xG))))) zK (hs := wN)) (hs := xG))) zK (hs := stTuple)))))) xB); exact (by refine zL ?_ ?_; exact (xW (yX (op_eqA hr.units0) od_eqA (zX (zC 0 (pv 0)) zG) (yN (s := [99, 97, 115, 101]) (by rfl)) (yZ _)) (by refine zL ?_ ?_; exact (yQ 2 (by refine xI ?_; exact (zD (zX (zC 0 (pv 0)) zG) (zD (zM zT zU (zC 1 (pv 1)) (by refine wW ?_; exact (by refine yT ?_; exact (zD (zX (zC 0 (pv 0)) zG) zK (hs := xG))))) zK (hs := wN)) (hs := xG))) sc_scopes_in.nd); exact (by refine zL ?_ ?_; exact (yQ 3 (by refine xI ?_; exact (zD (zX (zC 0 (pv 0)) zG) (zD (zM zT zU (zC 1 (pv 1)) (by refine wW ?_; exact (by refine yT ?_; exact (zD (zX (zC 0 (pv 0)) zG) zK (hs := xG))))) zK (hs := wN)) (hs := xG))) sc_scopes_in.nd); exact (by refine zR ?_; exact (by refine yK ?_; exact (by refine wW ?_; exact (by refine yT ?_; exact (by refine zD (by refine xI ?_; exact (zD (zX (zC 0 (pv 0)) zG) (zD (zC 1 (pv 1)) zK (hs := zQ)) (hs := xG))) ?_ (hs := stTuple); refine zD (zC 2 (pv 2)) ?_ (hs := zQ); refine zD (zC 3 (pv 3)) ?_ (hs := zQ); exact zK))))))) xB); exact (by refine zR ?_; exact (by refine yK ?_; exact (by refine wW ?_; exact (df_comp (N' := ["known", "part"]) (cap := [1]) rfl cmp_mk (di_seq (yC (ok_inner T) (hr.mono (by decide)) (by rfl) T.d_inner.m T.d_inner.F.kp T.d_inner.b (zD (zC 0 (pv 0)) zK (hs := zQ)))) (fun _ _ _ _ => (xE 1 (show (["known", "part"] : List Str).Nodup by decide +kernel))) (fun _ _ _ _ => by exact (by refine xI ?_; exact (zD (zC 1 (pv 1)) (zD (zC 0 (pv 0)) zK (hs := zQ)) (hs := zQ)))) 2))))))
theorem sc_refuse_open_names : FnScope ["expression", "known", "waiting", "scope"] ["expression", "known"] (zY (top 30)) := ⟨rfl, rfl, rfl, by decide +kernel, rfl, by decide +kernel, by decide +kernel⟩
theorem ok_refuse_open_names (T : Txt K mg w.params) : Ok P w base T.d_refuse_open_names 3 2 wO := by
  refine fn_d T.d_refuse_open_names.F sc_refuse_open_names 2 4 rfl rfl (g := qQ) (fun cdv A outer s H E hr => ?_)
  unfold qQ
  exact (by refine zL ?_ ?_; exact (ds_own 2 (by refine yT ?_; exact (zD (by refine xI ?_; exact (zD (zC 0 (pv 0)) (zD (zC 1 (pv 1)) zK (hs := zQ)) (hs := zQ))) zK (hs := stTuple))) sc_refuse_open_names.nd); exact (by refine zR ?_; exact (ds_while WF PassesOwn.never (dt_truB (db_own 2 (pv 2))) (by refine zL ?_ ?_; exact (ds_setX 3 (dx_pop 2 (pv 2)) sc_refuse_open_names.nd); exact (by refine zL ?_ ?_; exact (ds_expr (yC (ok_refuse_open_name T) (hr.mono (by decide)) (by rfl) T.d_refuse_open_name.m T.d_refuse_open_name.F.kp T.d_refuse_open_name.b (zD (zX (zC 3 (pv 3)) zG) (zD (zX (zC 3 (pv 3)) zG) zK (hs := xG)) (hs := xG)))); exact (by refine zR ?_; exact (ds_x (dx_extend 2 (pv 2) (yC (ok_scopes_in T) (hr.mono (by decide)) (by rfl) T.d_scopes_in.m T.d_scopes_in.F.kp T.d_scopes_in.b (zD (zX (zC 3 (pv 3)) zG) (zD (zX (zC 3 (pv 3)) zG) zK (hs := xG)) (hs := xG)))))))))))
theorem sc_read_def : FnScope ["line", "above", "words", "name", "expression"] ["line", "above"] (zY (top 29)) := ⟨rfl, rfl, rfl, by decide +kernel, rfl, by decide +kernel, by decide +kernel⟩
theorem ok_read_def (T : Txt K mg w.params) : Ok P w base T.d_read_def 46 2 F_read_def := by
  refine fn_d T.d_read_def.F sc_read_def 2 5 rfl rfl (g := g_read_def) (fun cdv A outer s H E hr => ?_)
  unfold g_read_def
  exact (by refine zL ?_ ?_; exact (yQ 2 (by refine wW ?_; exact (df_splitM (zC 0 (pv 0)) (yN (s := [32]) (by rfl)))) sc_read_def.nd); exact (by refine zL ?_ ?_; exact (xW (dt_w (dw_or (yX (op_neA hr.units0) od_neA (de_len (by rfl) T.z_len (zC 2 (pv 2))) zG (yZ _)) (dw_or (yX (op_neA hr.units0) od_neA (zX (zC 2 (pv 2)) zG) (yN (s := [100, 101, 102]) (by rfl)) (yZ _)) (dw_or1 (dt_not (dt_tru (yC (ok_is_name T) (hr.mono (by decide)) (by rfl) T.d_is_name.m T.d_is_name.F.kp T.d_is_name.b (zD (zX (zC 2 (pv 2)) zG) zK (hs := xG))))))))) (by refine zR ?_; exact ds_never) xB); exact (by refine zL ?_ ?_; exact (yQ 3 (zX (zC 2 (pv 2)) zG) sc_read_def.nd); exact (by refine zL ?_ ?_; exact (yQ 4 (yC (ok_read_expression T) (hr.mono (by decide)) (by rfl) T.d_read_expression.m T.d_read_expression.F.kp T.d_read_expression.b (zD (zX (zC 2 (pv 2)) zG) zK (hs := xG))) sc_read_def.nd); exact (by refine zL ?_ ?_; exact (xW (yX op_gt od_gt (de_len (by rfl) T.z_len (by refine wW ?_; exact (df_call (ok_places T) (hr.mono (by decide)) (by rfl) T.d_places.m T.d_places.F.kp T.d_places.b (zD (zC 4 (pv 4)) zK (hs := zQ))))) (de_gint T.c_MOST_PLACES (by rfl)) (yZ _)) (by refine zR ?_; exact ds_never) xB); exact (by refine zL ?_ ?_; exact (xW (yX op_in_seq (od_in false) (zC 3 (pv 3)) (zC 1 (pv 1)) rfl) (by refine zR ?_; exact ds_never) xB); exact (by refine zL ?_ ?_; exact (ds_expr (yC (ok_refuse_open_names T) (hr.mono (by decide)) (by rfl) T.d_refuse_open_names.m T.d_refuse_open_names.F.kp T.d_refuse_open_names.b (zD (zC 4 (pv 4)) (zD (zM zT zU (zC 1 (pv 1)) (by refine wW ?_; exact (by refine yT ?_; exact (zD (zC 3 (pv 3)) zK (hs := zQ))))) zK (hs := wN)) (hs := zQ)))); exact (by refine zR ?_; exact (by refine yK ?_; exact (by refine xI ?_; exact (zD (zC 3 (pv 3)) (zD (zC 4 (pv 4)) zK (hs := zQ)) (hs := zQ))))))))))))
theorem sc_read : FnScope ["text", "lines", "program", "line"] ["text"] (zY (top 28)) := ⟨rfl, rfl, rfl, by decide +kernel, rfl, by decide +kernel, by decide +kernel⟩
theorem ok_read (T : Txt K mg w.params) : Ok P w base T.d_read 47 1 F_read := by
  refine fn_d T.d_read.F sc_read 1 4 rfl rfl (g := g_read) (fun cdv A outer s H E hr => ?_)
  unfold g_read
  exact (by refine zL ?_ ?_; exact (yQ 1 (by refine wW ?_; exact (df_split (zC 0 (pv 0)) (yN (s := [10]) (by rfl)))) sc_read.nd); exact (by refine zL ?_ ?_; exact (xW (yX op_gt od_gt (de_len (by rfl) T.z_len (zC 1 (pv 1))) (de_gint T.c_MOST_LINES (by rfl)) (yZ _)) (by refine zR ?_; exact ds_never) xB); exact (by refine zL ?_ ?_; exact (ds_own 2 (by refine yT ?_; exact zK) sc_read.nd); exact (by refine zL ?_ ?_; exact (ds_for PassesOwn.never rfl (di_seq (zC 1 (pv 1))) (xE 3 sc_read.nd) (by refine zR ?_; exact (ds_x (dx_appendZ 2 (pv 2) (yC (ok_read_def T) (hr.mono (by decide)) (by rfl) T.d_read_def.m T.d_read_def.F.kp T.d_read_def.b (zD (zC 3 (pv 3)) (zD (by refine wW ?_; exact (df_comp (N' := ["above"]) (cap := []) rfl cmp_mk (di_k (dk_z 2 (pv 2))) (fun _ _ _ _ => (xE 0 (show (["above"] : List Str).Nodup by decide +kernel))) (fun _ _ _ _ => by exact (zX (zC 0 (pv 0)) zG)) 1)) zK) (hs := zQ))))))); exact (by refine zL ?_ ?_; exact (xW (yX (op_neA hr.units0) od_neA (zX (de_ixB (db_own 2 (pv 2)) (de_neg zG)) zG) (yN (s := [109, 97, 105, 110]) (by rfl)) (yZ _)) (by refine zR ?_; exact ds_never) xB); exact (by refine zR ?_; exact (ds_retOwn 2 (pv 2))))))))
theorem sc_shown_defs : FnScope ["program"] ["program"] (zY (top 34)) := ⟨rfl, rfl, rfl, by decide +kernel, rfl, by decide +kernel, by decide +kernel⟩
theorem ok_shown_defs (T : Txt K mg w.params) : Ok P w base T.d_shown_defs 3 1 F_shown_defs := by
  refine fn_d T.d_shown_defs.F sc_shown_defs 1 1 rfl rfl (g := g_shown_defs) (fun cdv A outer s H E hr => ?_)
  unfold g_shown_defs
  exact (by refine zR ?_; exact (by refine yK ?_; exact (by refine wW ?_; exact (df_comp (N' := ["name", "expression"]) (cap := []) rfl cmp_mk (di_seq (zC 0 (pv 0))) (fun _ _ _ _ => (dg_seq rfl (wL (xE 0 (show (["name", "expression"] : List Str).Nodup by decide +kernel)) (wL (xE 1 (show (["name", "expression"] : List Str).Nodup by decide +kernel)) dgs_nil)))) (fun _ _ _ _ => by exact (by refine xI ?_; exact (zD (zC 0 (pv 0)) (zD (yC (ok_shown_expression T) (hr.mono (by decide)) (by rfl) T.d_shown_expression.m T.d_shown_expression.F.kp T.d_shown_expression.b (zD (zC 1 (pv 1)) zK (hs := zQ))) zK (hs := qC)) (hs := zQ)))) 2))))
theorem sc_shown : FnScope ["program"] ["program"] (zY (top 33)) := ⟨rfl, rfl, rfl, by decide +kernel, rfl, by decide +kernel, by decide +kernel⟩
theorem ok_shown (T : Txt K mg w.params) : Ok P w base T.d_shown 4 1 F_shown := by
  refine fn_d T.d_shown.F sc_shown 1 1 rfl rfl (g := g_shown) (fun cdv A outer s H E hr => ?_)
  unfold g_shown
  exact (by refine zR ?_; exact (by refine yK ?_; exact (de_join (yN (s := [10]) (by rfl)) (by refine db_f ?_; exact (df_comp (N' := ["name", "words"]) (cap := []) rfl cmp_mk (di_seq (yC (ok_shown_defs T) (hr.mono (by decide)) (by rfl) T.d_shown_defs.m T.d_shown_defs.F.kp T.d_shown_defs.b (zD (zC 0 (pv 0)) zK (hs := zQ)))) (fun _ _ _ _ => (dg_seq rfl (wL (xE 0 (show (["name", "words"] : List Str).Nodup by decide +kernel)) (wL (xE 1 (show (["name", "words"] : List Str).Nodup by decide +kernel)) dgs_nil)))) (fun _ _ _ _ => by exact (de_fstr (dj_c (yN (s := [100, 101, 102, 32]) (by rfl)) (dj_v (zC 0 (pv 0)) (dj_c (yN (s := [32]) (by rfl)) (dj_v (zC 1 (pv 1)) dj_nil)))))) 2)))))
theorem sc__law_cell : FnScope ["_law_script", "_law_k"] ["_law_script", "_law_k"] (zY (top 36)) := ⟨rfl, rfl, rfl, by decide +kernel, rfl, by decide +kernel, by decide +kernel⟩
theorem ok__law_cell (T : Txt K mg w.params) : Ok P w base T.d__law_cell 1 2 qK := by
  refine fn_d T.d__law_cell.F sc__law_cell 2 2 rfl rfl (g := g__law_cell) (fun cdv A outer s H E hr => ?_)
  unfold g__law_cell
  exact (by refine zL ?_ ?_; exact (xW (yX op_lt od_lt (zC 1 (pv 1)) (de_len (by rfl) T.z_len (zC 0 (pv 0))) (yZ _)) (by refine zR ?_; exact (by refine yK ?_; exact (zX (zC 0 (pv 0)) (zC 1 (pv 1))))) xB); exact (by refine zR ?_; exact (by refine yK ?_; exact zG)))
theorem sc__law_mixed : FnScope ["_law_cell_here", "_law_k", "_law_number"] ["_law_cell_here", "_law_k"] (zY (top 37)) := ⟨rfl, rfl, rfl, by decide +kernel, rfl, by decide +kernel, by decide +kernel⟩
theorem xO (T : Txt K mg w.params) : Ok P w base T.d__law_mixed 1 2 yE := by
  refine fn_d T.d__law_mixed.F sc__law_mixed 2 3 rfl rfl (g := g__law_mixed) (fun cdv A outer s H E hr => ?_)
  unfold g__law_mixed
  exact (by refine zL ?_ ?_; exact (yQ 2 (zM wA wB (zM zT zU (zM zT zU (zM wA wB (zC 0 (pv 0)) zG) (zM op_mul od_mul zG (zC 1 (pv 1)))) zG) zG) sc__law_mixed.nd); exact (by refine zL ?_ ?_; exact (yQ 2 (zM wA wB (zM op_mul od_mul (zC 2 (pv 2)) (zC 2 (pv 2))) zG) sc__law_mixed.nd); exact (by refine zR ?_; exact (by refine yK ?_; exact (zM op_fdiv od_fdiv (zM wA wB (zM op_mul od_mul (zC 2 (pv 2)) (zM zT zU (zC 2 (pv 2)) zG)) zG) zG)))))
theorem sc__law_kept : FnScope [] [] (zY (top 38)) := ⟨rfl, rfl, rfl, by decide +kernel, rfl, by decide +kernel, by decide +kernel⟩
theorem ok__law_kept (T : Txt K mg w.params) : Ok P w base T.d__law_kept 1 0 F__law_kept := by
  refine fn_d T.d__law_kept.F sc__law_kept 0 0 rfl rfl (g := g__law_kept) (fun cdv A outer s H E hr => ?_)
  unfold g__law_kept
  exact (by refine zR ?_; exact (by refine yK ?_; exact (by refine wW ?_; exact (by refine yT ?_; exact (by refine da_strs (ss := [[100, 101, 102], [102, 110], [100, 111], [101, 109, 112, 116, 121], [103, 101, 116], [119, 105, 116, 104], [112, 117, 116], [108, 101, 115, 115], [116, 97, 103], [119, 105, 100, 101], [99, 97, 115, 101], [110, 101, 118, 101, 114], [105, 102]]) ?_; rfl)))))
theorem sc__law_name : FnScope ["_law_number", "_law_word", "_law_k"] ["_law_number"] (zY (top 39)) := ⟨rfl, rfl, rfl, by decide +kernel, rfl, by decide +kernel, by decide +kernel⟩
theorem ok__law_name (T : Txt K mg w.params) : Ok P w base T.d__law_name 2 1 F__law_name := by
  refine fn_d T.d__law_name.F sc__law_name 1 3 rfl rfl (g := g__law_name) (fun cdv A outer s H E hr => ?_)
  unfold g__law_name
  exact (by refine zL ?_ ?_; exact (yQ 1 (yN (s := []) (by rfl)) sc__law_name.nd); exact (by refine zL ?_ ?_; exact (ds_for PassesOwn.never rfl (di_rng1 (by rfl) T.z_range (zM zT zU zG (zM wA wB (zC 0 (pv 0)) zG))) (xE 2 sc__law_name.nd) (by refine zR ?_; exact (yQ 1 (zM zT zU (zC 1 (pv 1)) (zX (yN (s := [97, 98, 99, 100, 101, 102, 103, 104, 105, 106, 107, 108, 109, 110, 111, 112, 113, 114, 115, 116, 117, 118, 119, 120, 121, 122]) (by rfl)) (zM wA wB (yC (xO T) (hr.mono (by decide)) (by rfl) T.d__law_mixed.m T.d__law_mixed.F.kp T.d__law_mixed.b (zD (zC 0 (pv 0)) (zD (zM zT zU zG (zC 2 (pv 2))) zK (hs := wN)) (hs := zQ))) zG))) sc__law_name.nd))); exact (by refine zL ?_ ?_; exact (xW (yX op_in_seq (od_in false) (zC 1 (pv 1)) (de_call0 (ok__law_kept T) (hr.mono (by decide)) (by rfl) T.d__law_kept.m T.d__law_kept.F.kp T.d__law_kept.b) rfl) (by refine zR ?_; exact (by refine yK ?_; exact (zM zT zU (yN (s := [113]) (by rfl)) (de_sl (zC 1 (pv 1)) (wD zG) wQ)))) xB); exact (by refine zR ?_; exact (by refine yK ?_; exact (zC 1 (pv 1)))))))
theorem sc__law_names : FnScope ["_law_cell_here", "_law_near", "_law_words"] ["_law_cell_here"] (zY (top 40)) := ⟨rfl, rfl, rfl, by decide +kernel, rfl, by decide +kernel, by decide +kernel⟩
theorem ok__law_names (T : Txt K mg w.params) : Ok P w base T.d__law_names 3 1 F__law_names := by
  refine fn_d T.d__law_names.F sc__law_names 1 3 rfl rfl (g := g__law_names) (fun cdv A outer s H E hr => ?_)
  unfold g__law_names
  exact (by refine zL ?_ ?_; exact (yQ 1 (de_sl (yC (ok__law_name T) (hr.mono (by decide)) (by rfl) T.d__law_name.m T.d__law_name.F.kp T.d__law_name.b (zD (yC (xO T) (hr.mono (by decide)) (by rfl) T.d__law_mixed.m T.d__law_mixed.F.kp T.d__law_mixed.b (zD (zC 0 (pv 0)) (zD zG zK (hs := yS)) (hs := zQ))) zK (hs := qC))) wQ (wD zG)) sc__law_names.nd); exact (by refine zL ?_ ?_; exact (yQ 2 (by refine wW ?_; exact (by refine yT ?_; exact (by refine zD (zC 1 (pv 1)) ?_ (hs := zQ); refine zD (zM zT zU (zC 1 (pv 1)) (yN (s := [113]) (by rfl))) ?_ (hs := wN); refine zD (zM zT zU (de_sl (zC 1 (pv 1)) wQ (wD (de_neg zG))) (yN (s := [122]) (by rfl))) ?_ (hs := wN); refine zD (zM zT zU (yN (s := [122]) (by rfl)) (de_sl (zC 1 (pv 1)) (wD zG) wQ)) ?_ (hs := wN); exact zK))) sc__law_names.nd); exact (by refine zR ?_; exact (by refine yK ?_; exact (zM zT zU (zC 2 (pv 2)) (by refine wW ?_; exact (by refine yT ?_; exact (zD (yC (ok__law_name T) (hr.mono (by decide)) (by rfl) T.d__law_name.m T.d__law_name.F.kp T.d__law_name.b (zD (yC (xO T) (hr.mono (by decide)) (by rfl) T.d__law_mixed.m T.d__law_mixed.F.kp T.d__law_mixed.b (zD (zC 0 (pv 0)) (zD zG zK (hs := yS)) (hs := zQ))) zK (hs := qC))) (zD (yC (ok__law_name T) (hr.mono (by decide)) (by rfl) T.d__law_name.m T.d__law_name.F.kp T.d__law_name.b (zD (yC (xO T) (hr.mono (by decide)) (by rfl) T.d__law_mixed.m T.d__law_mixed.F.kp T.d__law_mixed.b (zD (zC 0 (pv 0)) (zD zG zK (hs := yS)) (hs := zQ))) zK (hs := qC))) zK (hs := qC)) (hs := qC)))))))))
theorem sc__law_leaf : FnScope ["_law_cell_here", "_law_number", "_law_names_here", "_law_name_here", "_law_found"] ["_law_cell_here", "_law_number", "_law_names_here"] (zY (top 41)) := ⟨rfl, rfl, rfl, by decide +kernel, rfl, by decide +kernel, by decide +kernel⟩
theorem ok__law_leaf (T : Txt K mg w.params) : Ok P w base T.d__law_leaf 1 3 F__law_leaf := by
  refine fn_d T.d__law_leaf.F sc__law_leaf 3 5 rfl rfl (g := g__law_leaf) (fun cdv A outer s H E hr => ?_)
  unfold g__law_leaf
  exact (by refine zL ?_ ?_; exact (xW (yX (op_eqA hr.units0) od_eqA (zM wA wB (zC 1 (pv 1)) zG) zG (yZ _)) (by refine zR ?_; exact (by refine yK ?_; exact (by refine xI ?_; exact (by refine zD (by refine xI ?_; exact (zD (yN (s := [101, 109, 112, 116, 121]) (by rfl)) zK (hs := yS))) ?_ (hs := stTuple); refine zD (by refine wW ?_; exact (by refine yT ?_; exact (zD (yN (s := [101, 109, 112, 116, 121]) (by rfl)) zK (hs := yS)))) ?_ (hs := stList); refine zD zG ?_ (hs := yS); exact zK)))) xB); exact (by refine zL ?_ ?_; exact (xW (yX op_lt od_lt (zM wA wB (zC 1 (pv 1)) zG) zG (yZ _)) (by refine zL ?_ ?_; exact (yQ 3 (zX (zC 2 (pv 2)) (zM wA wB (zM op_fdiv od_fdiv (zC 1 (pv 1)) zG) zG)) sc__law_leaf.nd); exact (by refine zR ?_; exact (by refine yK ?_; exact (by refine xI ?_; exact (by refine zD (by refine xI ?_; exact (zD (yN (s := [110, 97, 109, 101]) (by rfl)) (zD (zC 3 (pv 3)) zK (hs := zQ)) (hs := yS))) ?_ (hs := stTuple); refine zD (by refine wW ?_; exact (by refine yT ?_; exact (zD (zC 3 (pv 3)) zK (hs := zQ)))) ?_ (hs := stList); refine zD zG ?_ (hs := yS); exact zK))))) xB); exact (by refine zL ?_ ?_; exact (yQ 4 (zM wA wB (zM zT zU (zC 0 (pv 0)) (zC 1 (pv 1))) (zM op_pow od_pow zG zG)) sc__law_leaf.nd); exact (by refine zL ?_ ?_; exact (xW (yX (op_eqA hr.units0) od_eqA (zM wA wB (zM op_fdiv od_fdiv (zC 1 (pv 1)) zG) zG) zG (yZ _)) (by refine zR ?_; exact (yQ 4 (zM wA wB (zM op_fdiv od_fdiv (zC 1 (pv 1)) zG) zG) sc__law_leaf.nd)) xB); exact (by refine zR ?_; exact (by refine yK ?_; exact (by refine xI ?_; exact (by refine zD (by refine xI ?_; exact (zD (yN (s := [110, 117, 109]) (by rfl)) (zD (zC 4 (pv 4)) zK (hs := zQ)) (hs := yS))) ?_ (hs := stTuple); refine zD (by refine wW ?_; exact (by refine yT ?_; exact (zD (de_strOf (by rfl) T.z_str (zC 4 (pv 4))) zK (hs := qC)))) ?_ (hs := stList); refine zD zG ?_ (hs := yS); exact zK))))))))
theorem sc__law_one : FnScope ["_law_number", "_law_names_here", "_law_one_here", "_law_word", "_law_name_here"] ["_law_number", "_law_names_here", "_law_one_here"] (zY (top 42)) := ⟨rfl, rfl, rfl, by decide +kernel, rfl, by decide +kernel, by decide +kernel⟩
theorem ok__law_one (T : Txt K mg w.params) : Ok P w base T.d__law_one 1 3 F__law_one := by
  refine fn_d T.d__law_one.F sc__law_one 3 5 rfl rfl (g := g__law_one) (fun cdv A outer s H E hr => ?_)
  unfold g__law_one
  exact (by refine zL ?_ ?_; exact (yQ 3 (zX (by refine wW ?_; exact (by refine yT ?_; exact (by refine da_strs (ss := [[102, 110], [103, 101, 116], [108, 101, 115, 115], [116, 97, 103], [119, 105, 100, 101], [110, 101, 118, 101, 114]]) ?_; rfl))) (zM wA wB (zC 0 (pv 0)) zG)) sc__law_one.nd); exact (by refine zL ?_ ?_; exact (yQ 4 (zX (zC 1 (pv 1)) (zM wA wB (zM op_fdiv od_fdiv (zC 0 (pv 0)) zG) zG)) sc__law_one.nd); exact (by refine zL ?_ ?_; exact (xW (yX (op_eqA hr.units0) od_eqA (zC 3 (pv 3)) (yN (s := [110, 101, 118, 101, 114]) (by rfl)) (yZ _)) (by refine zR ?_; exact (by refine yK ?_; exact (by refine xI ?_; exact (by refine zD (by refine xI ?_; exact (zD (yN (s := [110, 101, 118, 101, 114]) (by rfl)) (zD (zX (zC 2 (pv 2)) zG) zK (hs := xG)) (hs := yS))) ?_ (hs := stTuple); refine zD (zM zT zU (by refine wW ?_; exact (by refine yT ?_; exact (zD (yN (s := [110, 101, 118, 101, 114]) (by rfl)) zK (hs := yS)))) (zX (zC 2 (pv 2)) zG)) ?_ (hs := wN); refine zD (zM zT zU (zX (zC 2 (pv 2)) zG) zG) ?_ (hs := wN); exact zK)))) xB); exact (by refine zR ?_; exact (by refine yK ?_; exact (by refine xI ?_; exact (by refine zD (by refine xI ?_; exact (by refine zD (zC 3 (pv 3)) ?_ (hs := zQ); refine zD (zC 4 (pv 4)) ?_ (hs := zQ); refine zD (zX (zC 2 (pv 2)) zG) ?_ (hs := xG); exact zK)) ?_ (hs := stTuple); refine zD (zM zT zU (by refine wW ?_; exact (by refine yT ?_; exact (zD (zC 3 (pv 3)) (zD (zC 4 (pv 4)) zK (hs := zQ)) (hs := zQ)))) (zX (zC 2 (pv 2)) zG)) ?_ (hs := wN); refine zD (zM zT zU (zX (zC 2 (pv 2)) zG) zG) ?_ (hs := wN); exact zK)))))))
theorem sc__law_two : FnScope ["_law_number", "_law_names_here", "_law_one_here", "_law_other", "_law_word", "_law_name_here", "_law_deep"] ["_law_number", "_law_names_here", "_law_one_here", "_law_other"] (zY (top 43)) := ⟨rfl, rfl, rfl, by decide +kernel, rfl, by decide +kernel, by decide +kernel⟩
theorem ok__law_two (T : Txt K mg w.params) : Ok P w base T.d__law_two 1 4 F__law_two := by
  refine fn_d T.d__law_two.F sc__law_two 4 7 rfl rfl (g := g__law_two) (fun cdv A outer s H E hr => ?_)
  unfold g__law_two
  exact (by refine zL ?_ ?_; exact (yQ 4 (zX (by refine wW ?_; exact (by refine yT ?_; exact (by refine da_strs (ss := [[100, 111], [43], [45], [42], [60], [119, 105, 116, 104], [112, 117, 116]]) ?_; rfl))) (zM wA wB (zC 0 (pv 0)) zG)) sc__law_two.nd); exact (by refine zL ?_ ?_; exact (yQ 5 (zX (zC 1 (pv 1)) (zM wA wB (zM op_fdiv od_fdiv (zC 0 (pv 0)) zG) zG)) sc__law_two.nd); exact (by refine zL ?_ ?_; exact (yQ 6 (zM zT zU zG (de_max (by rfl) (by rfl) T.z_max (zD (zX (zC 2 (pv 2)) zG) (zD (zX (zC 3 (pv 3)) zG) zK (hs := xG)) (hs := xG)))) sc__law_two.nd); exact (by refine zL ?_ ?_; exact (xW (yX op_lt od_lt (zM wA wB (zC 0 (pv 0)) zG) zG (yZ _)) (by refine zR ?_; exact (by refine yK ?_; exact (by refine xI ?_; exact (by refine zD (by refine xI ?_; exact (by refine zD (zC 4 (pv 4)) ?_ (hs := zQ); refine zD (zX (zC 2 (pv 2)) zG) ?_ (hs := xG); refine zD (zX (zC 3 (pv 3)) zG) ?_ (hs := xG); exact zK)) ?_ (hs := stTuple); refine zD (zM zT zU (zM zT zU (by refine wW ?_; exact (by refine yT ?_; exact (zD (zC 4 (pv 4)) zK (hs := zQ)))) (zX (zC 2 (pv 2)) zG)) (zX (zC 3 (pv 3)) zG)) ?_ (hs := wN); refine zD (zC 6 (pv 6)) ?_ (hs := zQ); exact zK)))) xB); exact (by refine zR ?_; exact (by refine yK ?_; exact (by refine xI ?_; exact (by refine zD (by refine xI ?_; exact (by refine zD (zC 4 (pv 4)) ?_ (hs := zQ); refine zD (zC 5 (pv 5)) ?_ (hs := zQ); refine zD (zX (zC 2 (pv 2)) zG) ?_ (hs := xG); refine zD (zX (zC 3 (pv 3)) zG) ?_ (hs := xG); exact zK)) ?_ (hs := stTuple); refine zD (zM zT zU (zM zT zU (by refine wW ?_; exact (by refine yT ?_; exact (zD (zC 4 (pv 4)) (zD (zC 5 (pv 5)) zK (hs := zQ)) (hs := zQ)))) (zX (zC 2 (pv 2)) zG)) (zX (zC 3 (pv 3)) zG)) ?_ (hs := wN); refine zD (zC 6 (pv 6)) ?_ (hs := zQ); exact zK))))))))
theorem wI : FnScope ["_law_number", "_law_names_here", "_law_parts_here", "_law_one_here", "_law_other", "_law_third", "_law_deep", "_law_label", "_law_x", "_law_y", "_law_told"] ["_law_number", "_law_names_here", "_law_parts_here"] (zY (top 44)) := ⟨rfl, rfl, rfl, by decide +kernel, rfl, by decide +kernel, by decide +kernel⟩
theorem ok__law_three (T : Txt K mg w.params) : Ok P w base T.d__law_three 1 3 F__law_three := by
  refine fn_d T.d__law_three.F wI 3 11 rfl rfl (g := g__law_three) (fun cdv A outer s H E hr => ?_)
  unfold g__law_three
  exact (by refine zL ?_ ?_; exact (ds_asg (zC 2 (pv 2)) (dg_seq rfl (wL (xE 3 wI.nd) (wL (xE 4 wI.nd) (wL (xE 5 wI.nd) dgs_nil))))); exact (by refine zL ?_ ?_; exact (yQ 6 (zM zT zU zG (de_max (by rfl) (by rfl) T.z_max (by refine zD (zX (zC 3 (pv 3)) zG) ?_ (hs := xG); refine zD (zX (zC 4 (pv 4)) zG) ?_ (hs := xG); refine zD (zX (zC 5 (pv 5)) zG) ?_ (hs := xG); exact zK))) wI.nd); exact (by refine zL ?_ ?_; exact (yQ 7 (zX (zC 1 (pv 1)) (zM wA wB (zM op_fdiv od_fdiv (zC 0 (pv 0)) zG) zG)) wI.nd); exact (by refine zL ?_ ?_; exact (yQ 8 (zX (zC 1 (pv 1)) (zM wA wB (zM op_fdiv od_fdiv (zC 0 (pv 0)) zG) zG)) wI.nd); exact (by refine zL ?_ ?_; exact (yQ 9 (zX (zC 1 (pv 1)) (zM wA wB (zM op_fdiv od_fdiv (zC 0 (pv 0)) zG) zG)) wI.nd); exact (by refine zL ?_ ?_; exact (xW (yX (op_eqA hr.units0) od_eqA (zM wA wB (zC 0 (pv 0)) zG) zG (yZ _)) (by refine zR ?_; exact (by refine yK ?_; exact (by refine xI ?_; exact (by refine zD (by refine xI ?_; exact (by refine zD (yN (s := [105, 102]) (by rfl)) ?_ (hs := yS); refine zD (zX (zC 3 (pv 3)) zG) ?_ (hs := xG); refine zD (zX (zC 4 (pv 4)) zG) ?_ (hs := xG); refine zD (zX (zC 5 (pv 5)) zG) ?_ (hs := xG); exact zK)) ?_ (hs := stTuple); refine zD (zM zT zU (zM zT zU (zM zT zU (by refine wW ?_; exact (by refine yT ?_; exact (zD (yN (s := [105, 102]) (by rfl)) zK (hs := yS)))) (zX (zC 3 (pv 3)) zG)) (zX (zC 4 (pv 4)) zG)) (zX (zC 5 (pv 5)) zG)) ?_ (hs := wN); refine zD (zC 6 (pv 6)) ?_ (hs := zQ); exact zK)))) xB); exact (by refine zL ?_ ?_; exact (yQ 10 (by refine xI ?_; exact (by refine zD (yN (s := [99, 97, 115, 101]) (by rfl)) ?_ (hs := yS); refine zD (zX (zC 3 (pv 3)) zG) ?_ (hs := xG); refine zD (zC 7 (pv 7)) ?_ (hs := zQ); refine zD (zC 8 (pv 8)) ?_ (hs := zQ); refine zD (zX (zC 4 (pv 4)) zG) ?_ (hs := xG); refine zD (zC 9 (pv 9)) ?_ (hs := zQ); refine zD (zX (zC 5 (pv 5)) zG) ?_ (hs := xG); exact zK)) wI.nd); exact (by refine zR ?_; exact (by refine yK ?_; exact (by refine xI ?_; exact (by refine zD (zC 10 (pv 10)) ?_ (hs := zQ); refine zD (zM zT zU (zM zT zU (zM zT zU (zM zT zU (zM zT zU (by refine wW ?_; exact (by refine yT ?_; exact (zD (yN (s := [99, 97, 115, 101]) (by rfl)) zK (hs := yS)))) (zX (zC 3 (pv 3)) zG)) (by refine wW ?_; exact (by refine yT ?_; exact (zD (zC 7 (pv 7)) (zD (zC 8 (pv 8)) zK (hs := zQ)) (hs := zQ))))) (zX (zC 4 (pv 4)) zG)) (by refine wW ?_; exact (by refine yT ?_; exact (zD (zC 9 (pv 9)) zK (hs := zQ))))) (zX (zC 5 (pv 5)) zG)) ?_ (hs := wN); refine zD (zC 6 (pv 6)) ?_ (hs := zQ); exact zK)))))))))))
theorem sc__law_grown : FnScope ["_law_pile", "_law_cell_here", "_law_k", "_law_names_here", "_law_number", "_law_kind"] ["_law_pile", "_law_cell_here", "_law_k", "_law_names_here"] (zY (top 45)) := ⟨rfl, rfl, rfl, by decide +kernel, rfl, by decide +kernel, by decide +kernel⟩
theorem ok__law_grown (T : Txt K mg w.params) : Ok P w base T.d__law_grown 2 4 F__law_grown := by
  refine fn_d T.d__law_grown.F sc__law_grown 4 6 rfl rfl (g := g__law_grown) (fun cdv A outer s H E hr => ?_)
  unfold g__law_grown
  exact (by refine zL ?_ ?_; exact (yQ 4 (yC (xO T) (hr.mono (by decide)) (by rfl) T.d__law_mixed.m T.d__law_mixed.F.kp T.d__law_mixed.b (zD (zC 1 (pv 1)) (zD (zM zT zU zG (zC 2 (pv 2))) zK (hs := wN)) (hs := zQ))) sc__law_grown.nd); exact (by refine zL ?_ ?_; exact (yQ 5 (zM wA wB (yC (xO T) (hr.mono (by decide)) (by rfl) T.d__law_mixed.m T.d__law_mixed.F.kp T.d__law_mixed.b (zD (zC 1 (pv 1)) (zD (zM zT zU zG (zC 2 (pv 2))) zK (hs := wN)) (hs := zQ))) zG) sc__law_grown.nd); exact (by refine zL ?_ ?_; exact (xW (dt_w (dw_and (yX op_gt od_gt (zC 5 (pv 5)) zG (yZ _)) (dw_and (yX op_gt od_gt (de_len (by rfl) T.z_len (zC 0 (pv 0))) zG (yZ _)) (dw_and1 (yX op_lt od_lt (de_maxL (by rfl) (by rfl) T.z_max (by refine db_f ?_; exact (df_comp (N' := ["_law_item"]) (cap := []) rfl cmp_mk (di_seq (de_sl (zC 0 (pv 0)) (wD (de_neg zG)) wQ)) (fun _ _ _ _ => (xE 0 (show (["_law_item"] : List Str).Nodup by decide +kernel))) (fun _ _ _ _ => by exact (zX (zC 0 (pv 0)) zG)) 1))) zG (yZ _)))))) (by refine zR ?_; exact (by refine yK ?_; exact (zM zT zU (de_sl (zC 0 (pv 0)) wQ (wD (de_neg zG))) (by refine wW ?_; exact (by refine yT ?_; exact (zD (yC (ok__law_three T) (hr.mono (by decide)) (by rfl) T.d__law_three.m T.d__law_three.F.kp T.d__law_three.b (by refine zD (zC 4 (pv 4)) ?_ (hs := zQ); refine zD (zC 3 (pv 3)) ?_ (hs := zQ); refine zD (de_sl (zC 0 (pv 0)) (wD (de_neg zG)) wQ) ?_ (hs := xG); exact zK)) zK (hs := qC))))))) xB); exact (by refine zL ?_ ?_; exact (xW (dt_w (dw_and (yX op_gt od_gt (zC 5 (pv 5)) zG (yZ _)) (dw_and (yX op_gt od_gt (de_len (by rfl) T.z_len (zC 0 (pv 0))) zG (yZ _)) (dw_and1 (yX op_lt od_lt (de_maxL (by rfl) (by rfl) T.z_max (by refine db_f ?_; exact (df_comp (N' := ["_law_item"]) (cap := []) rfl cmp_mk (di_seq (de_sl (zC 0 (pv 0)) (wD (de_neg zG)) wQ)) (fun _ _ _ _ => (xE 0 (show (["_law_item"] : List Str).Nodup by decide +kernel))) (fun _ _ _ _ => by exact (zX (zC 0 (pv 0)) zG)) 1))) zG (yZ _)))))) (by refine zR ?_; exact (by refine yK ?_; exact (zM zT zU (de_sl (zC 0 (pv 0)) wQ (wD (de_neg zG))) (by refine wW ?_; exact (by refine yT ?_; exact (zD (yC (ok__law_two T) (hr.mono (by decide)) (by rfl) T.d__law_two.m T.d__law_two.F.kp T.d__law_two.b (by refine zD (zC 4 (pv 4)) ?_ (hs := zQ); refine zD (zC 3 (pv 3)) ?_ (hs := zQ); refine zD (zX (zC 0 (pv 0)) (de_neg zG)) ?_ (hs := xG); refine zD (zX (zC 0 (pv 0)) (de_neg zG)) ?_ (hs := xG); exact zK)) zK (hs := qC))))))) xB); exact (by refine zL ?_ ?_; exact (xW (dt_w (dw_and (yX op_gt od_gt (zC 5 (pv 5)) zG (yZ _)) (dw_and (yX op_gt od_gt (de_len (by rfl) T.z_len (zC 0 (pv 0))) zG (yZ _)) (dw_and1 (yX op_lt od_lt (zX (zX (zC 0 (pv 0)) (de_neg zG)) zG) zG (yZ _)))))) (by refine zR ?_; exact (by refine yK ?_; exact (zM zT zU (de_sl (zC 0 (pv 0)) wQ (wD (de_neg zG))) (by refine wW ?_; exact (by refine yT ?_; exact (zD (yC (ok__law_one T) (hr.mono (by decide)) (by rfl) T.d__law_one.m T.d__law_one.F.kp T.d__law_one.b (by refine zD (zC 4 (pv 4)) ?_ (hs := zQ); refine zD (zC 3 (pv 3)) ?_ (hs := zQ); refine zD (zX (zC 0 (pv 0)) (de_neg zG)) ?_ (hs := xG); exact zK)) zK (hs := qC))))))) xB); exact (by refine zR ?_; exact (by refine yK ?_; exact (zM zT zU (zC 0 (pv 0)) (by refine wW ?_; exact (by refine yT ?_; exact (zD (yC (ok__law_leaf T) (hr.mono (by decide)) (by rfl) T.d__law_leaf.m T.d__law_leaf.F.kp T.d__law_leaf.b (by refine zD (zC 1 (pv 1)) ?_ (hs := zQ); refine zD (zC 4 (pv 4)) ?_ (hs := zQ); refine zD (zC 3 (pv 3)) ?_ (hs := zQ); exact zK)) zK (hs := qC))))))))))))
theorem sc__law_folded : FnScope ["_law_pile", "_law_cell_here", "_law_names_here", "_law_k"] ["_law_pile", "_law_cell_here", "_law_names_here"] (zY (top 46)) := ⟨rfl, rfl, rfl, by decide +kernel, rfl, by decide +kernel, by decide +kernel⟩
theorem ok__law_folded (T : Txt K mg w.params) : Ok P w base T.d__law_folded 2 3 F__law_folded := by
  refine fn_d T.d__law_folded.F sc__law_folded 3 4 rfl rfl (g := g__law_folded) (fun cdv A outer s H E hr => ?_)
  unfold g__law_folded
  exact (by refine zL ?_ ?_; exact (yQ 3 zG sc__law_folded.nd); exact (by refine zL ?_ ?_; exact (ds_while WF PassesOwn.never (yX op_gt od_gt (de_len (by rfl) T.z_len (zC 0 (pv 0))) zG (yZ _)) (by refine zL ?_ ?_; exact (yQ 0 (zM zT zU (de_sl (zC 0 (pv 0)) (wD zG) wQ) (by refine wW ?_; exact (by refine yT ?_; exact (zD (yC (ok__law_two T) (hr.mono (by decide)) (by rfl) T.d__law_two.m T.d__law_two.F.kp T.d__law_two.b (by refine zD (yC (xO T) (hr.mono (by decide)) (by rfl) T.d__law_mixed.m T.d__law_mixed.F.kp T.d__law_mixed.b (zD (zC 1 (pv 1)) (zD (zM zT zU zG (zC 3 (pv 3))) zK (hs := wN)) (hs := zQ))) ?_ (hs := qC); refine zD (zC 2 (pv 2)) ?_ (hs := zQ); refine zD (zX (zC 0 (pv 0)) zG) ?_ (hs := xG); refine zD (zX (zC 0 (pv 0)) zG) ?_ (hs := xG); exact zK)) zK (hs := qC))))) sc__law_folded.nd); exact (by refine zR ?_; exact (yQ 3 (zM zT zU (zC 3 (pv 3)) zG) sc__law_folded.nd)))); exact (by refine zR ?_; exact (by refine yK ?_; exact (zX (zC 0 (pv 0)) zG)))))
theorem sc__law_free : FnScope ["_law_told", "_law_known", "_law_free_here", "_law_inner"] ["_law_told", "_law_known"] (zY (top 47)) := ⟨rfl, rfl, rfl, by decide +kernel, rfl, by decide +kernel, by decide +kernel⟩
theorem ok__law_free : ∀ (k : Nat) (T : Txt K mg w.params), Ok P w base T.d__law_free (k + 0) 2 (xN k)
  | 0, T => fn_0 2
  | k + 1, T => by
    have G := ok__law_free k T
    rw [show k + 1 + 0 = (k + 0) + 1 by lia]
    refine fn_d T.d__law_free.F sc__law_free 2 4 rfl rfl (g := wK (xN k)) (fun cdv A outer s H E hr => ?_)
    unfold wK
    exact (by refine zL ?_ ?_; exact (xW (yX (op_eqA hr.units0) od_eqA (zX (zC 0 (pv 0)) zG) (yN (s := [110, 97, 109, 101]) (by rfl)) (yZ _)) (by refine zR ?_; exact (by refine yK ?_; exact (de_sl (by refine wW ?_; exact (by refine yT ?_; exact (zD (zX (zC 0 (pv 0)) zG) zK (hs := xG)))) wQ (wD (de_intB (by rfl) T.z_int (de_cmp op_notIn_seq (od_in true) (zX (zC 0 (pv 0)) zG) (zC 1 (pv 1)) rfl)))))) xB); exact (by refine zL ?_ ?_; exact (xW (yX (op_eqA hr.units0) od_eqA (zX (zC 0 (pv 0)) zG) (yN (s := [102, 110]) (by rfl)) (yZ _)) (by refine zR ?_; exact (by refine yK ?_; exact (yC G (hr.mono (by lia)) (by rfl) T.d__law_free.m T.d__law_free.F.kp T.d__law_free.b (zD (zX (zC 0 (pv 0)) zG) (zD (zM zT zU (zC 1 (pv 1)) (by refine wW ?_; exact (by refine yT ?_; exact (zD (zX (zC 0 (pv 0)) zG) zK (hs := xG))))) zK (hs := wN)) (hs := xG))))) xB); exact (by refine zL ?_ ?_; exact (xW (yX (op_eqA hr.units0) od_eqA (zX (zC 0 (pv 0)) zG) (yN (s := [99, 97, 115, 101]) (by rfl)) (yZ _)) (by refine zL ?_ ?_; exact (yQ 2 (zM zT zU (yC G (hr.mono (by lia)) (by rfl) T.d__law_free.m T.d__law_free.F.kp T.d__law_free.b (zD (zX (zC 0 (pv 0)) zG) (zD (zC 1 (pv 1)) zK (hs := zQ)) (hs := xG))) (yC G (hr.mono (by lia)) (by rfl) T.d__law_free.m T.d__law_free.F.kp T.d__law_free.b (zD (zX (zC 0 (pv 0)) zG) (zD (zM zT zU (zC 1 (pv 1)) (by refine wW ?_; exact (by refine yT ?_; exact (zD (zX (zC 0 (pv 0)) zG) zK (hs := xG))))) zK (hs := wN)) (hs := xG)))) sc__law_free.nd); exact (by refine zR ?_; exact (by refine yK ?_; exact (zM zT zU (zC 2 (pv 2)) (yC G (hr.mono (by lia)) (by rfl) T.d__law_free.m T.d__law_free.F.kp T.d__law_free.b (zD (zX (zC 0 (pv 0)) zG) (zD (zM zT zU (zC 1 (pv 1)) (by refine wW ?_; exact (by refine yT ?_; exact (zD (zX (zC 0 (pv 0)) zG) zK (hs := xG))))) zK (hs := wN)) (hs := xG))))))) xB); exact (by refine zL ?_ ?_; exact (yQ 2 (by refine wW ?_; exact (by refine yT ?_; exact zK)) sc__law_free.nd); exact (by refine zL ?_ ?_; exact (ds_for PassesOwn.never rfl (di_seq (de_sl (zC 0 (pv 0)) (wD zG) wQ)) (xE 3 sc__law_free.nd) (by refine zR ?_; exact (xW (dt_tru (wM (by rfl) T.z_isinstance (zC 3 (pv 3)) (pe_bltn (by rfl) T.z_tuple boot_tuple rfl))) (by refine zR ?_; exact (yQ 2 (zM zT zU (zC 2 (pv 2)) (yC G (hr.mono (by lia)) (by rfl) T.d__law_free.m T.d__law_free.F.kp T.d__law_free.b (zD (zC 3 (pv 3)) (zD (zC 1 (pv 1)) zK (hs := zQ)) (hs := zQ)))) sc__law_free.nd)) xB))); exact (by refine zR ?_; exact (by refine yK ?_; exact (zC 2 (pv 2)))))))))
theorem wJ : FnScope ["_law_item", "_law_cell_here", "_law_known", "_law_free_here", "_law_number", "_law_name_here", "_law_word"] ["_law_item", "_law_cell_here", "_law_known"] (zY (top 48)) := ⟨rfl, rfl, rfl, by decide +kernel, rfl, by decide +kernel, by decide +kernel⟩
theorem ok__law_closed (T : Txt K mg w.params) : Ok P w base T.d__law_closed 41 3 F__law_closed := by
  refine fn_d T.d__law_closed.F wJ 3 7 rfl rfl (g := g__law_closed) (fun cdv A outer s H E hr => ?_)
  unfold g__law_closed
  exact (by refine zL ?_ ?_; exact (yQ 3 (yC (ok__law_free RF T) (hr.mono (by decide)) (by rfl) T.d__law_free.m T.d__law_free.F.kp T.d__law_free.b (zD (zX (zC 0 (pv 0)) zG) (zD (zC 2 (pv 2)) zK (hs := zQ)) (hs := xG))) wJ.nd); exact (by refine zL ?_ ?_; exact (ds_while WF PassesOwn.never (yX (op_neA hr.units0) od_neA (zC 3 (pv 3)) (by refine wW ?_; exact (by refine yT ?_; exact zK)) (yZ _)) (by refine zL ?_ ?_; exact (yQ 4 (yC (xO T) (hr.mono (by decide)) (by rfl) T.d__law_mixed.m T.d__law_mixed.F.kp T.d__law_mixed.b (zD (zC 1 (pv 1)) (zD (zM zT zU zG (zX (zC 0 (pv 0)) zG)) zK (hs := wN)) (hs := zQ))) wJ.nd); exact (by refine zL ?_ ?_; exact (yQ 5 (zX (zC 3 (pv 3)) (zM wA wB (zC 4 (pv 4)) (de_len (by rfl) T.z_len (zC 3 (pv 3))))) wJ.nd); exact (by refine zL ?_ ?_; exact (yQ 0 (by refine xI ?_; exact (by refine zD (by refine xI ?_; exact (by refine zD (yN (s := [102, 110]) (by rfl)) ?_ (hs := yS); refine zD (zC 5 (pv 5)) ?_ (hs := zQ); refine zD (zX (zC 0 (pv 0)) zG) ?_ (hs := xG); exact zK)) ?_ (hs := stTuple); refine zD (zM zT zU (by refine wW ?_; exact (by refine yT ?_; exact (zD (yN (s := [102, 110]) (by rfl)) (zD (zC 5 (pv 5)) zK (hs := zQ)) (hs := yS)))) (zX (zC 0 (pv 0)) zG)) ?_ (hs := wN); refine zD (zM zT zU (zX (zC 0 (pv 0)) zG) zG) ?_ (hs := wN); exact zK)) wJ.nd); exact (by refine zL ?_ ?_; exact (xW (yX op_gt od_gt (zM wA wB (zM op_fdiv od_fdiv (zC 4 (pv 4)) zG) zG) zG (yZ _)) (by refine zL ?_ ?_; exact (yQ 6 (de_strOf (by rfl) T.z_str (zM wA wB (zM op_fdiv od_fdiv (zC 4 (pv 4)) zG) (zM op_pow od_pow zG zG))) wJ.nd); exact (by refine zR ?_; exact (yQ 0 (by refine xI ?_; exact (by refine zD (by refine xI ?_; exact (by refine zD (yN (s := [100, 111]) (by rfl)) ?_ (hs := yS); refine zD (zX (zC 0 (pv 0)) zG) ?_ (hs := xG); refine zD (by refine xI ?_; exact (zD (yN (s := [110, 117, 109]) (by rfl)) (zD (de_intOf (by rfl) T.z_int (zC 6 (pv 6))) zK (hs := qC)) (hs := yS))) ?_ (hs := stTuple); exact zK)) ?_ (hs := stTuple); refine zD (zM zT zU (zM zT zU (by refine wW ?_; exact (by refine yT ?_; exact (zD (yN (s := [100, 111]) (by rfl)) zK (hs := yS)))) (zX (zC 0 (pv 0)) zG)) (by refine wW ?_; exact (by refine yT ?_; exact (zD (zC 6 (pv 6)) zK (hs := zQ))))) ?_ (hs := wN); refine zD (zM zT zU (zX (zC 0 (pv 0)) zG) zG) ?_ (hs := wN); exact zK)) wJ.nd))) xB); exact (by refine zR ?_; exact (ds_compIf 3 (N' := ["_law_name_here", "_law_other"]) (cap := [5]) rfl cmp_mk (di_seq (zC 3 (pv 3))) (fun _ _ _ _ => (xE 1 (show (["_law_name_here", "_law_other"] : List Str).Nodup by decide +kernel))) (fun _ _ _ _ => by exact (yX (op_neA (by exact hr.units0)) od_neA (zC 1 (pv 1)) (zC 0 (pv 0)) (yZ _))) (fun _ _ _ _ => by exact (zC 1 (pv 1))) 2 wJ.nd))))))); exact (by refine zR ?_; exact (by refine yK ?_; exact (zC 0 (pv 0))))))
theorem qG : FnScope ["_law_cell_here", "_law_many", "_law_base", "_law_at", "_law_named_here", "_law_k"] ["_law_cell_here", "_law_many"] (zY (top 49)) := ⟨rfl, rfl, rfl, by decide +kernel, rfl, by decide +kernel, by decide +kernel⟩
theorem ok__law_def_names (T : Txt K mg w.params) : Ok P w base T.d__law_def_names 3 2 F__law_def_names := by
  refine fn_d T.d__law_def_names.F qG 2 6 rfl rfl (g := qU) (fun cdv A outer s H E hr => ?_)
  unfold qU
  exact (by refine zL ?_ ?_; exact (yQ 2 (zM zT zU (yN (s := [113]) (by rfl)) (de_sl (yC (ok__law_name T) (hr.mono (by decide)) (by rfl) T.d__law_name.m T.d__law_name.F.kp T.d__law_name.b (zD (zC 0 (pv 0)) zK (hs := zQ))) wQ (wD zG))) qG.nd); exact (by refine zL ?_ ?_; exact (yQ 3 (zM wA wB (zM op_fdiv od_fdiv (zC 0 (pv 0)) zG) (de_len (by rfl) T.z_len (zC 2 (pv 2)))) qG.nd); exact (by refine zL ?_ ?_; exact (ds_own 4 (by refine yT ?_; exact zK) qG.nd); exact (by refine zL ?_ ?_; exact (ds_for PassesOwn.never rfl (di_rng1 (by rfl) T.z_range (zM op_sub od_sub (zC 1 (pv 1)) zG)) (xE 5 qG.nd) (by refine zR ?_; exact (ds_x (dx_append 4 (pv 4) (zM zT zU (zM zT zU (de_sl (zC 2 (pv 2)) wQ (wD (zC 3 (pv 3)))) (zX (yN (s := [97, 98, 99, 100, 101, 102, 103, 104, 105, 106, 107, 108, 109]) (by rfl)) (zC 5 (pv 5)))) (de_sl (zC 2 (pv 2)) (wD (zC 3 (pv 3))) wQ)))))); exact (ds_rel 4 (by refine zR ?_; exact (by refine yK ?_; exact (zM zT zU (zC 4 (pv 4)) (by refine wW ?_; exact (by refine yT ?_; exact (zD (yN (s := [109, 97, 105, 110]) (by rfl)) zK (hs := yS))))))))))))
theorem xP : FnScope ["_law_cells", "_law_first", "_law_second", "_law_many", "_law_callings", "_law_defs_here", "_law_k", "_law_above", "_law_names_here", "_law_mine", "_law_pile", "_law_j", "_law_cell_here", "_law_item"] ["_law_cells", "_law_first", "_law_second"] (zY (top 50)) := ⟨rfl, rfl, rfl, by decide +kernel, rfl, by decide +kernel, by decide +kernel⟩
theorem ok__law_defs (T : Txt K mg w.params) : Ok P w base T.d__law_defs 42 3 F__law_defs := by
  refine fn_d T.d__law_defs.F xP 3 14 rfl rfl (g := g__law_defs) (fun cdv A outer s H E hr => ?_)
  unfold g__law_defs
  exact (by refine zL ?_ ?_; exact (yQ 3 (zM zT zU (zM zT zU zG (zM op_fdiv od_fdiv (de_max (by rfl) (by rfl) T.z_max (zD (zM op_sub od_sub (de_len (by rfl) T.z_len (zC 0 (pv 0))) zG) (zD (zM wA wB (zC 1 (pv 1)) zG) zK (hs := wN)) (hs := wN))) zG)) (zM wA wB (zM op_fdiv od_fdiv (zC 1 (pv 1)) zG) zG)) xP.nd); exact (by refine zL ?_ ?_; exact (yQ 4 (yC (ok__law_def_names T) (hr.mono (by decide)) (by rfl) T.d__law_def_names.m T.d__law_def_names.F.kp T.d__law_def_names.b (zD (zC 2 (pv 2)) (zD (zC 3 (pv 3)) zK (hs := zQ)) (hs := zQ))) xP.nd); exact (by refine zL ?_ ?_; exact (ds_own 5 (by refine yT ?_; exact zK) xP.nd); exact (by refine zL ?_ ?_; exact (ds_for PassesOwn.never rfl (di_rng1 (by rfl) T.z_range (zC 3 (pv 3))) (xE 6 xP.nd) (by refine zL ?_ ?_; exact (yQ 7 (de_sl (zC 4 (pv 4)) (wD (de_max (by rfl) (by rfl) T.z_max (zD zG (zD (zM op_sub od_sub (zC 6 (pv 6)) zG) zK (hs := wN)) (hs := yS)))) (wD (zM zT zU (zC 6 (pv 6)) zG))) xP.nd); exact (by refine zL ?_ ?_; exact (yQ 8 (zM zT zU (de_sl (yC (ok__law_names T) (hr.mono (by decide)) (by rfl) T.d__law_names.m T.d__law_names.F.kp T.d__law_names.b (zD (yC (xO T) (hr.mono (by decide)) (by rfl) T.d__law_mixed.m T.d__law_mixed.F.kp T.d__law_mixed.b (zD (zC 2 (pv 2)) (zD (zC 6 (pv 6)) zK (hs := zQ)) (hs := zQ))) zK (hs := qC))) wQ (wD (zM op_sub od_sub zG (de_len (by rfl) T.z_len (zC 7 (pv 7)))))) (zC 7 (pv 7))) xP.nd); exact (by refine zL ?_ ?_; exact (ds_compIf 9 (N' := ["_law_many", "_law_k", "_law_j", "_law_cell_here"]) (cap := [3, 6]) rfl cmp_mk (di_enum (by rfl) T.z_enumerate (zC 0 (pv 0))) (fun _ _ _ _ => (dg_seq rfl (wL (xE 2 (show (["_law_many", "_law_k", "_law_j", "_law_cell_here"] : List Str).Nodup by decide +kernel)) (wL (xE 3 (show (["_law_many", "_law_k", "_law_j", "_law_cell_here"] : List Str).Nodup by decide +kernel)) dgs_nil)))) (fun _ _ _ _ => by exact (yX (op_eqA (by exact hr.units0)) od_eqA (zM wA wB (zC 2 (pv 2)) (zC 0 (pv 0))) (zC 1 (pv 1)) (yZ _))) (fun _ _ _ _ => by exact (by refine xI ?_; exact (zD (zC 2 (pv 2)) (zD (zC 3 (pv 3)) zK (hs := zQ)) (hs := zQ)))) 4 xP.nd); exact (by refine zL ?_ ?_; exact (yQ 10 (by refine wW ?_; exact (by refine yT ?_; exact (zD (yC (ok__law_leaf T) (hr.mono (by decide)) (by rfl) T.d__law_leaf.m T.d__law_leaf.F.kp T.d__law_leaf.b (by refine zD (zC 2 (pv 2)) ?_ (hs := zQ); refine zD (yC (xO T) (hr.mono (by decide)) (by rfl) T.d__law_mixed.m T.d__law_mixed.F.kp T.d__law_mixed.b (zD (zC 2 (pv 2)) (zD (zM zT zU zG (zC 6 (pv 6))) zK (hs := wN)) (hs := zQ))) ?_ (hs := qC); refine zD (zC 8 (pv 8)) ?_ (hs := zQ); exact zK)) zK (hs := qC)))) xP.nd); exact (by refine zL ?_ ?_; exact (ds_for PassesOwn.never rfl (di_seq (zC 9 (pv 9))) (dg_seq rfl (wL (xE 11 xP.nd) (wL (xE 12 xP.nd) dgs_nil))) (by refine zR ?_; exact (yQ 10 (yC (ok__law_grown T) (hr.mono (by decide)) (by rfl) T.d__law_grown.m T.d__law_grown.F.kp T.d__law_grown.b (by refine zD (zC 10 (pv 10)) ?_ (hs := zQ); refine zD (zC 12 (pv 12)) ?_ (hs := zQ); refine zD (zC 11 (pv 11)) ?_ (hs := zQ); refine zD (zC 8 (pv 8)) ?_ (hs := zQ); exact zK)) xP.nd))); exact (by refine zL ?_ ?_; exact (yQ 13 (yC (ok__law_closed T) (hr.mono (by decide)) (by rfl) T.d__law_closed.m T.d__law_closed.F.kp T.d__law_closed.b (by refine zD (yC (ok__law_folded T) (hr.mono (by decide)) (by rfl) T.d__law_folded.m T.d__law_folded.F.kp T.d__law_folded.b (by refine zD (zC 10 (pv 10)) ?_ (hs := zQ); refine zD (zC 2 (pv 2)) ?_ (hs := zQ); refine zD (zC 8 (pv 8)) ?_ (hs := zQ); exact zK)) ?_ (hs := qC); refine zD (zC 2 (pv 2)) ?_ (hs := zQ); refine zD (de_sl (zC 4 (pv 4)) wQ (wD (zM zT zU (zC 6 (pv 6)) zG))) ?_ (hs := xG); exact zK)) xP.nd); exact (by refine zR ?_; exact (ds_x (dx_append 5 (pv 5) (by refine xI ?_; exact (zD (zX (zC 4 (pv 4)) (zC 6 (pv 6))) (zD (zC 13 (pv 13)) zK (hs := zQ)) (hs := xG))))))))))))); exact (by refine zR ?_; exact (ds_retOwn 5 (pv 5)))))))
theorem sc__law_alike : FnScope ["_law_found", "_law_due", "_law_one_here", "_law_other"] ["_law_found", "_law_due"] (zY (top 51)) := ⟨rfl, rfl, rfl, by decide +kernel, rfl, by decide +kernel, by decide +kernel⟩
theorem ok__law_alike : ∀ (k : Nat) (T : Txt K mg w.params), Ok P w base T.d__law_alike (k + 0) 2 (yH k)
  | 0, T => fn_0 2
  | k + 1, T => by
    have G := ok__law_alike k T
    rw [show k + 1 + 0 = (k + 0) + 1 by lia]
    refine fn_d T.d__law_alike.F sc__law_alike 2 4 rfl rfl (g := wP (yH k)) (fun cdv A outer s H E hr => ?_)
    unfold wP
    exact (by refine zL ?_ ?_; exact (xW (dt_w (dw_or (dt_tru (wM (by rfl) T.z_isinstance (zC 1 (pv 1)) (pe_bltn (by rfl) T.z_tuple boot_tuple rfl))) (dw_or1 (dt_tru (wM (by rfl) T.z_isinstance (zC 1 (pv 1)) (pe_bltn (by rfl) T.z_list boot_list rfl)))))) (by refine zL ?_ ?_; exact (xW (dt_w (dw_or (yX (op_neA hr.units0) od_neA (wM (by rfl) T.z_isinstance (zC 0 (pv 0)) (pe_bltn (by rfl) T.z_tuple boot_tuple rfl)) (wM (by rfl) T.z_isinstance (zC 1 (pv 1)) (pe_bltn (by rfl) T.z_tuple boot_tuple rfl)) (yZ _)) (dw_or1 (yX (op_neA hr.units0) od_neA (wM (by rfl) T.z_isinstance (zC 0 (pv 0)) (pe_bltn (by rfl) T.z_list boot_list rfl)) (wM (by rfl) T.z_isinstance (zC 1 (pv 1)) (pe_bltn (by rfl) T.z_list boot_list rfl)) (yZ _))))) (by refine zR ?_; exact (by refine yK ?_; exact de_bl)) xB); exact (by refine zL ?_ ?_; exact (xW (yX (op_neA hr.units0) od_neA (de_len (by rfl) T.z_len (zC 0 (pv 0))) (de_len (by rfl) T.z_len (zC 1 (pv 1))) (yZ _)) (by refine zR ?_; exact (by refine yK ?_; exact de_bl)) xB); exact (by refine zL ?_ ?_; exact (ds_for PassesOwn.never rfl (di_zip (by rfl) T.z_zip (zC 0 (pv 0)) (zC 1 (pv 1))) (dg_seq rfl (wL (xE 2 sc__law_alike.nd) (wL (xE 3 sc__law_alike.nd) dgs_nil))) (by refine zR ?_; exact (xW (dt_not (dt_tru (yC G (hr.mono (by lia)) (by rfl) T.d__law_alike.m T.d__law_alike.F.kp T.d__law_alike.b (zD (zC 2 (pv 2)) (zD (zC 3 (pv 3)) zK (hs := zQ)) (hs := zQ))))) (by refine zR ?_; exact (by refine yK ?_; exact de_bl)) xB))); exact (by refine zR ?_; exact (by refine yK ?_; exact de_bl))))) xB); exact (by refine zL ?_ ?_; exact (xW (dt_tru (wM (by rfl) T.z_isinstance (zC 1 (pv 1)) (pe_bltn (by rfl) T.z_int boot_int rfl))) (by refine zR ?_; exact (by refine yK ?_; exact (de_and (wM (by rfl) T.z_isinstance (zC 0 (pv 0)) (pe_bltn (by rfl) T.z_int boot_int rfl)) (de_and (de_not (wM (by rfl) T.z_isinstance (zC 0 (pv 0)) (pe_bltn (by rfl) T.z_bool boot_bool rfl))) (de_one (de_cmp (op_eqA hr.units0) od_eqA (zC 0 (pv 0)) (zC 1 (pv 1)) (yZ _))))))) xB); exact (by refine zR ?_; exact (by refine yK ?_; exact (de_and (wM (by rfl) T.z_isinstance (zC 0 (pv 0)) (pe_bltn (by rfl) T.z_str boot_str rfl)) (de_one (de_cmp (op_eqA hr.units0) od_eqA (zC 0 (pv 0)) (zC 1 (pv 1)) (yZ _))))))))
theorem sc_law : FnScope ["_law_script", "_law_first", "_law_defs_here", "_law_due", "_law_text", "_law_program", "_law_told"] ["_law_script"] (zY (top 52)) := ⟨rfl, rfl, rfl, by decide +kernel, rfl, by decide +kernel, by decide +kernel⟩
theorem ok_law (T : Txt K mg w.params) : Ok P w base T.d_law 48 1 F_law := by
  refine fn_d T.d_law.F sc_law 1 7 rfl rfl (g := g_law) (fun cdv A outer s H E hr => ?_)
  unfold g_law
  exact (by refine zL ?_ ?_; exact (yQ 1 (yC (xO T) (hr.mono (by decide)) (by rfl) T.d__law_mixed.m T.d__law_mixed.F.kp T.d__law_mixed.b (zD (yC (ok__law_cell T) (hr.mono (by decide)) (by rfl) T.d__law_cell.m T.d__law_cell.F.kp T.d__law_cell.b (zD (zC 0 (pv 0)) (zD zG zK (hs := yS)) (hs := zQ))) (zD zG zK (hs := yS)) (hs := qC))) sc_law.nd); exact (by refine zL ?_ ?_; exact (yQ 2 (by refine wW ?_; exact (df_call (ok__law_defs T) (hr.mono (by decide)) (by rfl) T.d__law_defs.m T.d__law_defs.F.kp T.d__law_defs.b (by refine zD (de_sl (zC 0 (pv 0)) (wD zG) (wD zG)) ?_ (hs := xG); refine zD (zC 1 (pv 1)) ?_ (hs := zQ); refine zD (yC (xO T) (hr.mono (by decide)) (by rfl) T.d__law_mixed.m T.d__law_mixed.F.kp T.d__law_mixed.b (zD (zM zT zU (yC (ok__law_cell T) (hr.mono (by decide)) (by rfl) T.d__law_cell.m T.d__law_cell.F.kp T.d__law_cell.b (zD (zC 0 (pv 0)) (zD zG zK (hs := yS)) (hs := zQ))) (yC (ok__law_cell T) (hr.mono (by decide)) (by rfl) T.d__law_cell.m T.d__law_cell.F.kp T.d__law_cell.b (zD (zC 0 (pv 0)) (zD zG zK (hs := yS)) (hs := zQ)))) (zD zG zK (hs := yS)) (hs := wN))) ?_ (hs := qC); exact zK))) sc_law.nd); exact (by refine zL ?_ ?_; exact (ds_comp 3 (N' := ["_law_name_here", "_law_item"]) (cap := []) rfl cmp_mk (di_seq (zC 2 (pv 2))) (fun _ _ _ _ => (dg_seq rfl (wL (xE 0 (show (["_law_name_here", "_law_item"] : List Str).Nodup by decide +kernel)) (wL (xE 1 (show (["_law_name_here", "_law_item"] : List Str).Nodup by decide +kernel)) dgs_nil)))) (fun _ _ _ _ => by exact (by refine xI ?_; exact (zD (zC 0 (pv 0)) (zD (zX (zC 1 (pv 1)) zG) zK) (hs := zQ)))) 2 sc_law.nd); exact (by refine zL ?_ ?_; exact (yQ 4 (de_join (yN (s := [10]) (by rfl)) (by refine db_f ?_; exact (df_comp (N' := ["_law_name_here", "_law_item"]) (cap := []) rfl cmp_mk (di_seq (zC 2 (pv 2))) (fun _ _ _ _ => (dg_seq rfl (wL (xE 0 (show (["_law_name_here", "_law_item"] : List Str).Nodup by decide +kernel)) (wL (xE 1 (show (["_law_name_here", "_law_item"] : List Str).Nodup by decide +kernel)) dgs_nil)))) (fun _ _ _ _ => by exact (de_join (yN (s := [32]) (by rfl)) (db_e (zM zT zU (by refine wW ?_; exact (by refine yT ?_; exact (zD (yN (s := [100, 101, 102]) (by rfl)) (zD (zC 0 (pv 0)) zK (hs := zQ)) (hs := yS)))) (zX (zC 1 (pv 1)) zG))))) 2))) sc_law.nd); exact (by refine zL ?_ ?_; exact (ds_own 5 (df_call (ok_read T) (hr.mono (by decide)) (by rfl) T.d_read.m T.d_read.F.kp T.d_read.b (zD (zC 4 (pv 4)) zK (hs := zQ))) sc_law.nd); exact (by refine zL ?_ ?_; exact (xW (dt_not (dt_tru (de_callS (ok__law_alike RF T) (hr.mono (by decide)) (by rfl) T.d__law_alike.m T.d__law_alike.F.kp T.d__law_alike.b (dv_b (db_own 5 (pv 5)) (dv_e (zC 3 (pv 3)) dv_nil))))) (by refine zR ?_; exact (by refine yK ?_; exact de_bl)) xB); exact (by refine zL ?_ ?_; exact (yQ 6 (de_callS (ok_shown T) (hr.mono (by decide)) (by rfl) T.d_shown.m T.d_shown.F.kp T.d_shown.b (dv_b (db_own 5 (pv 5)) dv_nil)) sc_law.nd); exact (by refine zL ?_ ?_; exact (xW (dt_w (dw_or (dt_not (dt_tru (wM (by rfl) T.z_isinstance (zC 6 (pv 6)) (pe_bltn (by rfl) T.z_str boot_str rfl)))) (dw_or (yX (op_neA hr.units0) od_neA (zC 6 (pv 6)) (zC 4 (pv 4)) (yZ _)) (dw_or1 (dt_not (dt_tru (de_callS (ok__law_alike RF T) (hr.mono (by decide)) (by rfl) T.d__law_alike.m T.d__law_alike.F.kp T.d__law_alike.b (dv_b (db_own 5 (pv 5)) (dv_e (zC 3 (pv 3)) dv_nil))))))))) (by refine zR ?_; exact (by refine yK ?_; exact de_bl)) xB); exact (by refine zL ?_ ?_; exact (ds_x (dx_pop 5 (pv 5))); exact (by refine zR ?_; exact (by refine yK ?_; exact (yC (ok__law_alike RF T) (hr.mono (by decide)) (by rfl) T.d__law_alike.m T.d__law_alike.F.kp T.d__law_alike.b (zD (by refine wW ?_; exact (df_call (ok_read T) (hr.mono (by decide)) (by rfl) T.d_read.m T.d_read.F.kp T.d_read.b (zD (zC 4 (pv 4)) zK (hs := zQ)))) (zD (zC 3 (pv 3)) zK (hs := zQ)) (hs := qC))))))))))))))
end
theorem splitC_free {c : Nat} : ∀ {s : List Nat}, c ∉ s -> splitC c s = [s]
  | [], _ => rfl
  | x :: r, h => by
    have hx : x ≠ c := fun e => h (by simp [e])
    have hr := splitC_free (c := c) (s := r) fun e => h (by simp [e])
    simp only [splitC, if_neg hx, hr]
theorem splitC_cut {c : Nat} {t : List Nat} : ∀ {s : List Nat}, c ∉ s -> splitC c (s ++ c :: t) = s :: splitC c t
  | [], _ => by simp only [List.nil_append, splitC, if_pos]
  | x :: r, h => by
    have hx : x ≠ c := fun e => h (by simp [e])
    have hr := splitC_cut (c := c) (t := t) (s := r) fun e => h (by simp [e])
    simp only [List.cons_append, splitC, if_neg hx, hr]
theorem splitC_join {c : Nat} : ∀ {ws : List (List Nat)}, ws ≠ [] -> (∀ x ∈ ws, c ∉ x) -> splitC c (xZ [c] ws) = ws
  | [], h, _ => absurd rfl h
  | [s], _, h => splitC_free (h s (by simp))
  | s :: t :: r, _, h => by
    have ih := splitC_join (c := c) (ws := t :: r) (by simp) fun x hx => h x (by simp at hx ⊢; exact .inr hx)
    show splitC c (s ++ [c] ++ xZ [c] (t :: r)) = _
    rw [List.append_assoc, List.singleton_append, splitC_cut (h s (by simp)), ih]
theorem cnt_pos (c : Nat) : ∀ l : List Nat, (0 : Int) <= cnt c l
  | [] => by rw [cnt_none c [] (by simp)]; lia
  | k :: r => by
    have ih := cnt_pos c r
    rw [cnt_cons]
    split <;> lia
theorem splitS_join {c : Nat} {ws : List (List Nat)} (h0 : ws ≠ []) (h : ∀ x ∈ ws, c ∉ x) : splitS (xZ [c] ws) [c] = ws := by
  have key : ∀ ys : List (List Nat), ys ≠ [] -> (∀ y ∈ ys, c ∉ y) -> xZ [c] ys = xZ [c] ws -> ys = ws := fun ys y0 yf e => by
    rw [<- splitC_join y0 yf, e, splitC_join h0 h]
  let x : Str := ⟨(xZ [c] ws).toArray⟩
  let L := Txt.split x ⟨#[c]⟩
  have hL : splitS (xZ [c] ws) [c] = L.map fun z => z.cps.toList := rfl
  rw [hL]
  refine key _ ?_ ?_ ?_
  · intro e
    have e2 : L = [] := by simpa using e
    have q : ((L.length : Nat) : Int) = 1 + cnt c x.cps.toList := split_len x c
    have z := StrLaws.join_split x ⟨#[c]⟩
    have p : (0 : Int) <= cnt c x.cps.toList := cnt_pos c _
    rw [e2] at q
    simp at q
    lia
  · intro y hy
    obtain ⟨z, hz, rfl⟩ := List.mem_map.mp hy
    exact StrLaws.split_free x c z hz
  · have e := join_eq [c] (L.map fun z => z.cps.toList)
    rw [List.map_map] at e
    have e1 : (L.map ((fun s => (⟨s.toArray⟩ : Str)) ∘ fun z : Str => z.cps.toList)) = L := by
      conv => rhs; rw [<- List.map_id L]
      exact List.map_congr_left fun z _ => rfl
    rw [e1] at e
    have e2 : Str.join (⟨[c].toArray⟩ : Str) L = x := StrLaws.join_split x ⟨#[c]⟩
    rw [e2] at e
    have e3 := congrArg (fun s : Str => s.cps.toList) e
    simpa [x] using e3.symm
theorem joinC_len (c : Nat) : ∀ ws : List (List Nat), (xZ [c] ws).length <= (ws.map List.length).sum + ws.length
  | [] => by simp [xZ]
  | [s] => by simp [xZ]
  | s :: t :: r => by
    have ih := joinC_len c (t :: r)
    show (s ++ [c] ++ xZ [c] (t :: r)).length <= _
    simp at ih ⊢
    lia
theorem intC_nat (n : Nat) : qD (n : Int) = (Nat.toDigits 10 n).map Char.toNat := by
  unfold qD
  have e : toString (n : Int) = n.repr := rfl
  rw [e, Str.ofString_eq_toList]
  simp [Nat.repr_eq_ofList_toDigits]
theorem intC_free (n : Nat) : 32 ∉ qD (n : Int) := by
  rw [intC_nat]
  intro h
  obtain ⟨c, hc, e⟩ := List.mem_map.mp h
  have d := Nat.isDigit_of_mem_toDigits (by decide) (by decide) hc
  simp only [Char.isDigit, Bool.and_eq_true, decide_eq_true_eq] at d
  have := d.1
  have e2 : c.val.toNat = 32 := e
  have := UInt32.le_iff_toNat_le.mp d.1
  rw [e2] at this
  revert this; decide
theorem intC_len {n : Nat} (h : n < 10 ^ 8) : (qD (n : Int)).length <= 8 := by
  rw [intC_nat, List.length_map]
  exact (Nat.length_toDigits_le_iff (by decide) (by decide)).mpr h
inductive Fo where
  | nil
  | nm (x : List Nat) (r : Fo)
  | nam (x : List Nat) (r : Fo)
  | num (n : Nat) (r : Fo)
  | nd (w : List Nat) (ps r : Fo)
noncomputable def sNum : List Nat := [110, 117, 109]
noncomputable def sNam : List Nat := [110, 97, 109, 101]
namespace Fo
noncomputable def ds : Fo -> List D
  | nil => []
  | nm x r => .str x :: ds r
  | nam x r => .tup [.str sNam, .str x] :: ds r
  | num n r => .tup [.str sNum, .int n] :: ds r
  | nd w ps r => .tup (.str w :: ds ps) :: ds r
noncomputable def ws : Fo -> List (List Nat)
  | nil => []
  | nm x r => x :: ws r
  | nam x r => x :: ws r
  | num n r => qD n :: ws r
  | nd w ps r => w :: (ws ps ++ ws r)
noncomputable def lv : Fo -> Nat
  | nil => 0
  | nm _ r => lv r
  | nam _ r => max 1 (lv r)
  | num _ r => max 1 (lv r)
  | nd _ ps r => max (lv ps + 1) (lv r)
noncomputable def form : Fo -> List Nat
  | nil => []
  | nm _ r => 110 :: form r
  | nam _ r => 69 :: form r
  | num _ r => 69 :: form r
  | nd _ _ r => 69 :: form r
noncomputable def wd (x : List Nat) : Prop := 32 ∉ x /\ x.length <= 8
noncomputable def nmok (x : List Nat) : Prop := (∀ c ∈ x, 97 <= c /\ c <= 122) /\ 1 <= x.length /\ x.length <= 8 /\ x ∉ wV
noncomputable def ok : Fo -> Prop
  | nil => True
  | nm x r => nmok x /\ ok r
  | nam x r => nmok x /\ ok r
  | num n r => n < 10 ^ 6 /\ ok r
  | nd w ps r => look xS w = some ps.form /\ ok ps /\ ok r
noncomputable def app : Fo -> Fo -> Fo
  | nil, g => g
  | nm x r, g => nm x (app r g)
  | nam x r, g => nam x (app r g)
  | num n r, g => num n (app r g)
  | nd w ps r, g => nd w ps (app r g)
noncomputable def one : Fo -> Prop
  | nam _ nil => True
  | num _ nil => True
  | nd _ _ nil => True
  | _ => False
theorem nmok.wd {x : List Nat} (h : nmok x) : Fo.wd x := ⟨fun q => by have := h.1 32 q; lia, h.2.2.1⟩
theorem look_mem {tbl : List (List Nat × List Nat)} {w v : List Nat} (h : look tbl w = some v) : (w, v) ∈ tbl := by
  unfold look at h
  obtain ⟨q, e, rfl⟩ := Option.map_eq_some_iff.mp h
  have m := List.mem_of_find?_eq_some e
  have p := List.find?_some e
  have : q.1 = w := by simpa using p
  rw [<- this]; exact m
theorem forms_ok : ∀ q ∈ xS, Fo.wd q.1 /\ q.1 ≠ sNum /\ q.1 ≠ sNam := by unfold Fo.wd; decide
theorem look_head {w v : List Nat} (h : look xS w = some v) : Fo.wd w /\ w ≠ sNum /\ w ≠ sNam := forms_ok _ (look_mem h)
theorem ds_app : ∀ f g : Fo, (app f g).ds = f.ds ++ g.ds
  | nil, g => rfl
  | nm x r, g => by simp [app, ds, ds_app r g]
  | nam x r, g => by simp [app, ds, ds_app r g]
  | num n r, g => by simp [app, ds, ds_app r g]
  | nd w ps r, g => by simp [app, ds, ds_app r g]
theorem ws_app : ∀ f g : Fo, (app f g).ws = f.ws ++ g.ws
  | nil, g => rfl
  | nm x r, g => by simp [app, ws, ws_app r g]
  | nam x r, g => by simp [app, ws, ws_app r g]
  | num n r, g => by simp [app, ws, ws_app r g]
  | nd w ps r, g => by simp [app, ws, ws_app r g]
theorem lv_app : ∀ f g : Fo, (app f g).lv = max f.lv g.lv
  | nil, g => by simp [app, lv]
  | nm x r, g => by simp [app, lv, lv_app r g]
  | nam x r, g => by simp only [app, lv, lv_app r g]; exact (Nat.max_assoc ..).symm
  | num n r, g => by simp only [app, lv, lv_app r g]; exact (Nat.max_assoc ..).symm
  | nd w ps r, g => by simp only [app, lv, lv_app r g]; exact (Nat.max_assoc ..).symm
theorem ok_app : ∀ f g : Fo, f.ok -> g.ok -> (app f g).ok
  | nil, g, _, h => h
  | nm x r, g, a, h => ⟨a.1, ok_app r g a.2 h⟩
  | nam x r, g, a, h => ⟨a.1, ok_app r g a.2 h⟩
  | num n r, g, a, h => ⟨a.1, ok_app r g a.2 h⟩
  | nd w ps r, g, a, h => ⟨a.1, a.2.1, ok_app r g a.2.2 h⟩
theorem form_app : ∀ f g : Fo, (app f g).form = f.form ++ g.form
  | nil, g => rfl
  | nm x r, g => by simp [app, form, form_app r g]
  | nam x r, g => by simp [app, form, form_app r g]
  | num n r, g => by simp [app, form, form_app r g]
  | nd w ps r, g => by simp [app, form, form_app r g]
theorem ws_ok : ∀ f : Fo, f.ok -> ∀ x ∈ f.ws, wd x
  | nil, _, x, h => by simp [ws] at h
  | nm y r, a, x, h => by
    simp only [ws, List.mem_cons] at h
    rcases h with rfl | h
    · exact a.1.wd
    · exact ws_ok r a.2 x h
  | nam y r, a, x, h => by
    simp only [ws, List.mem_cons] at h
    rcases h with rfl | h
    · exact a.1.wd
    · exact ws_ok r a.2 x h
  | num n r, a, x, h => by
    simp only [ws, List.mem_cons] at h
    rcases h with rfl | h
    · exact ⟨intC_free n, intC_len (Nat.lt_trans a.1 (by decide))⟩
    · exact ws_ok r a.2 x h
  | nd w ps r, a, x, h => by
    simp only [ws, List.mem_cons, List.mem_append] at h
    rcases h with rfl | h | h
    · exact (look_head a.1).1
    · exact ws_ok ps a.2.1 x h
    · exact ws_ok r a.2.2 x h
theorem ws_sum : ∀ {l : List (List Nat)}, (∀ x ∈ l, wd x) -> (l.map List.length).sum <= 8 * l.length
  | [], _ => by simp
  | x :: l, h => by
    have h1 := (h x (by simp)).2
    have h2 := ws_sum (l := l) fun y hy => h y (by simp [hy])
    simp only [List.sum_cons, List.map_cons, List.length_cons]
    lia
theorem ds_le : ∀ f : Fo, f.ds.length <= f.ws.length
  | nil => by simp [ds, ws]
  | nm _ r => by simp [ds, ws, ds_le r]
  | nam _ r => by simp [ds, ws, ds_le r]
  | num _ r => by simp [ds, ws, ds_le r]
  | nd _ ps r => by have := ds_le r; simp [ds, ws]; lia
noncomputable def pl : Fo -> List D
  | nil => []
  | nm _ r => pl r
  | nam x r => .tup [.str sNam, .str x] :: pl r
  | num n r => .tup [.str sNum, .int n] :: pl r
  | nd w ps r => .tup (.str w :: ds ps) :: (pl ps ++ pl r)
noncomputable def pc : Fo -> Nat
  | nil => 0
  | nm _ r => pc r
  | nam _ r => pc r + 1
  | num _ r => pc r + 1
  | nd _ ps r => pc ps + pc r + 1
noncomputable def an : Fo -> List (List Nat)
  | nil => []
  | nm _ r => an r
  | nam x r => x :: an r
  | num _ r => an r
  | nd _ ps r => an ps ++ an r
noncomputable def sFn : List Nat := [102, 110]
noncomputable def sCs : List Nat := [99, 97, 115, 101]
noncomputable def binds (w : List Nat) : Bool := decide (w = sFn) || decide (w = sCs)
noncomputable def flt (b : Bool) (p : Option (List Nat)) (l : List (List Nat)) : List (List Nat) := match b, p with
  | true, some x => l.filter fun y => decide (y ≠ x)
  | _, _ => l
noncomputable def oc (b : Bool) : Option (List Nat) -> Fo -> List (List Nat)
  | _, nil => []
  | _, nm x r => oc b (some x) r
  | p, nam x r => flt b p [x] ++ oc b none r
  | _, num _ r => oc b none r
  | p, nd w ps r => flt b p (oc (binds w) none ps) ++ oc b none r
theorem flt_sub {b : Bool} {p : Option (List Nat)} {l : List (List Nat)} {x : List Nat} (h : x ∈ flt b p l) : x ∈ l := by
  unfold flt at h
  split at h
  · exact (List.mem_filter.mp h).1
  · exact h
theorem oc_an : ∀ (f : Fo) (b : Bool) (p : Option (List Nat)), ∀ x ∈ oc b p f, x ∈ f.an
  | nil, b, p, x, h => by simp [oc] at h
  | nm y r, b, p, x, h => oc_an r b (some y) x h
  | nam y r, b, p, x, h => by
    simp only [oc, List.mem_append] at h
    rcases h with h | h
    · have := flt_sub h
      simp at this; subst this; simp [an]
    · simp [an, oc_an r b none x h]
  | num n r, b, p, x, h => oc_an r b none x h
  | nd w ps r, b, p, x, h => by
    simp only [oc, List.mem_append] at h
    rcases h with h | h
    · simp [an, oc_an ps _ none x (flt_sub h)]
    · simp [an, oc_an r b none x h]
theorem pc_app : ∀ f g : Fo, (app f g).pc = f.pc + g.pc
  | nil, g => by simp [app, pc]
  | nm x r, g => by simp [app, pc, pc_app r g]
  | nam x r, g => by simp only [app, pc, pc_app r g]; lia
  | num n r, g => by simp only [app, pc, pc_app r g]; lia
  | nd w ps r, g => by simp only [app, pc, pc_app r g]; lia
theorem an_app : ∀ f g : Fo, (app f g).an = f.an ++ g.an
  | nil, g => rfl
  | nm x r, g => by simp [app, an, an_app r g]
  | nam x r, g => by simp [app, an, an_app r g]
  | num n r, g => by simp [app, an, an_app r g]
  | nd w ps r, g => by simp [app, an, an_app r g]
theorem flt_nil (b : Bool) (p : Option (List Nat)) : flt b p [] = [] := by unfold flt; split <;> rfl
theorem oc_app {e : Fo} (h : e.one) (b : Bool) (p : Option (List Nat)) (r : Fo) : oc b p (app e r) = flt b p (oc false none e) ++ oc b none r := by
  rcases e with _ | ⟨x, q⟩ | ⟨x, q⟩ | ⟨n, q⟩ | ⟨w, ps, q⟩ <;> first | (cases h; done) | skip
  all_goals cases q <;> first | (cases h; done) | skip
  · simp [app, oc, flt]
  · simp [app, oc, flt_nil]
  · have e1 : flt false none (oc (binds w) none ps) = oc (binds w) none ps := rfl
    simp [app, oc, e1]
theorem pl_le : ∀ f : Fo, f.pl.length <= f.ws.length
  | nil => by simp [pl, ws]
  | nm _ r => by have := pl_le r; simp [pl, ws]; lia
  | nam _ r => by simp [pl, ws, pl_le r]
  | num _ r => by simp [pl, ws, pl_le r]
  | nd _ ps r => by have := pl_le r; have := pl_le ps; simp [pl, ws]; lia
theorem pl_pc : ∀ f : Fo, f.pl.length = f.pc
  | nil => rfl
  | nm _ r => pl_pc r
  | nam _ r => by simp [pl, pc, pl_pc r]
  | num _ r => by simp [pl, pc, pl_pc r]
  | nd _ ps r => by simp [pl, pc, pl_pc r, pl_pc ps]
end Fo
noncomputable def isT : D -> Bool
  | .tup _ => true
  | _ => false
noncomputable def plain : D -> Prop
  | .tup _ => True
  | .str _ => True
  | .int _ => True
  | _ => False
noncomputable def fre : Sl -> Prop
  | .un => True
  | .v _ => True
  | _ => False
theorem inst_tt : instN "tuple" "tuple" = some true := by decide
theorem inst_st : instN "str" "tuple" = some false := by decide
theorem inst_it : instN "int" "tuple" = some false := by decide
theorem inst_ss : instN "str" "str" = some true := by decide
theorem instT {d : D} (h : plain d) : wG "tuple" d = some (.bl (isT d)) := by
  cases d <;> first | (cases h; done) | skip
  · simp [wG, tyN, inst_it, isT]
  · simp [wG, tyN, inst_st, isT]
  · simp [wG, tyN, inst_tt, isT]
theorem yL {i : Nat} {d : D} {r : En} {x : Sl} (e : r[i]? = some x) (h : fre x) : yF i d r = some (r.set i (.v d)) := by
  unfold yF
  rw [e]
  cases x <;> first | rfl | cases h
theorem pop_of {i : Nat} {r : En} {S : List D} {d : D} (e : r[i]? = some (.o (S ++ [d]))) : mPop i r = some (d, r.set i (.o S)) := by
  simp [mPop, mtOf, e, Sl.ml, putO]
theorem app_of {i : Nat} {f : ME} {r : En} {S : List D} {d : D} (e : r[i]? = some (.o S)) (e2 : f r = some d) (h : S.length < sizeLine) : mApp i f r = some (.non, r.set i (.o (S ++ [d]))) := by
  simp [mApp, mtOf, e, Sl.ml, putO, e2, h]
theorem ext_of {i : Nat} {f : ME} {r : En} {S m : List D} {d : D} (e : r[i]? = some (.o S)) (e2 : f r = some d) (e3 : itemsD d = some m) (h : S.length + m.length <= sizeLine) : mExt i f r = some (.non, r.set i (.o (S ++ m))) := by
  simp [mExt, mtOf, e, Sl.ml, putO, e2, e3, h]
theorem yP {g h : MS} {r r' : En} (e : g r = some (.nx r')) : zW g h r = h r' := by
  unfold zW; rw [e]; rfl
theorem seq_rt {g h : MS} {r r' : En} {d : D} (e : g r = some (.rt d r')) : zW g h r = some (.rt d r') := by
  unfold zW; rw [e]; rfl
theorem sX_of {f : En -> Option (D × En)} {r r' : En} {d : D} (e : f r = some (d, r')) : sX f r = some (.nx r') := by
  unfold sX; rw [e]; rfl
theorem sSetX_of {i : Nat} {f : En -> Option (D × En)} {r r' r2 : En} {d : D} (e : f r = some (d, r')) (e2 : yF i d r' = some r2) : sSetX i f r = some (.nx r2) := by
  unfold sSetX; rw [e]; show (yF i d r').map Fl.nx = _; rw [e2]; rfl
theorem sSet_of {i : Nat} {f : ME} {r r2 : En} {d : D} (e : f r = some d) (e2 : yF i d r = some r2) : yW i f r = some (.nx r2) := by
  unfold yW; rw [e]; show (yF i d r).map Fl.nx = _; rw [e2]; rfl
theorem sIf_t {c : MB} {g h : MS} {r : En} (e : c r = some true) : sIf c g h r = g r := by
  unfold sIf; rw [e]; rfl
theorem sIf_f {c : MB} {g h : MS} {r : En} (e : c r = some false) : sIf c g h r = h r := by
  unfold sIf; rw [e]; rfl
theorem while_go {n : Nat} {c : MB} {g : MS} {r r' : En} (h : c r = some true) (e : g r = some (.nx r')) : qL (n + 1) c g r = qL n c g r' := by
  show (c r).bind _ = _
  rw [h, Option.bind_some, if_pos rfl, e, Option.bind_some]
theorem while_end {n : Nat} {c : MB} {g : MS} {r : En} (h : c r = some false) : qL (n + 1) c g r = some (.nx r) := by
  show (c r).bind _ = _
  rw [h, Option.bind_some, if_neg (by simp)]
theorem cnd {E : D} {F S : List D} {d : D} {x : Sl} : mTruB (mOwn 2) [.v E, .o F, .o (S ++ [d]), x] = some true := by
  show some (!(S ++ [d]).isEmpty) = _
  simp
theorem at_zero {α : Type} (x : α) (l : List α) : atI (x :: l) 0 = some x := atI_nat (j := 0) rfl
theorem wp_leaf {w : List Nat} {y : D} (h : w = sNum \/ w = sNam) : ∃ as, xU [.v (.tup [.str w, y])] = some (.v (.tup [y]), as) := by
  rcases h with rfl | rfl <;> exact ⟨_, rfl⟩
theorem wp_nd {w : List Nat} {l : List D} (h1 : w ≠ sNum) (h2 : w ≠ sNam) : ∃ as, xU [.v (.tup (.str w :: l))] = some (.v (.tup (.str w :: l)), as) := by
  have e : mBl (zF (inD false) (zF ixD (zA 0) (mC (.int 0))) (xJ (zB (mC (.str [110, 117, 109])) (zB (mC (.str [110, 97, 109, 101])) zJ)))) [.v (.tup (.str w :: l))] = some false := by
    have e1 : zF ixD (zA 0) (mC (.int 0)) [.v (.tup (.str w :: l))] = some (.str w) := by
      show ixD (.tup (.str w :: l)) (.int 0) = _
      simp [ixD, at_zero]
    have e2 : xJ (zB (mC (.str [110, 117, 109])) (zB (mC (.str [110, 97, 109, 101])) zJ)) [.v (.tup (.str w :: l))] = some (.tup [.str sNum, .str sNam]) := rfl
    unfold mBl zF
    unfold zF at e1
    rw [e1, Option.bind_some, e2, Option.bind_some]
    have g1 : ¬ sNum = w := fun q => h1 q.symm
    have g2 : ¬ sNam = w := fun q => h2 q.symm
    simp [inD, qB, eqF, g1, g2, blD]
  unfold xU mkF g_written_parts
  have g1 : ([.v (.tup (.str w :: l))] ++ List.replicate (1 - 1) Sl.un) = [.v (.tup (.str w :: l))] := rfl
  rw [g1, yP (r' := [.v (.tup (.str w :: l))]) (by rw [sIf_f e]; rfl)]
  exact ⟨_, rfl⟩
noncomputable def bodyS : MS := (zW (sSetX 3 (mPop 2))
 (sIf (qS (mUn (wG "tuple") (zA 3)))
 (sX (mExt 2 (mUn revD (zS 1 xU (zB (zA 3) zJ)))))
 (sX (mApp 1 (mUn strD (zA 3))))))
theorem bodyS_t {E : D} {F S l m : List D} {x : Sl} (hx : fre x) (hw : ∃ as, xU [.v (.tup l)] = some (.v (.tup m), as)) (hS : S.length + m.length <= sizeLine) :
    bodyS [.v E, .o F, .o (S ++ [.tup l]), x] = some (.nx [.v E, .o F, .o (S ++ m.reverse), .v (.tup l)]) := by
  obtain ⟨as, hw⟩ := hw
  unfold bodyS
  rw [yP (r' := [.v E, .o F, .o S, .v (.tup l)]) (sSetX_of (pop_of rfl) (yL (x := x) rfl hx))]
  rw [sIf_t (by rfl)]
  refine sX_of (d := .non) ?_
  refine ext_of (d := .tup m.reverse) (S := S) rfl ?_ rfl (by rw [List.length_reverse]; exact hS)
  show (((xU [.v (.tup l)]).map (fun p => rsD p.1)).bind revD) = _
  rw [hw]; rfl
theorem bodyS_s {E : D} {F S : List D} {x : Sl} {d : D} {s : List Nat} (hx : fre x) (hp : plain d) (ht : isT d = false) (hs : strD d = some (.str s)) (hF : F.length < sizeLine) :
    bodyS [.v E, .o F, .o (S ++ [d]), x] = some (.nx [.v E, .o (F ++ [.str s]), .o S, .v d]) := by
  unfold bodyS
  rw [yP (r' := [.v E, .o F, .o S, .v d]) (sSetX_of (pop_of rfl) (yL (x := x) rfl hx))]
  have e : qS (mUn (wG "tuple") (zA 3)) [.v E, .o F, .o S, .v d] = some false := by
    show ((some d).bind (wG "tuple")).bind truD = _
    rw [Option.bind_some, instT hp, ht]; rfl
  rw [sIf_f e]
  exact sX_of (app_of (d := .str s) rfl hs hF)
namespace Fo
noncomputable def st : Fo -> Nat
  | nil => 0
  | nm _ r => st r + 1
  | nam _ r => st r + 2
  | num _ r => st r + 2
  | nd _ ps r => st ps + st r + 2
theorem st_le : ∀ f : Fo, f.st <= 2 * f.ws.length
  | nil => by simp [st]
  | nm _ r => by have := st_le r; simp [st, ws]; lia
  | nam _ r => by have := st_le r; simp [st, ws]; lia
  | num _ r => by have := st_le r; simp [st, ws]; lia
  | nd _ ps r => by have := st_le r; have := st_le ps; simp [st, ws]; lia
end Fo
noncomputable abbrev wS (m : Nat) (E : D) (F S : List D) (x : Sl) : Option Fl := qL m (mTruB (mOwn 2)) bodyS [.v E, .o F, .o S, x]
theorem sh_s {E : D} {F S m : List D} {x : Sl} {d : D} {s : List Nat} {k : Nat} (hx : fre x) (hp : plain d) (ht : isT d = false) (hs : strD d = some (.str s)) (hF : F.length < sizeLine) :
    wS (k + 1) E F (S ++ (d :: m).reverse) x = wS k E (F ++ [.str s]) (S ++ m.reverse) (.v d) := by
  rw [List.reverse_cons, <- List.append_assoc]
  exact while_go cnd (bodyS_s hx hp ht hs hF)
theorem sh_t {E : D} {F S l n m : List D} {x : Sl} {k : Nat} (hx : fre x) (hw : ∃ as, xU [.v (.tup l)] = some (.v (.tup n), as)) (hS : S.length + m.length + n.length <= sizeLine) :
    wS (k + 1) E F (S ++ (.tup l :: m).reverse) x = wS k E F (S ++ m.reverse ++ n.reverse) (.v (.tup l)) := by
  rw [List.reverse_cons, <- List.append_assoc]
  exact while_go cnd (bodyS_t hx hw (by rw [List.length_append, List.length_reverse]; lia))
theorem log_small {n : Nat} (h : n < 10 ^ 8) : ((n : Int)).natAbs.log2 < 1920 := by
  rw [Int.natAbs_natCast]
  by_cases h0 : n = 0
  · subst h0; decide
  · refine (Nat.log2_lt h0).mpr (Nat.lt_of_lt_of_le h ?_)
    exact Nat.le_trans (by decide : 10 ^ 8 <= 2 ^ 30) (Nat.pow_le_pow_right (by decide) (by decide))
theorem sh_loop (E : D) : ∀ (f : Fo) (S F : List D) (x : Sl), f.ok -> fre x -> F.length + f.ws.length < sizeLine -> S.length + f.ws.length + 2 < sizeLine -> ∃ x', fre x' /\ ∀ m, wS (f.st + m) E F (S ++ f.ds.reverse) x = wS m E (F ++ f.ws.map D.str) S x'
  | .nil, S, F, x, _, hx, _, _ => ⟨x, hx, fun m => by simp [Fo.st, Fo.ds, Fo.ws]⟩
  | .nm y r, S, F, x, ok, hx, h1, h2 => by
    simp only [Fo.ws, List.length_cons] at h1 h2
    obtain ⟨x', q, e⟩ := sh_loop E r S (F ++ [.str y]) (.v (.str y)) ok.2 trivial (by simp; lia) (by lia)
    refine ⟨x', q, fun m => ?_⟩
    have e1 : (Fo.nm y r).st + m = r.st + m + 1 := by simp only [Fo.st]; lia
    rw [e1]
    refine (sh_s (E := E) (F := F) (S := S) (m := r.ds) (d := .str y) (s := y) (k := r.st + m) hx trivial rfl rfl (by lia)).trans ?_
    rw [e]; simp [Fo.ws]
  | .nam y r, S, F, x, ok, hx, h1, h2 => by
    simp only [Fo.ws, List.length_cons] at h1 h2
    have z := r.ds_le
    obtain ⟨x', q, e⟩ := sh_loop E r S (F ++ [.str y]) (.v (.str y)) ok.2 trivial (by simp; lia) (by lia)
    refine ⟨x', q, fun m => ?_⟩
    have e1 : (Fo.nam y r).st + m = r.st + m + 1 + 1 := by simp only [Fo.st]; lia
    rw [e1]
    refine (sh_t (E := E) (F := F) (S := S) (m := r.ds) (l := [.str sNam, .str y]) (n := [.str y]) (k := r.st + m + 1) hx (wp_leaf (.inr rfl)) (by show _ + _ + 1 <= _; lia)).trans ?_
    refine (sh_s (E := E) (F := F) (S := S ++ r.ds.reverse) (m := []) (d := .str y) (s := y) (k := r.st + m) (x := .v (.tup [.str sNam, .str y])) trivial trivial rfl rfl (by lia)).trans ?_
    rw [List.reverse_nil, List.append_nil, e]; simp [Fo.ws]
  | .num y r, S, F, x, ok, hx, h1, h2 => by
    simp only [Fo.ws, List.length_cons] at h1 h2
    have z := r.ds_le
    obtain ⟨x', q, e⟩ := sh_loop E r S (F ++ [.str (qD y)]) (.v (.int y)) ok.2 trivial (by simp; lia) (by lia)
    refine ⟨x', q, fun m => ?_⟩
    have e1 : (Fo.num y r).st + m = r.st + m + 1 + 1 := by simp only [Fo.st]; lia
    rw [e1]
    refine (sh_t (E := E) (F := F) (S := S) (m := r.ds) (l := [.str sNum, .int y]) (n := [.int y]) (k := r.st + m + 1) hx (wp_leaf (.inl rfl)) (by show _ + _ + 1 <= _; lia)).trans ?_
    refine (sh_s (E := E) (F := F) (S := S ++ r.ds.reverse) (m := []) (d := .int y) (s := qD y) (k := r.st + m) (x := .v (.tup [.str sNum, .int y])) trivial trivial rfl (if_pos (log_small (Nat.lt_trans ok.1 (by decide)))) (by lia)).trans ?_
    rw [List.reverse_nil, List.append_nil, e]; simp [Fo.ws]
  | .nd w ps r, S, F, x, ok, hx, h1, h2 => by
    simp only [Fo.ws, List.length_cons, List.length_append] at h1 h2
    have z := r.ds_le
    have z2 := ps.ds_le
    obtain ⟨x1, q1, a1⟩ := sh_loop E ps (S ++ r.ds.reverse) (F ++ [.str w]) (.v (.str w)) ok.2.1 trivial (by simp; lia) (by simp; lia)
    obtain ⟨x', q, e⟩ := sh_loop E r S (F ++ [.str w] ++ ps.ws.map D.str) x1 ok.2.2 q1 (by simp; lia) (by lia)
    refine ⟨x', q, fun m => ?_⟩
    have e1 : (Fo.nd w ps r).st + m = ps.st + (r.st + m) + 1 + 1 := by simp only [Fo.st]; lia
    rw [e1]
    refine (sh_t (E := E) (F := F) (S := S) (m := r.ds) (l := .str w :: ps.ds) (n := .str w :: ps.ds) (k := ps.st + (r.st + m) + 1) hx (wp_nd (Fo.look_head ok.1).2.1 (Fo.look_head ok.1).2.2) (by rw [List.length_cons]; lia)).trans ?_
    refine (sh_s (E := E) (F := F) (S := S ++ r.ds.reverse) (m := ps.ds) (d := .str w) (s := w) (k := ps.st + (r.st + m)) (x := .v (.tup (.str w :: ps.ds))) trivial trivial rfl rfl (by lia)).trans ?_
    rw [a1, e]; simp [Fo.ws]
theorem strs_ok : ∀ l : List (List Nat), strsD (l.map D.str) = some l
  | [] => rfl
  | s :: l => by simp [strsD, strs_ok l]
theorem Fo.one_ws {f : Fo} (h : f.one) : f.ws ≠ [] := by
  rcases f with _ | ⟨x, r⟩ | ⟨x, r⟩ | ⟨n, r⟩ | ⟨w, ps, r⟩ <;> first | (cases h; done) | skip
  all_goals simp [Fo.ws]
theorem WF_a {k : Nat} (h : k < WF) : k + (WF - k) = WF := Nat.add_sub_cancel' (Nat.le_of_lt h)
theorem WF_b {k : Nat} (h : k < WF) : WF - k = (WF - k - 1) + 1 := (Nat.sub_add_cancel (Nat.sub_pos_of_lt h)).symm
theorem F_shown_eq {f : Fo} {d : D} (h : f.one) (o : f.ok) (e : f.ds = [d]) (hl : f.ws.length < 10000) : ∃ as, F_shown_expression [.v d] = some (.v (.str (xZ [32] f.ws)), as) := by
  have hz : sizeLine = 16777216 := by decide
  obtain ⟨x', q, w⟩ := sh_loop d f [] [] .un o trivial (by simp; lia) (by simp; lia)
  have hp := f.st_le
  have w1 := w (WF - f.st)
  have hk : f.st < WF := by unfold WF; lia
  have hw := WF_a hk
  have hw2 := WF_b hk
  rw [hw, hw2, e] at w1
  unfold wS at w1
  rw [while_end (by rfl)] at w1
  unfold bodyS at w1
  simp only [List.nil_append, List.reverse_singleton] at w1
  unfold F_shown_expression mkF g_shown_expression
  have g1 : ([.v d] ++ List.replicate (4 - 1) Sl.un) = [.v d, .un, .un, .un] := rfl
  rw [g1]
  rw [yP (r' := [.v d, .o [], .un, .un]) (by rfl)]
  rw [yP (r' := [.v d, .o [], .o [d], .un]) (by rfl)]
  rw [yP (r' := [.v d, .o (f.ws.map D.str), .o [], x']) w1]
  have hs := Fo.ws_sum (Fo.ws_ok f o)
  have j : mJoin (mC (.str [32])) (mOwn 1) [.v d, .o (f.ws.map D.str), .o [], x'] = some (.str (xZ [32] f.ws)) := by
    show (strsD (f.ws.map D.str)).bind _ = _
    rw [strs_ok, Option.bind_some, if_pos (by show _ + _ * 1 <= _; lia)]
  unfold xF
  rw [j]
  exact ⟨_, rfl⟩
theorem for_go {bd : D -> En -> Option En} {g : MS} {d : D} {l : List D} {r r1 r' : En} (h : bd d r = some r1) (e : g r1 = some (.nx r')) : forL bd g (d :: l) r = forL bd g l r' := by
  show (bd d r).bind _ = _
  rw [h, Option.bind_some, e, Option.bind_some]
noncomputable def AlOk (m : MF) (d : D) : Prop := ∃ as, m [.v d, .v d] = some (.v (.bl true), as)
theorem al_str (k : Nat) (s : List Nat) : AlOk (yH (k + 1)) (.str s) := by
  refine ⟨[.v (.str s), .v (.str s)], ?_⟩
  show mkF 2 4 (wP (yH k)) _ = _
  unfold mkF wP
  have g1 : ([.v (.str s), .v (.str s)] ++ List.replicate (4 - 2) Sl.un) = [.v (.str s), .v (.str s), .un, .un] := rfl
  rw [g1, yP (r' := [.v (.str s), .v (.str s), .un, .un]) (by rfl)]
  rw [yP (r' := [.v (.str s), .v (.str s), .un, .un]) (by rfl)]
  have e : mAnd (mUn (wG "str") (zA 0)) (zF eqA (zA 0) (zA 1)) [.v (.str s), .v (.str s), .un, .un] = some (.bl true) := by
    show some (D.bl (decide (s = s))) = _
    simp
  unfold xF
  rw [e]; rfl
theorem al_int (k : Nat) (i : Int) : AlOk (yH (k + 1)) (.int i) := by
  refine ⟨[.v (.int i), .v (.int i)], ?_⟩
  show mkF 2 4 (wP (yH k)) _ = _
  unfold mkF wP
  have g1 : ([.v (.int i), .v (.int i)] ++ List.replicate (4 - 2) Sl.un) = [.v (.int i), .v (.int i), .un, .un] := rfl
  rw [g1, yP (r' := [.v (.int i), .v (.int i), .un, .un]) (by rfl)]
  have e : mAnd (mUn (wG "int") (zA 0)) (mAnd (mUn notD (mUn (wG "bool") (zA 0))) (zF eqA (zA 0) (zA 1))) [.v (.int i), .v (.int i), .un, .un] = some (.bl true) := by
    show some (D.bl (decide (i = i))) = _
    simp
  refine (congrArg (fun o => Option.bind o _) (seq_rt (d := .bl true) (r' := [.v (.int i), .v (.int i), .un, .un]) ?_)).trans rfl
  rw [sIf_t (by rfl)]
  unfold xF
  rw [e]; rfl
noncomputable def bodyA (m : MF) : MS := (sIf (wX (qS (zS 2 m (zB (zA 2) (zB (zA 3) zJ)))))
 (xF (mC (.bl false)))
 xD)
theorem al_loop {m : MF} {a b : D} : ∀ (l : List D) (x y : Sl), fre x -> fre y -> (∀ e ∈ l, AlOk m e) -> ∃ x' y', forL (qO 2 (yR (yF 2) (yR (yF 3) bdNil))) (bodyA m) (zipD l l) [.v a, .v b, x, y] = some (.nx [.v a, .v b, x', y'])
  | [], x, y, _, _, _ => ⟨x, y, rfl⟩
  | d :: l, x, y, hx, hy, h => by
    obtain ⟨x', y', e⟩ := al_loop (a := a) (b := b) l (.v d) (.v d) trivial trivial fun q hq => h q (by simp [hq])
    refine ⟨x', y', ?_⟩
    obtain ⟨as, ha⟩ := h d (by simp)
    have z : zipD (d :: l) (d :: l) = .tup [d, d] :: zipD l l := rfl
    have b1 : qO 2 (yR (yF 2) (yR (yF 3) bdNil)) (.tup [d, d]) [.v a, .v b, x, y] = some [.v a, .v b, .v d, .v d] := by
      cases x <;> first | (cases hx; done) | skip
      all_goals cases y <;> first | (cases hy; done) | rfl
    have b2 : bodyA m [.v a, .v b, .v d, .v d] = some (.nx [.v a, .v b, .v d, .v d]) := by
      unfold bodyA
      rw [sIf_f ?_]
      · rfl
      · show ((((m [.v d, .v d]).map fun p => rsD p.1).bind truD).map (!·)) = _
        rw [ha]; rfl
    rw [z, for_go b1 b2, e]
theorem al_seq (k : Nat) {d : D} {l : List D} (hd : d = .tup l \/ d = .lst l) (h : ∀ e ∈ l, AlOk (yH k) e) : AlOk (yH (k + 1)) d := by
  obtain ⟨x', y', e⟩ := al_loop (m := yH k) (a := d) (b := d) l .un .un trivial trivial h
  refine ⟨[.v d, .v d], ?_⟩
  show mkF 2 4 (wP (yH k)) _ = _
  unfold mkF wP
  have g1 : ([.v d, .v d] ++ List.replicate (4 - 2) Sl.un) = [.v d, .v d, .un, .un] := rfl
  rw [g1]
  refine (congrArg (fun o => Option.bind o _) (seq_rt (d := .bl true) (r' := [.v d, .v d, x', y']) ?_)).trans rfl
  rw [sIf_t (by rcases hd with rfl | rfl <;> rfl)]
  rw [yP (r' := [.v d, .v d, .un, .un]) (by rcases hd with rfl | rfl <;> rfl)]
  have ln : mBl (zF neA (mUn wE (zA 0)) (mUn wE (zA 1))) [.v d, .v d, .un, .un] = some false := by
    rcases hd with rfl | rfl
    all_goals
      show some (!decide ((l.length : Int) = (l.length : Int))) = _
      simp
  rw [yP (r' := [.v d, .v d, .un, .un]) (by rw [sIf_f ln]; rfl)]
  have fe : sFor (qO 2 (yR (yF 2) (yR (yF 3) bdNil))) (mZip (zA 0) (zA 1)) (bodyA (yH k)) [.v d, .v d, .un, .un] = some (.nx [.v d, .v d, x', y']) := by
    have it : mZip (zA 0) (zA 1) [.v d, .v d, .un, .un] = some (zipD l l) := by rcases hd with rfl | rfl <;> rfl
    unfold sFor
    rw [it]
    exact e
  unfold bodyA at fe
  rw [yP fe]
  rfl
theorem al_ok : ∀ (k : Nat) (f : Fo), f.lv <= k -> ∀ d ∈ f.ds, AlOk (yH (k + 2)) d
  | k, .nil, _, d, h => by simp [Fo.ds] at h
  | k, .nm x r, hl, d, h => by
    simp only [Fo.ds, List.mem_cons] at h
    simp only [Fo.lv] at hl
    rcases h with rfl | h
    · exact al_str _ _
    · exact al_ok k r hl d h
  | k, .nam x r, hl, d, h => by
    simp only [Fo.ds, List.mem_cons] at h
    simp only [Fo.lv] at hl
    rcases h with rfl | h
    · exact al_seq _ (.inl rfl) fun e he => by
        simp at he; rcases he with rfl | rfl <;> exact al_str _ _
    · exact al_ok k r (by lia) d h
  | k, .num x r, hl, d, h => by
    simp only [Fo.ds, List.mem_cons] at h
    simp only [Fo.lv] at hl
    rcases h with rfl | h
    · exact al_seq _ (.inl rfl) fun e he => by
        simp at he; rcases he with rfl | rfl
        · exact al_str _ _
        · exact al_int _ _
    · exact al_ok k r (by lia) d h
  | k, .nd w ps r, hl, d, h => by
    simp only [Fo.ds, List.mem_cons] at h
    simp only [Fo.lv] at hl
    rcases h with rfl | h
    · obtain ⟨j, rfl⟩ : ∃ j, k = j + 1 := ⟨k - 1, by lia⟩
      exact al_seq _ (.inl rfl) fun e he => by
        simp only [List.mem_cons] at he
        rcases he with rfl | he
        · exact al_str _ _
        · exact al_ok j ps (by lia) e he
    · exact al_ok k r (by lia) d h
theorem Fo.plain_ds : ∀ (f : Fo), ∀ d ∈ f.ds, plain d
  | .nil, d, h => by simp [Fo.ds] at h
  | .nm x r, d, h => by
    simp only [Fo.ds, List.mem_cons] at h
    rcases h with rfl | h
    · trivial
    · exact plain_ds r d h
  | .nam x r, d, h => by
    simp only [Fo.ds, List.mem_cons] at h
    rcases h with rfl | h
    · trivial
    · exact plain_ds r d h
  | .num x r, d, h => by
    simp only [Fo.ds, List.mem_cons] at h
    rcases h with rfl | h
    · trivial
    · exact plain_ds r d h
  | .nd x _ r, d, h => by
    simp only [Fo.ds, List.mem_cons] at h
    rcases h with rfl | h
    · trivial
    · exact plain_ds r d h
theorem comp_inner : ∀ (l : List D) (x : Sl), fre x -> (∀ d ∈ l, plain d) -> qV (yF 0) (qS (mUn (wG "tuple") (zA 0))) (zA 0) l [x] = some (l.filter isT)
  | [], x, _, _ => rfl
  | d :: t, x, hx, h => by
    have ih := comp_inner t (.v d) trivial fun e he => h e (by simp [he])
    have e1 : yF 0 d [x] = some [.v d] := yL (r := [x]) rfl hx
    have e2 : qS (mUn (wG "tuple") (zA 0)) [.v d] = some (isT d) := by
      show ((some d).bind (wG "tuple")).bind truD = _
      rw [Option.bind_some, instT (h d (by simp))]; rfl
    unfold qV
    rw [e1, Option.bind_some, e2, Option.bind_some, ih]
    cases q : isT d
    · simp [q]
    · simp [q, zA]
theorem F_inner_eq {l : List D} (h : ∀ d ∈ l, plain d) (hl : l.length < sizeLine) : F_inner [.v (.tup l)] = some (.v (.lst (l.filter isT)), [.v (.tup l)]) := by
  have e : qA [] 1 (mIt (zA 0)) (yF 0) (qS (mUn (wG "tuple") (zA 0))) (zA 0) [.v (.tup l)] = some (l.filter isT) := by
    show (if l.length < sizeLine then qV _ _ _ l [.un] else none) = _
    rw [if_pos hl]
    exact comp_inner l .un trivial h
  unfold F_inner mkF g_inner
  show ((xF _ [.v (.tup l)]).bind _) = _
  unfold xF yM
  rw [e]; rfl
noncomputable def bodyP : MS := (zW (sSetX 3 (mPop 2))
 (zW (sX (mApp 1 (zA 3)))
 (sX (mExt 2 (mUn revD (zS 1 F_inner (zB (zA 3) zJ)))))))
theorem bodyP_eq {E : D} {F S l : List D} {x : Sl} (hx : fre x) (h : ∀ d ∈ l, plain d) (hl : l.length < sizeLine) (hF : F.length < sizeLine) (hS : S.length + l.length <= sizeLine) :
    bodyP [.v E, .o F, .o (S ++ [.tup l]), x] = some (.nx [.v E, .o (F ++ [.tup l]), .o (S ++ (l.filter isT).reverse), .v (.tup l)]) := by
  unfold bodyP
  rw [yP (r' := [.v E, .o F, .o S, .v (.tup l)]) (sSetX_of (pop_of rfl) (yL (x := x) rfl hx))]
  rw [yP (r' := [.v E, .o (F ++ [.tup l]), .o S, .v (.tup l)]) (sX_of (app_of rfl rfl hF))]
  refine sX_of (d := .non) ?_
  refine ext_of (d := .lst (l.filter isT).reverse) (S := S) rfl ?_ rfl ?_
  · show (((F_inner [.v (.tup l)]).map (fun p => rsD p.1)).bind revD) = _
    rw [F_inner_eq h hl]; rfl
  · have := List.length_filter_le isT l
    rw [List.length_reverse]; lia
theorem Fo.flt_le (f : Fo) : (f.ds.filter isT).length <= f.ws.length := Nat.le_trans (List.length_filter_le _ _) f.ds_le
theorem pl_step {E : D} {F S l m : List D} {x : Sl} {k : Nat} (hx : fre x) (h : ∀ d ∈ l, plain d) (hl : l.length < sizeLine) (hF : F.length < sizeLine) (hS : S.length + m.length + l.length <= sizeLine) :
    qL (k + 1) (mTruB (mOwn 2)) bodyP [.v E, .o F, .o (S ++ (.tup l :: m).reverse), x] = qL k (mTruB (mOwn 2)) bodyP [.v E, .o (F ++ [.tup l]), .o (S ++ m.reverse ++ (l.filter isT).reverse), .v (.tup l)] := by
  rw [List.reverse_cons, <- List.append_assoc]
  exact while_go cnd (bodyP_eq hx h hl hF (by rw [List.length_append, List.length_reverse]; lia))
theorem pl_loop (E : D) : ∀ (f : Fo) (S F : List D) (x : Sl), fre x -> F.length + f.ws.length < sizeLine -> S.length + f.ws.length + 2 < sizeLine -> ∃ x', fre x' /\ ∀ m, qL (f.pl.length + m) (mTruB (mOwn 2)) bodyP [.v E, .o F, .o (S ++ (f.ds.filter isT).reverse), x] = qL m (mTruB (mOwn 2)) bodyP [.v E, .o (F ++ f.pl), .o S, x']
  | .nil, S, F, x, hx, _, _ => ⟨x, hx, fun m => by simp [Fo.pl, Fo.ds]⟩
  | .nm y r, S, F, x, hx, h1, h2 => by
    simp only [Fo.ws, List.length_cons] at h1 h2
    obtain ⟨x', q, e⟩ := pl_loop E r S F x hx (by lia) (by lia)
    exact ⟨x', q, fun m => by simpa [Fo.pl, Fo.ds, isT] using e m⟩
  | .nam y r, S, F, x, hx, h1, h2 => by
    simp only [Fo.ws, List.length_cons] at h1 h2
    obtain ⟨x', q, e⟩ := pl_loop E r S (F ++ [.tup [.str sNam, .str y]]) (.v (.tup [.str sNam, .str y])) trivial (by simp; lia) (by lia)
    refine ⟨x', q, fun m => ?_⟩
    have z := r.flt_le
    have e0 := pl_step (E := E) (F := F) (S := S) (l := [.str sNam, .str y]) (m := r.ds.filter isT) (x := x) (k := r.pl.length + m) hx (by intro d hd; simp at hd; rcases hd with rfl | rfl <;> trivial) (by show 2 < sizeLine; lia) (by lia) (by show _ + _ + 2 <= _; lia)
    have e1 : (Fo.nam y r).pl.length + m = r.pl.length + m + 1 := by simp only [Fo.pl, List.length_cons]; lia
    have e2 : ((Fo.nam y r).ds.filter isT) = .tup [.str sNam, .str y] :: r.ds.filter isT := by rfl
    rw [e1, e2, e0]
    simpa [Fo.pl, isT] using e m
  | .num y r, S, F, x, hx, h1, h2 => by
    simp only [Fo.ws, List.length_cons] at h1 h2
    obtain ⟨x', q, e⟩ := pl_loop E r S (F ++ [.tup [.str sNum, .int y]]) (.v (.tup [.str sNum, .int y])) trivial (by simp; lia) (by lia)
    refine ⟨x', q, fun m => ?_⟩
    have z := r.flt_le
    have e0 := pl_step (E := E) (F := F) (S := S) (l := [.str sNum, .int y]) (m := r.ds.filter isT) (x := x) (k := r.pl.length + m) hx (by intro d hd; simp at hd; rcases hd with rfl | rfl <;> trivial) (by show 2 < sizeLine; lia) (by lia) (by show _ + _ + 2 <= _; lia)
    have e1 : (Fo.num y r).pl.length + m = r.pl.length + m + 1 := by simp only [Fo.pl, List.length_cons]; lia
    have e2 : ((Fo.num y r).ds.filter isT) = .tup [.str sNum, .int y] :: r.ds.filter isT := by rfl
    rw [e1, e2, e0]
    simpa [Fo.pl, isT] using e m
  | .nd w ps r, S, F, x, hx, h1, h2 => by
    simp only [Fo.ws, List.length_cons, List.length_append] at h1 h2
    have z := r.flt_le
    have z2 := ps.ds_le
    have z3 := ps.pl_le
    obtain ⟨x1, q1, a1⟩ := pl_loop E ps (S ++ (r.ds.filter isT).reverse) (F ++ [.tup (.str w :: ps.ds)]) (.v (.tup (.str w :: ps.ds))) trivial (by simp; lia) (by simp; lia)
    obtain ⟨x', q, e⟩ := pl_loop E r S (F ++ [.tup (.str w :: ps.ds)] ++ ps.pl) x1 q1 (by simp; lia) (by lia)
    refine ⟨x', q, fun m => ?_⟩
    have e0 := pl_step (E := E) (F := F) (S := S) (l := .str w :: ps.ds) (m := r.ds.filter isT) (x := x) (k := ps.pl.length + (r.pl.length + m)) hx (by intro d hd; simp at hd; rcases hd with rfl | hd; trivial; exact ps.plain_ds d hd) (by rw [List.length_cons]; lia) (by lia) (by rw [List.length_cons]; lia)
    have e1 : (Fo.nd w ps r).pl.length + m = ps.pl.length + (r.pl.length + m) + 1 := by simp only [Fo.pl, List.length_cons, List.length_append]; lia
    have e2 : ((Fo.nd w ps r).ds.filter isT) = .tup (.str w :: ps.ds) :: r.ds.filter isT := by rfl
    have e3 : (D.str w :: ps.ds).filter isT = ps.ds.filter isT := by simp [isT]
    rw [e1, e2, e0, e3, a1, e]
    simp [Fo.pl]
theorem Fo.one_flt {f : Fo} {d : D} (h : f.one) (e : f.ds = [d]) : f.ds.filter isT = [d] := by
  rcases f with _ | ⟨x, r⟩ | ⟨x, r⟩ | ⟨n, r⟩ | ⟨w, ps, r⟩ <;> first | (cases h; done) | skip
  all_goals cases r <;> first | (cases h; done) | skip
  all_goals (simp only [Fo.ds] at e ⊢; cases e; rfl)
theorem F_places_eq {f : Fo} {d : D} (h : f.one) (e : f.ds = [d]) (hl : f.ws.length < 10000) : ∃ as, F_places [.v d] = some (.f f.pl, as) := by
  have hz : sizeLine = 16777216 := by decide
  obtain ⟨x', q, w⟩ := pl_loop d f [] [] .un trivial (by simp; lia) (by simp; lia)
  have hp := f.pl_le
  have w1 := w (WF - f.pl.length)
  have hk : f.pl.length < WF := by unfold WF; lia
  have hw := WF_a hk
  have hw2 := WF_b hk
  rw [hw, hw2, Fo.one_flt h e] at w1
  rw [while_end (by rfl)] at w1
  unfold bodyP at w1
  simp only [List.nil_append, List.reverse_singleton] at w1
  unfold F_places mkF g_places
  have g1 : ([.v d] ++ List.replicate (4 - 1) Sl.un) = [.v d, .un, .un, .un] := rfl
  rw [g1]
  rw [yP (r' := [.v d, .o [], .un, .un]) (by rfl)]
  rw [yP (r' := [.v d, .o [], .o [d], .un]) (by rfl)]
  rw [yP (r' := [.v d, .o f.pl, .o [], x']) w1]
  exact ⟨_, rfl⟩
section
variable {f g : ME} {fl gl : ML} {r : En} {x y d : D} {i j : Int}
theorem zV {m : D -> D -> Option D} (e1 : f r = some x) (e2 : g r = some y) (e : m x y = some d) : zF m f g r = some d := by
  unfold zF; rw [e1, Option.bind_some, e2]; exact e
theorem un_of {m : D -> Option D} (e1 : f r = some x) (e : m x = some d) : mUn m f r = some d := by
  unfold mUn; rw [e1]; exact e
theorem wZ (e1 : f r = some (.int i)) (e2 : g r = some (.int j)) : zF yD f g r = some (.int (i + j)) := zV e1 e2 rfl
theorem xM (e1 : f r = some (.int i)) (e2 : g r = some (.int j)) (h : 0 < j) : zF wH f g r = some (.int (i % j)) := zV e1 e2 (if_pos h)
theorem mul_of (e1 : f r = some (.int i)) (e2 : g r = some (.int j)) (h : -(2 ^ 64) < i /\ i < 2 ^ 64) : zF mulD f g r = some (.int (i * j)) := zV e1 e2 (if_pos (.inl h))
theorem fdiv_of (e1 : f r = some (.int i)) (e2 : g r = some (.int j)) (h : 0 < j /\ j < 1073741824) : zF fdivD f g r = some (.int (i / j)) := zV e1 e2 (if_pos h)
theorem zI : mC d r = some d := rfl
theorem zE {l : List D} (e1 : f r = some x) (e2 : fl r = some l) : zB f fl r = some (x :: l) := by
  unfold zB; rw [e1, Option.bind_some, e2]; rfl
theorem zO : zJ r = some [] := rfl
theorem xQ {l : List D} (e : fl r = some l) (h : l.length <= 100) : yM (yI fl) r = some (.lst l) := by
  unfold yM yI; rw [e, Option.bind_some, if_pos (Nat.le_trans h (by decide))]; rfl
theorem xX {l : List D} (e : fl r = some l) (h : l.length <= 100) : xJ fl r = some (.tup l) := by
  unfold xJ; rw [e, Option.bind_some, if_pos (Nat.le_trans h (by decide))]
theorem yB {n : Nat} {m : MF} {l : List D} {p : Rs} (e : fl r = some l) (hl : l.length = n) (h : ∃ as, m (l.map .v) = some (p, as)) : zS n m fl r = some (rsD p) := by
  obtain ⟨as, h⟩ := h
  unfold zS; rw [e, Option.bind_some, if_pos hl, h]; rfl
theorem qJ {b : Bool} (e : f r = some (.bl b)) : mBl f r = some b := by
  unfold mBl; rw [e]; rfl
theorem xA (e : f r = some d) : xF f r = some (.rt d r) := by
  unfold xF; rw [e]; rfl
theorem yO {k : Nat} {h : MS} {r2 : En} {z : Option Fl} (d : D) (e : f r = some d) (e2 : yF k d r = some r2) (q : h r2 = z) : zW (yW k f) h r = z := by
  rw [yP (sSet_of e e2)]; exact q
theorem yY {c : MB} {a h : MS} {z : Option Fl} (e : c r = some false) (q : h r = z) : zW (sIf c a xD) h r = z := by
  rw [yP (r' := r) (by rw [sIf_f e]; rfl)]; exact q
theorem seq_tt {c : MB} {a h : MS} {r' : En} (e : c r = some true) (q : a r = some (.rt d r')) : zW (sIf c a xD) h r = some (.rt d r') := seq_rt (by rw [sIf_t e]; exact q)
theorem xV {n N : Nat} {s : MS} {as : List Sl} {r' : En} (e : s (as ++ List.replicate (N - n) .un) = some (.rt d r')) : ∃ bs, mkF n N s as = some (.v d, bs) := by
  unfold mkF; rw [e]; exact ⟨_, rfl⟩
end
theorem mixed_eq (c k : Int) : ∃ n : Int, 0 <= n /\ ∃ as, yE [.v (.int c), .v (.int k)] = some (.v (.int n), as) := by
  let n1 : Int := (c % 2147483647 + 16807 * k + 7) % 2147483629
  let n2 : Int := n1 * n1 % 2147483587
  have h1 : 0 <= n1 /\ n1 < 2147483629 := ⟨Int.emod_nonneg _ (by decide), Int.emod_lt_of_pos _ (by decide)⟩
  have h2 : 0 <= n2 /\ n2 < 2147483587 := ⟨Int.emod_nonneg _ (by decide), Int.emod_lt_of_pos _ (by decide)⟩
  refine ⟨n2 * (n2 + 48271) % 2147483579 / 5, ?_, ?_⟩
  · exact Int.ediv_nonneg (Int.emod_nonneg _ (by decide)) (by decide)
  · refine xV (r' := [.v (.int c), .v (.int k), .v (.int n2)]) ?_
    show g__law_mixed [.v (.int c), .v (.int k), .un] = _
    unfold g__law_mixed
    rw [yP (sSet_of (d := .int n1) (r2 := [.v (.int c), .v (.int k), .v (.int n1)]) (xM (wZ (wZ (xM rfl zI (by decide)) (mul_of zI rfl (by decide))) zI) zI (by decide)) (by rfl))]
    rw [yP (sSet_of (d := .int n2) (r2 := [.v (.int c), .v (.int k), .v (.int n2)]) (xM (mul_of rfl rfl (by lia)) zI (by decide)) (by rfl))]
    exact xA (fdiv_of (xM (mul_of rfl (wZ rfl zI) (by lia)) zI (by decide)) zI (by decide))
noncomputable def lw (s : List Nat) : Prop := ∀ c ∈ s, 97 <= c /\ c <= 122
theorem lw.app {s t : List Nat} (h : lw s) (h' : lw t) : lw (s ++ t) := fun c hc => by
  rcases List.mem_append.mp hc with q | q
  · exact h c q
  · exact h' c q
theorem cut_mem {α : Type} {l : List α} {lo hi : Option Int} {x : α} (h : x ∈ wT l lo hi) : x ∈ l := List.mem_of_mem_drop (List.mem_of_mem_take h)
theorem lw.cut {s : List Nat} (h : lw s) (lo hi : Option Int) : lw (wT s lo hi) := fun c hc => h c (cut_mem hc)
noncomputable def abc : List Nat := [97, 98, 99, 100, 101, 102, 103, 104, 105, 106, 107, 108, 109, 110, 111, 112, 113, 114, 115, 116, 117, 118, 119, 120, 121, 122]
theorem abc_at {i : Int} (h0 : 0 <= i) (h : i < 26) : ∃ c, 97 <= c /\ c <= 122 /\ ixD (.str abc) (.int i) = some (.str [c]) := by
  obtain ⟨j, rfl⟩ := Int.eq_ofNat_of_zero_le h0; have hj : j < 26 := by lia
  have a : ∀ j : Nat, j < 26 -> abc[j]? = some (97 + j) := by decide
  refine ⟨97 + j, by lia, by lia, ?_⟩
  show (if abc.length <= sizeLine then (atI abc (j : Int)).map fun c => D.str [c] else none) = _
  rw [if_pos (by decide), atI_nat (a j hj)]; rfl
theorem min1_sub : ∀ n : Nat, n - min 1 n <= n - 1
  | 0 => Nat.le_refl _
  | n + 1 => by rw [Nat.min_eq_left (Nat.succ_le_succ (Nat.zero_le n))]; exact Nat.le_refl _
theorem cut_tail {α : Type} (s : List α) : (wT s (some 1) none).length <= s.length - 1 := by
  unfold wT
  have e : HT.sIx s.length 0 (some 1) = min 1 s.length := HT.sIx_nat s.length 0 1
  rw [List.length_take, List.length_drop, e]
  exact Nat.le_trans (Nat.min_le_right ..) (min1_sub _)
theorem cut_len {α : Type} (s : List α) (lo hi : Option Int) : (wT s lo hi).length <= s.length := by
  unfold wT
  rw [List.length_take, List.length_drop]; exact Nat.le_trans (Nat.min_le_right ..) (Nat.sub_le ..)
theorem cut_7 {α : Type} (s : List α) : (wT s none (some 7)).length <= 7 := by
  unfold wT
  have e : HT.sIx s.length s.length (some 7) = min 7 s.length := HT.sIx_nat s.length s.length 7
  rw [List.length_take, e]; exact Nat.le_trans (Nat.min_le_left ..) (Nat.le_trans (Nat.sub_le ..) (Nat.min_le_left ..))
theorem str_add {s t : List Nat} (h : s.length + t.length <= 100) : yD (.str s) (.str t) = some (.str (s ++ t)) := if_pos (Nat.le_trans h (by decide))
noncomputable def kept : List (List Nat) := [[100, 101, 102], [102, 110], [100, 111], [101, 109, 112, 116, 121], [103, 101, 116], [119, 105, 116, 104], [112, 117, 116], [108, 101, 115, 115], [116, 97, 103], [119, 105, 100, 101], [99, 97, 115, 101], [110, 101, 118, 101, 114], [105, 102]]
theorem kept_eq : ∃ as, F__law_kept [] = some (.v (.lst (kept.map D.str)), as) := ⟨_, rfl⟩
theorem sl_of {f : ME} {lo hi : MO} {r : En} {x d : D} {a b : Option Int} (e1 : f r = some x) (e2 : lo r = some a) (e3 : hi r = some b) (e : slD x a b = some d) : mSl f lo hi r = some d := by
  unfold mSl; rw [e1, Option.bind_some, e2, Option.bind_some, e3]; exact e
theorem sl_str {s : List Nat} {lo hi : Option Int} (h : s.length <= 100) : slD (.str s) lo hi = some (.str (wT s lo hi)) := if_pos (Nat.le_trans h (by decide))
noncomputable def bodyN : MS := (yW 1 (zF yD (zA 1) (zF ixD (mC (.str [97, 98, 99, 100, 101, 102, 103, 104, 105, 106, 107, 108, 109, 110, 111, 112, 113, 114, 115, 116, 117, 118, 119, 120, 121, 122])) (zF wH (zS 2 yE (zB (zA 0) (zB (zF yD (mC (.int 30)) (zA 2)) zJ))) (mC (.int 26))))))
theorem name_loop (n : Int) : ∀ (L : List Int) (s : List Nat) (x : Sl), lw s -> s.length + L.length <= 8 -> fre x -> ∃ t x', lw t /\ t.length = s.length + L.length /\ fre x' /\ forL (yF 2) bodyN (L.map D.int) [.v (.int n), .v (.str s), x] = some (.nx [.v (.int n), .v (.str t), x'])
  | [], s, x, h, _, hx => ⟨s, x, h, rfl, hx, rfl⟩
  | k :: L, s, x, h, hl, hx => by
    rw [List.length_cons] at hl
    obtain ⟨m, m0, hm⟩ := mixed_eq n (30 + k)
    obtain ⟨c, c1, c2, hc⟩ := abc_at (i := m % 26) (Int.emod_nonneg _ (by decide)) (Int.emod_lt_of_pos _ (by decide))
    obtain ⟨t, x', q1, q2, q3, q4⟩ := name_loop n L (s ++ [c]) (.v (.int k)) (h.app fun d hd => by simp at hd; subst hd; exact ⟨c1, c2⟩) (by simp; lia) trivial
    refine ⟨t, x', q1, by rw [q2, List.length_append, List.length_cons, List.length_cons, List.length_nil]; lia, q3, ?_⟩
    have b : bodyN [.v (.int n), .v (.str s), .v (.int k)] = some (.nx [.v (.int n), .v (.str (s ++ [c])), .v (.int k)]) := by
      refine sSet_of (d := .str (s ++ [c])) ?_ (by rfl)
      refine zV (x := .str s) (y := .str [c]) rfl ?_ (str_add (by show _ + 1 <= _; lia))
      refine zV (x := .str abc) zI (xM ?_ zI (by decide)) hc
      exact yB (p := .v (.int m)) (zE rfl (zE (wZ zI rfl) zO)) rfl hm
    rw [List.map_cons, for_go (yL (x := x) rfl hx) b, q4]
theorem rngD_ints (n : Nat) : rngD 0 n = ((List.range n).map fun i => (0 : Int) + (i : Nat)).map D.int := by
  unfold rngD; rw [List.map_map]; rfl
theorem any_eq (t : List Nat) : ∀ ss : List (List Nat), ((ss.map D.str).any fun z => eqF z (.str t)) = decide (t ∈ ss)
  | [] => by simp
  | x :: ss => by
    have ih := any_eq t ss
    rw [List.map_cons, List.any_cons, ih]
    show (decide (x = t) || decide (t ∈ ss)) = _
    by_cases c : x = t
    · subst c; simp
    · have c' : ¬ t = x := fun e => c e.symm
      simp [c, c']
theorem kept_head : ∀ w ∈ kept, w.head? ≠ some 113 /\ w.head? ≠ some 122 /\ w.getLast? ≠ some 113 /\ w.getLast? ≠ some 122 /\ w.length <= 5 := by decide
theorem name_eq {n : Int} (h0 : 0 <= n) : ∃ s, lw s /\ 1 <= s.length /\ s.length <= 8 /\ s ∉ kept /\ ∃ as, F__law_name [.v (.int n)] = some (.v (.str s), as) := by
  have m0 : 0 <= n % 8 := Int.emod_nonneg _ (by decide)
  have m8 : n % 8 < 8 := Int.emod_lt_of_pos _ (by decide)
  obtain ⟨t, x', q1, q2, q3, q4⟩ := name_loop n ((List.range (1 + n % 8).toNat).map fun i => (0 : Int) + (i : Nat)) [] .un (fun c hc => by simp at hc) (by simp; lia) trivial
  have lt : t.length <= 8 := by rw [q2]; simp; lia
  have l1 : 1 <= t.length := by rw [q2]; simp; lia
  have s1 : g__law_name [.v (.int n), .un, .un] = zW (sIf (mBl (zF (inD false) (zA 1) (zS 0 F__law_kept zJ)))
      (xF (zF yD (mC (.str [113])) (mSl (zA 1) (yV (mC (.int 1))) xL)))
      xD) (xF (zA 1)) [.v (.int n), .v (.str t), x'] := by
    unfold g__law_name
    rw [yP (r' := [.v (.int n), .v (.str []), .un]) (by rfl)]
    have it : mRng1 (zF yD (mC (.int 1)) (zF wH (zA 0) (mC (.int 8)))) [.v (.int n), .v (.str []), .un] = some (rngD 0 (1 + n % 8).toNat) := by
      have e : zF yD (mC (.int 1)) (zF wH (zA 0) (mC (.int 8))) [.v (.int n), .v (.str []), .un] = some (.int (1 + n % 8)) := wZ zI (xM rfl zI (by decide))
      unfold mRng1
      rw [e]
      show (if -(2 ^ 62) <= (1 + n % 8) /\ (1 + n % 8) < 2 ^ 62 then some (rngD 0 (1 + n % 8).toNat) else none) = _
      rw [if_pos (by lia)]
    have fe : sFor (yF 2) (mRng1 (zF yD (mC (.int 1)) (zF wH (zA 0) (mC (.int 8))))) bodyN [.v (.int n), .v (.str []), .un] = some (.nx [.v (.int n), .v (.str t), x']) := by
      unfold sFor
      rw [it, rngD_ints]
      exact q4
    unfold bodyN at fe
    rw [yP fe]
  have hb : mBl (zF (inD false) (zA 1) (zS 0 F__law_kept zJ)) [.v (.int n), .v (.str t), x'] = some (decide (t ∈ kept)) := by
    rw [<- any_eq t kept]
    exact qJ (zV (x := .str t) (y := .lst (kept.map D.str)) rfl (yB (p := .v (.lst (kept.map D.str))) zO rfl kept_eq) (by simp [inD, qB]))
  by_cases hk : t ∈ kept
  rotate_left
  · rw [decide_eq_false hk] at hb
    refine ⟨t, q1, l1, lt, hk, xV (r' := [.v (.int n), .v (.str t), x']) ?_⟩
    show g__law_name [.v (.int n), .un, .un] = _
    rw [s1, yP (r' := [.v (.int n), .v (.str t), x']) (by rw [sIf_f hb]; rfl)]
    rfl
  · rw [decide_eq_true hk] at hb
    have ct := cut_tail t
    refine ⟨[113] ++ wT t (some 1) none, lw.app (fun c hc => by simp at hc; lia) (q1.cut _ _), by simp, by simp; lia, fun hq => (kept_head _ hq).1 rfl, xV (r' := [.v (.int n), .v (.str t), x']) ?_⟩
    show g__law_name [.v (.int n), .un, .un] = _
    rw [s1, seq_rt (d := .str ([113] ++ wT t (some 1) none)) (r' := [.v (.int n), .v (.str t), x']) ?_]
    rw [sIf_t hb]
    exact xA (zV zI (sl_of (x := .str t) rfl (by rfl) (by rfl) (sl_str (by lia))) (str_add (by simp; lia)))
theorem cut7_eq {α : Type} (s : List α) : wT s none (some 7) = s.take 7 := by
  unfold wT
  have e : HT.sIx s.length s.length (some 7) = min 7 s.length := HT.sIx_nat s.length s.length 7
  rw [e, HT.sIx_none, List.drop_zero, Nat.sub_zero, List.take_eq_take_iff]
  lia
theorem lst_add {l m : List D} (h : l.length + m.length <= 100000) : yD (.lst l) (.lst m) = some (.lst (l ++ m)) := if_pos (Nat.le_trans h (by decide))
theorem names_eq (c : Int) : ∃ l : List (List Nat), l.length = 6 /\ (∀ x ∈ l, Fo.nmok x) /\ ∃ as, F__law_names [.v (.int c)] = some (.v (.lst (l.map D.str)), as) := by
  obtain ⟨m3, z3, h3⟩ := mixed_eq c 3
  obtain ⟨m4, z4, h4⟩ := mixed_eq c 4
  obtain ⟨m5, z5, h5⟩ := mixed_eq c 5
  obtain ⟨s3, w3, p3, l3, k3, e3⟩ := name_eq z3
  obtain ⟨s4, w4, p4, l4, k4, e4⟩ := name_eq z4
  obtain ⟨s5, w5, p5, l5, k5, e5⟩ := name_eq z5
  let nr := wT s3 none (some 7)
  have nl : nr.length <= 7 := cut_7 s3
  have nw : lw nr := w3.cut _ _
  have ne : nr = s3.take 7 := cut7_eq s3
  have n1 : 1 <= nr.length := by rw [ne, List.length_take]; lia
  have nk : nr ∉ kept := fun hq => by
    by_cases c : s3.length <= 7
    · rw [ne, List.take_of_length_le c] at hq; exact k3 hq
    · have := (kept_head _ hq).2.2.2.2
      rw [ne, List.length_take] at this
      lia
  have t1 := cut_len nr none (some (-1))
  have t2 := cut_len nr (some 1) none
  let W : List (List Nat) := [nr, nr ++ [113], wT nr none (some (-1)) ++ [122], [122] ++ wT nr (some 1) none]
  refine ⟨W ++ [s4, s5], rfl, ?_, xV (r' := [.v (.int c), .v (.str nr), .v (.lst (W.map D.str))]) ?_⟩
  · intro x hx
    have hq : lw [113] := fun c hc => by simp at hc; lia
    have hz : lw [122] := fun c hc => by simp at hc; lia
    simp only [W, List.mem_append, List.mem_cons, List.not_mem_nil, or_false] at hx
    rcases hx with (rfl | rfl | rfl | rfl) | rfl | rfl
    · exact ⟨nw, n1, by lia, nk⟩
    · exact ⟨nw.app hq, by simp, by simp; lia, fun z => (kept_head _ z).2.2.1 (by simp)⟩
    · exact ⟨(nw.cut _ _).app hz, by simp, by simp; lia, fun z => (kept_head _ z).2.2.2.1 (by simp)⟩
    · exact ⟨hz.app (nw.cut _ _), by simp, by simp; lia, fun z => (kept_head _ z).2.1 rfl⟩
    · exact ⟨w4, p4, l4, k4⟩
    · exact ⟨w5, p5, l5, k5⟩
  · show g__law_names [.v (.int c), .un, .un] = _
    unfold g__law_names
    refine yO (.str nr) (sl_of (x := .str s3) (yB (p := .v (.str s3)) (zE (yB (p := .v (.int m3)) (zE rfl (zE zI zO)) rfl h3) zO) rfl e3) (by rfl) (by rfl) (sl_str (by lia))) (by rfl) ?_
    refine yO (.lst (W.map D.str)) ?_ (by rfl) ?_
    rotate_left
    · refine xA (zV (x := .lst (W.map D.str)) rfl (xQ (zE (yB (p := .v (.str s4)) (zE (yB (p := .v (.int m4)) (zE rfl (zE zI zO)) rfl h4) zO) rfl e4) (zE (yB (p := .v (.str s5)) (zE (yB (p := .v (.int m5)) (zE rfl (zE zI zO)) rfl h5) zO) rfl e5) zO)) (by show 2 <= 100; decide)) ?_)
      rw [List.map_append]
      exact lst_add (by show 4 + 2 <= _; decide)
    · refine xQ (zE rfl (zE (zV (x := .str nr) rfl zI (str_add (by show _ + 1 <= _; lia))) (zE (zV (sl_of (x := .str nr) rfl (by rfl) (by rfl) (sl_str (by lia))) zI (str_add (by show _ + 1 <= _; lia))) (zE (zV zI (sl_of (x := .str nr) rfl (by rfl) (by rfl) (sl_str (by lia))) (str_add (by show 1 + _ <= _; lia))) zO)))) (by show 4 <= 100; decide)
noncomputable def Fo.hd (f : Fo) : D := f.ds.headD .non
noncomputable def itm (f : Fo) : D := .tup [f.hd, .lst (f.ws.map D.str), .int ((f.lv : Int) - 1)]
theorem Fo.one_ds {f : Fo} (h : f.one) : f.ds = [f.hd] := by
  rcases f with _ | ⟨x, r⟩ | ⟨x, r⟩ | ⟨n, r⟩ | ⟨w, ps, r⟩ <;> first | (cases h; done) | skip
  all_goals cases r <;> first | (cases h; done) | rfl
theorem Fo.one_form {f : Fo} (h : f.one) : f.form = [69] := by
  rcases f with _ | ⟨x, r⟩ | ⟨x, r⟩ | ⟨n, r⟩ | ⟨w, ps, r⟩ <;> first | (cases h; done) | skip
  all_goals cases r <;> first | (cases h; done) | rfl
theorem itm_nd (w : List Nat) (ps : Fo) : itm (.nd w ps .nil) = .tup [.tup (.str w :: ps.ds), .lst (.str w :: ps.ws.map D.str), .int ps.lv] := by
  have e : ((max (ps.lv + 1) 0 : Nat) : Int) - 1 = ps.lv := by lia
  simp [itm, Fo.hd, Fo.ds, Fo.ws, Fo.lv]
structure Gd (ns : List (List Nat)) (f : Fo) : Prop where
  one : f.one
  ok : f.ok
  nm : ∀ x ∈ f.an, x ∈ ns
theorem Fo.one_lv {f : Fo} (h : f.one) : 1 <= f.lv := by
  rcases f with _ | ⟨x, r⟩ | ⟨x, r⟩ | ⟨n, r⟩ | ⟨w, ps, r⟩ <;> first | (cases h; done) | (simp only [Fo.lv]; lia)
theorem ix_lit (ss : List (List Nat)) {i : Int} (h0 : 0 <= i) (h : i < ss.length) : ∃ w ∈ ss, ixD (.lst (ss.map D.str)) (.int i) = some (.str w) := by
  obtain ⟨j, rfl⟩ := Int.eq_ofNat_of_zero_le h0; have hj : j < ss.length := by lia
  refine ⟨ss[j], List.getElem_mem hj, ?_⟩
  exact atI_nat (by simp [hj])
theorem ix_lit2 (ss : List (List Nat)) {i : Int} (h0 : 0 <= i) (h : i < ss.length) : ∃ j : Nat, (j : Int) = i /\ ixD (.lst (ss.map D.str)) (.int i) = some (.str (ss.getD j [])) := by
  obtain ⟨j, rfl⟩ := Int.eq_ofNat_of_zero_le h0; have hj : j < ss.length := by lia
  refine ⟨j, rfl, ?_⟩
  exact atI_nat (by simp [hj])
structure Nms (ns : List (List Nat)) : Prop where
  len : ns.length = 6
  wd : ∀ x ∈ ns, Fo.nmok x
theorem Nms.at {ns : List (List Nat)} (h : Nms ns) (i : Int) : ∃ x, (x ∈ ns /\ Fo.nmok x) /\ ixD (.lst (ns.map D.str)) (.int (i % 6)) = some (.str x) := by
  obtain ⟨x, hx, e⟩ := ix_lit ns (i := i % 6) (Int.emod_nonneg _ (by decide)) (by rw [h.len]; exact Int.emod_lt_of_pos _ (by decide))
  exact ⟨x, ⟨hx, h.wd x hx⟩, e⟩
theorem eq_int {i j : Int} : eqA (.int i) (.int j) = some (.bl (decide (i = j))) := rfl
theorem eq_str {i j : List Nat} : eqA (.str i) (.str j) = some (.bl (decide (i = j))) := rfl
noncomputable def sEmpty : List Nat := [101, 109, 112, 116, 121]
theorem leaf_eq {c n : Int} {ns : List (List Nat)} (hn : Nms ns) : ∃ f : Fo, Gd ns f /\ f.lv = 1 /\ f.pc = 1 /\ f.ws.length <= 4 /\ ∃ as, F__law_leaf [.v (.int c), .v (.int n), .v (.lst (ns.map D.str))] = some (.v (itm f), as) := by
  let N : D := .lst (ns.map D.str)
  by_cases c0 : n % 5 = 0
  · refine ⟨.nd sEmpty .nil .nil, ⟨trivial, ⟨by decide, trivial, trivial⟩, by simp [Fo.an]⟩, by decide, by decide, by decide, xV (r' := [.v (.int c), .v (.int n), .v N, .un, .un]) ?_⟩
    show g__law_leaf [.v (.int c), .v (.int n), .v N, .un, .un] = _
    refine seq_tt (qJ (b := true) (zV (xM rfl zI (by decide)) zI (by rw [eq_int, decide_eq_true c0]))) ?_
    exact xA (by rfl)
  · by_cases c1 : n % 5 < 3
    · obtain ⟨x, wx, ex⟩ := hn.at (n / 5)
      refine ⟨.nam x .nil, ⟨trivial, ⟨wx.2, trivial⟩, by simp [Fo.an]; exact wx.1⟩, by simp [Fo.lv], by simp [Fo.pc], by simp [Fo.ws], xV (r' := [.v (.int c), .v (.int n), .v N, .v (.str x), .un]) ?_⟩
      show g__law_leaf [.v (.int c), .v (.int n), .v N, .un, .un] = _
      refine yY (qJ (b := false) (zV (xM rfl zI (by decide)) zI (by rw [eq_int, decide_eq_false c0]))) ?_
      refine seq_tt (qJ (b := true) (zV (x := .int (n % 5)) (y := .int 3) (xM rfl zI (by decide)) zI (by show some (D.bl (decide (n % 5 < 3))) = _; rw [decide_eq_true c1]))) ?_
      refine yO (.str x) (zV (x := N) (y := .int (n / 5 % 6)) rfl (xM (fdiv_of rfl zI (by decide)) zI (by decide)) ex) (by rfl) ?_
      exact xA (by rfl)
    · have k0 : 0 <= (c + n) % 1000000 := Int.emod_nonneg _ (by decide)
      have k1 : (c + n) % 1000000 < 1000000 := Int.emod_lt_of_pos _ (by decide)
      have j0 : 0 <= n / 10 % 12 := Int.emod_nonneg _ (by decide)
      have j1 : n / 10 % 12 < 12 := Int.emod_lt_of_pos _ (by decide)
      have fin : ∀ m : Nat, m < 10 ^ 6 -> (xF (xJ (zB (xJ (zB (mC (.str [110, 117, 109])) (zB (zA 4) zJ))) (zB (yM (yI (zB (mUn strD (zA 4)) zJ))) (zB (mC (.int 0)) zJ))))) [.v (.int c), .v (.int n), .v N, .un, .v (.int m)] = some (.rt (itm (.num m .nil)) [.v (.int c), .v (.int n), .v N, .un, .v (.int m)]) := fun m hm => by
        refine xA (xX (l := [.tup [.str sNum, .int m], .lst [.str (qD m)], .int 0]) ?_ (by show 3 <= 100; decide))
        refine zE (xX (zE zI (zE rfl zO)) (by show 2 <= 100; decide)) (zE (xQ (zE (un_of rfl (if_pos (log_small (Nat.lt_trans hm (by decide))))) zO) (by show 1 <= 100; decide)) (zE zI zO))
      let m : Nat := if n / 5 % 2 = 0 then (n / 10 % 12).toNat else ((c + n) % 1000000).toNat
      have hm : m < 10 ^ 6 := by
        show (if n / 5 % 2 = 0 then (n / 10 % 12).toNat else ((c + n) % 1000000).toNat) < 10 ^ 6
        split <;> lia
      refine ⟨.num m .nil, ⟨trivial, ⟨hm, trivial⟩, by simp [Fo.an]⟩, by simp [Fo.lv], by simp [Fo.pc], by simp [Fo.ws], xV (r' := [.v (.int c), .v (.int n), .v N, .un, .v (.int m)]) ?_⟩
      show g__law_leaf [.v (.int c), .v (.int n), .v N, .un, .un] = _
      refine yY (qJ (b := false) (zV (xM rfl zI (by decide)) zI (by rw [eq_int, decide_eq_false c0]))) ?_
      refine yY (qJ (b := false) (zV (x := .int (n % 5)) (y := .int 3) (xM rfl zI (by decide)) zI (by show some (D.bl (decide (n % 5 < 3))) = _; rw [decide_eq_false c1]))) ?_
      refine yO (.int ((c + n) % 1000000)) (xM (j := 1000000) (wZ rfl rfl) (zV zI zI (by simp [powD])) (by decide)) (r2 := [.v (.int c), .v (.int n), .v N, .un, .v (.int ((c + n) % 1000000))]) (by rfl) ?_
      by_cases c2 : n / 5 % 2 = 0
      · have e : ((m : Nat) : Int) = n / 10 % 12 := by
          show (((if n / 5 % 2 = 0 then (n / 10 % 12).toNat else ((c + n) % 1000000).toNat) : Nat) : Int) = _
          rw [if_pos c2]; lia
        have hh : mBl (zF eqA (zF wH (zF fdivD (zA 1) (mC (.int 5))) (mC (.int 2))) (mC (.int 0))) [.v (.int c), .v (.int n), .v N, .un, .v (.int ((c + n) % 1000000))] = some true := qJ (zV (xM (fdiv_of rfl zI (by decide)) zI (by decide)) zI (by rw [eq_int, decide_eq_true c2]))
        rw [yP (r' := [.v (.int c), .v (.int n), .v N, .un, .v (.int m)]) ?_]
        · exact fin m hm
        · rw [sIf_t hh, e]
          exact sSet_of (xM (fdiv_of rfl zI (by decide)) zI (by decide)) (by rfl)
      · have e : ((m : Nat) : Int) = (c + n) % 1000000 := by
          show (((if n / 5 % 2 = 0 then (n / 10 % 12).toNat else ((c + n) % 1000000).toNat) : Nat) : Int) = _
          rw [if_neg c2]; lia
        refine yY (qJ (zV (xM (fdiv_of rfl zI (by decide)) zI (by decide)) zI (by rw [eq_int, decide_eq_false c2]))) ?_
        rw [<- e]
        exact fin m hm
noncomputable def wOne : List (List Nat) := [[102, 110], [103, 101, 116], [108, 101, 115, 115], [116, 97, 103], [119, 105, 100, 101], [110, 101, 118, 101, 114]]
noncomputable def wTwo : List (List Nat) := [[100, 111], [43], [45], [42], [60], [119, 105, 116, 104], [112, 117, 116]]
theorem wOne_ok : ∀ w ∈ wOne, (w = [110, 101, 118, 101, 114] -> look xS w = some [69]) /\ (w ≠ [110, 101, 118, 101, 114] -> look xS w = some [110, 69]) := by decide
theorem wTwo_ok : ∀ j : Nat, j < 7 -> (j < 5 -> look xS (wTwo.getD j []) = some [69, 69]) /\ (¬ j < 5 -> look xS (wTwo.getD j []) = some [110, 69, 69]) := by decide
theorem lit_of (ss : List (List Nat)) (h : ss.length <= 100) {r : En} : yM (yI (mLit ss)) r = some (.lst (ss.map D.str)) := xQ rfl (by rw [List.length_map]; exact h)
theorem ix0 {f : Fo} {g : ME} {r : En} (e : g r = some (itm f)) : zF ixD g (mC (.int 0)) r = some f.hd := zV e zI rfl
theorem ix1 {f : Fo} {g : ME} {r : En} (e : g r = some (itm f)) : zF ixD g (mC (.int 1)) r = some (.lst (f.ws.map D.str)) := zV e zI rfl
theorem ix2 {f : Fo} {g : ME} {r : En} (e : g r = some (itm f)) : zF ixD g (mC (.int 2)) r = some (.int ((f.lv : Int) - 1)) := zV e zI rfl
theorem ladd {f g : ME} {r : En} {l m : List D} (e1 : f r = some (.lst l)) (e2 : g r = some (.lst m)) (h : l.length + m.length <= 100000) : zF yD f g r = some (.lst (l ++ m)) := zV e1 e2 (lst_add h)
theorem one_eq {n : Int} {ns : List (List Nat)} (hn : Nms ns) {f : Fo} (hf : Gd ns f) (hw : f.ws.length <= 1000) : ∃ g : Fo, Gd ns g /\ g.ws.length <= f.ws.length + 4 /\ g.lv = f.lv + 1 /\ g.pc = f.pc + 1 /\ ∃ as, F__law_one [.v (.int n), .v (.lst (ns.map D.str)), .v (itm f)] = some (.v (itm g), as) := by
  let N : D := .lst (ns.map D.str)
  obtain ⟨w, mw, ew⟩ := ix_lit wOne (i := n % 6) (Int.emod_nonneg _ (by decide)) (Int.emod_lt_of_pos _ (by decide))
  obtain ⟨x, wx, ex⟩ := hn.at (n / 6)
  obtain ⟨o1, o2⟩ := wOne_ok w mw
  have fo := Fo.one_form hf.one
  have hd := Fo.one_ds hf.one
  have l1 := Fo.one_lv hf.one
  have s : ∀ z, zW (sIf (mBl (zF eqA (zA 3) (mC (.str [110, 101, 118, 101, 114]))))
      (xF (xJ (zB (xJ (zB (mC (.str [110, 101, 118, 101, 114])) (zB (zF ixD (zA 2) (mC (.int 0))) zJ))) (zB (zF yD (yM (yI (zB (mC (.str [110, 101, 118, 101, 114])) zJ))) (zF ixD (zA 2) (mC (.int 1)))) (zB (zF yD (zF ixD (zA 2) (mC (.int 2))) (mC (.int 1))) zJ)))))
      xD)
      (xF (xJ (zB (xJ (zB (zA 3) (zB (zA 4) (zB (zF ixD (zA 2) (mC (.int 0))) zJ)))) (zB (zF yD (yM (yI (zB (zA 3) (zB (zA 4) zJ)))) (zF ixD (zA 2) (mC (.int 1)))) (zB (zF yD (zF ixD (zA 2) (mC (.int 2))) (mC (.int 1))) zJ))))) [.v (.int n), .v N, .v (itm f), .v (.str w), .v (.str x)] = z -> g__law_one [.v (.int n), .v N, .v (itm f), .un, .un] = z := fun z h => by
    unfold g__law_one
    refine yO (.str w) (zV (lit_of wOne (by decide)) (xM rfl zI (by decide)) ew) (by rfl) ?_
    refine yO (.str x) (zV (x := N) (y := .int (n / 6 % 6)) rfl (xM (fdiv_of rfl zI (by decide)) zI (by decide)) ex) (by rfl) h
  by_cases c : w = [110, 101, 118, 101, 114]
  · refine ⟨.nd w f .nil, ⟨trivial, ⟨by rw [fo]; exact o1 c, hf.ok, trivial⟩, by simp only [Fo.an, List.append_nil]; exact hf.nm⟩, by simp [Fo.ws], by simp only [Fo.lv]; lia, by simp [Fo.pc], xV (r' := [.v (.int n), .v N, .v (itm f), .v (.str w), .v (.str x)]) (s _ ?_)⟩
    refine seq_tt (qJ (zV rfl zI (by rw [eq_str, decide_eq_true c]))) (xA ?_)
    rw [itm_nd, hd]
    subst c
    refine xX (zE (xX (zE zI (zE (ix0 (f := f) rfl) zO)) (by show 2 <= 100; decide)) (zE (ladd (xQ (zE zI zO) (by show 1 <= 100; decide)) (ix1 (f := f) rfl) (by simp; lia)) (zE (x := .int f.lv) ?_ zO))) (by show 3 <= 100; decide)
    have e : (f.lv : Int) = (f.lv : Int) - 1 + 1 := by lia
    rw [e]
    exact wZ (ix2 (f := f) rfl) zI
  · refine ⟨.nd w (.nm x f) .nil, ⟨trivial, ⟨by show _ = some (110 :: f.form); rw [fo]; exact o2 c, ⟨wx.2, hf.ok⟩, trivial⟩, by simp only [Fo.an, List.append_nil]; exact hf.nm⟩, by simp [Fo.ws], by simp only [Fo.lv]; lia, by simp [Fo.pc], xV (r' := [.v (.int n), .v N, .v (itm f), .v (.str w), .v (.str x)]) (s _ ?_)⟩
    refine yY (qJ (zV rfl zI (by rw [eq_str, decide_eq_false c]))) (xA ?_)
    rw [itm_nd]
    simp only [Fo.ds, Fo.ws, Fo.lv, hd, List.map_cons]
    refine xX (zE (xX (zE rfl (zE rfl (zE (ix0 (f := f) rfl) zO))) (by show 3 <= 100; decide)) (zE (ladd (xQ (l := [.str w, .str x]) (zE rfl (zE rfl zO)) (by show 2 <= 100; decide)) (ix1 (f := f) rfl) (by simp; lia)) (zE (x := .int f.lv) ?_ zO))) (by show 3 <= 100; decide)
    have e : (f.lv : Int) = (f.lv : Int) - 1 + 1 := by lia
    rw [e]
    exact wZ (ix2 (f := f) rfl) zI
theorem max2_of {f g : ME} {r : En} {i j : Int} (e1 : f r = some (.int i)) (e2 : g r = some (.int j)) : mMax (zB f (zB g zJ)) r = some (.int (max i j)) := by
  unfold mMax
  rw [zE e1 (zE e2 zO)]
  show some (D.int (if j > i then j else i)) = _
  congr 2
  split <;> lia
theorem max3_of {f g h : ME} {r : En} {i j k : Int} (e1 : f r = some (.int i)) (e2 : g r = some (.int j)) (e3 : h r = some (.int k)) : mMax (zB f (zB g (zB h zJ))) r = some (.int (max i (max j k))) := by
  unfold mMax
  rw [zE e1 (zE e2 (zE e3 zO))]
  show some (D.int (if j > i then (if k > j then k else j) else (if k > i then k else i))) = _
  congr 2
  split <;> split <;> lia
theorem mx_sub (a b : Nat) : max ((a : Int) - 1) ((b : Int) - 1) = ((max a b : Nat) : Int) - 1 := by
  rcases Nat.le_total a b with h | h
  · rw [Nat.max_eq_right h, Int.max_eq_right (Int.sub_le_sub_right (Int.ofNat_le.mpr h) 1)]
  · rw [Nat.max_eq_left h, Int.max_eq_left (Int.sub_le_sub_right (Int.ofNat_le.mpr h) 1)]
theorem two_eq {n : Int} {ns : List (List Nat)} (hn : Nms ns) {f g : Fo} (hf : Gd ns f) (hg : Gd ns g) (hw : f.ws.length + g.ws.length <= 1000) : ∃ q : Fo, Gd ns q /\ q.ws.length <= f.ws.length + g.ws.length + 4 /\ q.lv = max f.lv g.lv + 1 /\ q.pc = f.pc + g.pc + 1 /\ ∃ as, F__law_two [.v (.int n), .v (.lst (ns.map D.str)), .v (itm f), .v (itm g)] = some (.v (itm q), as) := by
  let N : D := .lst (ns.map D.str)
  obtain ⟨j, ej, ew⟩ := ix_lit2 wTwo (i := n % 7) (Int.emod_nonneg _ (by decide)) (Int.emod_lt_of_pos _ (by decide))
  have j7 : n % 7 < 7 := Int.emod_lt_of_pos _ (by decide)
  generalize hw' : wTwo.getD j [] = w at ew
  obtain ⟨x, wx, ex⟩ := hn.at (n / 7)
  obtain ⟨o1, o2⟩ := wTwo_ok j (by lia)
  rw [hw'] at o1 o2
  have ff := Fo.one_form hf.one
  have fg := Fo.one_form hg.one
  have fa : (Fo.app f g).form = [69, 69] := by rw [Fo.form_app, ff, fg]; rfl
  have hd := Fo.one_ds hf.one
  have gd := Fo.one_ds hg.one
  have l1 := Fo.one_lv hf.one
  have l2 := Fo.one_lv hg.one
  have dp : 1 + max ((f.lv : Int) - 1) ((g.lv : Int) - 1) = (((Fo.app f g).lv : Nat) : Int) := by rw [Fo.lv_app, mx_sub, Int.add_comm, Int.sub_add_cancel]
  have lf := Fo.lv_app f g
  have pf := Fo.pc_app f g
  have nn : ∀ x ∈ (Fo.app f g).an, x ∈ ns := fun x hx => by rw [Fo.an_app, List.mem_append] at hx; exact hx.elim (hf.nm x) (hg.nm x)
  have wf : (Fo.app f g).ws.length = f.ws.length + g.ws.length := by rw [Fo.ws_app, List.length_append]
  have s : ∀ z, zW (sIf (mBl (zF ltD (zF wH (zA 0) (mC (.int 7))) (mC (.int 5))))
      (xF (xJ (zB (xJ (zB (zA 4) (zB (zF ixD (zA 2) (mC (.int 0))) (zB (zF ixD (zA 3) (mC (.int 0))) zJ)))) (zB (zF yD (zF yD (yM (yI (zB (zA 4) zJ))) (zF ixD (zA 2) (mC (.int 1)))) (zF ixD (zA 3) (mC (.int 1)))) (zB (zA 6) zJ)))))
      xD)
      (xF (xJ (zB (xJ (zB (zA 4) (zB (zA 5) (zB (zF ixD (zA 2) (mC (.int 0))) (zB (zF ixD (zA 3) (mC (.int 0))) zJ))))) (zB (zF yD (zF yD (yM (yI (zB (zA 4) (zB (zA 5) zJ)))) (zF ixD (zA 2) (mC (.int 1)))) (zF ixD (zA 3) (mC (.int 1)))) (zB (zA 6) zJ))))) [.v (.int n), .v N, .v (itm f), .v (itm g), .v (.str w), .v (.str x), .v (.int (Fo.app f g).lv)] = z -> g__law_two [.v (.int n), .v N, .v (itm f), .v (itm g), .un, .un, .un] = z := fun z h => by
    unfold g__law_two
    refine yO (.str w) (zV (lit_of wTwo (by decide)) (xM rfl zI (by decide)) ew) (by rfl) ?_
    refine yO (.str x) (zV (x := N) (y := .int (n / 7 % 6)) rfl (xM (fdiv_of rfl zI (by decide)) zI (by decide)) ex) (by rfl) ?_
    refine yO (.int (Fo.app f g).lv) (by rw [<- dp]; exact wZ zI (max2_of (ix2 (f := f) rfl) (ix2 (f := g) rfl))) (by rfl) h
  by_cases c : n % 7 < 5
  · refine ⟨.nd w (.app f g) .nil, ⟨trivial, ⟨by rw [fa]; exact o1 (by lia), Fo.ok_app f g hf.ok hg.ok, trivial⟩, by simp only [Fo.an, List.append_nil]; exact nn⟩, by simp [Fo.ws, wf] <;> lia, by simp only [Fo.lv]; lia, by simp only [Fo.pc]; lia, xV (r' := [.v (.int n), .v N, .v (itm f), .v (itm g), .v (.str w), .v (.str x), .v (.int (Fo.app f g).lv)]) (s _ ?_)⟩
    refine seq_tt (qJ (zV (x := .int (n % 7)) (y := .int 5) (xM rfl zI (by decide)) zI (by show some (D.bl (decide (n % 7 < 5))) = _; rw [decide_eq_true c]))) (xA ?_)
    rw [itm_nd, Fo.ds_app, Fo.ws_app, hd, gd]
    refine xX (zE (xX (zE rfl (zE (ix0 (f := f) rfl) (zE (ix0 (f := g) rfl) zO))) (by show 3 <= 100; decide)) (zE ?_ (zE rfl zO))) (by show 3 <= 100; decide)
    rw [List.map_append]
    exact ladd (l := .str w :: f.ws.map D.str) (ladd (xQ (l := [.str w]) (zE rfl zO) (by show 1 <= 100; decide)) (ix1 (f := f) rfl) (by simp; lia)) (ix1 (f := g) rfl) (by simp; lia)
  · refine ⟨.nd w (.nm x (.app f g)) .nil, ⟨trivial, ⟨by show _ = some (110 :: (Fo.app f g).form); rw [fa]; exact o2 (by lia), ⟨wx.2, Fo.ok_app f g hf.ok hg.ok⟩, trivial⟩, by simp only [Fo.an, List.append_nil]; exact nn⟩, by simp [Fo.ws, wf] <;> lia, by simp only [Fo.lv]; lia, by simp only [Fo.pc]; lia, xV (r' := [.v (.int n), .v N, .v (itm f), .v (itm g), .v (.str w), .v (.str x), .v (.int (Fo.app f g).lv)]) (s _ ?_)⟩
    refine yY (qJ (zV (x := .int (n % 7)) (y := .int 5) (xM rfl zI (by decide)) zI (by show some (D.bl (decide (n % 7 < 5))) = _; rw [decide_eq_false c]))) (xA ?_)
    rw [itm_nd]
    simp only [Fo.ds, Fo.ws, Fo.lv, List.map_cons]
    rw [Fo.ds_app, Fo.ws_app, hd, gd]
    refine xX (zE (xX (zE rfl (zE rfl (zE (ix0 (f := f) rfl) (zE (ix0 (f := g) rfl) zO)))) (by show 4 <= 100; decide)) (zE ?_ (zE rfl zO))) (by show 3 <= 100; decide)
    rw [List.map_append]
    exact ladd (l := .str w :: .str x :: f.ws.map D.str) (ladd (xQ (l := [.str w, .str x]) (zE rfl (zE rfl zO)) (by show 2 <= 100; decide)) (ix1 (f := f) rfl) (by simp; lia)) (ix1 (f := g) rfl) (by simp; lia)
noncomputable def sIfW : List Nat := [105, 102]
noncomputable def sCase : List Nat := [99, 97, 115, 101]
theorem three_eq {n : Int} {ns : List (List Nat)} (hn : Nms ns) {f g h : Fo} (hf : Gd ns f) (hg : Gd ns g) (hh : Gd ns h) (hw : f.ws.length + g.ws.length + h.ws.length <= 1000) : ∃ q : Fo, Gd ns q /\ q.ws.length <= f.ws.length + g.ws.length + h.ws.length + 4 /\ q.lv = max f.lv (max g.lv h.lv) + 1 /\ q.pc = f.pc + g.pc + h.pc + 1 /\ ∃ as, F__law_three [.v (.int n), .v (.lst (ns.map D.str)), .v (.lst [itm f, itm g, itm h])] = some (.v (itm q), as) := by
  let N : D := .lst (ns.map D.str)
  let L : D := .lst [itm f, itm g, itm h]
  obtain ⟨x, wx, ex⟩ := hn.at (n / 2)
  obtain ⟨y, wy, ey⟩ := hn.at (n / 12)
  obtain ⟨z, wz, ez⟩ := hn.at (n / 72)
  have ff := Fo.one_form hf.one
  have fg := Fo.one_form hg.one
  have fh := Fo.one_form hh.one
  have fd := Fo.one_ds hf.one
  have gd := Fo.one_ds hg.one
  have hd := Fo.one_ds hh.one
  have l1 := Fo.one_lv hf.one
  have l2 := Fo.one_lv hg.one
  have l3 := Fo.one_lv hh.one
  let m : Nat := max f.lv (max g.lv h.lv)
  have dp : 1 + max ((f.lv : Int) - 1) (max ((g.lv : Int) - 1) ((h.lv : Int) - 1)) = ((m : Nat) : Int) := by
    show _ = ((max f.lv (max g.lv h.lv) : Nat) : Int)
    rw [mx_sub, mx_sub, Int.add_comm, Int.sub_add_cancel]
  have me : m = max f.lv (max g.lv h.lv) := rfl
  let R : En := [.v (.int n), .v N, .v L, .v (itm f), .v (itm g), .v (itm h), .v (.int m), .v (.str x), .v (.str y), .v (.str z), .un]
  have s : ∀ q, zW (sIf (mBl (zF eqA (zF wH (zA 0) (mC (.int 2))) (mC (.int 0))))
      (xF (xJ (zB (xJ (zB (mC (.str [105, 102])) (zB (zF ixD (zA 3) (mC (.int 0))) (zB (zF ixD (zA 4) (mC (.int 0))) (zB (zF ixD (zA 5) (mC (.int 0))) zJ))))) (zB (zF yD (zF yD (zF yD (yM (yI (zB (mC (.str [105, 102])) zJ))) (zF ixD (zA 3) (mC (.int 1)))) (zF ixD (zA 4) (mC (.int 1)))) (zF ixD (zA 5) (mC (.int 1)))) (zB (zA 6) zJ)))))
      xD)
      (zW (yW 10 (xJ (zB (mC (.str [99, 97, 115, 101])) (zB (zF ixD (zA 3) (mC (.int 0))) (zB (zA 7) (zB (zA 8) (zB (zF ixD (zA 4) (mC (.int 0))) (zB (zA 9) (zB (zF ixD (zA 5) (mC (.int 0))) zJ)))))))))
      (xF (xJ (zB (zA 10) (zB (zF yD (zF yD (zF yD (zF yD (zF yD (yM (yI (zB (mC (.str [99, 97, 115, 101])) zJ))) (zF ixD (zA 3) (mC (.int 1)))) (yM (yI (zB (zA 7) (zB (zA 8) zJ))))) (zF ixD (zA 4) (mC (.int 1)))) (yM (yI (zB (zA 9) zJ)))) (zF ixD (zA 5) (mC (.int 1)))) (zB (zA 6) zJ)))))) R = q -> g__law_three [.v (.int n), .v N, .v L, .un, .un, .un, .un, .un, .un, .un, .un] = q := fun q e => by
    unfold g__law_three
    rw [yP (r' := [.v (.int n), .v N, .v L, .v (itm f), .v (itm g), .v (itm h), .un, .un, .un, .un, .un]) (by rfl)]
    refine yO (.int m) (by rw [<- dp]; exact wZ zI (max3_of (ix2 (f := f) rfl) (ix2 (f := g) rfl) (ix2 (f := h) rfl))) (by rfl) ?_
    refine yO (.str x) (zV (x := N) (y := .int (n / 2 % 6)) rfl (xM (fdiv_of rfl zI (by decide)) zI (by decide)) ex) (by rfl) ?_
    refine yO (.str y) (zV (x := N) (y := .int (n / 12 % 6)) rfl (xM (fdiv_of rfl zI (by decide)) zI (by decide)) ey) (by rfl) ?_
    refine yO (.str z) (zV (x := N) (y := .int (n / 72 % 6)) rfl (xM (fdiv_of rfl zI (by decide)) zI (by decide)) ez) (by rfl) e
  by_cases c : n % 2 = 0
  · let ps : Fo := .app f (.app g h)
    have pl : ps.lv = m := by show (Fo.app f (.app g h)).lv = _; rw [Fo.lv_app, Fo.lv_app]
    have pw : ps.ws = f.ws ++ (g.ws ++ h.ws) := by show (Fo.app f (.app g h)).ws = _; rw [Fo.ws_app, Fo.ws_app]
    have pd : ps.ds = [f.hd, g.hd, h.hd] := by show (Fo.app f (.app g h)).ds = _; rw [Fo.ds_app, Fo.ds_app, fd, gd, hd]; rfl
    have po : ps.ok := Fo.ok_app _ _ hf.ok (Fo.ok_app _ _ hg.ok hh.ok)
    have pp : ps.pc = f.pc + g.pc + h.pc := by show (Fo.app f (.app g h)).pc = _; rw [Fo.pc_app, Fo.pc_app]; lia
    have pn : ∀ x ∈ ps.an, x ∈ ns := fun x hx => by
      have hx : x ∈ (Fo.app f (.app g h)).an := hx
      rw [Fo.an_app, Fo.an_app, List.mem_append, List.mem_append] at hx
      rcases hx with hx | hx | hx
      · exact hf.nm x hx
      · exact hg.nm x hx
      · exact hh.nm x hx
    refine ⟨.nd sIfW ps .nil, ⟨trivial, ⟨by have e : ps.form = [69, 69, 69] := (by show (Fo.app f (.app g h)).form = _; rw [Fo.form_app, Fo.form_app, ff, fg, fh]; rfl); rw [e]; decide, po, trivial⟩, by simp only [Fo.an, List.append_nil]; exact pn⟩, by simp [Fo.ws, pw]; lia, by simp only [Fo.lv]; lia, by simp only [Fo.pc]; lia, xV (r' := R) (s _ ?_)⟩
    refine seq_tt (qJ (zV (xM rfl zI (by decide)) zI (by rw [eq_int, decide_eq_true c]))) (xA ?_)
    rw [itm_nd, pl, pw, pd, List.map_append, List.map_append]
    refine xX (zE (xX (zE zI (zE (ix0 (f := f) rfl) (zE (ix0 (f := g) rfl) (zE (ix0 (f := h) rfl) zO)))) (by show 4 <= 100; decide)) (zE ?_ (zE rfl zO))) (by show 3 <= 100; decide)
    rw [<- List.append_assoc]
    exact ladd (l := .str sIfW :: (f.ws.map D.str ++ g.ws.map D.str)) (ladd (l := .str sIfW :: f.ws.map D.str) (ladd (xQ (l := [.str sIfW]) (zE zI zO) (by show 1 <= 100; decide)) (ix1 (f := f) rfl) (by simp; lia)) (ix1 (f := g) rfl) (by simp; lia)) (ix1 (f := h) rfl) (by simp; lia)
  · let ps : Fo := .app f (.nm x (.nm y (.app g (.nm z h))))
    have pl : ps.lv = m := by show (Fo.app f (.nm x (.nm y (.app g (.nm z h))))).lv = _; rw [Fo.lv_app]; simp only [Fo.lv]; rw [Fo.lv_app]; simp only [Fo.lv]; rfl
    have pw : ps.ws = f.ws ++ ([x, y] ++ (g.ws ++ ([z] ++ h.ws))) := by show (Fo.app f (.nm x (.nm y (.app g (.nm z h))))).ws = _; rw [Fo.ws_app]; simp only [Fo.ws]; rw [Fo.ws_app]; simp only [Fo.ws]; rfl
    have pd : ps.ds = [f.hd, .str x, .str y, g.hd, .str z, h.hd] := by show (Fo.app f (.nm x (.nm y (.app g (.nm z h))))).ds = _; rw [Fo.ds_app]; simp only [Fo.ds]; rw [Fo.ds_app]; simp only [Fo.ds]; rw [fd, gd, hd]; rfl
    have po : ps.ok := Fo.ok_app _ _ hf.ok ⟨wx.2, wy.2, Fo.ok_app _ _ hg.ok ⟨wz.2, hh.ok⟩⟩
    have pp : ps.pc = f.pc + g.pc + h.pc := by show (Fo.app f (.nm x (.nm y (.app g (.nm z h))))).pc = _; rw [Fo.pc_app]; simp only [Fo.pc]; rw [Fo.pc_app]; simp only [Fo.pc]; lia
    have pn : ∀ x ∈ ps.an, x ∈ ns := fun q hx => by
      have hx : q ∈ (Fo.app f (.nm x (.nm y (.app g (.nm z h))))).an := hx
      rw [Fo.an_app] at hx; simp only [Fo.an] at hx; rw [Fo.an_app] at hx; simp only [Fo.an] at hx
      rw [List.mem_append, List.mem_append] at hx
      rcases hx with hx | hx | hx
      · exact hf.nm q hx
      · exact hg.nm q hx
      · exact hh.nm q hx
    refine ⟨.nd sCase ps .nil, ⟨trivial, ⟨by have e : ps.form = [69, 110, 110, 69, 110, 69] := (by show (Fo.app f (.nm x (.nm y (.app g (.nm z h))))).form = _; rw [Fo.form_app]; simp only [Fo.form]; rw [Fo.form_app]; simp only [Fo.form]; rw [ff, fg, fh]; rfl); rw [e]; decide, po, trivial⟩, by simp only [Fo.an, List.append_nil]; exact pn⟩, by simp [Fo.ws, pw] <;> lia, by simp only [Fo.lv]; lia, by simp only [Fo.pc]; lia, xV (r' := R.set 10 (.v (.tup [.str sCase, f.hd, .str x, .str y, g.hd, .str z, h.hd]))) (s _ ?_)⟩
    refine yY (qJ (zV (xM rfl zI (by decide)) zI (by rw [eq_int, decide_eq_false c]))) ?_
    rw [itm_nd, pl, pw, pd]
    refine yO (.tup [.str sCase, f.hd, .str x, .str y, g.hd, .str z, h.hd]) ?_ (by rfl) (xA ?_)
    · exact xX (zE zI (zE (ix0 (f := f) rfl) (zE rfl (zE rfl (zE (ix0 (f := g) rfl) (zE rfl (zE (ix0 (f := h) rfl) zO))))))) (by show 7 <= 100; decide)
    · refine xX (zE rfl (zE ?_ (zE rfl zO))) (by show 3 <= 100; decide)
      have e : (D.str sCase :: List.map D.str (f.ws ++ ([x, y] ++ (g.ws ++ ([z] ++ h.ws))))) = ((((([D.str sCase] ++ f.ws.map D.str) ++ [.str x, .str y]) ++ g.ws.map D.str) ++ [.str z]) ++ h.ws.map D.str) := by simp
      rw [e]
      exact ladd (ladd (ladd (ladd (ladd (xQ (l := [.str sCase]) (zE zI zO) (by show 1 <= 100; decide)) (ix1 (f := f) rfl) (by simp; lia)) (xQ (zE rfl (zE rfl zO)) (by show 2 <= 100; decide)) (by simp; lia)) (ix1 (f := g) rfl) (by simp; lia)) (xQ (zE rfl zO) (by show 1 <= 100; decide)) (by simp; lia)) (ix1 (f := h) rfl) (by simp; lia)
theorem cut_back {α : Type} (a b : List α) {k : Int} (hk : k = -(b.length : Int)) (h0 : 0 < b.length) : wT (a ++ b) (some k) none = b /\ wT (a ++ b) none (some k) = a := by
  subst hk
  have e : ∀ d, HT.sIx (a ++ b).length d (some (-(b.length : Int))) = a.length := fun d => by
    show (if -(b.length : Int) < 0 then (-(b.length : Int) + ((a ++ b).length : Int)).toNat else _) = _
    rw [if_pos (by lia), List.length_append]
    lia
  constructor
  · unfold wT
    rw [e, HT.sIx_none, List.drop_left, List.length_append, Nat.add_sub_cancel_left, List.take_length]
  · unfold wT
    rw [e, HT.sIx_none, List.drop_zero, Nat.sub_zero, List.take_left]
theorem at_back {α : Type} (a b : List α) (x : α) {k : Int} (hk : k = -((b.length : Int) + 1)) : atI (a ++ x :: b) k = some x := by
  have e : ixN (a ++ x :: b).length k = some a.length := by
    unfold ixN
    rw [if_neg (by lia), if_pos (by simp; lia)]
    congr 1
    simp
    lia
  unfold atI
  rw [e]
  simp
theorem comp_lv : ∀ (hs : List Fo) (x : Sl), fre x -> qV (yF 0) mTrue (zF ixD (zA 0) (mC (.int 2))) (hs.map itm) [x] = some (hs.map fun f => D.int ((f.lv : Int) - 1))
  | [], x, _ => rfl
  | f :: hs, x, hx => by
    have ih := comp_lv hs (.v (itm f)) trivial
    rw [List.map_cons, List.map_cons]; have e1 : yF 0 (itm f) [x] = some [.v (itm f)] := yL (r := [x]) rfl hx
    have e2 : zF ixD (zA 0) (mC (.int 2)) [.v (itm f)] = some (.int ((f.lv : Int) - 1)) := ix2 (f := f) rfl
    have e3 : mTrue [.v (itm f)] = some true := rfl
    unfold qV
    rw [e1, Option.bind_some, e3, Option.bind_some, if_pos rfl, e2, Option.bind_some, ih]; rfl
theorem ints_of : ∀ l : List Int, intsD (l.map D.int) = some l
  | [] => rfl
  | i :: l => by simp [intsD, ints_of l]
theorem fold_max : ∀ (t : List Int) (i : Int), (∀ x ∈ i :: t, x <= t.foldl max i)
  | [], i, x, h => by simp at h; subst h; exact Int.le_refl _
  | j :: t, i, x, h => by
    have ih := fold_max t (max i j)
    rw [List.foldl_cons]
    simp only [List.mem_cons] at h
    rcases h with rfl | rfl | h
    · exact Int.le_trans (by lia) (ih (max x j) (by simp))
    · exact Int.le_trans (by lia) (ih (max i x) (by simp))
    · exact ih x (by simp [h])
theorem neg_of {g : ME} {r : En} {i : Int} (e : g r = some (.int i)) : mUn negD g r = some (.int (-i)) := un_of e rfl
theorem osome_of {g : ME} {r : En} {i : Int} (e : g r = some (.int i)) : yV g r = some (some i) := by
  unfold yV; rw [e]; rfl
theorem cond_back {gs hs : List Fo} {k : Int} {r : En} (hv : zA 0 r = some (.lst ((gs ++ hs).map itm))) (hk : -k = -(hs.length : Int)) (h0 : 0 < hs.length) (hl : hs.length < 100) :
    ∃ b, mBl (zF ltD (mMaxL (wY [] 1 (mIt (mSl (zA 0) (yV (mUn negD (mC (.int k)))) xL)) (yF 0) (zF ixD (zA 0) (mC (.int 2))))) (mC (.int 10))) r = some b /\ (b = true -> ∀ h ∈ hs, h.lv <= 10) := by
  have sl : mIt (mSl (zA 0) (yV (mUn negD (mC (.int k)))) xL) r = some (hs.map itm) := by
    have e : mSl (zA 0) (yV (mUn negD (mC (.int k)))) xL r = some (.lst (hs.map itm)) := by
      refine sl_of hv (osome_of (neg_of zI)) (by rfl) ?_
      show some (D.lst (wT _ _ _)) = _
      rw [List.map_append, (cut_back (gs.map itm) (hs.map itm) (by rw [List.length_map]; exact hk) (by rw [List.length_map]; exact h0)).1]
    unfold mIt
    rw [e]; rfl
  have cm : wY [] 1 (mIt (mSl (zA 0) (yV (mUn negD (mC (.int k)))) xL)) (yF 0) (zF ixD (zA 0) (mC (.int 2))) r = some ((hs.map fun f => (f.lv : Int) - 1).map D.int) := by
    unfold wY qA
    rw [sl, Option.bind_some, if_pos (by rw [List.length_map]; exact Nat.lt_of_lt_of_le hl (by decide))]
    show qV _ _ _ _ [.un] = _
    rw [comp_lv hs .un trivial, List.map_map]; rfl
  obtain ⟨f, t, rfl⟩ : ∃ f t, hs = f :: t := by
    cases hs with
    | nil => simp at h0
    | cons f t => exact ⟨f, t, rfl⟩
  have mx : mMaxL (wY [] 1 (mIt (mSl (zA 0) (yV (mUn negD (mC (.int k)))) xL)) (yF 0) (zF ixD (zA 0) (mC (.int 2)))) r = some (.int ((t.map fun f => (f.lv : Int) - 1).foldl max ((f.lv : Int) - 1))) := by
    unfold mMaxL
    rw [cm, Option.bind_some, ints_of]; rfl
  refine ⟨_, qJ (zV mx zI (d := .bl (decide ((t.map fun f => (f.lv : Int) - 1).foldl max ((f.lv : Int) - 1) < 10))) rfl), fun hb h hh => ?_⟩
  have q := of_decide_eq_true hb
  have z := fold_max (t.map fun f => (f.lv : Int) - 1) ((f.lv : Int) - 1) ((h.lv : Int) - 1) (by
    simp only [List.mem_cons] at hh
    rcases hh with rfl | hh
    · simp
    · exact List.mem_cons_of_mem _ (List.mem_map.mpr ⟨h, hh, rfl⟩))
  lia
theorem and_of {c1 c2 : MB} {r : En} {a : Bool} (e1 : c1 r = some a) (e2 : a = true -> ∃ b, c2 r = some b) : ∃ b, qT c1 c2 r = some b /\ (b = true -> a = true /\ c2 r = some true) := by
  cases a
  · exact ⟨false, by unfold qT; rw [e1]; rfl, fun h => by cases h⟩
  · obtain ⟨b, h⟩ := e2 rfl
    refine ⟨b, by unfold qT; rw [e1, Option.bind_some, if_pos rfl, h], fun hb => ⟨rfl, by rw [h, hb]⟩⟩
theorem gt_of {f g : ME} {r : En} {i j : Int} (e1 : f r = some (.int i)) (e2 : g r = some (.int j)) : mBl (zF gtD f g) r = some (decide (j < i)) := qJ (zV e1 e2 rfl)
theorem split_back {α : Type} (l : List α) (k : Nat) (h : k <= l.length) : ∃ a b, l = a ++ b /\ b.length = k := ⟨l.take (l.length - k), l.drop (l.length - k), (List.take_append_drop _ _).symm, by rw [List.length_drop]; lia⟩
noncomputable def tp (fs : List Fo) : Nat := (fs.map fun f => f.pc).sum
theorem tp_app (a b : List Fo) : tp (a ++ b) = tp a + tp b := by simp [tp]
noncomputable def tw (fs : List Fo) : Nat := (fs.map fun f => f.ws.length).sum
theorem tw_app (a b : List Fo) : tw (a ++ b) = tw a + tw b := by simp [tw]
theorem tw_len {ns : List (List Nat)} : ∀ {fs : List Fo}, (∀ f ∈ fs, Gd ns f) -> fs.length <= tw fs
  | [], _ => by simp
  | f :: fs, h => by
    have ih := tw_len (fs := fs) fun g hg => h g (by simp [hg])
    have h1 := Fo.one_ws (h f (by simp)).one
    have h2 : 0 < f.ws.length := List.length_pos_iff.mpr h1
    have e : tw (f :: fs) = f.ws.length + tw fs := by simp [tw]
    rw [e, List.length_cons]; lia
noncomputable def GwOk (c k : Int) (ns : List (List Nat)) (fs : List Fo) : Prop := ∃ qs : List Fo, (∀ q ∈ qs, Gd ns q /\ q.lv <= 11) /\ qs ≠ [] /\ tw qs <= tw fs + 4 /\ tp qs = tp fs + 1 /\ ∃ as, F__law_grown [.v (.lst (fs.map itm)), .v (.int c), .v (.int k), .v (.lst (ns.map D.str))] = some (.v (.lst (qs.map itm)), as)
theorem grown_eq {c k : Int} {ns : List (List Nat)} (hn : Nms ns) {fs : List Fo} (hf' : ∀ f ∈ fs, Gd ns f /\ f.lv <= 11) (ht : tw fs <= 900) : GwOk c k ns fs := by
  have hf : ∀ f ∈ fs, Gd ns f := fun f h => (hf' f h).1
  let N : D := .lst (ns.map D.str)
  let P : D := .lst (fs.map itm)
  obtain ⟨n, n0, hm⟩ := mixed_eq c (50 + k)
  obtain ⟨m, m0, hm2⟩ := mixed_eq c (250 + k)
  let R : En := [.v P, .v (.int c), .v (.int k), .v N, .v (.int n), .v (.int (m % 9))]
  have hlen := tw_len hf
  have ln : mUn wE (zA 0) R = some (.int (fs.length : Int)) := un_of (x := P) rfl (by show some (D.int ((fs.map itm).length : Int)) = _; rw [List.length_map])
  have start : ∀ {h : MS} {z}, h R = z -> zW (yW 4 (zS 2 yE (zB (zA 1) (zB (zF yD (mC (.int 50)) (zA 2)) zJ)))) (zW (yW 5 (zF wH (zS 2 yE (zB (zA 1) (zB (zF yD (mC (.int 250)) (zA 2)) zJ))) (mC (.int 9)))) h) [.v P, .v (.int c), .v (.int k), .v N, .un, .un] = z := fun {h z} e => by
    refine yO (.int n) (yB (p := .v (.int n)) (zE rfl (zE (wZ zI rfl) zO)) rfl hm) (by rfl) ?_
    exact yO (.int (m % 9)) (xM (yB (p := .v (.int m)) (zE rfl (zE (wZ zI rfl) zO)) rfl hm2) zI (by decide)) (by rfl) e
  have fin : ∀ (gs hs : List Fo) (q : Fo) (kk : Int) (e : ME), fs = gs ++ hs -> 0 < hs.length -> -kk = -(hs.length : Int) -> Gd ns q -> e R = some (itm q) -> zF yD (mSl (zA 0) xL (yV (mUn negD (mC (.int kk))))) (yM (yI (zB e zJ))) R = some (.lst ((gs ++ [q]).map itm)) := fun gs hs q kk e e1 e2 e3 e4 e5 => by
    have sl : mSl (zA 0) xL (yV (mUn negD (mC (.int kk)))) R = some (.lst (gs.map itm)) := by
      refine sl_of (x := P) rfl (by rfl) (osome_of (neg_of zI)) ?_
      show some (D.lst (wT (fs.map itm) _ _)) = _
      rw [e1, List.map_append, (cut_back (gs.map itm) (hs.map itm) (by rw [List.length_map]; exact e3) (by rw [List.length_map]; exact e2)).2]
    rw [List.map_append]
    have : gs.length <= fs.length := by rw [e1]; simp
    exact ladd sl (xQ (l := [itm q]) (zE e5 zO) (by show 1 <= 100; decide)) (by simp; lia)
  have c1 : ∃ b, qT (mBl (zF gtD (zA 5) (mC (.int 6)))) (qT (mBl (zF gtD (mUn wE (zA 0)) (mC (.int 2)))) (mBl (zF ltD (mMaxL (wY [] 1 (mIt (mSl (zA 0) (yV (mUn negD (mC (.int 3)))) xL)) (yF 0) (zF ixD (zA 0) (mC (.int 2))))) (mC (.int 10))))) R = some b /\ (b = true -> ∃ gs f1 f2 f3, fs = gs ++ [f1, f2, f3] /\ f1.lv <= 10 /\ f2.lv <= 10 /\ f3.lv <= 10) := by
    have inner : ∃ b, qT (mBl (zF gtD (mUn wE (zA 0)) (mC (.int 2)))) (mBl (zF ltD (mMaxL (wY [] 1 (mIt (mSl (zA 0) (yV (mUn negD (mC (.int 3)))) xL)) (yF 0) (zF ixD (zA 0) (mC (.int 2))))) (mC (.int 10)))) R = some b /\ (b = true -> ∃ gs f1 f2 f3, fs = gs ++ [f1, f2, f3] /\ f1.lv <= 10 /\ f2.lv <= 10 /\ f3.lv <= 10) := by
      by_cases hl : 2 < fs.length
      · obtain ⟨gs, hs, e1, e2⟩ := split_back fs 3 (by lia)
        obtain ⟨b, h1, h2⟩ := cond_back (gs := gs) (hs := hs) (k := 3) (r := R) (by rw [<- e1]; rfl) (by rw [e2]; rfl) (by lia) (by lia)
        obtain ⟨b', h3, h4⟩ := and_of (c1 := mBl (zF gtD (mUn wE (zA 0)) (mC (.int 2)))) (gt_of ln zI) (fun _ => ⟨b, h1⟩)
        refine ⟨b', h3, fun hb => ?_⟩
        have z := (h4 hb).2
        rw [h1] at z
        have zz := h2 (by simpa using z)
        obtain ⟨f1, f2, f3, rfl⟩ : ∃ f1 f2 f3, hs = [f1, f2, f3] := by
          match hs, e2 with
          | [f1, f2, f3], _ => exact ⟨f1, f2, f3, rfl⟩
        exact ⟨gs, f1, f2, f3, e1, zz f1 (by simp), zz f2 (by simp), zz f3 (by simp)⟩
      · refine ⟨false, ?_, fun h => by cases h⟩
        unfold qT
        rw [gt_of ln zI, decide_eq_false (by lia)]; rfl
    obtain ⟨b, h1, h2⟩ := inner
    obtain ⟨b', h3, h4⟩ := and_of (c1 := mBl (zF gtD (zA 5) (mC (.int 6)))) (r := R) (gt_of rfl zI) (fun _ => ⟨b, h1⟩)
    refine ⟨b', h3, fun hb => ?_⟩
    have z := (h4 hb).2
    rw [h1] at z
    exact h2 (by simpa using z)
  have c2 : ∃ b, qT (mBl (zF gtD (zA 5) (mC (.int 4)))) (qT (mBl (zF gtD (mUn wE (zA 0)) (mC (.int 1)))) (mBl (zF ltD (mMaxL (wY [] 1 (mIt (mSl (zA 0) (yV (mUn negD (mC (.int 2)))) xL)) (yF 0) (zF ixD (zA 0) (mC (.int 2))))) (mC (.int 10))))) R = some b /\ (b = true -> ∃ gs f1 f2, fs = gs ++ [f1, f2] /\ f1.lv <= 10 /\ f2.lv <= 10) := by
    have inner : ∃ b, qT (mBl (zF gtD (mUn wE (zA 0)) (mC (.int 1)))) (mBl (zF ltD (mMaxL (wY [] 1 (mIt (mSl (zA 0) (yV (mUn negD (mC (.int 2)))) xL)) (yF 0) (zF ixD (zA 0) (mC (.int 2))))) (mC (.int 10)))) R = some b /\ (b = true -> ∃ gs f1 f2, fs = gs ++ [f1, f2] /\ f1.lv <= 10 /\ f2.lv <= 10) := by
      by_cases hl : 1 < fs.length
      · obtain ⟨gs, hs, e1, e2⟩ := split_back fs 2 (by lia)
        obtain ⟨b, h1, h2⟩ := cond_back (gs := gs) (hs := hs) (k := 2) (r := R) (by rw [<- e1]; rfl) (by rw [e2]; rfl) (by lia) (by lia)
        obtain ⟨b', h3, h4⟩ := and_of (c1 := mBl (zF gtD (mUn wE (zA 0)) (mC (.int 1)))) (gt_of ln zI) (fun _ => ⟨b, h1⟩)
        refine ⟨b', h3, fun hb => ?_⟩
        have z := (h4 hb).2
        rw [h1] at z
        have zz := h2 (by simpa using z)
        obtain ⟨f1, f2, rfl⟩ : ∃ f1 f2, hs = [f1, f2] := by
          match hs, e2 with
          | [f1, f2], _ => exact ⟨f1, f2, rfl⟩
        exact ⟨gs, f1, f2, e1, zz f1 (by simp), zz f2 (by simp)⟩
      · refine ⟨false, ?_, fun h => by cases h⟩
        unfold qT
        rw [gt_of ln zI, decide_eq_false (by lia)]; rfl
    obtain ⟨b, h1, h2⟩ := inner
    obtain ⟨b', h3, h4⟩ := and_of (c1 := mBl (zF gtD (zA 5) (mC (.int 4)))) (r := R) (gt_of rfl zI) (fun _ => ⟨b, h1⟩)
    refine ⟨b', h3, fun hb => ?_⟩
    have z := (h4 hb).2
    rw [h1] at z
    exact h2 (by simpa using z)
  have last : ∀ gs f, fs = gs ++ [f] -> zF ixD (zA 0) (mUn negD (mC (.int 1))) R = some (itm f) := fun gs f e => by
    refine zV (x := P) (y := .int (-1)) rfl (neg_of zI) ?_
    show atI (fs.map itm) (-1) = _
    rw [e, List.map_append]
    exact atI_last _ _
  have c3 : ∃ b, qT (mBl (zF gtD (zA 5) (mC (.int 2)))) (qT (mBl (zF gtD (mUn wE (zA 0)) (mC (.int 0)))) (mBl (zF ltD (zF ixD (zF ixD (zA 0) (mUn negD (mC (.int 1)))) (mC (.int 2))) (mC (.int 10))))) R = some b /\ (b = true -> ∃ gs f1, fs = gs ++ [f1] /\ f1.lv <= 10) := by
    have inner : ∃ b, qT (mBl (zF gtD (mUn wE (zA 0)) (mC (.int 0)))) (mBl (zF ltD (zF ixD (zF ixD (zA 0) (mUn negD (mC (.int 1)))) (mC (.int 2))) (mC (.int 10)))) R = some b /\ (b = true -> ∃ gs f1, fs = gs ++ [f1] /\ f1.lv <= 10) := by
      by_cases hl : 0 < fs.length
      · obtain ⟨gs, hs, e1, e2⟩ := split_back fs 1 (by lia)
        obtain ⟨f1, rfl⟩ : ∃ f1, hs = [f1] := by
          match hs, e2 with
          | [f1], _ => exact ⟨f1, rfl⟩
        have h1 : mBl (zF ltD (zF ixD (zF ixD (zA 0) (mUn negD (mC (.int 1)))) (mC (.int 2))) (mC (.int 10))) R = some (decide ((f1.lv : Int) - 1 < 10)) := qJ (zV (ix2 (last gs f1 e1)) zI rfl)
        obtain ⟨b', h3, h4⟩ := and_of (c1 := mBl (zF gtD (mUn wE (zA 0)) (mC (.int 0)))) (gt_of ln zI) (fun _ => ⟨_, h1⟩)
        refine ⟨b', h3, fun hb => ?_⟩
        have z := (h4 hb).2
        rw [h1] at z
        have zz : (f1.lv : Int) - 1 < 10 := by simpa using z
        exact ⟨gs, f1, e1, by lia⟩
      · refine ⟨false, ?_, fun h => by cases h⟩
        unfold qT
        rw [gt_of ln zI, decide_eq_false (by lia)]; rfl
    obtain ⟨b, h1, h2⟩ := inner
    obtain ⟨b', h3, h4⟩ := and_of (c1 := mBl (zF gtD (zA 5) (mC (.int 2)))) (r := R) (gt_of rfl zI) (fun _ => ⟨b, h1⟩)
    refine ⟨b', h3, fun hb => ?_⟩
    have z := (h4 hb).2
    rw [h1] at z
    exact h2 (by simpa using z)
  have gdq : ∀ (gs hs : List Fo) (q : Fo), fs = gs ++ hs -> Gd ns q /\ q.lv <= 11 -> ∀ x ∈ gs ++ [q], Gd ns x /\ x.lv <= 11 := fun gs hs q e hq x hx => by
    simp only [List.mem_append, List.mem_singleton] at hx
    rcases hx with hx | rfl
    · exact hf' x (by rw [e]; simp [hx])
    · exact hq
  obtain ⟨b1, k1, p1⟩ := c1
  cases b1
  rotate_left
  · obtain ⟨gs, f1, f2, f3, e, v1, v2, v3⟩ := p1 rfl
    have te : tw fs = tw gs + (f1.ws.length + f2.ws.length + f3.ws.length) := by rw [e, tw_app]; simp [tw]; lia
    have tpe : tp fs = tp gs + (f1.pc + f2.pc + f3.pc) := by rw [e, tp_app]; simp [tp]; lia
    obtain ⟨q, gq, wq, lq, pq, eq⟩ := three_eq (n := n) hn (hf f1 (by rw [e]; simp)) (hf f2 (by rw [e]; simp)) (hf f3 (by rw [e]; simp)) (by lia)
    unfold GwOk
    refine ⟨gs ++ [q], gdq gs _ q e ⟨gq, by lia⟩, by simp, by rw [tw_app, te]; simp [tw]; lia, by rw [tp_app, tpe]; simp [tp]; lia, xV (r' := R) (start (seq_tt k1 (xA (fin gs [f1, f2, f3] q 3 _ e (by simp) rfl gq ?_))))⟩
    refine yB (p := .v (itm q)) (zE rfl (zE rfl (zE (sl_of (x := P) (d := .lst [itm f1, itm f2, itm f3]) rfl (osome_of (neg_of zI)) (by rfl) ?_) zO))) rfl eq
    show some (D.lst (wT (fs.map itm) _ _)) = _
    rw [e, List.map_append, (cut_back (gs.map itm) ([f1, f2, f3].map itm) (k := -3) rfl (by simp)).1]; rfl
  obtain ⟨b2, k2, p2⟩ := c2
  cases b2
  rotate_left
  · obtain ⟨gs, f1, f2, e, v1, v2⟩ := p2 rfl
    have te : tw fs = tw gs + (f1.ws.length + f2.ws.length) := by rw [e, tw_app]; simp [tw]
    have tpe : tp fs = tp gs + (f1.pc + f2.pc) := by rw [e, tp_app]; simp [tp]
    obtain ⟨q, gq, wq, lq, pq, eq⟩ := two_eq (n := n) hn (hf f1 (by rw [e]; simp)) (hf f2 (by rw [e]; simp)) (by lia)
    unfold GwOk
    refine ⟨gs ++ [q], gdq gs _ q e ⟨gq, by lia⟩, by simp, by rw [tw_app, te]; simp [tw]; lia, by rw [tp_app, tpe]; simp [tp]; lia, xV (r' := R) (start (yY k1 (seq_tt k2 (xA (fin gs [f1, f2] q 2 _ e (by simp) rfl gq ?_)))))⟩
    refine yB (p := .v (itm q)) (zE rfl (zE rfl (zE (x := itm f1) (zV (x := P) (y := .int (-2)) rfl (neg_of zI) ?_) (zE (last (gs ++ [f1]) f2 (by rw [e]; simp)) zO)))) rfl eq
    show atI (fs.map itm) (-2) = _
    rw [e, List.map_append]
    exact at_back (gs.map itm) [itm f2] (itm f1) rfl
  obtain ⟨b3, k3, p3⟩ := c3
  cases b3
  rotate_left
  · obtain ⟨gs, f1, e, v1⟩ := p3 rfl
    have te : tw fs = tw gs + f1.ws.length := by rw [e, tw_app]; simp [tw]
    have tpe : tp fs = tp gs + f1.pc := by rw [e, tp_app]; simp [tp]
    obtain ⟨q, gq, wq, lq, pq, eq⟩ := one_eq (n := n) hn (hf f1 (by rw [e]; simp)) (by lia)
    unfold GwOk
    refine ⟨gs ++ [q], gdq gs _ q e ⟨gq, by lia⟩, by simp, by rw [tw_app, te]; simp [tw]; lia, by rw [tp_app, tpe]; simp [tp]; lia, xV (r' := R) (start (yY k1 (yY k2 (seq_tt k3 (xA (fin gs [f1] q 1 _ e (by simp) rfl gq ?_))))))⟩
    exact yB (p := .v (itm q)) (zE rfl (zE rfl (zE (last gs f1 e) zO))) rfl eq
  · obtain ⟨q, gq, lq, pq, wq, eq⟩ := leaf_eq (c := c) (n := n) hn
    unfold GwOk
    refine ⟨fs ++ [q], gdq fs [] q (by simp) ⟨gq, by lia⟩, by simp, by rw [tw_app]; simp [tw]; lia, by rw [tp_app]; simp [tp]; lia, xV (r' := R) (start (yY k1 (yY k2 (yY k3 (xA ?_)))))⟩
    rw [List.map_append]
    refine ladd (l := fs.map itm) rfl (xQ (l := [itm q]) (zE (x := itm q) ?_ zO) (by show 1 <= 100; decide)) (by simp; lia)
    exact yB (p := .v (itm q)) (zE rfl (zE rfl (zE rfl zO))) rfl eq
theorem lt1 (a b : Nat) : ([a] < [b]) ↔ a < b := by
  rw [List.cons_lt_cons_iff]
  constructor
  · rintro (h | ⟨_, h⟩)
    · exact h
    · exact absurd h (by simp)
  · exact .inl
theorem flat_strs : ∀ l : List (List Nat), (l.map D.str).all qB = true
  | [] => rfl
  | s :: l => by simp [qB]
theorem chain_of {m m' : D -> D -> Option D} {f g h : ME} {r : En} {x y z : D} {k : Bool} (e1 : f r = some x) (e2 : g r = some y) (ek : m x y = some (.bl k)) (e3 : h r = some z) : mChain m m' f g h r = if k = true then m' y z else some (.bl false) := by
  unfold mChain
  rw [e1, Option.bind_some, e2, Option.bind_some, ek, Option.bind_some]
  cases k
  · rfl
  · simp only [e3, Option.bind_some, if_true]
noncomputable def btw (lo hi c : Nat) : Bool := decide (lo <= c) && decide (c <= hi)
theorem chain_btw {lo hi c : Nat} : mChain leA leA (zA 0) (zA 2) (zA 1) [.v (.str [lo]), .v (.str [hi]), .v (.str [c])] = some (.bl (btw lo hi c)) := by
  have e1 : leA (.str [lo]) (.str [c]) = some (.bl (decide (lo <= c))) := by
    show some (D.bl (!decide ([c] < [lo]))) = _
    congr 2
    rw [decide_eq_decide.mpr (lt1 c lo)]
    by_cases h : lo <= c
    · rw [decide_eq_true h, decide_eq_false (by lia)]; rfl
    · rw [decide_eq_false h, decide_eq_true (by lia)]; rfl
  have e2 : leA (.str [c]) (.str [hi]) = some (.bl (decide (c <= hi))) := by
    show some (D.bl (!decide ([hi] < [c]))) = _
    congr 2
    rw [decide_eq_decide.mpr (lt1 hi c)]
    by_cases h : c <= hi
    · rw [decide_eq_true h, decide_eq_false (by lia)]; rfl
    · rw [decide_eq_false h, decide_eq_true (by lia)]; rfl
  rw [chain_of (x := .str [lo]) (y := .str [c]) (z := .str [hi]) rfl rfl e1 rfl, e2]
  unfold btw
  by_cases h : lo <= c
  · rw [decide_eq_true h, Bool.true_and, if_pos rfl]
  · rw [decide_eq_false h, Bool.false_and, if_neg (by simp)]
theorem comp_btw (lo hi : Nat) : ∀ (s : List Nat) (x : Sl), fre x -> qV (yF 2) mTrue (mChain leA leA (zA 0) (zA 2) (zA 1)) (s.map fun c => .str [c]) [.v (.str [lo]), .v (.str [hi]), x] = some ((s.map (btw lo hi)).map D.bl)
  | [], x, _ => rfl
  | c :: s, x, hx => by
    have ih := comp_btw lo hi s (.v (.str [c])) trivial
    have e1 : yF 2 (.str [c]) [.v (.str [lo]), .v (.str [hi]), x] = some [.v (.str [lo]), .v (.str [hi]), .v (.str [c])] := yL (x := x) rfl hx
    have e3 : mTrue [.v (.str [lo]), .v (.str [hi]), .v (.str [c])] = some true := rfl
    rw [List.map_cons, List.map_cons, List.map_cons]; unfold qV
    rw [e1, Option.bind_some, e3, Option.bind_some, if_pos rfl, chain_btw, Option.bind_some, ih]; rfl
theorem bls_of : ∀ l : List Bool, blsD (l.map D.bl) = some l
  | [] => rfl
  | i :: l => by simp [blsD, bls_of l]
theorem between_eq (s : List Nat) (lo hi : Nat) (hl : s.length < 1000) : ∃ as, qN [.v (.str s), .v (.str [lo]), .v (.str [hi])] = some (.v (.bl (s.all (btw lo hi))), as) := by
  refine xV (r' := [.v (.str s), .v (.str [lo]), .v (.str [hi])]) (xA ?_)
  have e : wY [1, 2] 3 (mItS (zA 0)) (yF 2) (mChain leA leA (zA 0) (zA 2) (zA 1)) [.v (.str s), .v (.str [lo]), .v (.str [hi])] = some ((s.map (btw lo hi)).map D.bl) := by
    show (if (s.map fun c => D.str [c]).length < sizeLine then qV _ _ _ (s.map fun c => D.str [c]) [.v (.str [lo]), .v (.str [hi]), .un] else none) = _
    rw [if_pos (by rw [List.length_map]; exact Nat.lt_trans hl (by decide)), comp_btw lo hi s .un trivial]
  unfold mAll
  show (wY [1, 2] 3 (mItS (zA 0)) (yF 2) (mChain leA leA (zA 0) (zA 2) (zA 1)) [.v (.str s), .v (.str [lo]), .v (.str [hi])]).bind _ = _
  rw [e, Option.bind_some, bls_of, Option.map_some, List.all_map]; rfl
theorem len_chain {s : List Nat} {k : Int} {n : Nat} (h1 : 1 <= s.length) (h2 : s.length <= n) (hk : k = n) (hn : n <= 100) : mChain leA leA (mC (.int 1)) (mUn wE (zA 0)) (mC (.int k)) [.v (.str s)] = some (.bl true) := by
  subst hk
  have e0 : mUn wE (zA 0) [.v (.str s)] = some (.int s.length) := by
    show (if s.length <= sizeLine then some (D.int s.length) else none) = _
    rw [if_pos (Nat.le_trans (Nat.le_trans h2 hn) (by decide))]
  have e1 : leA (.int 1) (.int s.length) = some (.bl true) := by
    show some (D.bl (decide ((1 : Int) <= s.length))) = _; rw [decide_eq_true (by lia)]
  rw [chain_of (x := .int 1) (z := .int (n : Int)) zI e0 e1 zI, if_pos rfl]
  show some (D.bl (decide ((s.length : Int) <= (n : Int)))) = _; rw [decide_eq_true (by lia)]
theorem and_t {f g : ME} {r : En} {d : D} (e1 : f r = some (.bl true)) (e2 : g r = some d) : mAnd f g r = some d := by
  unfold mAnd; rw [e1]; exact e2
theorem and_f {f g : ME} {r : En} (e1 : f r = some (.bl false)) : mAnd f g r = some (.bl false) := by
  unfold mAnd; rw [e1]; rfl
theorem name_yes {x : List Nat} (h : Fo.nmok x) : ∃ as, qE [.v (.str x)] = some (.v (.bl true), as) := by
  obtain ⟨h1, h2, h3, h4⟩ := h
  refine xV (r' := [.v (.str x)]) (xA (and_t (len_chain h2 h3 rfl (by decide)) (and_t (d := .bl true) ?_ ?_)))
  · have e : x.all (btw 97 122) = true := by
      rw [List.all_eq_true]
      intro c hc
      have := h1 c hc
      unfold btw
      simp only [decide_eq_true_eq, Bool.and_eq_true]
      exact this
    have q := between_eq x 97 122 (by lia)
    rw [e] at q
    exact yB (p := .v (.bl true)) (zE rfl (zE zI (zE zI zO))) rfl q
  · refine zV (x := .str x) (y := .tup (wV.map D.str)) rfl zI ?_
    show (if qB (.str x) = true /\ (wV.map D.str).all qB = true then some (D.bl (!((wV.map D.str).any fun z => eqF z (.str x)))) else none) = _
    rw [if_pos ⟨rfl, flat_strs _⟩, any_eq, decide_eq_false h4]; rfl
theorem name_no {s : List Nat} (h1 : 1 <= s.length) (h2 : s.length <= 8) (h3 : ∀ c ∈ s, 48 <= c /\ c <= 57) : ∃ as, qE [.v (.str s)] = some (.v (.bl false), as) := by
  refine xV (r' := [.v (.str s)]) (xA (and_t (len_chain h1 h2 rfl (by decide)) (and_f ?_)))
  have e : s.all (btw 97 122) = false := by
    cases s with
    | nil => simp at h1
    | cons c r =>
      have := h3 c (by simp)
      rw [List.all_cons]
      have : btw 97 122 c = false := by unfold btw; rw [decide_eq_false (by lia)]; rfl
      rw [this]; rfl
  have q := between_eq s 97 122 (by lia)
  rw [e] at q
  exact yB (p := .v (.bl false)) (zE rfl (zE zI (zE zI zO))) rfl q
theorem intC_digits (n : Nat) : ∀ c ∈ qD (n : Int), 48 <= c /\ c <= 57 := by
  rw [intC_nat]
  intro c hc
  obtain ⟨d, hd, rfl⟩ := List.mem_map.mp hc
  have q := Nat.isDigit_of_mem_toDigits (by decide) (by decide) hd
  simp only [Char.isDigit, Bool.and_eq_true, decide_eq_true_eq] at q
  exact ⟨UInt32.le_iff_toNat_le.mp q.1, UInt32.le_iff_toNat_le.mp q.2⟩
theorem intC_pos (n : Nat) : 1 <= (qD (n : Int)).length := by
  rw [intC_nat, List.length_map]; exact Nat.length_toDigits_pos
theorem intC_len6 {n : Nat} (h : n < 10 ^ 6) : (qD (n : Int)).length <= 6 := by
  rw [intC_nat, List.length_map]
  exact (Nat.length_toDigits_le_iff (by decide) (by decide)).mpr h
theorem fold_eq : ∀ (l : List Char) (a : Nat), (l.map Char.toNat).foldl (fun acc c => acc * 10 + (c - 48)) a = l.foldl (fun sofar c => 10 * sofar + (c.toNat - '0'.toNat)) a
  | [], a => rfl
  | c :: l, a => by
    rw [List.map_cons, List.foldl_cons, List.foldl_cons, Nat.mul_comm a 10]
    exact fold_eq l _
theorem intC_val (n : Nat) : PySem.NumText.digitsVal (qD (n : Int)) = n := by
  rw [intC_nat]
  unfold PySem.NumText.digitsVal
  rw [fold_eq]
  exact Nat.ofDigitChars_ten_toDigits
theorem fold_lt : ∀ (l : List Nat) (a : Nat), (∀ c ∈ l, 48 <= c /\ c <= 57) -> l.foldl (fun acc c => acc * 10 + (c - 48)) a < (a + 1) * 10 ^ l.length
  | [], a, _ => by simp
  | c :: l, a, h => by
    have hc := h c (by simp)
    have ih := fold_lt l (a * 10 + (c - 48)) fun d hd => h d (by simp [hd])
    rw [List.length_cons, List.foldl_cons]
    refine Nat.lt_of_lt_of_le ih ?_
    have e : 10 ^ (l.length + 1) = 10 * 10 ^ l.length := by rw [Nat.pow_succ, Nat.mul_comm]
    rw [e, <- Nat.mul_assoc]
    exact Nat.mul_le_mul_right (10 ^ l.length) (by lia)
theorem intC_head {n : Nat} {r : List Nat} (e : qD (n : Int) = 48 :: r) : r = [] := by
  by_cases h : r = []
  · exact h
  · exfalso
    have v := intC_val n
    have dg := intC_digits n
    rw [e] at v dg
    have v2 : PySem.NumText.digitsVal r = n := v
    have b := fold_lt r 0 fun c hc => dg c (by simp [hc])
    have b2 : n < 10 ^ r.length := by
      rw [<- v2]
      show r.foldl (fun acc c => acc * 10 + (c - 48)) 0 < _
      simpa using b
    have l := congrArg List.length e
    rw [intC_nat, List.length_map, List.length_cons] at l
    have := (Nat.length_toDigits_le_iff (b := 10) (n := n) (k := r.length) (by decide) (List.length_pos_iff.mpr h)).mpr b2
    lia
theorem num_yes {n : Nat} (h : n < 10 ^ 6) : ∃ as, F_is_number [.v (.str (qD n))] = some (.v (.bl true), as) := by
  have d := intC_digits n
  have l1 := intC_pos n
  have l6 := intC_len6 h
  have hv := @intC_head n
  generalize qD (n : Int) = s at *
  refine xV (r' := [.v (.str s)]) ?_
  show g_is_number [.v (.str s)] = _
  have e : s.all (btw 48 57) = true := by
    rw [List.all_eq_true]
    intro c hc
    have := d c hc
    unfold btw
    simp only [decide_eq_true_eq, Bool.and_eq_true]
    exact this
  have q := between_eq s 48 57 (by lia)
  rw [e] at q
  have c0 : mOrT (wX (mBl (mChain leA leA (mC (.int 1)) (mUn wE (zA 0)) (mC (.int 6))))) (wX (qS (zS 3 qN (zB (zA 0) (zB (mC (.str [48])) (zB (mC (.str [57])) zJ)))))) [.v (.str s)] = some false := by
    have a1 : wX (mBl (mChain leA leA (mC (.int 1)) (mUn wE (zA 0)) (mC (.int 6)))) [.v (.str s)] = some false := by
      unfold wX; rw [qJ (len_chain (k := 6) (n := 6) l1 l6 rfl (by decide))]; rfl
    have a0 : zS 3 qN (zB (zA 0) (zB (mC (.str [48])) (zB (mC (.str [57])) zJ))) [.v (.str s)] = some (.bl true) := yB (p := .v (.bl true)) (zE rfl (zE zI (zE zI zO))) rfl q
    have a2 : wX (qS (zS 3 qN (zB (zA 0) (zB (mC (.str [48])) (zB (mC (.str [57])) zJ))))) [.v (.str s)] = some false := by
      unfold wX qS; rw [a0]; rfl
    unfold mOrT
    rw [a1, Option.bind_some, if_neg (by simp), a2]
  refine yY c0 (xA ?_)
  have c1 : zF eqA (zA 0) (mC (.str [48])) [.v (.str s)] = some (.bl (decide (s = [48]))) := zV rfl zI rfl
  unfold mOr
  rw [c1]
  by_cases hz : s = [48]
  · rw [decide_eq_true hz]; rfl
  · rw [decide_eq_false hz]
    show zF neA (zF ixD (zA 0) (mC (.int 0))) (mC (.str [48])) [.v (.str s)] = _
    cases s with
    | nil => simp at l1
    | cons c r =>
      refine zV (x := .str [c]) (zV rfl zI ?_) zI ?_
      · show (if (c :: r).length <= sizeLine then (atI (c :: r) 0).map fun c => D.str [c] else none) = _
        rw [if_pos (Nat.le_trans l6 (by decide)), at_zero]; rfl
      · show some (D.bl (!decide ([c] = [48]))) = _
        rw [decide_eq_false (fun z => ?_)]
        · rfl
        · simp at z
          subst z
          exact hz (by rw [hv rfl])
theorem rnum_eq {n : Nat} (h : n < 10 ^ 6) : ∃ as, F_read_number [.v (.str (qD n))] = some (.v (.int n), as) := by
  refine xV (r' := [.v (.str (qD n))]) ?_
  have a0 : zS 1 F_is_number (zB (zA 0) zJ) [.v (.str (qD n))] = some (.bl true) := yB (p := .v (.bl true)) (zE rfl zO) rfl (num_yes h)
  show g_read_number [.v (.str (qD n))] = _
  refine yY (by unfold wX qS; rw [a0]; rfl) (xA (un_of rfl ?_))
  have q := intC_digits n
  have l1 := intC_pos n
  have l6 := intC_len6 h
  show (if qD n ≠ [] /\ (qD n).length <= 600 /\ ((qD n).all fun c => decide (48 <= c) && decide (c <= 57)) = true then some (D.int (PySem.NumText.digitsVal (qD n) : Nat)) else none) = _
  rw [if_pos ⟨fun z => by rw [z] at l1; simp at l1, by lia, by rw [List.all_eq_true]; intro c hc; have := q c hc; simp only [Bool.and_eq_true, decide_eq_true_eq]; exact this⟩, intC_val]
theorem popP_of {i : Nat} {r : En} {S : List D} {d : D} (e : r[i]? = some (.p (S ++ [d]))) : mPop i r = some (d, r.set i (.p S)) := by
  simp [mPop, mtOf, e, Sl.ml, putO]
theorem word_eq (S : List D) (d : D) : F_take_word [.p (S ++ [d])] = some (.v d, [.p S]) := by
  unfold F_take_word mkF g_take_word
  have c : wX (mTruB (mOwn 0)) [.p (S ++ [d])] = some false := by
    show some (!(!(S ++ [d]).isEmpty)) = _
    simp
  show (zW _ _ [.p (S ++ [d])]).bind _ = _
  rw [yY (z := some (.rt d [.p S])) c ?_]
  · rfl
  · unfold sRetX
    rw [popP_of (r := [.p (S ++ [d])]) (S := S) rfl]; rfl
theorem callP_of {n i : Nat} {m : MF} {z : MZ} {r : En} {L L' es : List D} {d : D} {as : List Sl} (hr : r[i]? = some (.p L)) (hz : z r = some ([], es)) (hn : 1 + es.length = n) (hm : m (.p L :: es.map .v) = some (.v d, as)) (ha : as[0]? = some (.p L')) : mCallX n m i z r = some (d, r.set i (.p L')) := by
  unfold mCallX mtOf
  rw [hr]
  show (z r).bind _ = _
  rw [hz, Option.bind_some]
  simp only [List.length_nil]
  rw [if_pos (by lia)]
  show (m (.p L :: es.map .v)).bind _ = _
  rw [hm, Option.bind_some]
  simp only [ha, putO, hr]
  rfl
theorem callO_of {n i : Nat} {m : MF} {z : MZ} {r : En} {L L' es : List D} {d : D} {as : List Sl} (hr : r[i]? = some (.o L)) (hz : z r = some ([], es)) (hn : 1 + es.length = n) (hm : m (.p L :: es.map .v) = some (.v d, as)) (ha : as[0]? = some (.p L')) : mCallX n m i z r = some (d, r.set i (.o L')) := by
  unfold mCallX mtOf
  rw [hr]
  show (z r).bind _ = _
  rw [hz, Option.bind_some]
  simp only [List.length_nil]
  rw [if_pos (by lia)]
  show (m (.p L :: es.map .v)).bind _ = _
  rw [hm, Option.bind_some]
  simp only [ha, putO, hr]
  rfl
theorem tname_eq {x : List Nat} (h : Fo.nmok x) (S : List D) : F_take_name [.p (S ++ [.str x])] = some (.v (.str x), [.p S]) := by
  unfold F_take_name mkF g_take_name
  show (zW _ _ [.p (S ++ [.str x]), .un]).bind _ = _
  have st : sSetX 1 (mCallX 1 F_take_word 0 (zP zJ)) [.p (S ++ [.str x]), .un] = some (.nx [.p S, .v (.str x)]) := sSetX_of (callP_of (L := S ++ [.str x]) (L' := S) (es := []) rfl rfl rfl (word_eq S (.str x)) rfl) (by rfl)
  rw [yP st]
  have a0 : zS 1 qE (zB (zA 1) zJ) [.p S, .v (.str x)] = some (.bl true) := yB (p := .v (.bl true)) (zE rfl zO) rfl (name_yes h)
  rw [yY (z := some (.rt (.str x) [.p S, .v (.str x)])) (by unfold wX qS; rw [a0]; rfl) rfl]
  rfl
theorem leaf_nam {x : List Nat} (h : Fo.nmok x) : ∃ as, F_read_leaf [.v (.str x)] = some (.v (.tup [.str sNam, .str x]), as) := by
  refine xV (r' := [.v (.str x)]) ?_
  have a0 : zS 1 qE (zB (zA 0) zJ) [.v (.str x)] = some (.bl true) := yB (p := .v (.bl true)) (zE rfl zO) rfl (name_yes h)
  show g_read_leaf [.v (.str x)] = _
  exact seq_tt (by unfold qS; rw [a0]; rfl) (xA (xX (zE zI (zE rfl zO)) (by show 2 <= 100; decide)))
theorem leaf_num {n : Nat} (h : n < 10 ^ 6) : ∃ as, F_read_leaf [.v (.str (qD n))] = some (.v (.tup [.str sNum, .int n]), as) := by
  refine xV (r' := [.v (.str (qD n))]) ?_
  have a0 : zS 1 qE (zB (zA 0) zJ) [.v (.str (qD n))] = some (.bl false) := yB (p := .v (.bl false)) (zE rfl zO) rfl (name_no (intC_pos n) (Nat.le_trans (intC_len6 h) (by decide)) (intC_digits n))
  show g_read_leaf [.v (.str (qD n))] = _
  exact yY (by unfold qS; rw [a0]; rfl) (xA (xX (zE zI (zE (yB (p := .v (.int n)) (zE rfl zO) rfl (rnum_eq h)) zO)) (by show 2 <= 100; decide)))
theorem look_none {tbl : List (List Nat × List Nat)} {s : List Nat} (h : ∀ q ∈ tbl, q.1 ≠ s) : look tbl s = none := by
  unfold look
  rw [List.find?_eq_none.mpr fun q hq => by simpa using h q hq]; rfl
theorem forms_keys : ∀ q ∈ xS, (q.1 ∈ wV \/ ∃ c ∈ q.1, c < 97) /\ ∀ c ∈ q.1, ¬ (48 <= c /\ c <= 57) := by decide
theorem look_nam {x : List Nat} (h : Fo.nmok x) : look xS x = none := look_none fun q hq z => by
  subst z
  rcases (forms_keys q hq).1 with k | ⟨c, hc, lt⟩
  · exact h.2.2.2 k
  · have := h.1 c hc; lia
theorem look_num (n : Nat) : look xS (qD n) = none := look_none fun q hq z => by
  have d := intC_digits n
  have l := intC_pos n
  rw [<- z] at d l
  cases hc : q.1 with
  | nil => rw [hc] at l; simp at l
  | cons c r => exact (forms_keys q hq).2 c (by rw [hc]; simp) (d c (by rw [hc]; simp))
noncomputable def wt (f : Fo) : List D := (f.ws.map D.str).reverse
noncomputable def TkOk (m : MF) (k : Nat) : Prop := ∀ (s : Fo), s.one -> s.ok -> s.lv <= k -> ∀ d, s.ds = [d] -> ∀ (b : Nat) (S : List D), b + s.lv <= 31 -> s.ws.length < 100000 -> ∃ u, m [.p (S ++ wt s), .v (.int b)] = some (.v d, [.p S, u])
noncomputable def bodyT (m : MF) : MS := (sIf (mBl (zF eqA (zA 4) (mC (.str [110]))))
 (sX (mAppX 3 (mCallX 1 F_take_name 0 (zP zJ))))
 (sX (mAppX 3 (mCallX 2 m 0 (zP (zB (zF yD (zA 1) (mC (.int 1))) zJ))))))
theorem appX_of {i : Nat} {f : En -> Option (D × En)} {r r1 : En} {S S0 : List D} {d : D} {x : Sl} (e0 : r[i]? = some (.o S0)) (e : f r = some (d, r1)) (e1 : r1[i]? = some (.o S)) (h : S.length < sizeLine) : mAppX i f r = some (.non, r1.set i (.o (S ++ [d]))) := by
  unfold mAppX
  rw [e, Option.bind_some]
  simp [mtOf, e0, e1, Sl.ml, putO, h]
theorem bodyT_n {m : MF} {x : List Nat} (h : Fo.nmok x) {S T : List D} {b : D} {w : D} (hT : T.length < sizeLine) :
    bodyT m [.p (S ++ [.str x]), .v b, .v w, .o T, .v (.str [110])] = some (.nx [.p S, .v b, .v w, .o (T ++ [.str x]), .v (.str [110])]) := by
  unfold bodyT
  rw [sIf_t (by rfl)]
  have c : mCallX 1 F_take_name 0 (zP zJ) [.p (S ++ [.str x]), .v b, .v w, .o T, .v (.str [110])] = some (.str x, [.p S, .v b, .v w, .o T, .v (.str [110])]) := by
    have hm : F_take_name (.p (S ++ [.str x]) :: ([] : List D).map .v) = some (.v (.str x), [.p S]) := tname_eq h S
    let r : En := [.p (S ++ [.str x]), .v b, .v w, .o T, .v (.str [110])]
    have h1 : r[0]? = some (.p (S ++ [.str x])) := by rfl
    have h2 : zP zJ r = some ([], []) := by rfl
    have h4 : ([.p S] : List Sl)[0]? = some (.p S) := by rfl
    have q := callP_of (n := 1) (m := F_take_name) h1 h2 rfl hm h4
    exact q
  exact sX_of (appX_of (x := .un) (S0 := T) (S := T) rfl c rfl hT)
theorem bodyT_e {m : MF} {k : Nat} (hm : TkOk m k) {s : Fo} (h1 : s.one) (h2 : s.ok) (h3 : s.lv <= k) {d : D} (h4 : s.ds = [d]) {b : Nat} (hb : b + 1 + s.lv <= 31) (hs : s.ws.length < 100000) {S T : List D} {w : D} (hT : T.length < sizeLine) :
    bodyT m [.p (S ++ wt s), .v (.int b), .v w, .o T, .v (.str [69])] = some (.nx [.p S, .v (.int b), .v w, .o (T ++ [d]), .v (.str [69])]) := by
  obtain ⟨u, e⟩ := hm s h1 h2 h3 d h4 (b + 1) S hb hs
  unfold bodyT
  rw [sIf_f (by rfl)]
  have c : mCallX 2 m 0 (zP (zB (zF yD (zA 1) (mC (.int 1))) zJ)) [.p (S ++ wt s), .v (.int b), .v w, .o T, .v (.str [69])] = some (d, [.p S, .v (.int b), .v w, .o T, .v (.str [69])]) := by
    have hm : m (.p (S ++ wt s) :: ([.int ((b + 1 : Nat) : Int)] : List D).map .v) = some (.v d, [.p S, u]) := e
    let r : En := [.p (S ++ wt s), .v (.int b), .v w, .o T, .v (.str [69])]
    have r1 : r[0]? = some (.p (S ++ wt s)) := by rfl
    have r2 : zP (zB (zF yD (zA 1) (mC (.int 1))) zJ) r = some ([], [.int ((b + 1 : Nat) : Int)]) := by rfl
    have r4 : ([.p S, u] : List Sl)[0]? = some (.p S) := by rfl
    have q := callP_of (n := 2) (m := m) r1 r2 rfl hm r4
    exact q
  exact sX_of (appX_of (x := .un) (S0 := T) (S := T) rfl c rfl hT)
noncomputable def sg (l : List Nat) : List D := l.map fun c => .str [c]
theorem tk_loop {m : MF} {k : Nat} (hm : TkOk m k) {b : Nat} {w : D} : ∀ (f : Fo) (S T : List D) (x : Sl), f.ok -> f.lv <= k -> b + 1 + f.lv <= 31 -> fre x -> T.length + f.ws.length < 100000 ->
    ∃ x', forL (yF 4) (bodyT m) (sg f.form) [.p (S ++ wt f), .v (.int b), .v w, .o T, x] = some (.nx [.p S, .v (.int b), .v w, .o (T ++ f.ds), x'])
  | .nil, S, T, x, _, _, _, _, _ => ⟨x, by simp [wt, sg, Fo.ws, Fo.ds, Fo.form, forL]⟩
  | .nm y r, S, T, x, ok, hl, hb, hx, hT => by
    have hz : sizeLine = 16777216 := by decide
    simp only [Fo.ws, List.length_cons] at hT
    simp only [Fo.lv] at hl hb
    obtain ⟨x', e⟩ := tk_loop hm (b := b) (w := w) r S (T ++ [.str y]) (.v (.str [110])) ok.2 hl hb trivial (by simp; lia)
    refine ⟨x', ?_⟩
    have e0 := bodyT_n (m := m) ok.1 (S := S ++ wt r) (T := T) (b := .int b) (w := w) (by lia)
    have ew : S ++ wt (.nm y r) = S ++ wt r ++ [.str y] := by simp [wt, Fo.ws]
    rw [ew]
    refine (for_go (l := sg r.form) (yL (x := x) rfl hx) e0).trans (e.trans ?_)
    simp [Fo.ds]
  | .nam y r, S, T, x, ok, hl, hb, hx, hT => by
    have hz : sizeLine = 16777216 := by decide
    simp only [Fo.ws, List.length_cons] at hT
    simp only [Fo.lv] at hl hb
    obtain ⟨x', e⟩ := tk_loop hm (b := b) (w := w) r S (T ++ [.tup [.str sNam, .str y]]) (.v (.str [69])) ok.2 (by lia) (by lia) trivial (by simp; lia)
    refine ⟨x', ?_⟩
    have e0 := bodyT_e hm (s := .nam y .nil) trivial ⟨ok.1, trivial⟩ (by simp only [Fo.lv]; lia) (d := .tup [.str sNam, .str y]) rfl (b := b) (by simp only [Fo.lv]; lia) (by simp [Fo.ws]) (S := S ++ wt r) (T := T) (w := w) (by lia)
    have ew : S ++ wt (.nam y r) = S ++ wt r ++ wt (.nam y .nil) := by simp [wt, Fo.ws]
    rw [ew]
    refine (for_go (l := sg r.form) (yL (x := x) rfl hx) e0).trans (e.trans ?_)
    simp [Fo.ds]
  | .num y r, S, T, x, ok, hl, hb, hx, hT => by
    have hz : sizeLine = 16777216 := by decide
    simp only [Fo.ws, List.length_cons] at hT
    simp only [Fo.lv] at hl hb
    obtain ⟨x', e⟩ := tk_loop hm (b := b) (w := w) r S (T ++ [.tup [.str sNum, .int y]]) (.v (.str [69])) ok.2 (by lia) (by lia) trivial (by simp; lia)
    refine ⟨x', ?_⟩
    have e0 := bodyT_e hm (s := .num y .nil) trivial ⟨ok.1, trivial⟩ (by simp only [Fo.lv]; lia) (d := .tup [.str sNum, .int y]) rfl (b := b) (by simp only [Fo.lv]; lia) (by simp [Fo.ws]) (S := S ++ wt r) (T := T) (w := w) (by lia)
    have ew : S ++ wt (.num y r) = S ++ wt r ++ wt (.num y .nil) := by simp [wt, Fo.ws]
    rw [ew]
    refine (for_go (l := sg r.form) (yL (x := x) rfl hx) e0).trans (e.trans ?_)
    simp [Fo.ds]
  | .nd v ps r, S, T, x, ok, hl, hb, hx, hT => by
    have hz : sizeLine = 16777216 := by decide
    simp only [Fo.ws, List.length_cons, List.length_append] at hT
    simp only [Fo.lv] at hl hb
    obtain ⟨x', e⟩ := tk_loop hm (b := b) (w := w) r S (T ++ [.tup (.str v :: ps.ds)]) (.v (.str [69])) ok.2.2 (by lia) (by lia) trivial (by simp; lia)
    refine ⟨x', ?_⟩
    have e0 := bodyT_e hm (s := .nd v ps .nil) trivial ⟨ok.1, ok.2.1, trivial⟩ (by simp only [Fo.lv]; lia) (d := .tup (.str v :: ps.ds)) rfl (b := b) (by simp only [Fo.lv]; lia) (by simp [Fo.ws]; lia) (S := S ++ wt r) (T := T) (w := w) (by lia)
    have ew : S ++ wt (.nd v ps r) = S ++ wt r ++ wt (.nd v ps .nil) := by simp [wt, Fo.ws]
    rw [ew]
    refine (for_go (l := sg r.form) (yL (x := x) rfl hx) e0).trans (e.trans ?_)
    simp [Fo.ds]
theorem tk_start {m : MF} {b : Nat} {S : List D} {w : List Nat} {h : MS} {z : Option Fl} (hb : b <= 30) (q : h [.p S, .v (.int b), .v (.str w), .un, .un] = z) :
    zW (sIf (mBl (zF gtD (zA 1) (mC (.int 30)))) sNever xD) (zW (sSetX 2 (mCallX 1 F_take_word 0 (zP zJ))) h) [.p (S ++ [.str w]), .v (.int b), .un, .un, .un] = z := by
  refine yY ?_ ?_
  · refine (gt_of (i := (b : Int)) (j := 30) rfl zI).trans ?_; rw [decide_eq_false (by lia)]
  · have st : sSetX 2 (mCallX 1 F_take_word 0 (zP zJ)) [.p (S ++ [.str w]), .v (.int b), .un, .un, .un] = some (.nx [.p S, .v (.int b), .v (.str w), .un, .un]) := sSetX_of (callP_of (L := S ++ [.str w]) (L' := S) (es := []) rfl rfl rfl (word_eq S (.str w)) rfl) (by rfl)
    rw [yP st]; exact q
theorem tk_ok : ∀ k, TkOk (yA k) k
  | 0 => fun s h1 _ h3 => by
    have := Fo.one_lv h1
    lia
  | k + 1 => fun s h1 h2 h3 d h4 b S hb hw => by
    have ih := tk_ok k
    have l1 := Fo.one_lv h1
    have hz : sizeLine = 16777216 := by decide
    rcases s with _ | ⟨x, r⟩ | ⟨x, r⟩ | ⟨n, r⟩ | ⟨w, ps, r⟩ <;> first | (cases h1; done) | skip
    all_goals cases r <;> first | (cases h1; done) | skip
    all_goals simp only [Fo.ds, List.cons.injEq, and_true] at h4
    all_goals subst h4
    · refine ⟨.v (.int b), ?_⟩
      show mkF 2 5 (yG (yA k)) [.p (S ++ [.str x]), .v (.int b)] = _
      have e : yG (yA k) [.p (S ++ [.str x]), .v (.int b), .un, .un, .un] = some (.rt (.tup [.str sNam, .str x]) [.p S, .v (.int b), .v (.str x), .un, .un]) := by
        unfold yG
        refine tk_start (m := yA k) (by lia) (seq_tt ?_ (xA (yB (p := .v (.tup [.str sNam, .str x])) (zE rfl zO) rfl (leaf_nam h2.1))))
        show some (!(look xS x).isSome) = _
        rw [look_nam h2.1]; rfl
      unfold mkF
      show (yG (yA k) [.p (S ++ [.str x]), .v (.int b), .un, .un, .un]).bind _ = _
      rw [e]; rfl
    · refine ⟨.v (.int b), ?_⟩
      show mkF 2 5 (yG (yA k)) [.p (S ++ [.str (qD n)]), .v (.int b)] = _
      have e : yG (yA k) [.p (S ++ [.str (qD n)]), .v (.int b), .un, .un, .un] = some (.rt (.tup [.str sNum, .int n]) [.p S, .v (.int b), .v (.str (qD n)), .un, .un]) := by
        unfold yG
        refine tk_start (m := yA k) (by lia) (seq_tt ?_ (xA (yB (p := .v (.tup [.str sNum, .int n])) (zE rfl zO) rfl (leaf_num h2.1))))
        show some (!(look xS (qD n)).isSome) = _
        rw [look_num n]; rfl
      unfold mkF
      show (yG (yA k) [.p (S ++ [.str (qD n)]), .v (.int b), .un, .un, .un]).bind _ = _
      rw [e]; rfl
    · simp only [Fo.ws, List.length_cons, List.append_nil] at hw
      simp only [Fo.lv] at h3 hb
      refine ⟨.v (.int b), ?_⟩
      have ew : S ++ wt (.nd w ps .nil) = S ++ wt ps ++ [.str w] := by simp [wt, Fo.ws]
      rw [ew]
      show mkF 2 5 (yG (yA k)) [.p (S ++ wt ps ++ [.str w]), .v (.int b)] = _
      obtain ⟨x', lp⟩ := tk_loop ih (b := b) (w := .str w) ps S [.str w] .un h2.2.1 (by lia) (by lia) trivial (by simp; lia)
      have e : yG (yA k) [.p (S ++ wt ps ++ [.str w]), .v (.int b), .un, .un, .un] = some (.rt (.tup (.str w :: ps.ds)) [.p S, .v (.int b), .v (.str w), .o (.str w :: ps.ds), x']) := by
        unfold yG
        refine tk_start (m := yA k) (S := S ++ wt ps) (by lia) (yY ?_ ?_)
        · show some (!(look xS w).isSome) = _
          rw [h2.1]; rfl
        · rw [yP (r' := [.p (S ++ wt ps), .v (.int b), .v (.str w), .o [.str w], .un]) (by rfl)]
          have fe : sFor (yF 4) (mItS (mUn (atT xS) (zA 2))) (bodyT (yA k)) [.p (S ++ wt ps), .v (.int b), .v (.str w), .o [.str w], .un] = some (.nx [.p S, .v (.int b), .v (.str w), .o (.str w :: ps.ds), x']) := by
            have it : mItS (mUn (atT xS) (zA 2)) [.p (S ++ wt ps), .v (.int b), .v (.str w), .o [.str w], .un] = some (sg ps.form) := by
              show ((look xS w).map D.str).bind signsD = _
              rw [h2.1]; rfl
            unfold sFor
            rw [it]
            exact lp
          unfold bodyT at fe
          rw [yP fe]
          rfl
      unfold mkF
      show (yG (yA k) [.p (S ++ wt ps ++ [.str w]), .v (.int b), .un, .un, .un]).bind _ = _
      rw [e]; rfl
theorem read_eq {f : Fo} {d : D} (h1 : f.one) (h2 : f.ok) (h3 : f.ds = [d]) (h4 : f.ws.length < 10000) (h5 : f.lv <= 31) : ∃ as, F_read_expression [.v (.str (xZ [32] f.ws))] = some (.v d, as) := by
  have hs := Fo.ws_ok f h2
  have hj := joinC_len 32 f.ws
  have hsum := Fo.ws_sum hs
  have hzl : sizeLine = 16777216 := by decide
  obtain ⟨u, e⟩ := tk_ok RF f h1 h2 (by unfold RF; lia) d h3 0 [] (by lia) (by lia)
  let t : D := .str (xZ [32] f.ws)
  refine xV (r' := [.v t, .o [], .v d]) ?_
  show qI [.v t, .un, .un] = _
  unfold qI
  have sp : mRevF (mSplit (zA 0) (mC (.str [32]))) [.v t, .un, .un] = some (wt f) := by
    have q : mSplit (zA 0) (mC (.str [32])) [.v t, .un, .un] = some (f.ws.map D.str) := by
      show (if ([32] : List Nat).length ≠ 0 /\ (xZ [32] f.ws).length < sizeLine then some ((splitS (xZ [32] f.ws) [32]).map D.str) else none) = _
      rw [if_pos ⟨by decide, by lia⟩, splitS_join (Fo.one_ws h1) fun x hx => (hs x hx).1]
    unfold mRevF
    rw [q]; rfl
  have s1 : sOwn 1 (mRevF (mSplit (zA 0) (mC (.str [32])))) [.v t, .un, .un] = some (.nx [.v t, .o (wt f), .un]) := by
    unfold sOwn
    rw [sp]; rfl
  rw [yP s1]
  have s2 : sSetX 2 (mCallX 2 (yA RF) 1 (zP (zB (mC (.int 0)) zJ))) [.v t, .o (wt f), .un] = some (.nx [.v t, .o [], .v d]) := sSetX_of (callO_of (L := wt f) (L' := []) (es := [.int ((0 : Nat) : Int)]) rfl rfl rfl e rfl) (by rfl)
  rw [yP s2]
  exact yY (by rfl) (xA rfl)
noncomputable def bodyF : MS := (zW (yW 0 (zF yD (mSl (zA 0) (yV (mC (.int 2))) xL) (yM (yI (zB (zS 4 F__law_two (zB (zS 2 yE (zB (zA 1) (zB (zF yD (mC (.int 500)) (zA 3)) zJ))) (zB (zA 2) (zB (zF ixD (zA 0) (mC (.int 0))) (zB (zF ixD (zA 0) (mC (.int 1))) zJ))))) zJ)))))
 (yW 3 (zF yD (zA 3) (mC (.int 1)))))
noncomputable abbrev wF (m : Nat) (L : List Fo) (c : Int) (ns : List (List Nat)) (k : Int) : Option Fl := qL m (mBl (zF gtD (mUn wE (zA 0)) (mC (.int 1)))) bodyF [.v (.lst (L.map itm)), .v (.int c), .v (.lst (ns.map D.str)), .v (.int k)]
theorem cut_two {α : Type} (a b : α) (l : List α) : wT (a :: b :: l) (some 2) none = l := by
  unfold wT
  have e : HT.sIx (a :: b :: l).length 0 (some 2) = min 2 (a :: b :: l).length := HT.sIx_nat _ 0 2
  rw [e, HT.sIx_none]
  simp
theorem fold_step {ns : List (List Nat)} (hn : Nms ns) {a b : Fo} {L : List Fo} {c k : Int} (ha : Gd ns a) (hb : Gd ns b) (hw : a.ws.length + b.ws.length <= 1000) (hl : L.length <= 900) :
    ∃ q : Fo, Gd ns q /\ q.ws.length <= a.ws.length + b.ws.length + 4 /\ q.lv = max a.lv b.lv + 1 /\ q.pc = a.pc + b.pc + 1 /\ ∀ m, wF (m + 1) (a :: b :: L) c ns k = wF m (L ++ [q]) c ns (k + 1) := by
  obtain ⟨n, n0, hm⟩ := mixed_eq c (500 + k)
  obtain ⟨q, gq, wq, lq, pq, eq⟩ := two_eq (n := n) hn ha hb hw
  refine ⟨q, gq, wq, lq, pq, fun m => ?_⟩
  let N : D := .lst (ns.map D.str)
  let R : En := [.v (.lst ((a :: b :: L).map itm)), .v (.int c), .v N, .v (.int k)]
  have cd : mBl (zF gtD (mUn wE (zA 0)) (mC (.int 1))) R = some true := by
    have ln : mUn wE (zA 0) R = some (.int ((a :: b :: L).length : Int)) := un_of (x := .lst ((a :: b :: L).map itm)) rfl (by show some (D.int (((a :: b :: L).map itm).length : Int)) = _; rw [List.length_map])
    rw [gt_of ln zI, decide_eq_true (by simp; lia)]
  refine while_go cd ?_
  unfold bodyF
  refine yO (.lst ((L ++ [q]).map itm)) ?_ (r2 := [.v (.lst ((L ++ [q]).map itm)), .v (.int c), .v N, .v (.int k)]) (by rfl) (sSet_of (wZ rfl zI) (by rfl))
  rw [List.map_append]
  refine ladd (l := L.map itm) ?_ (xQ (l := [itm q]) (zE (x := itm q) ?_ zO) (by show 1 <= 100; decide)) (by simp; lia)
  · refine sl_of (x := .lst ((a :: b :: L).map itm)) rfl (osome_of zI) (by rfl) ?_
    show some (D.lst (wT (itm a :: itm b :: L.map itm) (some 2) none)) = _
    rw [cut_two]
  · have i0 : zF ixD (zA 0) (mC (.int 0)) R = some (itm a) := zV (x := .lst ((a :: b :: L).map itm)) rfl zI (at_zero _ _)
    have i1 : zF ixD (zA 0) (mC (.int 1)) R = some (itm b) := zV (x := .lst ((a :: b :: L).map itm)) rfl zI (atI_nat (j := 1) rfl)
    exact yB (p := .v (itm q)) (zE (yB (p := .v (.int n)) (zE rfl (zE (wZ zI rfl) zO)) rfl hm) (zE rfl (zE i0 (zE i1 zO)))) rfl eq
theorem fold_loop {ns : List (List Nat)} (hn : Nms ns) {c : Int} : ∀ (n : Nat) (A B : List Fo) (d M : Nat) (k : Int), A.length + B.length = n + 1 -> (∀ f ∈ A, Gd ns f /\ f.lv <= d) -> (∀ f ∈ B, Gd ns f /\ f.lv <= d + 1) -> A.length + 2 * B.length <= 2 ^ M -> tw (A ++ B) + 4 * n <= 900 ->
    ∃ (q : Fo) (k' : Int), Gd ns q /\ q.lv <= d + M /\ q.pc = tp (A ++ B) + n /\ q.ws.length <= tw (A ++ B) + 4 * n /\ ∀ m, wF (n + m) (A ++ B) c ns k = wF m [q] c ns k'
  | 0, A, B, d, M, k, hl, hA, hB, hM, ht => by
    rcases A with _ | ⟨a, t⟩
    · rcases B with _ | ⟨b, u⟩
      · simp at hl
      · obtain rfl : u = [] := List.eq_nil_of_length_eq_zero (by simp only [List.length_cons, List.length_nil] at hl; lia)
        have hb := hB b (by simp)
        have : M ≠ 0 := fun z => by subst z; simp at hM
        exact ⟨b, k, hb.1, by lia, by simp [tp], by simp [tw], fun m => by simp⟩
    · obtain rfl : t = [] := List.eq_nil_of_length_eq_zero (by simp only [List.length_cons, List.length_nil] at hl; lia)
      obtain rfl : B = [] := List.eq_nil_of_length_eq_zero (by simp only [List.length_cons, List.length_nil] at hl; lia)
      have ha := hA a (by simp)
      exact ⟨a, k, ha.1, by lia, by simp [tp], by simp [tw], fun m => by simp⟩
  | n + 1, A, B, d, M, k, hl, hA, hB, hM, ht => by
    have again : ∀ (a b : Fo) (t : List Fo), A ++ B = a :: b :: t -> t.length = n -> Gd ns a -> Gd ns b -> (∀ f ∈ t, Gd ns f /\ f.lv <= d + 1) -> a.lv <= d + 1 -> b.lv <= d + 1 -> n + 2 <= 2 ^ (M - 1) -> 1 <= M ->
        ∃ (q : Fo) (k' : Int), Gd ns q /\ q.lv <= d + M /\ q.pc = tp (A ++ B) + (n + 1) /\ q.ws.length <= tw (A ++ B) + 4 * (n + 1) /\ ∀ m, wF (n + 1 + m) (A ++ B) c ns k = wF m [q] c ns k' := fun a b t e hl ha hb ht' la lb hM' h1 => by
      rw [e] at ht ⊢
      have te : tw (a :: b :: t) = a.ws.length + b.ws.length + tw t := by simp [tw]; lia
      have pe : tp (a :: b :: t) = a.pc + b.pc + tp t := by simp [tp]; lia
      obtain ⟨q, gq, wq, lq, pq, eq⟩ := fold_step hn (L := t) (c := c) (k := k) ha hb (by lia) (by lia)
      have te2 : tw (t ++ [q]) = tw t + q.ws.length := by simp [tw]
      have pe2 : tp (t ++ [q]) = tp t + q.pc := by simp [tp]
      obtain ⟨r, k', r1, r2, r3, r4, r5⟩ := fold_loop hn (c := c) n t [q] (d + 1) (M - 1) (k + 1) (by simp; lia) ht' (fun f hf => by
        simp only [List.mem_singleton] at hf
        subst hf
        exact ⟨gq, by lia⟩) (by simp; lia) (by lia)
      refine ⟨r, k', r1, by lia, by lia, by lia, fun m => ?_⟩
      have e0 := eq (n + m)
      rw [show n + 1 + m = n + m + 1 by lia]
      exact e0.trans (r5 m)
    rcases A with _ | ⟨a, _ | ⟨b, t⟩⟩
    · rcases B with _ | ⟨a, _ | ⟨b, t⟩⟩
      · simp at hl
      · simp at hl
      · have h1 : 1 <= M := by
          rcases M with _ | M
          · simp at hM; lia
          · lia
        obtain ⟨M, rfl⟩ : ∃ M', M = M' + 1 := ⟨M - 1, by lia⟩
        rw [Nat.pow_succ] at hM
        exact again a b t rfl (by simp only [List.length_cons, List.length_nil] at hl; lia) (hB a (by simp)).1 (hB b (by simp)).1 (fun f hf => hB f (by simp [hf])) (hB a (by simp)).2 (hB b (by simp)).2 (by simp at hM hl ⊢; lia) h1
    · rcases B with _ | ⟨b, t⟩
      · simp at hl
      · have h1 : 1 <= M := by
          rcases M with _ | M
          · simp at hM; lia
          · lia
        obtain ⟨M, rfl⟩ : ∃ M', M = M' + 1 := ⟨M - 1, by lia⟩
        rw [Nat.pow_succ] at hM
        have la := (hA a (by simp)).2
        exact again a b t rfl (by simp only [List.length_cons, List.length_nil] at hl; lia) (hA a (by simp)).1 (hB b (by simp)).1 (fun f hf => hB f (by simp [hf])) (by lia) (hB b (by simp)).2 (by simp at hM hl ⊢; lia) h1
    · have ha := hA a (by simp)
      have hb := hA b (by simp)
      have te : tw (a :: b :: t ++ B) = a.ws.length + b.ws.length + tw (t ++ B) := by simp [tw]; lia
      have pe : tp (a :: b :: t ++ B) = a.pc + b.pc + tp (t ++ B) := by simp [tp]; lia
      obtain ⟨q, gq, wq, lq, pq, eq⟩ := fold_step hn (L := t ++ B) (c := c) (k := k) ha.1 hb.1 (by lia) (by simp at hl ⊢; lia)
      have te2 : tw (t ++ (B ++ [q])) = tw (t ++ B) + q.ws.length := by simp [tw]; lia
      have pe2 : tp (t ++ (B ++ [q])) = tp (t ++ B) + q.pc := by simp [tp]; lia
      obtain ⟨r, k', r1, r2, r3, r4, r5⟩ := fold_loop hn (c := c) n t (B ++ [q]) d M (k + 1) (by simp at hl ⊢; lia) (fun f hf => hA f (by simp [hf])) (fun f hf => by
        simp only [List.mem_append, List.mem_singleton] at hf
        rcases hf with hf | rfl
        · exact hB f hf
        · exact ⟨gq, by lia⟩) (by simp at hM ⊢; lia) (by lia)
      refine ⟨r, k', r1, r2, by lia, by lia, fun m => ?_⟩
      have e0 := eq (n + m)
      rw [show n + 1 + m = n + m + 1 by lia]
      refine e0.trans ?_
      rw [List.append_assoc]
      exact r5 m
theorem fold_eq' {ns : List (List Nat)} (hn : Nms ns) {c : Int} {fs : List Fo} (hf : ∀ f ∈ fs, Gd ns f /\ f.lv <= 11) (h0 : fs ≠ []) (h32 : fs.length <= 32) (ht : tw fs <= 500) :
    ∃ q : Fo, Gd ns q /\ q.lv <= 16 /\ q.pc + 1 = tp fs + fs.length /\ q.ws.length <= tw fs + 128 /\ ∃ as, F__law_folded [.v (.lst (fs.map itm)), .v (.int c), .v (.lst (ns.map D.str))] = some (.v (itm q), as) := by
  have l1 : 0 < fs.length := List.length_pos_iff.mpr h0
  obtain ⟨q, k', q1, q2, q3, q4, q5⟩ := fold_loop hn (c := c) (fs.length - 1) fs [] 11 5 0 (by simp; lia) hf (by simp) (by simp; lia) (by simp; lia)
  simp only [List.append_nil] at q3 q4 q5
  refine ⟨q, q1, by lia, by lia, by lia, ?_⟩
  let N : D := .lst (ns.map D.str)
  refine xV (r' := [.v (.lst ([q].map itm)), .v (.int c), .v N, .v (.int k')]) ?_
  show g__law_folded [.v (.lst (fs.map itm)), .v (.int c), .v N, .un] = _
  unfold g__law_folded
  refine yO (.int 0) zI (r2 := [.v (.lst (fs.map itm)), .v (.int c), .v N, .v (.int 0)]) (by rfl) ?_
  have w := q5 (WF - (fs.length - 1))
  rw [show fs.length - 1 + (WF - (fs.length - 1)) = WF by unfold WF; lia, show WF - (fs.length - 1) = (WF - (fs.length - 1) - 1) + 1 by unfold WF; lia] at w
  unfold wF at w
  rw [while_end (r := [.v (.lst ([q].map itm)), .v (.int c), .v (.lst (ns.map D.str)), .v (.int k')]) (by rfl)] at w
  unfold bodyF at w
  rw [yP w]
  exact xA (zV (x := .lst ([q].map itm)) rfl zI (at_zero _ _))
namespace Fo
theorem fm_0 {f : Fo} (h : f.form = []) : f = nil := by
  cases f <;> first | rfl | (simp [form] at h)
theorem fm_n {f : Fo} {t : List Nat} (h : f.form = 110 :: t) (o : f.ok) : ∃ x r, f = nm x r /\ r.form = t /\ nmok x /\ r.ok := by
  cases f with
  | nm x r => exact ⟨x, r, rfl, by simpa [form] using h, o.1, o.2⟩
  | _ => simp [form] at h
theorem fm_e {f : Fo} {t : List Nat} (h : f.form = 69 :: t) (o : f.ok) : ∃ e r, e.one /\ e.ok /\ f = app e r /\ r.form = t /\ r.ok /\ e.lv <= f.lv /\ r.lv <= f.lv /\ f.ws.length = e.ws.length + r.ws.length := by
  cases f with
  | nam x r => exact ⟨nam x nil, r, trivial, ⟨o.1, trivial⟩, rfl, by simpa [form] using h, o.2, by simp only [lv]; lia, by simp only [lv]; lia, by simp [ws]; lia⟩
  | num n r => exact ⟨num n nil, r, trivial, ⟨o.1, trivial⟩, rfl, by simpa [form] using h, o.2, by simp only [lv]; lia, by simp only [lv]; lia, by simp [ws]; lia⟩
  | nd w ps r => exact ⟨nd w ps nil, r, trivial, ⟨o.1, o.2.1, trivial⟩, rfl, by simpa [form] using h, o.2.2, by simp only [lv]; lia, by simp only [lv]; lia, by simp [ws]; lia⟩
  | _ => simp [form] at h
theorem flt_len (b : Bool) (p : Option (List Nat)) (l : List (List Nat)) : (flt b p l).length <= l.length := by
  unfold flt
  split
  · exact List.length_filter_le _ _
  · exact Nat.le_refl _
theorem oc_len : ∀ (f : Fo) (b : Bool) (p : Option (List Nat)), (oc b p f).length <= f.ws.length
  | nil, b, p => by simp [oc]
  | nm y r, b, p => by have := oc_len r b (some y); simp [oc, ws]; lia
  | nam y r, b, p => by have := oc_len r b none; have := flt_len b p [y]; simp [oc, ws] at *; lia
  | num n r, b, p => by have := oc_len r b none; simp [oc, ws]; lia
  | nd w ps r, b, p => by have := oc_len r b none; have := oc_len ps (binds w) none; have := flt_len b p (oc (binds w) none ps); simp [oc, ws]; lia
end Fo
noncomputable def opn (kn l : List (List Nat)) : List (List Nat) := l.filter fun x => decide (x ∉ kn)
theorem opn_app (kn a b : List (List Nat)) : opn kn (a ++ b) = opn kn a ++ opn kn b := by simp [opn]
theorem opn_len (kn l : List (List Nat)) : (opn kn l).length <= l.length := List.length_filter_le _ _
theorem opn_flt (kn : List (List Nat)) (x : List Nat) (l : List (List Nat)) : opn (kn ++ [x]) l = opn kn (Fo.flt true (some x) l) := by
  unfold opn Fo.flt
  rw [List.filter_filter]
  refine List.filter_congr fun y _ => ?_
  by_cases h1 : y ∈ kn <;> by_cases h2 : y = x <;> simp [h1, h2]
noncomputable def FrOk (m : MF) (n : Nat) : Prop := ∀ (e : Fo), e.one -> e.ok -> e.lv <= n -> ∀ d, e.ds = [d] -> ∀ (kn : List (List Nat)), kn.length + e.lv <= 5000 -> e.ws.length <= 5000 -> ∃ as, m [.v d, .v (.lst (kn.map D.str))] = some (.v (.lst ((opn kn (e.oc false none)).map D.str)), as)
noncomputable def bodyO (m : MF) : MS := (sIf (qS (mUn (wG "tuple") (zA 3)))
 (yW 2 (zF yD (zA 2) (zS 2 m (zB (zA 3) (zB (zA 1) zJ)))))
 xD)
theorem in_names {x : List Nat} {kn : List (List Nat)} : inD true (.str x) (.lst (kn.map D.str)) = some (.bl (decide (x ∉ kn))) := by
  show (if qB (.str x) = true /\ (kn.map D.str).all qB = true then some (D.bl (!((kn.map D.str).any fun z => eqF z (.str x)))) else none) = _
  rw [if_pos ⟨rfl, flat_strs _⟩, any_eq]
  by_cases h : x ∈ kn <;> simp [h]
theorem bodyO_e {m : MF} {n : Nat} (hm : FrOk m n) {e : Fo} (h1 : e.one) (h2 : e.ok) (h3 : e.lv <= n) {d : D} (h4 : e.ds = [d]) (ht : isT d = true) (hp : plain d) {kn : List (List Nat)} (hk : kn.length + e.lv <= 5000) (hw : e.ws.length <= 5000) {T : D} {acc : List (List Nat)} (ha : acc.length <= 5000) :
    bodyO m [.v T, .v (.lst (kn.map D.str)), .v (.lst (acc.map D.str)), .v d] = some (.nx [.v T, .v (.lst (kn.map D.str)), .v (.lst ((acc ++ opn kn (e.oc false none)).map D.str)), .v d]) := by
  unfold bodyO
  have c : qS (mUn (wG "tuple") (zA 3)) [.v T, .v (.lst (kn.map D.str)), .v (.lst (acc.map D.str)), .v d] = some true := by
    show ((some d).bind (wG "tuple")).bind truD = _
    rw [Option.bind_some, instT hp, ht]; rfl
  rw [sIf_t c]
  have l1 := opn_len kn (e.oc false none)
  have l2 := Fo.oc_len e false none
  refine sSet_of (d := .lst ((acc ++ opn kn (e.oc false none)).map D.str)) ?_ (by rfl)
  rw [List.map_append]
  exact ladd (l := acc.map D.str) rfl (yB (p := .v (.lst ((opn kn (e.oc false none)).map D.str))) (zE rfl (zE rfl zO)) rfl (hm e h1 h2 h3 d h4 kn hk hw)) (by simp; lia)
theorem bodyO_s {m : MF} {d : D} (ht : isT d = false) (hp : plain d) {T kn acc : D} :
    bodyO m [.v T, .v kn, .v acc, .v d] = some (.nx [.v T, .v kn, .v acc, .v d]) := by
  unfold bodyO
  have c : qS (mUn (wG "tuple") (zA 3)) [.v T, .v kn, .v acc, .v d] = some false := by
    show ((some d).bind (wG "tuple")).bind truD = _
    rw [Option.bind_some, instT hp, ht]; rfl
  rw [sIf_f c]; rfl
theorem free_loop {m : MF} {n : Nat} (hm : FrOk m n) {kn : List (List Nat)} {T : D} : ∀ (f : Fo) (p : Option (List Nat)) (acc : List (List Nat)) (x : Sl), f.ok -> f.lv <= n -> kn.length + f.lv <= 5000 -> acc.length + f.ws.length <= 5000 -> fre x ->
    ∃ x', forL (yF 3) (bodyO m) f.ds [.v T, .v (.lst (kn.map D.str)), .v (.lst (acc.map D.str)), x] = some (.nx [.v T, .v (.lst (kn.map D.str)), .v (.lst ((acc ++ opn kn (f.oc false p)).map D.str)), x'])
  | .nil, p, acc, x, _, _, _, _, _ => ⟨x, by simp [Fo.ds, Fo.oc, opn, forL]⟩
  | .nm y r, p, acc, x, ok, hl, hk, hw, hx => by
    simp only [Fo.ws, List.length_cons] at hw
    simp only [Fo.lv] at hl hk
    obtain ⟨x', e⟩ := free_loop hm (kn := kn) (T := T) r (some y) acc (.v (.str y)) ok.2 hl hk (by lia) trivial
    exact ⟨x', by rw [Fo.ds, for_go (yL (x := x) rfl hx) (bodyO_s (d := .str y) rfl trivial)]; exact e⟩
  | .nam y r, p, acc, x, ok, hl, hk, hw, hx => by
    simp only [Fo.ws, List.length_cons] at hw
    simp only [Fo.lv] at hl hk
    have e0 := bodyO_e hm (e := .nam y .nil) trivial ⟨ok.1, trivial⟩ (by simp only [Fo.lv]; lia) (d := .tup [.str sNam, .str y]) rfl rfl trivial (kn := kn) (by simp only [Fo.lv]; lia) (by simp [Fo.ws]) (T := T) (acc := acc) (by lia)
    have l1 := opn_len kn ((Fo.nam y .nil).oc false none)
    have l2 := Fo.oc_len (.nam y .nil) false none
    simp only [Fo.ws, List.length_cons, List.length_nil] at l2
    obtain ⟨x', e⟩ := free_loop hm (kn := kn) (T := T) r none (acc ++ opn kn ((Fo.nam y .nil).oc false none)) (.v (.tup [.str sNam, .str y])) ok.2 (by lia) (by lia) (by rw [List.length_append]; lia) trivial
    refine ⟨x', ?_⟩
    rw [Fo.ds, for_go (yL (x := x) rfl hx) e0, e, List.append_assoc, <- opn_app]
    have q := Fo.oc_app (e := .nam y .nil) trivial false p r
    rw [show Fo.app (.nam y .nil) r = .nam y r from rfl] at q
    rw [q]; rfl
  | .num y r, p, acc, x, ok, hl, hk, hw, hx => by
    simp only [Fo.ws, List.length_cons] at hw
    simp only [Fo.lv] at hl hk
    have e0 := bodyO_e hm (e := .num y .nil) trivial ⟨ok.1, trivial⟩ (by simp only [Fo.lv]; lia) (d := .tup [.str sNum, .int y]) rfl rfl trivial (kn := kn) (by simp only [Fo.lv]; lia) (by simp [Fo.ws]) (T := T) (acc := acc) (by lia)
    have l1 := opn_len kn ((Fo.num y .nil).oc false none)
    have l2 := Fo.oc_len (.num y .nil) false none
    simp only [Fo.ws, List.length_cons, List.length_nil] at l2
    obtain ⟨x', e⟩ := free_loop hm (kn := kn) (T := T) r none (acc ++ opn kn ((Fo.num y .nil).oc false none)) (.v (.tup [.str sNum, .int y])) ok.2 (by lia) (by lia) (by rw [List.length_append]; lia) trivial
    refine ⟨x', ?_⟩
    rw [Fo.ds, for_go (yL (x := x) rfl hx) e0, e, List.append_assoc, <- opn_app]
    have q := Fo.oc_app (e := .num y .nil) trivial false p r
    rw [show Fo.app (.num y .nil) r = .num y r from rfl] at q
    rw [q]; rfl
  | .nd v ps r, p, acc, x, ok, hl, hk, hw, hx => by
    simp only [Fo.ws, List.length_cons, List.length_append] at hw
    simp only [Fo.lv] at hl hk
    have l2 := Fo.oc_len (.nd v ps .nil) false none
    have l3 : (Fo.nd v ps .nil).ws.length = ps.ws.length + 1 := by simp [Fo.ws]
    have e0 := bodyO_e hm (e := .nd v ps .nil) trivial ⟨ok.1, ok.2.1, trivial⟩ (by simp only [Fo.lv]; lia) (d := .tup (.str v :: ps.ds)) rfl rfl trivial (kn := kn) (by simp only [Fo.lv]; lia) (by lia) (T := T) (acc := acc) (by lia)
    have l1 := opn_len kn ((Fo.nd v ps .nil).oc false none)
    obtain ⟨x', e⟩ := free_loop hm (kn := kn) (T := T) r none (acc ++ opn kn ((Fo.nd v ps .nil).oc false none)) (.v (.tup (.str v :: ps.ds))) ok.2.2 (by lia) (by lia) (by rw [List.length_append]; lia) trivial
    refine ⟨x', ?_⟩
    rw [Fo.ds, for_go (yL (x := x) rfl hx) e0, e, List.append_assoc, <- opn_app]
    have q := Fo.oc_app (e := .nd v ps .nil) trivial false p r
    rw [show Fo.app (.nd v ps .nil) r = .nd v ps r from rfl] at q
    rw [q]; rfl
theorem hd_w {w : List Nat} {t : List D} {a b c : Sl} : zF ixD (zA 0) (mC (.int 0)) [.v (.tup (.str w :: t)), a, b, c] = some (.str w) := zV rfl zI (at_zero _ _)
theorem ix_t {l : List D} {j : Nat} {d : D} {a b c : Sl} (h : l[j]? = some d) : zF ixD (zA 0) (mC (.int j)) [.v (.tup l), a, b, c] = some d := zV rfl zI (atI_nat h)
theorem kn_add {kn : List (List Nat)} {x : List Nat} {f : ME} {r : En} (h1 : zA 1 r = some (.lst (kn.map D.str))) (h2 : f r = some (.str x)) (hl : kn.length <= 5000) : zF yD (zA 1) (yM (yI (zB f zJ))) r = some (.lst ((kn ++ [x]).map D.str)) := by
  rw [List.map_append]
  exact ladd h1 (xQ (l := [.str x]) (zE h2 zO) (by show 1 <= 100; decide)) (by simp; lia)
theorem tail_it {w : List Nat} {l : List D} {a b c : Sl} : mIt (mSl (zA 0) (yV (mC (.int 1))) xL) [.v (.tup (.str w :: l)), a, b, c] = some l := by
  show (slD (.tup (.str w :: l)) (some 1) none).bind itemsD = _
  have s1 : HT.sIx (D.str w :: l).length 0 (some 1) = 1 := by
    rw [List.length_cons]
    show min 1 (l.length + 1) = 1
    lia
  unfold slD
  simp only [s1, wT]
  rw [if_neg (by lia)]
  show (itemsD (.tup (l.take (l.length + 1 - 1)))) = _
  rw [Nat.add_sub_cancel, List.take_length]; rfl
theorem eq_w {w v : List Nat} {t : List D} {a b c : Sl} : mBl (zF eqA (zF ixD (zA 0) (mC (.int 0))) (mC (.str v))) [.v (.tup (.str w :: t)), a, b, c] = some (decide (w = v)) := qJ (zV hd_w zI rfl)
theorem free_ok : ∀ n, FrOk (xN n) n
  | 0 => fun e h1 _ h3 => by
    have := Fo.one_lv h1
    lia
  | n + 1 => fun e h1 h2 h3 d h4 kn hk hw => by
    have ih := free_ok n
    have l1 := Fo.one_lv h1
    let N : D := .lst (kn.map D.str)
    show ∃ as, mkF 2 4 (wK (xN n)) [.v d, .v N] = _
    rcases e with _ | ⟨x, r⟩ | ⟨x, r⟩ | ⟨k, r⟩ | ⟨w, ps, r⟩ <;> first | (cases h1; done) | skip
    all_goals cases r <;> first | (cases h1; done) | skip
    all_goals simp only [Fo.ds, List.cons.injEq, and_true] at h4
    all_goals subst h4
    · refine xV (r' := [.v (.tup [.str sNam, .str x]), .v N, .un, .un]) ?_
      show wK (xN n) [.v (.tup [.str sNam, .str x]), .v N, .un, .un] = _
      refine seq_tt (eq_w.trans rfl) (xA ?_)
      have i1 : zF ixD (zA 0) (mC (.int 1)) [.v (.tup [.str sNam, .str x]), .v N, .un, .un] = some (.str x) := ix_t (j := 1) rfl
      refine sl_of (x := .lst [.str x]) (xQ (zE i1 zO) (by show 1 <= 100; decide)) (by rfl) (osome_of (un_of (zV (x := .str x) (y := N) i1 rfl in_names) rfl)) ?_
      have oe : (Fo.nam x .nil).oc false none = [x] := rfl
      rw [oe]
      by_cases c : x ∈ kn
      · have e : opn kn [x] = [] := by simp [opn, c]
        rw [e, decide_eq_false (by simpa using c)]; rfl
      · have e : opn kn [x] = [x] := by simp [opn, c]
        rw [e, decide_eq_true (by simpa using c)]; rfl
    · refine xV (r' := [.v (.tup [.str sNum, .int k]), .v N, .v (.lst []), .v (.int k)]) ?_
      show wK (xN n) [.v (.tup [.str sNum, .int k]), .v N, .un, .un] = _
      refine yY (eq_w.trans rfl) (yY (eq_w.trans rfl) (yY (eq_w.trans rfl) ?_))
      refine yO (.lst []) (xQ zO (by show 0 <= 100; decide)) (r2 := [.v (.tup [.str sNum, .int k]), .v N, .v (.lst []), .un]) (by rfl) ?_
      have fe : sFor (yF 3) (mIt (mSl (zA 0) (yV (mC (.int 1))) xL)) (bodyO (xN n)) [.v (.tup [.str sNum, .int k]), .v N, .v (.lst []), .un] = some (.nx [.v (.tup [.str sNum, .int k]), .v N, .v (.lst []), .v (.int k)]) := by
        unfold sFor
        rw [tail_it, Option.bind_some, for_go (yL (x := .un) rfl trivial) (bodyO_s (d := .int k) rfl trivial)]; rfl
      unfold bodyO at fe
      rw [yP fe]
      rfl
    · simp only [Fo.ws, List.length_cons, List.append_nil] at hw
      simp only [Fo.lv] at h3 hk
      have lookw := h2.1
      have nw := (Fo.look_head lookw).2.2
      let T : D := .tup (.str w :: ps.ds)
      have ocw : (Fo.nd w ps .nil).oc false none = ps.oc (Fo.binds w) none := by simp [Fo.oc, Fo.flt]
      rw [ocw]
      by_cases cf : w = Fo.sFn
      · subst cf
        have fm : ps.form = [110, 69] := (Option.some.inj (lookw.symm.trans (by decide : look xS Fo.sFn = some [110, 69])))
        obtain ⟨x, r, rfl, fr, nx, ro⟩ := Fo.fm_n fm h2.2.1
        obtain ⟨e, q, e1, e2, rfl, e3, e4, e5, e6, e7⟩ := Fo.fm_e fr ro
        obtain rfl := Fo.fm_0 e3
        have hd := Fo.one_ds e1
        simp only [Fo.lv, Fo.ws, List.length_cons] at h3 hk hw
        have ds : (Fo.nm x (Fo.app e .nil)).ds = [.str x, e.hd] := by simp only [Fo.ds]; rw [Fo.ds_app, hd]; rfl
        have c1 := ih e e1 e2 (by lia) e.hd hd (kn ++ [x]) (by rw [List.length_append]; simp only [List.length_cons, List.length_nil]; lia) (by lia)
        have oe : (Fo.nm x (Fo.app e .nil)).oc (Fo.binds Fo.sFn) none = Fo.flt true (some x) (e.oc false none) := by
          show (Fo.app e .nil).oc true (some x) = _
          rw [Fo.oc_app e1]; simp [Fo.oc]
        rw [oe, <- opn_flt]
        show ∃ as, mkF 2 4 (wK (xN n)) [.v (.tup (.str Fo.sFn :: (Fo.nm x (Fo.app e .nil)).ds)), .v N] = _
        rw [ds]
        refine xV (r' := [.v (.tup [.str Fo.sFn, .str x, e.hd]), .v N, .un, .un]) ?_
        show wK (xN n) [.v (.tup [.str Fo.sFn, .str x, e.hd]), .v N, .un, .un] = _
        refine yY (eq_w.trans rfl) (seq_tt (eq_w.trans rfl) (xA ?_))
        have i1 : zF ixD (zA 0) (mC (.int 1)) [.v (.tup [.str Fo.sFn, .str x, e.hd]), .v N, .un, .un] = some (.str x) := ix_t (j := 1) rfl
        have i2 : zF ixD (zA 0) (mC (.int 2)) [.v (.tup [.str Fo.sFn, .str x, e.hd]), .v N, .un, .un] = some e.hd := ix_t (j := 2) rfl
        exact yB (p := .v (.lst ((opn (kn ++ [x]) (e.oc false none)).map D.str))) (zE i2 (zE (kn_add (kn := kn) rfl i1 (by lia)) zO)) rfl c1
      · by_cases cc : w = Fo.sCs
        · subst cc
          have fm : ps.form = [69, 110, 110, 69, 110, 69] := (Option.some.inj (lookw.symm.trans (by decide : look xS Fo.sCs = some [69, 110, 110, 69, 110, 69])))
          obtain ⟨e, q, e1, e2, rfl, e3, e4, e5, e6, e7⟩ := Fo.fm_e fm h2.2.1
          obtain ⟨L, r1, rfl, f1, nL, o1⟩ := Fo.fm_n e3 e4
          obtain ⟨x, r2, rfl, f2, nx, o2⟩ := Fo.fm_n f1 o1
          obtain ⟨g, q2, g1, g2, rfl, g3, g4, g5, g6, g7⟩ := Fo.fm_e f2 o2
          obtain ⟨y, r3, rfl, f3, ny, o3⟩ := Fo.fm_n g3 g4
          obtain ⟨h, q3, k1, k2, rfl, k3, k4, k5, k6, k7⟩ := Fo.fm_e f3 o3
          obtain rfl := Fo.fm_0 k3
          have he := Fo.one_ds e1
          have hg := Fo.one_ds g1
          have hh := Fo.one_ds k1
          simp only [Fo.lv, Fo.ws, List.length_cons] at e6 e7 g5 g6 g7
          let R0 : Fo := .nm L (.nm x (.app g (.nm y (.app h .nil))))
          have ds : (Fo.app e R0).ds = [e.hd, .str L, .str x, g.hd, .str y, h.hd] := by
            show (Fo.app e (.nm L (.nm x (.app g (.nm y (.app h .nil)))))).ds = _
            rw [Fo.ds_app]; simp only [Fo.ds]; rw [Fo.ds_app]; simp only [Fo.ds]; rw [Fo.ds_app, he, hg, hh]; rfl
          have oe : (Fo.app e R0).oc (Fo.binds Fo.sCs) none = e.oc false none ++ (Fo.flt true (some x) (g.oc false none) ++ Fo.flt true (some y) (h.oc false none)) := by
            show (Fo.app e (.nm L (.nm x (.app g (.nm y (.app h .nil)))))).oc true none = _
            rw [Fo.oc_app e1]
            show _ ++ (Fo.app g (.nm y (.app h .nil))).oc true (some x) = _
            rw [Fo.oc_app g1]
            show _ ++ (_ ++ (Fo.app h .nil).oc true (some y)) = _
            rw [Fo.oc_app k1]
            simp [Fo.oc]; rfl
          show ∃ as, mkF 2 4 (wK (xN n)) [.v (.tup (.str Fo.sCs :: (Fo.app e R0).ds)), .v N] = some (.v (.lst ((opn kn ((Fo.app e R0).oc (Fo.binds Fo.sCs) none)).map D.str)), as)
          rw [oe, ds, opn_app, opn_app, <- opn_flt, <- opn_flt]
          have c1 := ih e e1 e2 (by lia) e.hd he kn (by lia) (by lia)
          have c2 := ih g g1 g2 (by lia) g.hd hg (kn ++ [x]) (by rw [List.length_append]; simp only [List.length_cons, List.length_nil]; lia) (by lia)
          have c3 := ih h k1 k2 (by lia) h.hd hh (kn ++ [y]) (by rw [List.length_append]; simp only [List.length_cons, List.length_nil]; lia) (by lia)
          have b1 := opn_len kn (e.oc false none)
          have b2 := opn_len (kn ++ [x]) (g.oc false none)
          have b3 := opn_len (kn ++ [y]) (h.oc false none)
          have d1 := Fo.oc_len e false none
          have d2 := Fo.oc_len g false none
          have d3 := Fo.oc_len h false none
          let TT : List D := [.str Fo.sCs, e.hd, .str L, .str x, g.hd, .str y, h.hd]
          let A1 : D := .lst ((opn kn (e.oc false none)).map D.str ++ (opn (kn ++ [x]) (g.oc false none)).map D.str)
          refine xV (r' := [.v (.tup TT), .v N, .v A1, .un]) ?_
          show wK (xN n) [.v (.tup TT), .v N, .un, .un] = _
          refine yY (eq_w.trans rfl) (yY (eq_w.trans rfl) (seq_tt (eq_w.trans rfl) ?_))
          have ix : ∀ (j : Nat) (d : D) (b : Sl), TT[j]? = some d -> zF ixD (zA 0) (mC (.int j)) [.v (.tup TT), .v N, b, .un] = some d := fun j d b h => ix_t h
          refine yO A1 (ladd (yB (p := .v (.lst ((opn kn (e.oc false none)).map D.str))) (zE (ix 1 _ _ rfl) (zE rfl zO)) rfl c1) (yB (p := .v (.lst ((opn (kn ++ [x]) (g.oc false none)).map D.str))) (zE (ix 4 _ _ rfl) (zE (kn_add (kn := kn) rfl (ix 3 _ _ rfl) (by lia)) zO)) rfl c2) (by simp; lia)) (r2 := [.v (.tup TT), .v N, .v A1, .un]) (by rfl) (xA ?_)
          rw [List.map_append, List.map_append, <- List.append_assoc]
          exact ladd (l := (opn kn (e.oc false none)).map D.str ++ (opn (kn ++ [x]) (g.oc false none)).map D.str) rfl (yB (p := .v (.lst ((opn (kn ++ [y]) (h.oc false none)).map D.str))) (zE (ix 6 _ _ rfl) (zE (kn_add (kn := kn) rfl (ix 5 _ _ rfl) (by lia)) zO)) rfl c3) (by simp; lia)
        · have bw : Fo.binds w = false := by unfold Fo.binds; rw [decide_eq_false cf, decide_eq_false cc]; rfl
          rw [bw]
          obtain ⟨x', lp⟩ := free_loop ih (kn := kn) (T := T) ps none [] .un h2.2.1 (by lia) (by lia) (by simp; lia) trivial
          refine xV (r' := [.v T, .v N, .v (.lst ((opn kn (ps.oc false none)).map D.str)), x']) ?_
          show wK (xN n) [.v T, .v N, .un, .un] = _
          refine yY (eq_w.trans (by show some (decide (w = sNam)) = _; rw [decide_eq_false nw])) (yY (eq_w.trans (by show some (decide (w = Fo.sFn)) = _; rw [decide_eq_false cf])) (yY (eq_w.trans (by show some (decide (w = Fo.sCs)) = _; rw [decide_eq_false cc])) ?_))
          refine yO (.lst []) (xQ zO (by show 0 <= 100; decide)) (r2 := [.v T, .v N, .v (.lst []), .un]) (by rfl) ?_
          have fe : sFor (yF 3) (mIt (mSl (zA 0) (yV (mC (.int 1))) xL)) (bodyO (xN n)) [.v T, .v N, .v (.lst []), .un] = some (.nx [.v T, .v N, .v (.lst ((opn kn (ps.oc false none)).map D.str)), x']) := by
            unfold sFor
            rw [tail_it]
            exact lp
          unfold bodyO at fe
          rw [yP fe]
          rfl
theorem filt_le {α : Type} {p q : α -> Bool} : ∀ {l : List α}, (∀ y ∈ l, q y = true -> p y = true) -> (l.filter q).length <= (l.filter p).length
  | [], _ => Nat.le_refl _
  | a :: l, h => by
    have ih := filt_le (p := p) (q := q) (l := l) fun y hy => h y (by simp [hy])
    cases hq : q a
    · rw [List.filter_cons_of_neg (by simp [hq])]
      cases hp : p a
      · rw [List.filter_cons_of_neg (by simp [hp])]; exact ih
      · rw [List.filter_cons_of_pos hp, List.length_cons]; lia
    · rw [List.filter_cons_of_pos hq, List.filter_cons_of_pos (h a (by simp) hq), List.length_cons, List.length_cons]; lia
theorem filt_lt {α : Type} {p q : α -> Bool} {x : α} : ∀ {l : List α}, (∀ y ∈ l, q y = true -> p y = true) -> x ∈ l -> p x = true -> q x = false -> (l.filter q).length < (l.filter p).length
  | [], _, hx, _, _ => by simp at hx
  | a :: l, h, hx, hp, hq => by
    have hl : ∀ y ∈ l, q y = true -> p y = true := fun y hy => h y (by simp [hy])
    rcases (List.mem_cons).mp hx with rfl | hx
    · have := filt_le hl
      rw [List.filter_cons_of_neg (by simp [hq]), List.filter_cons_of_pos hp, List.length_cons]; lia
    · have ih := filt_lt hl hx hp hq
      cases hqa : q a
      · rw [List.filter_cons_of_neg (by simp [hqa])]
        cases hpa : p a
        · rw [List.filter_cons_of_neg (by simp [hpa])]; exact ih
        · rw [List.filter_cons_of_pos hpa, List.length_cons]; lia
      · rw [List.filter_cons_of_pos hqa, List.filter_cons_of_pos (h a (by simp) hqa), List.length_cons, List.length_cons]; lia
noncomputable def cnt (ns l : List (List Nat)) : Nat := (ns.filter fun x => decide (x ∈ l)).length
noncomputable def bodyC : MS := (zW (yW 4 (zS 2 yE (zB (zA 1) (zB (zF yD (mC (.int 600)) (zF ixD (zA 0) (mC (.int 2)))) zJ))))
 (zW (yW 5 (zF ixD (zA 3) (zF wH (zA 4) (mUn wE (zA 3)))))
 (zW (yW 0 (xJ (zB (xJ (zB (mC (.str [102, 110])) (zB (zA 5) (zB (zF ixD (zA 0) (mC (.int 0))) zJ)))) (zB (zF yD (yM (yI (zB (mC (.str [102, 110])) (zB (zA 5) zJ)))) (zF ixD (zA 0) (mC (.int 1)))) (zB (zF yD (zF ixD (zA 0) (mC (.int 2))) (mC (.int 1))) zJ)))))
 (zW (sIf (mBl (zF gtD (zF wH (zF fdivD (zA 4) (mC (.int 7))) (mC (.int 3))) (mC (.int 0))))
 (zW (yW 6 (mUn strD (zF wH (zF fdivD (zA 4) (mC (.int 21))) (zF powD (mC (.int 10)) (mC (.int 6))))))
 (yW 0 (xJ (zB (xJ (zB (mC (.str [100, 111])) (zB (zF ixD (zA 0) (mC (.int 0))) (zB (xJ (zB (mC (.str [110, 117, 109])) (zB (mUn intOfD (zA 6)) zJ))) zJ)))) (zB (zF yD (zF yD (yM (yI (zB (mC (.str [100, 111])) zJ))) (zF ixD (zA 0) (mC (.int 1)))) (yM (yI (zB (zA 6) zJ)))) (zB (zF yD (zF ixD (zA 0) (mC (.int 2))) (mC (.int 1))) zJ))))))
 xD)
 (yW 3 (yM (qA [5] 2 (mIt (zA 3)) (yF 1) (mBl (zF neA (zA 1) (zA 0))) (zA 1))))))))
theorem comp_ne {x : List Nat} : ∀ (l : List (List Nat)) (y : Sl), fre y -> qV (yF 1) (mBl (zF neA (zA 1) (zA 0))) (zA 1) (l.map D.str) [.v (.str x), y] = some ((l.filter fun z => decide (z ≠ x)).map D.str)
  | [], y, _ => rfl
  | z :: l, y, hy => by
    have ih := comp_ne (x := x) l (.v (.str z)) trivial
    have e1 : yF 1 (.str z) [.v (.str x), y] = some [.v (.str x), .v (.str z)] := yL (x := y) rfl hy
    have e2 : mBl (zF neA (zA 1) (zA 0)) [.v (.str x), .v (.str z)] = some (decide (z ≠ x)) := by
      refine qJ (zV (x := .str z) (y := .str x) rfl rfl ?_)
      show some (D.bl (!decide (z = x))) = _
      by_cases c : z = x <;> simp [c]
    rw [List.map_cons]; unfold qV
    rw [e1, Option.bind_some, e2, Option.bind_some, ih]
    by_cases c : z = x
    · simp [c]
    · simp [c, zA]
theorem intOf_eq {n : Nat} (h : n < 10 ^ 6) : intOfD (.str (qD n)) = some (.int n) := by
  have q := intC_digits n
  have l1 := intC_pos n
  have l6 := intC_len6 h
  show (if qD n ≠ [] /\ (qD n).length <= 600 /\ ((qD n).all fun c => decide (48 <= c) && decide (c <= 57)) = true then some (D.int (PySem.NumText.digitsVal (qD n) : Nat)) else none) = _
  rw [if_pos ⟨fun z => by rw [z] at l1; simp at l1, by lia, by rw [List.all_eq_true]; intro c hc; have := q c hc; simp only [decide_eq_true_eq, Bool.and_eq_true]; exact this⟩, intC_val]
noncomputable def sDo : List Nat := [100, 111]
theorem close_step {ns kn : List (List Nat)} {f : Fo} (hf : Gd ns f) (hns : ∀ x ∈ ns, Fo.nmok x) (hw : f.ws.length <= 1000) {c : Int} {FL : List (List Nat)} (h0 : FL ≠ []) (hl : FL.length <= 2000) (hsub : ∀ x ∈ FL, x ∈ ns) {a b w : Sl} (ha : fre a) (hb : fre b) (hww : fre w) :
    ∃ (x : List Nat) (g : Fo) (a' b' w' : Sl), x ∈ FL /\ Gd ns g /\ g.oc false none = Fo.flt true (some x) (f.oc false none) /\ g.lv <= f.lv + 2 /\ g.pc <= f.pc + 3 /\ g.ws.length <= f.ws.length + 4 /\ fre a' /\ fre b' /\ fre w' /\
      bodyC [.v (itm f), .v (.int c), .v (.lst (kn.map D.str)), .v (.lst (FL.map D.str)), a, b, w] = some (.nx [.v (itm g), .v (.int c), .v (.lst (kn.map D.str)), .v (.lst ((FL.filter fun z => decide (z ≠ x)).map D.str)), a', b', w']) := by
  obtain ⟨n, n0, hm⟩ := mixed_eq c (600 + ((f.lv : Int) - 1))
  have lp : 0 < FL.length := List.length_pos_iff.mpr h0
  have lpi : (0 : Int) < (FL.length : Int) := by lia
  obtain ⟨x, hx, ex⟩ := ix_lit FL (i := n % (FL.length : Int)) (Int.emod_nonneg _ (by lia)) (Int.emod_lt_of_pos _ lpi)
  have l1 := Fo.one_lv hf.one
  have hd := Fo.one_ds hf.one
  have fo := Fo.one_form hf.one
  let K : D := .lst (kn.map D.str)
  let L : D := .lst (FL.map D.str)
  let g1 : Fo := .nd Fo.sFn (.nm x f) .nil
  have G1 : Gd ns g1 := ⟨trivial, ⟨by show look xS Fo.sFn = some (110 :: f.form); rw [fo]; decide, ⟨hns x (hsub x hx), hf.ok⟩, trivial⟩, by show ∀ y ∈ (Fo.nd Fo.sFn (.nm x f) .nil).an, y ∈ ns; simp only [Fo.an, List.append_nil]; exact hf.nm⟩
  have O1 : g1.oc false none = Fo.flt true (some x) (f.oc false none) := by
    show Fo.flt false none ((Fo.nm x f).oc (Fo.binds Fo.sFn) none) ++ [] = _
    show f.oc true (some x) ++ [] = _
    rw [List.append_nil]
    have q := Fo.oc_app hf.one true (some x) .nil
    have e : Fo.app f .nil = f := by
      have hh := hf.one
      rcases f with _ | ⟨y, r⟩ | ⟨y, r⟩ | ⟨y, r⟩ | ⟨y, ps, r⟩ <;> first | (cases hh; done) | skip
      all_goals cases r <;> first | (cases hh; done) | rfl
    rw [e] at q
    rw [q]; simp [Fo.oc]
  have V1 : g1.lv = f.lv + 1 := by show (Fo.nd Fo.sFn (.nm x f) .nil).lv = _; simp only [Fo.lv]; lia
  have P1 : g1.pc = f.pc + 1 := by show (Fo.nd Fo.sFn (.nm x f) .nil).pc = _; simp [Fo.pc]
  have W1 : g1.ws.length = f.ws.length + 2 := by show (Fo.nd Fo.sFn (.nm x f) .nil).ws.length = _; simp [Fo.ws]
  have I1 : itm g1 = .tup [.tup [.str Fo.sFn, .str x, f.hd], .lst (.str Fo.sFn :: .str x :: f.ws.map D.str), .int f.lv] := by
    show itm (.nd Fo.sFn (.nm x f) .nil) = _
    rw [itm_nd]
    simp only [Fo.ds, Fo.ws, Fo.lv, hd, List.map_cons]
  have start : ∀ z, zW (sIf (mBl (zF gtD (zF wH (zF fdivD (zA 4) (mC (.int 7))) (mC (.int 3))) (mC (.int 0))))
      (zW (yW 6 (mUn strD (zF wH (zF fdivD (zA 4) (mC (.int 21))) (zF powD (mC (.int 10)) (mC (.int 6))))))
      (yW 0 (xJ (zB (xJ (zB (mC (.str [100, 111])) (zB (zF ixD (zA 0) (mC (.int 0))) (zB (xJ (zB (mC (.str [110, 117, 109])) (zB (mUn intOfD (zA 6)) zJ))) zJ)))) (zB (zF yD (zF yD (yM (yI (zB (mC (.str [100, 111])) zJ))) (zF ixD (zA 0) (mC (.int 1)))) (yM (yI (zB (zA 6) zJ)))) (zB (zF yD (zF ixD (zA 0) (mC (.int 2))) (mC (.int 1))) zJ))))))
      xD)
      (yW 3 (yM (qA [5] 2 (mIt (zA 3)) (yF 1) (mBl (zF neA (zA 1) (zA 0))) (zA 1)))) [.v (itm g1), .v (.int c), .v K, .v L, .v (.int n), .v (.str x), w] = z -> bodyC [.v (itm f), .v (.int c), .v K, .v L, a, b, w] = z := fun z hz => by
    unfold bodyC
    refine yO (.int n) (yB (p := .v (.int n)) (zE rfl (zE (wZ zI (ix2 (f := f) rfl)) zO)) rfl hm) (r2 := [.v (itm f), .v (.int c), .v K, .v L, .v (.int n), b, w]) (yL (x := a) rfl ha) ?_
    have ln : mUn wE (zA 3) [.v (itm f), .v (.int c), .v K, .v L, .v (.int n), b, w] = some (.int (FL.length : Int)) := un_of (x := L) rfl (by show some (D.int ((FL.map D.str).length : Int)) = _; rw [List.length_map])
    refine yO (.str x) (zV (x := L) rfl (xM rfl ln lpi) ex) (r2 := [.v (itm f), .v (.int c), .v K, .v L, .v (.int n), .v (.str x), w]) (yL (x := b) rfl hb) ?_
    refine yO (itm g1) ?_ (r2 := [.v (itm g1), .v (.int c), .v K, .v L, .v (.int n), .v (.str x), w]) (by rfl) hz
    rw [I1]
    refine xX (zE (xX (zE zI (zE rfl (zE (ix0 (f := f) rfl) zO))) (by show 3 <= 100; decide)) (zE (ladd (l := [.str Fo.sFn, .str x]) (xQ (zE zI (zE rfl zO)) (by show 2 <= 100; decide)) (ix1 (f := f) rfl) (by simp; lia)) (zE (x := .int f.lv) ?_ zO))) (by show 3 <= 100; decide)
    have e : (f.lv : Int) = (f.lv : Int) - 1 + 1 := by lia
    rw [e]
    exact wZ (ix2 (f := f) rfl) zI
  have last : ∀ (g : Fo) (w' : Sl), yW 3 (yM (qA [5] 2 (mIt (zA 3)) (yF 1) (mBl (zF neA (zA 1) (zA 0))) (zA 1))) [.v (itm g), .v (.int c), .v K, .v L, .v (.int n), .v (.str x), w'] = some (.nx [.v (itm g), .v (.int c), .v K, .v (.lst ((FL.filter fun z => decide (z ≠ x)).map D.str)), .v (.int n), .v (.str x), w']) := fun g w' => by
    refine sSet_of (d := .lst ((FL.filter fun z => decide (z ≠ x)).map D.str)) ?_ (by rfl)
    have e : qA [5] 2 (mIt (zA 3)) (yF 1) (mBl (zF neA (zA 1) (zA 0))) (zA 1) [.v (itm g), .v (.int c), .v K, .v L, .v (.int n), .v (.str x), w'] = some ((FL.filter fun z => decide (z ≠ x)).map D.str) := by
      show (if (FL.map D.str).length < sizeLine then qV _ _ _ (FL.map D.str) [.v (.str x), .un] else none) = _
      rw [if_pos (by rw [List.length_map]; exact Nat.lt_of_le_of_lt hl (by decide)), comp_ne _ .un trivial]
    unfold yM
    rw [e]; rfl
  have cd : mBl (zF gtD (zF wH (zF fdivD (zA 4) (mC (.int 7))) (mC (.int 3))) (mC (.int 0))) [.v (itm g1), .v (.int c), .v K, .v L, .v (.int n), .v (.str x), w] = some (decide (0 < n / 7 % 3)) := gt_of (xM (fdiv_of rfl zI (by decide)) zI (by decide)) zI
  by_cases c3 : 0 < n / 7 % 3
  · rw [decide_eq_true c3] at cd
    have k0 : 0 <= n / 21 % 1000000 := Int.emod_nonneg _ (by decide)
    have k1 : n / 21 % 1000000 < 1000000 := Int.emod_lt_of_pos _ (by decide)
    obtain ⟨k, ek⟩ := Int.eq_ofNat_of_zero_le k0
    have hk : k < 10 ^ 6 := by lia
    let g : Fo := .nd sDo (.app g1 (.num k .nil)) .nil
    have l2 := Fo.one_lv G1.one
    have d1 := Fo.one_ds G1.one
    have G : Gd ns g := by
      refine ⟨trivial, ⟨?_, Fo.ok_app _ _ G1.ok ⟨hk, trivial⟩, trivial⟩, ?_⟩
      · rw [Fo.form_app, Fo.one_form G1.one]
        show look xS sDo = some [69, 69]
        decide
      · show ∀ y ∈ (Fo.nd sDo (.app g1 (.num k .nil)) .nil).an, y ∈ ns
        simp only [Fo.an, List.append_nil, Fo.an_app]; exact G1.nm
    have O2 : g.oc false none = g1.oc false none := by
      show Fo.flt false none ((Fo.app g1 (.num k .nil)).oc (Fo.binds sDo) none) ++ [] = _
      rw [List.append_nil, Fo.oc_app G1.one]
      show g1.oc false none ++ [] = _
      rw [List.append_nil]
    have V2 : g.lv = g1.lv + 1 := by show (Fo.nd sDo (.app g1 (.num k .nil)) .nil).lv = _; simp only [Fo.lv, Fo.lv_app]; lia
    have P2 : g.pc = g1.pc + 2 := by show (Fo.nd sDo (.app g1 (.num k .nil)) .nil).pc = _; simp only [Fo.pc, Fo.pc_app]
    have W2 : g.ws.length = g1.ws.length + 2 := by show (Fo.nd sDo (.app g1 (.num k .nil)) .nil).ws.length = _; simp [Fo.ws, Fo.ws_app]
    have I2 : itm g = .tup [.tup [.str sDo, g1.hd, .tup [.str sNum, .int k]], .lst ((.str sDo :: g1.ws.map D.str) ++ [.str (qD k)]), .int g1.lv] := by
      show itm (.nd sDo (.app g1 (.num k .nil)) .nil) = _
      rw [itm_nd, Fo.ds_app, Fo.ws_app, Fo.lv_app, d1]
      have e : max g1.lv (Fo.num k .nil).lv = g1.lv := by simp only [Fo.lv]; lia
      rw [e]
      simp [Fo.ds, Fo.ws]
    refine ⟨x, g, .v (.int n), .v (.str x), .v (.str (qD k)), hx, G, O2.trans O1, by lia, by lia, by lia, trivial, trivial, trivial, start _ ?_⟩
    rw [yP (r' := [.v (itm g), .v (.int c), .v K, .v L, .v (.int n), .v (.str x), .v (.str (qD k))]) ?_]
    · exact last g _
    · rw [sIf_t cd]
      refine yO (.str (qD k)) (un_of (x := .int k) ?_ (if_pos (log_small (Nat.lt_trans hk (by decide))))) (r2 := [.v (itm g1), .v (.int c), .v K, .v L, .v (.int n), .v (.str x), .v (.str (qD k))]) (yL (x := w) rfl hww) ?_
      · have e : (k : Int) = n / 21 % 1000000 := by rw [ek]
        rw [e]
        exact xM (fdiv_of rfl zI (by decide)) (zV zI zI (by simp [powD])) (by decide)
      · refine sSet_of (d := itm g) ?_ (by rfl)
        rw [I2]
        refine xX (zE (xX (zE zI (zE (ix0 (f := g1) rfl) (zE (xX (zE zI (zE (un_of rfl (intOf_eq hk)) zO)) (by show 2 <= 100; decide)) zO))) (by show 3 <= 100; decide)) (zE (ladd (l := .str sDo :: g1.ws.map D.str) (ladd (l := [.str sDo]) (xQ (zE zI zO) (by show 1 <= 100; decide)) (ix1 (f := g1) rfl) (by show 1 + (g1.ws.map D.str).length <= 100000; rw [List.length_map, W1]; lia)) (xQ (zE rfl zO) (by show 1 <= 100; decide)) (by show (g1.ws.map D.str).length + 1 + 1 <= 100000; rw [List.length_map, W1]; lia)) (zE (x := .int g1.lv) ?_ zO))) (by show 3 <= 100; decide)
        have e : (g1.lv : Int) = (g1.lv : Int) - 1 + 1 := by lia
        rw [e]
        exact wZ (ix2 (f := g1) rfl) zI
  · rw [decide_eq_false c3] at cd
    exact ⟨x, g1, .v (.int n), .v (.str x), w, hx, G1, O1, by lia, by lia, by lia, trivial, trivial, hww, start _ (yY cd (last g1 w))⟩
noncomputable abbrev wC (m : Nat) (f : Fo) (c : Int) (kn FL : List (List Nat)) (a b w : Sl) : Option Fl := qL m (mBl (zF neA (zA 3) (yM (yI zJ)))) bodyC [.v (itm f), .v (.int c), .v (.lst (kn.map D.str)), .v (.lst (FL.map D.str)), a, b, w]
theorem ne_nil {f : Fo} {c : Int} {kn FL : List (List Nat)} {a b w : Sl} : mBl (zF neA (zA 3) (yM (yI zJ))) [.v (itm f), .v (.int c), .v (.lst (kn.map D.str)), .v (.lst (FL.map D.str)), a, b, w] = some (decide (FL ≠ [])) := by
  refine qJ (zV (x := .lst (FL.map D.str)) (y := .lst []) rfl (xQ zO (by show 0 <= 100; decide)) ?_)
  show (if (FL.map D.str).all qB = true /\ ([] : List D).all qB = true then some (D.bl (!eqLF (FL.map D.str) [])) else none) = _
  rw [if_pos ⟨flat_strs _, rfl⟩]
  cases FL <;> simp [eqLF]
theorem flt_opn (kn : List (List Nat)) (x : List Nat) (l : List (List Nat)) : ((opn kn l).filter fun z => decide (z ≠ x)) = opn kn (Fo.flt true (some x) l) := by
  unfold opn Fo.flt
  rw [List.filter_filter, List.filter_filter]
  refine List.filter_congr fun y _ => ?_
  by_cases h1 : y ∈ kn <;> by_cases h2 : y = x <;> simp [h1, h2]
theorem close_dec {ns kn : List (List Nat)} (hns : ∀ x ∈ ns, Fo.nmok x) {c : Int} {f : Fo} {a b w : Sl} (hf : Gd ns f) (hw : f.ws.length <= 1000) (ha : fre a) (hb : fre b) (hww : fre w) (h0 : opn kn (f.oc false none) ≠ []) :
    ∃ (g : Fo) (a' b' w' : Sl), Gd ns g /\ cnt ns (opn kn (g.oc false none)) < cnt ns (opn kn (f.oc false none)) /\ g.lv <= f.lv + 2 /\ g.pc <= f.pc + 3 /\ g.ws.length <= f.ws.length + 4 /\ fre a' /\ fre b' /\ fre w' /\ ∀ m, wC (m + 1) f c kn (opn kn (f.oc false none)) a b w = wC m g c kn (opn kn (g.oc false none)) a' b' w' := by
  have sub : ∀ x ∈ opn kn (f.oc false none), x ∈ ns := fun x hx => hf.nm x (Fo.oc_an f false none x (List.mem_filter.mp hx).1)
  have l1 := opn_len kn (f.oc false none)
  have l2 := Fo.oc_len f false none
  obtain ⟨x, g, a', b', w', hx, G, O, V, P, W, fa, fb, fw, st⟩ := close_step (kn := kn) hf hns (by lia) (c := c) h0 (by lia) sub ha hb hww
  refine ⟨g, a', b', w', G, ?_, V, P, W, fa, fb, fw, fun m => ?_⟩
  · rw [O, <- flt_opn]
    unfold cnt
    refine filt_lt (x := x) (fun y _ hy => ?_) (sub x hx) (by simpa using hx) (by simp)
    simp only [decide_eq_true_eq] at hy ⊢
    exact (List.mem_filter.mp hy).1
  · have e1 : wC (m + 1) f c kn (opn kn (f.oc false none)) a b w = wC m g c kn ((opn kn (f.oc false none)).filter fun z => decide (z ≠ x)) a' b' w' := while_go (by rw [ne_nil, decide_eq_true h0]) st
    rw [e1, flt_opn, <- O]
theorem close_loop {ns kn : List (List Nat)} (hns : ∀ x ∈ ns, Fo.nmok x) {c : Int} : ∀ (N : Nat) (f : Fo) (a b w : Sl), Gd ns f -> cnt ns (opn kn (f.oc false none)) <= N -> f.ws.length + 4 * N <= 1000 -> fre a -> fre b -> fre w ->
    ∃ (k : Nat) (g : Fo) (a' b' w' : Sl), k <= N /\ Gd ns g /\ opn kn (g.oc false none) = [] /\ g.lv <= f.lv + 2 * N /\ g.pc <= f.pc + 3 * N /\ g.ws.length <= f.ws.length + 4 * N /\ ∀ m, wC (k + m) f c kn (opn kn (f.oc false none)) a b w = wC m g c kn [] a' b' w' := by
  intro N
  induction N with
  | zero =>
    intro f a b w hf hc hw ha hb hww
    by_cases h0 : opn kn (f.oc false none) = []
    · exact ⟨0, f, a, b, w, Nat.zero_le _, hf, h0, by lia, by lia, by lia, fun m => by rw [h0, Nat.zero_add]⟩
    · obtain ⟨g, a', b', w', G, dec, _⟩ := close_dec hns (c := c) hf (by lia) ha hb hww h0
      lia
  | succ N ih =>
    intro f a b w hf hc hw ha hb hww
    by_cases h0 : opn kn (f.oc false none) = []
    · exact ⟨0, f, a, b, w, Nat.zero_le _, hf, h0, by lia, by lia, by lia, fun m => by rw [h0, Nat.zero_add]⟩
    · obtain ⟨g, a', b', w', G, dec, V, P, W, fa, fb, fw, st⟩ := close_dec hns (c := c) hf (by lia) ha hb hww h0
      obtain ⟨k, r, a2, b2, w2, q1, q2, q3, q4, q5, q6, q7⟩ := ih g a' b' w' G (by lia) (by lia) fa fb fw
      refine ⟨k + 1, r, a2, b2, w2, by lia, q2, q3, by lia, by lia, by lia, fun m => ?_⟩
      rw [show k + 1 + m = k + m + 1 by lia, st (k + m)]
      exact q7 m
theorem closed_eq {ns kn : List (List Nat)} (hn : Nms ns) {c : Int} {f : Fo} (hf : Gd ns f) (hl : f.lv <= 20) (hw : f.ws.length <= 900) (hk : kn.length <= 100) :
    ∃ g : Fo, Gd ns g /\ (∀ x ∈ g.oc false none, x ∈ kn) /\ g.lv <= f.lv + 12 /\ g.pc <= f.pc + 18 /\ g.ws.length <= f.ws.length + 24 /\ ∃ as, F__law_closed [.v (itm f), .v (.int c), .v (.lst (kn.map D.str))] = some (.v (itm g), as) := by
  have cn : cnt ns (opn kn (f.oc false none)) <= 6 := by
    unfold cnt
    have := List.length_filter_le (fun x => decide (x ∈ opn kn (f.oc false none))) ns
    rw [hn.len] at this; exact this
  obtain ⟨k, g, a', b', w', q1, q2, q3, q4, q5, q6, q7⟩ := close_loop (kn := kn) hn.wd (c := c) 6 f .un .un .un hf cn (by lia) trivial trivial trivial
  refine ⟨g, q2, fun x hx => ?_, by lia, by lia, by lia, ?_⟩
  · by_cases h : x ∈ kn
    · exact h
    · exfalso
      have : x ∈ opn kn (g.oc false none) := List.mem_filter.mpr ⟨hx, by simpa using h⟩
      rw [q3] at this; simp at this
  · let K : D := .lst (kn.map D.str)
    have fr := free_ok RF f hf.one hf.ok (by unfold RF; lia) f.hd (Fo.one_ds hf.one) kn (by lia) (by lia)
    refine xV (r' := [.v (itm g), .v (.int c), .v K, .v (.lst []), a', b', w']) ?_
    show g__law_closed [.v (itm f), .v (.int c), .v K, .un, .un, .un, .un] = _
    unfold g__law_closed
    refine yO (.lst ((opn kn (f.oc false none)).map D.str)) (yB (p := .v (.lst ((opn kn (f.oc false none)).map D.str))) (zE (ix0 (f := f) rfl) (zE rfl zO)) rfl fr) (r2 := [.v (itm f), .v (.int c), .v K, .v (.lst ((opn kn (f.oc false none)).map D.str)), .un, .un, .un]) (by rfl) ?_
    have w := q7 (WF - k)
    rw [show k + (WF - k) = WF by unfold WF; lia, show WF - k = (WF - k - 1) + 1 by unfold WF; lia] at w
    unfold wC at w
    rw [while_end (r := [.v (itm g), .v (.int c), .v (.lst (kn.map D.str)), .v (.lst (([] : List (List Nat)).map D.str)), a', b', w']) (by rw [ne_nil]; rfl)] at w
    unfold bodyC at w
    rw [yP w]
    rfl
namespace Fo
noncomputable def prt : Fo -> List Fo
  | nil => []
  | nm _ r => prt r
  | nam x r => nam x nil :: prt r
  | num n r => num n nil :: prt r
  | nd w ps r => nd w ps nil :: prt r
theorem prt_ds : ∀ f : Fo, f.ds.filter isT = f.prt.map hd
  | nil => rfl
  | nm _ r => prt_ds r
  | nam x r => by
    show (D.tup [.str sNam, .str x]) :: (r.ds.filter isT) = _
    rw [prt_ds r]; rfl
  | num x r => by
    show (D.tup [.str sNum, .int x]) :: (r.ds.filter isT) = _
    rw [prt_ds r]; rfl
  | nd w ps r => by
    show (D.tup (.str w :: ps.ds)) :: (r.ds.filter isT) = _
    rw [prt_ds r]; rfl
theorem prt_pc : ∀ f : Fo, (f.prt.map pc).sum = f.pc
  | nil => rfl
  | nm _ r => prt_pc r
  | nam x r => by simp only [prt, List.map_cons, List.sum_cons, prt_pc r, pc]; lia
  | num x r => by simp only [prt, List.map_cons, List.sum_cons, prt_pc r, pc]; lia
  | nd w ps r => by simp only [prt, List.map_cons, List.sum_cons, prt_pc r, pc]; lia
theorem prt_len : ∀ f : Fo, f.prt.length <= f.ws.length
  | nil => by simp [prt]
  | nm _ r => by have := prt_len r; simp [prt, ws]; lia
  | nam x r => by have := prt_len r; simp [prt, ws]; lia
  | num x r => by have := prt_len r; simp [prt, ws]; lia
  | nd w ps r => by have := prt_len r; simp [prt, ws]; lia
theorem prt_ok : ∀ (f : Fo) (p : Option (List Nat)), f.ok -> ∀ e ∈ f.prt, e.one /\ e.ok /\ e.lv <= f.lv /\ e.ws.length <= f.ws.length /\ ∀ x ∈ e.oc false none, x ∈ f.oc false p
  | nil, p, _, e, h => by simp [prt] at h
  | nm y r, p, o, e, h => by
    obtain ⟨h1, h2, h3, h4, h5⟩ := prt_ok r (some y) o.2 e h
    exact ⟨h1, h2, h3, by simp only [ws, List.length_cons]; lia, h5⟩
  | nam y r, p, o, e, h => by
    simp only [prt, List.mem_cons] at h
    rcases h with rfl | h
    · exact ⟨trivial, ⟨o.1, trivial⟩, by simp only [lv]; lia, by simp [ws], fun x hx => by simp [oc, flt] at hx ⊢; exact .inl hx⟩
    · obtain ⟨h1, h2, h3, h4, h5⟩ := prt_ok r none o.2 e h
      exact ⟨h1, h2, by simp only [lv]; lia, by simp only [ws, List.length_cons]; lia, fun x hx => by simp only [oc, List.mem_append]; exact .inr (h5 x hx)⟩
  | num y r, p, o, e, h => by
    simp only [prt, List.mem_cons] at h
    rcases h with rfl | h
    · exact ⟨trivial, ⟨o.1, trivial⟩, by simp only [lv]; lia, by simp [ws], fun x hx => by simp [oc] at hx⟩
    · obtain ⟨h1, h2, h3, h4, h5⟩ := prt_ok r none o.2 e h
      exact ⟨h1, h2, by simp only [lv]; lia, by simp only [ws, List.length_cons]; lia, fun x hx => h5 x hx⟩
  | nd w ps r, p, o, e, h => by
    simp only [prt, List.mem_cons] at h
    rcases h with rfl | h
    · exact ⟨trivial, ⟨o.1, o.2.1, trivial⟩, by simp only [lv]; lia, by simp [ws], fun x hx => by simp [oc, flt] at hx ⊢; exact .inl hx⟩
    · obtain ⟨h1, h2, h3, h4, h5⟩ := prt_ok r none o.2.2 e h
      exact ⟨h1, h2, by simp only [lv]; lia, by simp only [ws, List.length_cons, List.length_append]; lia, fun x hx => by simp only [oc, List.mem_append]; exact .inr (h5 x hx)⟩
end Fo
noncomputable abbrev Sc := Fo × List (List Nat)
noncomputable def sit (q : Sc) : D := .tup [q.1.hd, .lst (q.2.map D.str)]
theorem one_name {e : Fo} (h1 : e.one) (h2 : e.ok) {kn : List (List Nat)} (hs : ∀ x ∈ e.oc false none, x ∈ kn) : ∃ as, xY [.v e.hd, .v (.lst (kn.map D.str))] = some (.v .non, as) := by
  let N : D := .lst (kn.map D.str)
  have key : ∀ (d : D), (qT (mBl (zF eqA (zF ixD (zA 0) (mC (.int 0))) (mC (.str [110, 97, 109, 101])))) (mBl (zF (inD true) (zF ixD (zA 0) (mC (.int 1))) (zA 1)))) [.v d, .v N, .un] = some false -> ∃ as, xY [.v d, .v N] = some (.v .non, as) := fun d c => by
    unfold xY mkF g_refuse_open_name
    show ∃ as, (sIf _ _ _ [.v d, .v N, .un]).bind _ = _
    rw [sIf_f c]
    exact ⟨_, rfl⟩
  have eqw : ∀ (w : List Nat) (t : List D), mBl (zF eqA (zF ixD (zA 0) (mC (.int 0))) (mC (.str [110, 97, 109, 101]))) [.v (.tup (.str w :: t)), .v N, .un] = some (decide (w = sNam)) := fun w t => qJ (zV (zV rfl zI (at_zero _ _)) zI rfl)
  rcases e with _ | ⟨x, r⟩ | ⟨x, r⟩ | ⟨k, r⟩ | ⟨w, ps, r⟩ <;> first | (cases h1; done) | skip
  all_goals cases r <;> first | (cases h1; done) | skip
  · refine key _ ?_
    have hx : x ∈ kn := hs x (by simp [Fo.oc, Fo.flt])
    have e1 := eqw sNam [.str x]
    unfold qT
    rw [show (Fo.nam x .nil).hd = .tup (.str sNam :: [.str x]) from rfl, e1, decide_eq_true rfl, Option.bind_some, if_pos rfl]
    have i1 : zF ixD (zA 0) (mC (.int 1)) [.v (.tup (.str sNam :: [.str x])), .v N, .un] = some (.str x) := zV rfl zI (atI_nat (j := 1) rfl)
    rw [qJ (zV (x := .str x) (y := N) i1 rfl in_names), decide_eq_false (by simpa using hx)]
  · refine key _ ?_
    have e1 := eqw sNum [.int k]
    unfold qT
    rw [show (Fo.num k .nil).hd = .tup (.str sNum :: [.int k]) from rfl, e1, decide_eq_false (by decide)]; rfl
  · refine key _ ?_
    have e1 := eqw w ps.ds
    unfold qT
    rw [show (Fo.nd w ps .nil).hd = .tup (.str w :: ps.ds) from rfl, e1, decide_eq_false (Fo.look_head h2.1).2.2]; rfl
theorem comp_sc {kn : D} : ∀ (l : List D) (y : Sl), fre y -> qV (yF 1) mTrue (xJ (zB (zA 1) (zB (zA 0) zJ))) l [.v kn, y] = some (l.map fun d => .tup [d, kn])
  | [], y, _ => rfl
  | d :: l, y, hy => by
    have ih := comp_sc (kn := kn) l (.v d) trivial
    have e1 : yF 1 d [.v kn, y] = some [.v kn, .v d] := yL (x := y) rfl hy
    have e3 : mTrue [.v kn, .v d] = some true := rfl
    have e2 : xJ (zB (zA 1) (zB (zA 0) zJ)) [.v kn, .v d] = some (.tup [d, kn]) := xX (zE rfl (zE rfl zO)) (by show 2 <= 100; decide)
    unfold qV
    rw [e1, Option.bind_some, e3, Option.bind_some, if_pos rfl, e2, Option.bind_some, ih]; rfl
noncomputable def ScOk (e : Fo) (kn : List (List Nat)) : Prop := ∃ l : List Sc, (∃ as, F_scopes_in [.v e.hd, .v (.lst (kn.map D.str))] = some (.v (.lst (l.map sit)), as)) /\ (l.map fun q => q.1.pc).sum + 1 = e.pc /\ l.length <= e.ws.length /\ ∀ q ∈ l, q.1.one /\ q.1.ok /\ q.1.lv + 1 <= e.lv /\ q.2.length <= kn.length + 1 /\ q.1.ws.length <= e.ws.length /\ ∀ x ∈ q.1.oc false none, x ∈ q.2
theorem scopes_ok {e : Fo} (h1 : e.one) (h2 : e.ok) {kn : List (List Nat)} (hs : ∀ x ∈ e.oc false none, x ∈ kn) (hk : kn.length <= 5000) (hw : e.ws.length <= 5000) :
    ScOk e kn := by
  let N : D := .lst (kn.map D.str)
  have other : ∀ (w : List Nat) (ps : Fo) (t : List D), e.hd = .tup (.str w :: t) -> t.filter isT = ps.prt.map Fo.hd -> (∀ d ∈ t, plain d) -> t.length <= 5000 -> w ≠ Fo.sFn -> w ≠ Fo.sCs -> ps.ok -> ps.pc + 1 = e.pc -> ps.lv + 1 <= e.lv \/ ps.prt = [] -> ps.ws.length <= e.ws.length -> (∀ x ∈ ps.oc false none, x ∈ kn) ->
      ScOk e kn := fun w ps t he ht hp hl cf cc ok pc lv ws oc => by
    unfold ScOk
    refine ⟨ps.prt.map fun f => (f, kn), ?_, ?_, ?_, fun q hq => ?_⟩
    · rw [he]
      refine xV (r' := [.v (.tup (.str w :: t)), .v N, .un, .un]) ?_
      show g_scopes_in [.v (.tup (.str w :: t)), .v N, .un, .un] = _
      refine yY (eq_w.trans (by show some (decide (w = Fo.sFn)) = _; rw [decide_eq_false cf])) (yY (eq_w.trans (by show some (decide (w = Fo.sCs)) = _; rw [decide_eq_false cc])) (xA ?_))
      have ci : zS 1 F_inner (zB (zA 0) zJ) [.v (.tup (.str w :: t)), .v N, .un, .un] = some (.lst (t.filter isT)) := by
        refine yB (p := .v (.lst (t.filter isT))) (zE rfl zO) rfl ?_
        have q := F_inner_eq (l := .str w :: t) (fun d hd => by simp only [List.mem_cons] at hd; rcases hd with rfl | hd; trivial; exact hp d hd) (by rw [List.length_cons]; exact Nat.lt_of_le_of_lt (Nat.succ_le_succ hl) (by decide))
        exact ⟨_, q⟩
      have ll : (t.filter isT).length < sizeLine := Nat.lt_of_le_of_lt (Nat.le_trans (List.length_filter_le _ _) hl) (by decide)
      have cm : wY [1] 2 (mIt (zS 1 F_inner (zB (zA 0) zJ))) (yF 1) (xJ (zB (zA 1) (zB (zA 0) zJ))) [.v (.tup (.str w :: t)), .v N, .un, .un] = some ((t.filter isT).map fun d => .tup [d, N]) := by
        unfold wY qA mIt
        rw [ci]
        show (if (t.filter isT).length < sizeLine then qV _ _ _ (t.filter isT) [.v N, .un] else none) = _
        rw [if_pos ll, comp_sc _ .un trivial]
      unfold yM
      rw [cm, ht, List.map_map, List.map_map]; rfl
    · rw [List.map_map]
      have : ((fun q : Sc => q.1.pc) ∘ fun f => (f, kn)) = Fo.pc := rfl
      rw [this, Fo.prt_pc]; exact pc
    · rw [List.length_map]
      have := Fo.prt_len ps
      lia
    · obtain ⟨f, hf, rfl⟩ := List.mem_map.mp hq
      obtain ⟨a1, a2, a3, a4, a5⟩ := Fo.prt_ok ps none ok f hf
      rcases lv with lv | lv
      · exact ⟨a1, a2, by show f.lv + 1 <= e.lv; lia, by show kn.length <= _; lia, by show f.ws.length <= _; lia, fun x hx => oc x (a5 x hx)⟩
      · rw [lv] at hf; simp at hf
  rcases e with _ | ⟨x, r⟩ | ⟨x, r⟩ | ⟨k, r⟩ | ⟨w, ps, r⟩ <;> first | (cases h1; done) | skip
  all_goals cases r <;> first | (cases h1; done) | skip
  · exact other sNam .nil [.str x] rfl rfl (by intro d hd; simp at hd; subst hd; trivial) (by show 1 <= 5000; decide) (by decide) (by decide) trivial rfl (.inr rfl) (by simp [Fo.ws]) (by simp [Fo.oc])
  · exact other sNum .nil [.int k] rfl rfl (by intro d hd; simp at hd; subst hd; trivial) (by show 1 <= 5000; decide) (by decide) (by decide) trivial rfl (.inr rfl) (by simp [Fo.ws]) (by simp [Fo.oc])
  · have lookw := h2.1
    have ocw : (Fo.nd w ps .nil).oc false none = ps.oc (Fo.binds w) none := by simp [Fo.oc, Fo.flt]
    rw [ocw] at hs
    have wl : (Fo.nd w ps .nil).ws.length = ps.ws.length + 1 := by simp [Fo.ws]
    by_cases cf : w = Fo.sFn
    · subst cf
      have fm : ps.form = [110, 69] := (Option.some.inj (lookw.symm.trans (by decide : look xS Fo.sFn = some [110, 69])))
      obtain ⟨x, r, rfl, fr, nx, ro⟩ := Fo.fm_n fm h2.2.1
      obtain ⟨e, q, e1, e2, rfl, e3, e4, e5, e6, e7⟩ := Fo.fm_e fr ro
      obtain rfl := Fo.fm_0 e3
      have hd := Fo.one_ds e1
      have ds : (Fo.nd Fo.sFn (Fo.nm x (Fo.app e .nil)) .nil).hd = .tup [.str Fo.sFn, .str x, e.hd] := by
        show D.tup (.str Fo.sFn :: (Fo.nm x (Fo.app e .nil)).ds) = _
        simp only [Fo.ds]; rw [Fo.ds_app, hd]; rfl
      have oe : (Fo.nm x (Fo.app e .nil)).oc (Fo.binds Fo.sFn) none = Fo.flt true (some x) (e.oc false none) := by
        show (Fo.app e .nil).oc true (some x) = _
        rw [Fo.oc_app e1]; simp [Fo.oc]
      rw [oe] at hs
      have wle : (Fo.nd Fo.sFn (Fo.nm x (Fo.app e .nil)) .nil).ws.length = e.ws.length + 2 := by simp [Fo.ws, Fo.ws_app]
      have pce : (Fo.nd Fo.sFn (Fo.nm x (Fo.app e .nil)) .nil).pc = e.pc + 1 := by simp [Fo.pc, Fo.pc_app]
      have lve : (Fo.nd Fo.sFn (Fo.nm x (Fo.app e .nil)) .nil).lv = e.lv + 1 := by simp [Fo.lv, Fo.lv_app]
      unfold ScOk
      refine ⟨[(e, kn ++ [x])], ?_, by rw [pce]; simp, by rw [wle]; simp, fun q hq => ?_⟩
      · rw [ds]
        refine xV (r' := [.v (.tup [.str Fo.sFn, .str x, e.hd]), .v N, .un, .un]) ?_
        show g_scopes_in [.v (.tup [.str Fo.sFn, .str x, e.hd]), .v N, .un, .un] = _
        have i1 : zF ixD (zA 0) (mC (.int 1)) [.v (.tup [.str Fo.sFn, .str x, e.hd]), .v N, .un, .un] = some (.str x) := ix_t (j := 1) rfl
        have i2 : zF ixD (zA 0) (mC (.int 2)) [.v (.tup [.str Fo.sFn, .str x, e.hd]), .v N, .un, .un] = some e.hd := ix_t (j := 2) rfl
        exact seq_tt (eq_w.trans rfl) (xA (xQ (zE (xX (zE i2 (zE (kn_add (kn := kn) rfl i1 hk) zO)) (by show 2 <= 100; decide)) zO) (by show 1 <= 100; decide)))
      · simp only [List.mem_singleton] at hq
        subst hq
        refine ⟨e1, e2, by show e.lv + 1 <= _; lia, by simp, by show e.ws.length <= _; lia, fun y hy => ?_⟩
        by_cases c : y = x
        · simp [c]
        · have : y ∈ kn := hs y (by simp [Fo.flt, hy, c])
          simp [this]
    · by_cases cc : w = Fo.sCs
      · subst cc
        have fm : ps.form = [69, 110, 110, 69, 110, 69] := (Option.some.inj (lookw.symm.trans (by decide : look xS Fo.sCs = some [69, 110, 110, 69, 110, 69])))
        obtain ⟨e, q, e1, e2, rfl, e3, e4, e5, e6, e7⟩ := Fo.fm_e fm h2.2.1
        obtain ⟨L, r1, rfl, f1, nL, o1⟩ := Fo.fm_n e3 e4
        obtain ⟨x, r2, rfl, f2, nx, o2⟩ := Fo.fm_n f1 o1
        obtain ⟨g, q2, g1, g2, rfl, g3, g4, g5, g6, g7⟩ := Fo.fm_e f2 o2
        obtain ⟨y, r3, rfl, f3, ny, o3⟩ := Fo.fm_n g3 g4
        obtain ⟨h, q3, k1, k2, rfl, k3, k4, k5, k6, k7⟩ := Fo.fm_e f3 o3
        obtain rfl := Fo.fm_0 k3
        have he := Fo.one_ds e1
        have hg := Fo.one_ds g1
        have hh := Fo.one_ds k1
        simp only [Fo.lv, Fo.ws, List.length_cons] at e6 e7 g5 g6 g7
        let R0 : Fo := .nm L (.nm x (.app g (.nm y (.app h .nil))))
        have ds : (Fo.nd Fo.sCs (Fo.app e R0) .nil).hd = .tup [.str Fo.sCs, e.hd, .str L, .str x, g.hd, .str y, h.hd] := by
          show D.tup (.str Fo.sCs :: (Fo.app e (.nm L (.nm x (.app g (.nm y (.app h .nil)))))).ds) = _
          rw [Fo.ds_app]; simp only [Fo.ds]; rw [Fo.ds_app]; simp only [Fo.ds]; rw [Fo.ds_app, he, hg, hh]; rfl
        have oe : (Fo.app e R0).oc (Fo.binds Fo.sCs) none = e.oc false none ++ (Fo.flt true (some x) (g.oc false none) ++ Fo.flt true (some y) (h.oc false none)) := by
          show (Fo.app e (.nm L (.nm x (.app g (.nm y (.app h .nil)))))).oc true none = _
          rw [Fo.oc_app e1]
          show _ ++ (Fo.app g (.nm y (.app h .nil))).oc true (some x) = _
          rw [Fo.oc_app g1]
          show _ ++ (_ ++ (Fo.app h .nil).oc true (some y)) = _
          rw [Fo.oc_app k1]
          simp [Fo.oc]; rfl
        have hs' : ∀ z ∈ e.oc false none ++ (Fo.flt true (some x) (g.oc false none) ++ Fo.flt true (some y) (h.oc false none)), z ∈ kn := fun z hz => hs z (by show z ∈ (Fo.app e R0).oc (Fo.binds Fo.sCs) none; rw [oe]; exact hz)
        have pce : (Fo.nd Fo.sCs (Fo.app e R0) .nil).pc = e.pc + g.pc + h.pc + 1 := by
          show (Fo.nd Fo.sCs (Fo.app e (.nm L (.nm x (.app g (.nm y (.app h .nil)))))) .nil).pc = _
          simp only [Fo.pc, Fo.pc_app]; lia
        have lve : (Fo.nd Fo.sCs (Fo.app e R0) .nil).lv = max e.lv (max g.lv h.lv) + 1 := by
          show (Fo.nd Fo.sCs (Fo.app e (.nm L (.nm x (.app g (.nm y (.app h .nil)))))) .nil).lv = _
          simp only [Fo.lv, Fo.lv_app, Nat.max_zero]
        have wle : (Fo.nd Fo.sCs (Fo.app e R0) .nil).ws.length = e.ws.length + g.ws.length + h.ws.length + 4 := by
          show (Fo.nd Fo.sCs (Fo.app e (.nm L (.nm x (.app g (.nm y (.app h .nil)))))) .nil).ws.length = _
          simp [Fo.ws, Fo.ws_app]; lia
        show ∃ l : List Sc, (∃ as, F_scopes_in [.v (Fo.nd Fo.sCs (Fo.app e R0) .nil).hd, .v (.lst (kn.map D.str))] = some (.v (.lst (l.map sit)), as)) /\ (l.map fun q => q.1.pc).sum + 1 = (Fo.nd Fo.sCs (Fo.app e R0) .nil).pc /\ l.length <= (Fo.nd Fo.sCs (Fo.app e R0) .nil).ws.length /\ ∀ q ∈ l, q.1.one /\ q.1.ok /\ q.1.lv + 1 <= (Fo.nd Fo.sCs (Fo.app e R0) .nil).lv /\ q.2.length <= kn.length + 1 /\ q.1.ws.length <= (Fo.nd Fo.sCs (Fo.app e R0) .nil).ws.length /\ ∀ x ∈ q.1.oc false none, x ∈ q.2
        rw [ds, pce, lve, wle]
        let TT : List D := [.str Fo.sCs, e.hd, .str L, .str x, g.hd, .str y, h.hd]
        refine ⟨[(e, kn), (g, kn ++ [x]), (h, kn ++ [y])], ?_, by simp <;> lia, by simp <;> lia, fun q hq => ?_⟩
        · let A1 : D := sit (g, kn ++ [x])
          let A2 : D := sit (h, kn ++ [y])
          refine xV (r' := [.v (.tup TT), .v N, .v A1, .v A2]) ?_
          show g_scopes_in [.v (.tup TT), .v N, .un, .un] = _
          have ix : ∀ (j : Nat) (d : D) (b c : Sl), TT[j]? = some d -> zF ixD (zA 0) (mC (.int j)) [.v (.tup TT), .v N, b, c] = some d := fun j d b c h => ix_t h
          refine yY (eq_w.trans rfl) (seq_tt (eq_w.trans rfl) ?_)
          refine yO A1 (xX (zE (ix 4 _ _ _ rfl) (zE (kn_add (kn := kn) rfl (ix 3 _ _ _ rfl) hk) zO)) (by show 2 <= 100; decide)) (r2 := [.v (.tup TT), .v N, .v A1, .un]) (by rfl) ?_
          refine yO A2 (xX (zE (ix 6 _ _ _ rfl) (zE (kn_add (kn := kn) rfl (ix 5 _ _ _ rfl) hk) zO)) (by show 2 <= 100; decide)) (r2 := [.v (.tup TT), .v N, .v A1, .v A2]) (by rfl) (xA ?_)
          exact xQ (zE (xX (zE (ix 1 _ _ _ rfl) (zE rfl zO)) (by show 2 <= 100; decide)) (zE rfl (zE rfl zO))) (by show 3 <= 100; decide)
        · simp only [List.mem_cons, List.not_mem_nil, or_false] at hq
          rcases hq with rfl | rfl | rfl
          · exact ⟨e1, e2, by show e.lv + 1 <= _; lia, by show kn.length <= _; lia, by show e.ws.length <= _; lia, fun z hz => hs' z (by simp at hz ⊢; exact .inl hz)⟩
          · refine ⟨g1, g2, by show g.lv + 1 <= _; lia, by simp, by show g.ws.length <= _; lia, fun z hz => ?_⟩
            by_cases c : z = x
            · simp [c]
            · have hz' : z ∈ g.oc false none := hz
              have : z ∈ kn := hs' z (by simp [Fo.flt, hz', c])
              simp [this]
          · refine ⟨k1, k2, by show h.lv + 1 <= _; lia, by simp, by show h.ws.length <= _; lia, fun z hz => ?_⟩
            by_cases c : z = y
            · simp [c]
            · have hz' : z ∈ h.oc false none := hz
              have : z ∈ kn := hs' z (by simp [Fo.flt, hz', c])
              simp [this]
      · have bw : Fo.binds w = false := by unfold Fo.binds; rw [decide_eq_false cf, decide_eq_false cc]; rfl
        rw [bw] at hs
        have dl := Fo.ds_le ps
        exact other w ps ps.ds rfl (Fo.prt_ds ps) ps.plain_ds (by lia) cf cc h2.2.1 (by simp [Fo.pc]) (.inl (by simp only [Fo.lv]; lia)) (by lia) hs
noncomputable def bodyR : MS := (zW (sSetX 3 (mPop 2))
 (zW (sExpr (zS 2 xY (zB (zF ixD (zA 3) (mC (.int 0))) (zB (zF ixD (zA 3) (mC (.int 1))) zJ))))
 (sX (mExt 2 (zS 2 F_scopes_in (zB (zF ixD (zA 3) (mC (.int 0))) (zB (zF ixD (zA 3) (mC (.int 1))) zJ)))))))
noncomputable abbrev wR (m : Nat) (E K0 : D) (S : List D) (x : Sl) : Option Fl := qL m (mTruB (mOwn 2)) bodyR [.v E, .v K0, .o S, x]
theorem cndR {E K0 : D} {S : List D} {d : D} {x : Sl} : mTruB (mOwn 2) [.v E, .v K0, .o (S ++ [d]), x] = some true := by
  show some (!(S ++ [d]).isEmpty) = _
  simp
noncomputable def Prc (n : Nat) (q : Sc) : Prop := ∀ (E K0 : D) (S : List D) (x : Sl), fre x -> S.length + 5000 * n <= 1000000 -> ∃ x', fre x' /\ ∀ m, wR (q.1.pc + m) E K0 (S ++ [sit q]) x = wR m E K0 S x'
theorem prc_list {E K0 : D} (n : Nat) : ∀ (l : List Sc) (S : List D) (x : Sl), (∀ q ∈ l, Prc n q) -> fre x -> S.length + l.length + 5000 * n <= 1000000 -> ∃ x', fre x' /\ ∀ m, wR ((l.map fun q => q.1.pc).sum + m) E K0 (S ++ l.map sit) x = wR m E K0 S x'
  | [], S, x, _, hx, _ => ⟨x, hx, fun m => by simp⟩
  | q :: l, S, x, h, hx, hl => by
    rw [List.length_cons] at hl
    obtain ⟨x1, f1, e1⟩ := prc_list n l (S ++ [sit q]) x (fun z hz => h z (by simp [hz])) hx (by rw [List.length_append]; simp only [List.length_cons, List.length_nil]; lia)
    obtain ⟨x2, f2, e2⟩ := h q (by simp) E K0 S x1 f1 (by lia)
    refine ⟨x2, f2, fun m => ?_⟩
    have e0 : S ++ (q :: l).map sit = S ++ [sit q] ++ l.map sit := by simp
    rw [e0, List.map_cons, List.sum_cons, show q.1.pc + (l.map fun q => q.1.pc).sum + m = (l.map fun q => q.1.pc).sum + (q.1.pc + m) by lia, e1, e2]
theorem prc_ok : ∀ (n : Nat) (e : Fo) (kn : List (List Nat)), e.one -> e.ok -> e.lv <= n -> (∀ x ∈ e.oc false none, x ∈ kn) -> kn.length + n <= 5000 -> e.ws.length <= 5000 -> Prc n (e, kn)
  | 0, e, kn, h1, _, h3, _, _, _ => by
    have := Fo.one_lv h1
    lia
  | n + 1, e, kn, h1, h2, h3, hs, hk, hw => fun E K0 S x hx hS => by
    obtain ⟨l, ⟨as, sc⟩, pc, ll, al⟩ := scopes_ok h1 h2 hs (by lia) hw
    obtain ⟨as2, on⟩ := one_name h1 h2 hs
    obtain ⟨x', fx, lp⟩ := prc_list (E := E) (K0 := K0) n l S (.v (sit (e, kn))) (fun q hq => by
      obtain ⟨a1, a2, a3, a4, a5, a6⟩ := al q hq
      exact prc_ok n q.1 q.2 a1 a2 (by lia) a6 (by lia) (by lia)) trivial (by lia)
    refine ⟨x', fx, fun m => ?_⟩
    have pc' : (e, kn).1.pc = (l.map fun q => q.1.pc).sum + 1 := pc.symm
    rw [pc', show (l.map fun q => q.1.pc).sum + 1 + m = (l.map fun q => q.1.pc).sum + m + 1 by lia]
    refine (while_go cndR ?_).trans (lp m)
    let N : D := .lst (kn.map D.str)
    let R : En := [.v E, .v K0, .o S, .v (sit (e, kn))]
    unfold bodyR
    rw [yP (r' := R) (sSetX_of (pop_of rfl) (yL (x := x) rfl hx))]
    have i0 : zF ixD (zA 3) (mC (.int 0)) R = some e.hd := zV (x := sit (e, kn)) rfl zI (at_zero _ _)
    have i1 : zF ixD (zA 3) (mC (.int 1)) R = some N := zV (x := sit (e, kn)) rfl zI (atI_nat (j := 1) rfl)
    have c1 : zS 2 xY (zB (zF ixD (zA 3) (mC (.int 0))) (zB (zF ixD (zA 3) (mC (.int 1))) zJ)) R = some .non := yB (p := .v .non) (zE i0 (zE i1 zO)) rfl ⟨as2, on⟩
    rw [yP (r' := R) (by unfold sExpr; rw [c1]; rfl)]
    have c2 : zS 2 F_scopes_in (zB (zF ixD (zA 3) (mC (.int 0))) (zB (zF ixD (zA 3) (mC (.int 1))) zJ)) R = some (.lst (l.map sit)) := yB (p := .v (.lst (l.map sit))) (zE i0 (zE i1 zO)) rfl ⟨as, sc⟩
    exact sX_of (ext_of (S := S) rfl c2 rfl (by rw [List.length_map]; exact Nat.le_trans (by lia : S.length + l.length <= 1005000) (by decide)))
theorem refuse_eq {e : Fo} {kn : List (List Nat)} (h1 : e.one) (h2 : e.ok) (h3 : e.lv <= 40) (hs : ∀ x ∈ e.oc false none, x ∈ kn) (hk : kn.length <= 100) (hw : e.ws.length <= 2000) (hp : e.pc <= 2000) : ∃ as, wO [.v e.hd, .v (.lst (kn.map D.str))] = some (.v .non, as) := by
  let N : D := .lst (kn.map D.str)
  obtain ⟨x', fx, w⟩ := prc_ok 40 e kn h1 h2 h3 hs (by lia) (by lia) e.hd N [] .un trivial (by simp)
  have w1 := w (WF - e.pc)
  rw [show (e, kn).1.pc + (WF - e.pc) = WF by show e.pc + _ = _; unfold WF; lia, show WF - e.pc = (WF - e.pc - 1) + 1 by unfold WF; lia] at w1
  unfold wR at w1
  rw [while_end (by rfl)] at w1
  unfold wO mkF qQ
  show ∃ as, (zW _ _ [.v e.hd, .v N, .un, .un]).bind _ = _
  rw [yP (r' := [.v e.hd, .v N, .o [sit (e, kn)], .un]) (by rfl)]
  unfold bodyR at w1
  simp only [List.nil_append] at w1
  rw [w1]
  exact ⟨_, rfl⟩
open PySem.StrLaws PySem.Builtin.Str
theorem occ_run (s sub : Str) (hi limit lo : Nat) (hw : 1 <= sub.length) : ∀ (m cur : Nat) (st : Array Nat × Nat), ChainG s sub hi lo st.fst.toList st.snd -> ((∀ k, st.snd <= k -> k < cur -> ¬ At s sub hi k) \/ st.fst.size = limit) -> st.fst.size <= limit ->
    ChainG s sub hi lo (forIn (List.range' cur m) st (occBody s sub hi limit)).run.fst.toList (forIn (List.range' cur m) st (occBody s sub hi limit)).run.snd /\
    ((∀ k, (forIn (List.range' cur m) st (occBody s sub hi limit)).run.snd <= k -> k < cur + m -> ¬ At s sub hi k) \/ (forIn (List.range' cur m) st (occBody s sub hi limit)).run.fst.size = limit) /\ (forIn (List.range' cur m) st (occBody s sub hi limit)).run.fst.size <= limit
  | 0, cur, st, h, hn, hl => ⟨h, hn, hl⟩
  | m+1, cur, st, h, hn, hl => by
    rw [List.range'_succ]; rw [List.forIn_cons]
    unfold occBody
    have e : cur + (m + 1) = cur + 1 + m := by lia
    rw [e]
    split
    · rename_i hc
      have hlt : st.fst.size < limit := hc.1.1.1
      have tight : ∀ k, st.snd <= k -> k < cur -> ¬ At s sub hi k := hn.elim id fun z => by lia
      refine occ_run s sub hi limit lo hw m (cur + 1) _ ?_ (.inl ?_) ?_
      · show (ChainG s sub hi lo (st.fst.push cur).toList (cur + sub.length))
        rw [Array.toList_push]
        exact chainG_snoc h hc.1.1.2 ⟨hc.1.2, hc.2⟩ tight
      · intro k h1 h2
        have h1' : cur + sub.length <= k := h1
        lia
      · show (st.fst.push cur).size <= limit
        rw [Array.size_push]; lia
    · rename_i hc
      refine occ_run s sub hi limit lo hw m (cur + 1) _ h ?_ hl
      by_cases hq : st.fst.size = limit
      · exact .inr hq
      · have tight : ∀ k, st.snd <= k -> k < cur -> ¬ At s sub hi k := hn.elim id fun z => absurd z hq
        refine .inl fun k h1 h2 hA => ?_
        by_cases hk : k < cur
        · exact tight k h1 hk hA
        · have ek : (k = cur) := by lia
          subst ek
          exact hc ⟨⟨⟨by lia, h1⟩, hA.1⟩, (hA.2)⟩
theorem occ_lim (x y : Str) (limit : Nat) (hw : 1 <= y.length) : ∃ f, ChainG x y x.length 0 (occurrences x y 0 x.length limit) f /\ ((∀ k, f <= k -> ¬ At x y x.length k) \/ (occurrences x y 0 x.length limit).length = limit) /\ (occurrences x y 0 x.length limit).length <= limit := by
  rw [occ_eq]
  have key := occ_run x y x.length limit 0 hw (x.length + 1 - 0) 0 ((#[] : Array Nat), 0) rfl (.inl fun k _ h => by lia) (by simp)
  refine ⟨_, key.1, ?_, by rw [Array.length_toList]; exact key.2.2⟩
  rcases key.2.1 with z | z
  · exact .inl fun k hk hA => z k hk (by have := hA.1; lia) hA
  · exact .inr (by rw [Array.length_toList]; exact z)
theorem chain_of_G {s sub : Str} {hi : Nat} : ∀ {a : Nat} {cuts : List Nat} {f : Nat}, ChainG s sub hi a cuts f -> ChainTo s sub hi a cuts f
  | _, [], _, h => h
  | _, _ :: _, _, h => ⟨h.1, h.2.1, chain_of_G h.2.2.2⟩
theorem cut_eq {c : Nat} : ∀ {p q t u : List Nat}, c ∉ p -> c ∉ q -> p ++ c :: t = q ++ c :: u -> p = q /\ t = u
  | [], [], t, u, _, _, e => by simp at e; exact ⟨rfl, e⟩
  | [], y :: q, t, u, _, h, e => by
    simp only [List.nil_append, List.cons_append, List.cons.injEq] at e
    exact absurd (by rw [<- e.1]; simp) h
  | x :: p, [], t, u, h, _, e => by
    simp only [List.nil_append, List.cons_append, List.cons.injEq] at e
    exact absurd (by rw [e.1]; simp) h
  | x :: p, y :: q, t, u, h, h', e => by
    simp only [List.cons_append, List.cons.injEq] at e
    obtain ⟨a, b⟩ := cut_eq (c := c) (fun z => h (by simp [z])) (fun z => h' (by simp [z])) e.2
    exact ⟨by rw [e.1, a], b⟩
theorem split3 {a b r : List Nat} (ha : 32 ∉ a) (hb : 32 ∉ b) : splitMS (a ++ 32 :: (b ++ 32 :: r)) [32] 2 = [a, b, r] := by
  let x : Str := ⟨(a ++ 32 :: (b ++ 32 :: r)).toArray⟩
  let y : Str := ⟨#[32]⟩
  have hx : x.cps.toList = a ++ 32 :: (b ++ 32 :: r) := by simp [x]
  have lim : limitOf x 2 = 2 := rfl
  obtain ⟨f, G, T, L⟩ := occ_lim x y 2 (Nat.le_refl 1)
  have C := chain_of_G G
  have jn := join_partsFrom x y (occurrences x y 0 x.length 2) 0 f C
  rw [sub_whole] at jn
  have ne : ∀ (hc : (decide (x.length < y.length) || decide (strKind x < strKind y)) = true), False := fun hc => by
    rcases Bool.or_eq_true _ _ ▸ hc with z | z
    · have z := of_decide_eq_true z
      have : x.length = (a ++ 32 :: (b ++ 32 :: r)).length := qF _
      have y1 : y.length = 1 := rfl
      rw [this, y1] at z
      simp at z
    · have z := kind_free x 32 (of_decide_eq_true z)
      rw [hx] at z
      simp at z
  let P : List Str := partsFrom x y.length 0 (occurrences x y 0 x.length 2)
  have lenP : ∀ (cuts : List Nat) (s : Nat), (partsFrom x y.length s cuts).length = cuts.length + 1 := fun cuts => by
    induction cuts with
    | nil => intro s; rfl
    | cons c t ih => intro s; simp [partsFrom, ih]
  have jl : xZ [32] (P.map fun z => z.cps.toList) = a ++ 32 :: (b ++ 32 :: r) := by
    have e := join_eq [32] (P.map fun z => z.cps.toList)
    rw [List.map_map] at e
    have e1 : (P.map ((fun s => (⟨s.toArray⟩ : Str)) ∘ fun z : Str => z.cps.toList)) = P := by
      conv => rhs; rw [<- List.map_id P]
      exact List.map_congr_left fun z _ => rfl
    rw [e1] at e
    have e2 : Str.join (⟨[32].toArray⟩ : Str) P = x := jn
    rw [e2] at e
    have e3 := congrArg (fun s : Str => s.cps.toList) e
    rw [hx] at e3
    simpa using e3.symm
  have big : 3 <= (splitC 32 (a ++ 32 :: (b ++ 32 :: r))).length := by
    rw [splitC_cut ha, splitC_cut hb]
    have : splitC 32 r ≠ [] := by
      cases r with
      | nil => simp [splitC]
      | cons c t =>
        unfold splitC
        split
        · simp
        · split <;> simp
    have := List.length_pos_iff.mpr this
    simp; lia
  have len2 : (occurrences x y 0 x.length 2).length = 2 := by
    rcases T with T | T
    · by_cases h2 : (occurrences x y 0 x.length 2).length = 2
      · exact h2
      exfalso
      have free := parts_free x 32 (occurrences x y 0 x.length 2) 0 f G T
      have sc := splitC_join (c := 32) (ws := P.map fun z => z.cps.toList) (fun z => by
        have l := congrArg List.length z
        rw [List.length_map] at l
        have := lenP (occurrences x y 0 x.length 2) 0
        have l2 : P.length = (occurrences x y 0 x.length 2).length + 1 := this
        have l0 : P.length = 0 := l
        lia) (fun q hq => by
        obtain ⟨z, hz, rfl⟩ := List.mem_map.mp hq
        exact free z hz)
      rw [jl] at sc
      rw [sc, List.length_map] at big
      have l2 : P.length = (occurrences x y 0 x.length 2).length + 1 := lenP _ 0
      lia
    · exact T
  have res : P.map (fun z => z.cps.toList) = [a, b, r] := by
    have G' := G
    have jl' := jl
    show (partsFrom x y.length 0 (occurrences x y 0 x.length 2)).map (fun z => z.cps.toList) = _
    have jl'' : xZ [32] ((partsFrom x y.length 0 (occurrences x y 0 x.length 2)).map fun z => z.cps.toList) = a ++ 32 :: (b ++ 32 :: r) := jl
    match hocc : occurrences x y 0 x.length 2, len2 with
    | [c1, c2], _ =>
      rw [hocc] at G' jl''
      obtain ⟨g1, g2, g3, g4, g5, g6, g7⟩ := G'
      have b1 : c1 <= x.length := by have := g2.1; lia
      have b2 : c2 <= x.length := by have := g5.1; lia
      have f1 := part_free x 32 0 c1 b1 g3
      have f2 := part_free x 32 (c1 + y.length) c2 b2 g6
      simp only [partsFrom, List.map_cons, List.map_nil] at jl'' ⊢
      have jj : (strSub x 0 c1).cps.toList ++ 32 :: ((strSub x (c1 + y.length) c2).cps.toList ++ 32 :: (strSub x (c2 + y.length) x.length).cps.toList) = a ++ 32 :: (b ++ 32 :: r) := by
        have : xZ [32] [(strSub x 0 c1).cps.toList, (strSub x (c1 + y.length) c2).cps.toList, (strSub x (c2 + y.length) x.length).cps.toList] = a ++ 32 :: (b ++ 32 :: r) := jl''
        simpa [xZ] using this
      obtain ⟨u1, u2⟩ := cut_eq f1 ha jj
      obtain ⟨u3, u4⟩ := cut_eq f2 hb u2
      rw [u1, u3, u4]
  unfold splitMS Txt.splitMax
  rw [if_neg (fun h => ne h), lim]
  have em : (occurrences x y 0 x.length 2).isEmpty = false := by
    cases h : occurrences x y 0 x.length 2 with
    | nil => rw [h] at len2; simp at len2
    | cons c t => rfl
  show (if (occurrences x y 0 x.length 2).isEmpty = true then [x] else partsBetween x (occurrences x y 0 x.length 2) y.length).map (fun z => z.cps.toList) = _
  rw [em, if_neg (by simp), partsBetween_eq]
  exact res
noncomputable def sDef : List Nat := [100, 101, 102]
noncomputable def sMain : List Nat := [109, 97, 105, 110]
noncomputable abbrev Df := List Nat × Fo
noncomputable def lin (q : Df) : List Nat := xZ [32] (sDef :: q.1 :: q.2.ws)
noncomputable def pd (q : Df) : D := .tup [.str q.1, q.2.hd]
theorem join_cons (s : List Nat) {l : List (List Nat)} (h : l ≠ []) : xZ [32] (s :: l) = s ++ 32 :: xZ [32] l := by
  cases l with
  | nil => exact absurd rfl h
  | cons x t => show s ++ [32] ++ xZ [32] (x :: t) = _; simp
theorem lin_eq {q : Df} (h : q.2.one) : lin q = sDef ++ 32 :: (q.1 ++ 32 :: xZ [32] q.2.ws) := by
  unfold lin
  rw [join_cons _ (by simp), join_cons _ (Fo.one_ws h)]
structure Fine (q : Df) (above : List (List Nat)) : Prop where
  nm : Fo.nmok q.1
  new : q.1 ∉ above
  one : q.2.one
  ok : q.2.ok
  lv : q.2.lv <= 31
  pc : q.2.pc <= 80
  ws : q.2.ws.length <= 1500
  oc : ∀ x ∈ q.2.oc false none, x ∈ above ++ [q.1]
theorem lin_len {q : Df} {ab : List (List Nat)} (h : Fine q ab) : (lin q).length <= 20000 := by
  have w := Fo.ws_sum (Fo.ws_ok q.2 h.ok)
  have j := joinC_len 32 (sDef :: q.1 :: q.2.ws)
  have n := h.nm.2.2.1
  have s := h.ws
  simp only [List.length_cons, List.map_cons, List.sum_cons] at j
  unfold lin
  have d : sDef.length = 3 := rfl
  lia
theorem in_no {x : List Nat} {kn : List (List Nat)} : inD false (.str x) (.lst (kn.map D.str)) = some (.bl (decide (x ∈ kn))) := by
  show (if qB (.str x) = true /\ (kn.map D.str).all qB = true then some (D.bl ((kn.map D.str).any fun z => eqF z (.str x))) else none) = _
  rw [if_pos ⟨rfl, flat_strs _⟩, any_eq]
theorem def_eq {q : Df} {ab : List (List Nat)} (h : Fine q ab) (ha : ab.length <= 50) : ∃ as, F_read_def [.v (.str (lin q)), .v (.lst (ab.map D.str))] = some (.v (pd q), as) := by
  obtain ⟨nm, f⟩ := q
  have hl := lin_len h
  have hw : f.ws.length <= 1500 := h.ws
  have hlv : f.lv <= 31 := h.lv
  have hds := Fo.one_ds h.one
  let A : D := .lst (ab.map D.str)
  let t : D := .str (lin (nm, f))
  let rest : List Nat := xZ [32] f.ws
  let W : D := .lst [.str sDef, .str nm, .str rest]
  have sp : mSplitM (zA 0) (mC (.str [32])) 2 [.v t, .v A, .un, .un, .un] = some [.str sDef, .str nm, .str rest] := by
    show (if ([32] : List Nat).length ≠ 0 /\ (lin (nm, f)).length < sizeLine /\ (0 : Int) <= 2 /\ (2 : Int) < 1000 then some ((splitMS (lin (nm, f)) [32] 2).map D.str) else none) = _
    rw [if_pos ⟨by decide, Nat.lt_of_le_of_lt hl (by decide), by decide, by decide⟩, lin_eq h.one, split3 (by decide) h.nm.wd.1]; rfl
  refine xV (r' := [.v t, .v A, .v W, .v (.str nm), .v f.hd]) ?_
  show g_read_def [.v t, .v A, .un, .un, .un] = _
  unfold g_read_def
  refine yO W (by unfold yM; rw [sp]; rfl) (r2 := [.v t, .v A, .v W, .un, .un]) (by rfl) ?_
  have ix : ∀ (j : Nat) (d : D) (b c : Sl), ([.str sDef, .str nm, .str rest] : List D)[j]? = some d -> zF ixD (zA 2) (mC (.int j)) [.v t, .v A, .v W, b, c] = some d := fun j d b c hj => zV (x := W) rfl zI (atI_nat hj)
  have c1 : mOrT (mBl (zF neA (mUn wE (zA 2)) (mC (.int 3)))) (mOrT (mBl (zF neA (zF ixD (zA 2) (mC (.int 0))) (mC (.str [100, 101, 102])))) (wX (qS (zS 1 qE (zB (zF ixD (zA 2) (mC (.int 1))) zJ))))) [.v t, .v A, .v W, .un, .un] = some false := by
    have a1 : mBl (zF neA (mUn wE (zA 2)) (mC (.int 3))) [.v t, .v A, .v W, .un, .un] = some false := rfl
    have a2 : mBl (zF neA (zF ixD (zA 2) (mC (.int 0))) (mC (.str [100, 101, 102]))) [.v t, .v A, .v W, .un, .un] = some false := qJ (zV (ix 0 _ _ _ rfl) zI rfl)
    have a3 : zS 1 qE (zB (zF ixD (zA 2) (mC (.int 1))) zJ) [.v t, .v A, .v W, .un, .un] = some (.bl true) := yB (p := .v (.bl true)) (zE (ix 1 _ _ _ rfl) zO) rfl (name_yes h.nm)
    have a4 : wX (qS (zS 1 qE (zB (zF ixD (zA 2) (mC (.int 1))) zJ))) [.v t, .v A, .v W, .un, .un] = some false := by unfold wX qS; rw [a3]; rfl
    unfold mOrT
    rw [a1, Option.bind_some, if_neg (by simp), a2, Option.bind_some, if_neg (by simp), a4]
  refine yY c1 ?_
  refine yO (.str nm) (ix 1 _ _ _ rfl) (r2 := [.v t, .v A, .v W, .v (.str nm), .un]) (by rfl) ?_
  refine yO f.hd (yB (p := .v f.hd) (zE (ix 2 _ _ _ rfl) zO) rfl (read_eq h.one h.ok hds (by lia) h.lv)) (r2 := [.v t, .v A, .v W, .v (.str nm), .v f.hd]) (by rfl) ?_
  let R : En := [.v t, .v A, .v W, .v (.str nm), .v f.hd]
  obtain ⟨ap, ep⟩ := F_places_eq (f := f) h.one hds (by lia)
  have pcs : f.pl.length = f.pc := Fo.pl_pc f
  have hpc : f.pc <= 80 := h.pc
  have c2 : mBl (zF gtD (mUn wE (yM (mCallF 1 F_places (zB (zA 4) zJ)))) (mC (.int 80))) R = some false := by
    have e : mCallF 1 F_places (zB (zA 4) zJ) R = some f.pl := by
      show (F_places [.v f.hd]).bind _ = _
      rw [ep]; rfl
    have e2 : mUn wE (yM (mCallF 1 F_places (zB (zA 4) zJ))) R = some (.int (f.pl.length : Int)) := by
      unfold mUn yM; rw [e]; rfl
    rw [gt_of e2 zI, decide_eq_false (by lia)]
  refine yY c2 ?_
  have c3 : mBl (zF (inD false) (zA 3) (zA 1)) R = some false := by
    rw [qJ (zV (x := .str nm) (y := A) rfl rfl in_no), decide_eq_false h.new]
  refine yY c3 ?_
  have kn : zF yD (zA 1) (yM (yI (zB (zA 3) zJ))) R = some (.lst ((ab ++ [nm]).map D.str)) := kn_add (kn := ab) rfl rfl (by lia)
  have c4 : zS 2 wO (zB (zA 4) (zB (zF yD (zA 1) (yM (yI (zB (zA 3) zJ)))) zJ)) R = some .non := yB (p := .v .non) (zE rfl (zE kn zO)) rfl (refuse_eq h.one h.ok (by lia) h.oc (by simp; lia) (by lia) (by lia))
  rw [yP (r' := R) (by unfold sExpr; rw [c4]; rfl)]
  exact xA (xX (zE rfl (zE rfl zO)) (by show 2 <= 100; decide))
noncomputable def bodyQ : MS := (sX (mAppZ 2 (zS 2 F_read_def (zB (zA 3) (zB (yM (wY [] 1 (mZs 2) (yF 0) (zF ixD (zA 0) (mC (.int 0))))) zJ)))))
theorem comp_nm : ∀ (l : List Df) (y : Sl), fre y -> qV (yF 0) mTrue (zF ixD (zA 0) (mC (.int 0))) (l.map pd) [y] = some ((l.map Prod.fst).map D.str)
  | [], y, _ => rfl
  | q :: l, y, hy => by
    have ih := comp_nm l (.v (pd q)) trivial
    have e1 : yF 0 (pd q) [y] = some [.v (pd q)] := yL (r := [y]) rfl hy
    have e3 : mTrue [.v (pd q)] = some true := rfl
    have e2 : zF ixD (zA 0) (mC (.int 0)) [.v (pd q)] = some (.str q.1) := zV (x := pd q) rfl zI (at_zero _ _)
    rw [List.map_cons]; unfold qV
    rw [e1, Option.bind_some, e3, Option.bind_some, if_pos rfl, e2, Option.bind_some, ih]; rfl
theorem read_loop {t L : D} : ∀ (B A : List Df) (x : Sl), fre x -> A.length + B.length <= 12 -> (∀ (C : List Df) (q : Df) (E : List Df), A ++ B = C ++ q :: E -> Fine q (C.map Prod.fst)) -> ∃ x', forL (yF 3) bodyQ (B.map fun q => .str (lin q)) [.v t, .v L, .o (A.map pd), x] = some (.nx [.v t, .v L, .o ((A ++ B).map pd), x'])
  | [], A, x, hx, _, _ => ⟨x, by simp [forL]⟩
  | q :: B, A, x, hx, hl, h => by
    rw [List.length_cons] at hl
    have hq := h A q B rfl
    obtain ⟨as, e⟩ := def_eq hq (by rw [List.length_map]; lia)
    obtain ⟨x', ih⟩ := read_loop (t := t) (L := L) B (A ++ [q]) (.v (.str (lin q))) trivial (by rw [List.length_append]; simp only [List.length_cons, List.length_nil]; lia) (fun C r E he => h C r E (by rw [<- he]; simp))
    refine ⟨x', ?_⟩
    let Rz : En := [.v t, .v L, .z (A.map pd), .v (.str (lin q))]
    have cm : wY [] 1 (mZs 2) (yF 0) (zF ixD (zA 0) (mC (.int 0))) Rz = some ((A.map Prod.fst).map D.str) := by
      show (if (A.map pd).length < sizeLine then qV _ _ _ (A.map pd) [.un] else none) = _
      rw [if_pos (by rw [List.length_map]; exact Nat.lt_of_le_of_lt (by lia : A.length <= 12) (by decide)), comp_nm _ .un trivial]
    have cl : zS 2 F_read_def (zB (zA 3) (zB (yM (wY [] 1 (mZs 2) (yF 0) (zF ixD (zA 0) (mC (.int 0))))) zJ)) Rz = some (pd q) := yB (p := .v (pd q)) (zE rfl (zE (by unfold yM; rw [cm]; rfl) zO)) rfl ⟨as, e⟩
    have b : bodyQ [.v t, .v L, .o (A.map pd), .v (.str (lin q))] = some (.nx [.v t, .v L, .o ((A ++ [q]).map pd), .v (.str (lin q))]) := by
      refine sX_of (d := .non) ?_
      unfold mAppZ
      show ((zS 2 F_read_def (zB (zA 3) (zB (yM (wY [] 1 (mZs 2) (yF 0) (zF ixD (zA 0) (mC (.int 0))))) zJ)) Rz).bind _) = _
      rw [cl, Option.bind_some]
      show (if (A.map pd).length < sizeLine then _ else _) = _
      rw [if_pos (by rw [List.length_map]; exact Nat.lt_of_le_of_lt (by lia : A.length <= 12) (by decide)), List.map_append]; rfl
    rw [List.map_cons, for_go (yL (x := x) rfl hx) b, ih]
    simp
namespace Fo
theorem forms10 : ∀ q ∈ xS, 10 ∉ q.1 := by decide
theorem ws_10 : ∀ f : Fo, f.ok -> ∀ x ∈ f.ws, 10 ∉ x
  | nil, _, x, h => by simp [ws] at h
  | nm y r, a, x, h => by
    simp only [ws, List.mem_cons] at h
    rcases h with rfl | h
    · exact fun z => by have := a.1.1 10 z; lia
    · exact ws_10 r a.2 x h
  | nam y r, a, x, h => by
    simp only [ws, List.mem_cons] at h
    rcases h with rfl | h
    · exact fun z => by have := a.1.1 10 z; lia
    · exact ws_10 r a.2 x h
  | num n r, a, x, h => by
    simp only [ws, List.mem_cons] at h
    rcases h with rfl | h
    · exact fun z => by have := intC_digits n 10 z; lia
    · exact ws_10 r a.2 x h
  | nd w ps r, a, x, h => by
    simp only [ws, List.mem_cons, List.mem_append] at h
    rcases h with rfl | h | h
    · exact forms10 _ (look_mem a.1)
    · exact ws_10 ps a.2.1 x h
    · exact ws_10 r a.2.2 x h
end Fo
theorem join_10 : ∀ l : List (List Nat), (∀ x ∈ l, 10 ∉ x) -> 10 ∉ xZ [32] l
  | [], _ => by simp [xZ]
  | [s], h => h s (by simp)
  | s :: t :: r, h => by
    have ih := join_10 (t :: r) fun x hx => h x (by simp at hx ⊢; exact .inr hx)
    show 10 ∉ s ++ [32] ++ xZ [32] (t :: r)
    simp only [List.mem_append, not_or]
    exact ⟨⟨h s (by simp), by simp⟩, ih⟩
theorem lin_10 {q : Df} {ab : List (List Nat)} (h : Fine q ab) : 10 ∉ lin q := by
  refine join_10 _ fun x hx => ?_
  simp only [List.mem_cons] at hx
  rcases hx with rfl | rfl | hx
  · decide
  · exact fun z => by have := h.nm.1 10 z; lia
  · exact Fo.ws_10 q.2 h.ok x hx
structure Prog (Ds : List Df) : Prop where
  all : ∀ (C : List Df) (q : Df) (E : List Df), Ds = C ++ q :: E -> Fine q (C.map Prod.fst)
  few : Ds.length <= 12
  last : ∃ A f, Ds = A ++ [(sMain, f)]
theorem Prog.mem {Ds : List Df} (h : Prog Ds) {q : Df} (hq : q ∈ Ds) : ∃ ab, Fine q ab := by
  obtain ⟨C, E, e⟩ := List.append_of_mem hq
  exact ⟨_, h.all C q E e⟩
noncomputable def txt (Ds : List Df) : List Nat := xZ [10] (Ds.map lin)
theorem sum_le {Ds : List Df} (h : ∀ q ∈ Ds, (lin q).length <= 20000) : ((Ds.map lin).map List.length).sum <= 20000 * Ds.length := by
  induction Ds with
  | nil => simp
  | cons q l ih =>
    have h1 := h q (by simp)
    have h2 := ih fun z hz => h z (by simp [hz])
    (simp only [List.length_cons, List.map_cons, List.sum_cons])
    lia
theorem txt_len {Ds : List Df} (h : Prog Ds) : (txt Ds).length <= 300000 := by
  have s := sum_le (Ds := Ds) fun q hq => (h.mem hq).elim fun ab f => lin_len f
  have j := joinC_len 10 (Ds.map lin)
  have f := h.few
  unfold txt
  rw [List.length_map] at j
  lia
theorem read_prog {Ds : List Df} (h : Prog Ds) : ∃ as, F_read [.v (.str (txt Ds))] = some (.f (Ds.map pd), as) := by
  obtain ⟨A, f, e⟩ := h.last
  have tl := txt_len h
  let t : D := .str (txt Ds)
  let L : D := .lst (Ds.map fun q => .str (lin q))
  have sp : yM (mSplit (zA 0) (mC (.str [10]))) [.v t, .un, .un, .un] = some L := by
    have q : mSplit (zA 0) (mC (.str [10])) [.v t, .un, .un, .un] = some ((Ds.map lin).map D.str) := by
      show (if ([10] : List Nat).length ≠ 0 /\ (txt Ds).length < sizeLine then some ((splitS (txt Ds) [10]).map D.str) else none) = _
      rw [if_pos ⟨by decide, Nat.lt_of_le_of_lt tl (by decide)⟩]
      unfold txt
      rw [splitS_join (c := 10) (by rw [e]; simp) fun x hx => ?_]
      obtain ⟨q, hq, rfl⟩ := List.mem_map.mp hx
      exact (h.mem hq).elim fun ab fn => lin_10 fn
    unfold yM
    rw [q, List.map_map]; rfl
  obtain ⟨x', lp⟩ := read_loop (t := t) (L := L) Ds [] .un trivial (by simpa using h.few) h.all
  unfold F_read mkF g_read
  show ∃ as, (zW _ _ [.v t, .un, .un, .un]).bind _ = _
  rw [yP (r' := [.v t, .v L, .un, .un]) (sSet_of sp (by rfl))]
  have c1 : mBl (zF gtD (mUn wE (zA 1)) (mC (.int 12))) [.v t, .v L, .un, .un] = some false := by
    have ln : mUn wE (zA 1) [.v t, .v L, .un, .un] = some (.int (Ds.length : Int)) := un_of (x := L) rfl (by show some (D.int ((Ds.map fun q => D.str (lin q)).length : Int)) = _; rw [List.length_map])
    have f := h.few
    rw [gt_of ln zI, decide_eq_false (by lia)]
  have fe : sFor (yF 3) (mIt (zA 1)) bodyQ [.v t, .v L, .o [], .un] = some (.nx [.v t, .v L, .o (Ds.map pd), x']) := by
    unfold sFor
    exact lp
  unfold bodyQ at fe
  have ne : mBl (zF neA (zF ixD (mIxB (mOwn 2) (mUn negD (mC (.int 1)))) (mC (.int 0))) (mC (.str [109, 97, 105, 110]))) [.v t, .v L, .o (Ds.map pd), x'] = some false := by
    have i1 : mIxB (mOwn 2) (mUn negD (mC (.int 1))) [.v t, .v L, .o (Ds.map pd), x'] = some (pd (sMain, f)) := by
      show atI (Ds.map pd) (-1) = _
      rw [e, List.map_append]
      exact atI_last _ _
    have i2 : zF ixD (mIxB (mOwn 2) (mUn negD (mC (.int 1)))) (mC (.int 0)) [.v t, .v L, .o (Ds.map pd), x'] = some (.str sMain) := zV i1 zI (at_zero _ _)
    exact qJ (zV i2 zI rfl)
  rw [yY c1 (z := some (.rf (Ds.map pd) [.v t, .v L, .o (Ds.map pd), x'])) ?_]
  · exact ⟨_, rfl⟩
  · rw [yP (r' := [.v t, .v L, .o [], .un]) (by rfl), yP fe]
    exact yY ne rfl
theorem cut_to {α : Type} (s : List α) (k : Nat) : wT s none (some (k : Int)) = s.take k := by
  unfold wT
  rw [HT.sIx_nat, HT.sIx_none, List.drop_zero, Nat.sub_zero, List.take_eq_take_iff]
  lia
theorem cut_from {α : Type} (s : List α) (k : Nat) : wT s (some (k : Int)) none = s.drop k := by
  unfold wT
  rw [HT.sIx_nat, HT.sIx_none, List.take_of_length_le (by rw [List.length_drop]; lia)]
  by_cases h : k <= s.length
  · rw [Nat.min_eq_left h]
  · rw [Nat.min_eq_right (by lia), List.drop_length, List.drop_of_length_le (by lia)]
theorem cut_mid {α : Type} (s : List α) (i k : Nat) : wT s (some (i : Int)) (some (k : Int)) = (s.take k).drop i := by
  unfold wT
  rw [HT.sIx_nat, HT.sIx_nat, List.drop_take]
  by_cases h : i <= s.length
  · rw [Nat.min_eq_left h, List.take_eq_take_iff, List.length_drop]
    by_cases g : k <= s.length
    · rw [Nat.min_eq_left g]
    · rw [Nat.min_eq_right (Nat.le_of_not_le g), Nat.min_self, Nat.min_eq_right (Nat.sub_le_sub_right (Nat.le_of_not_le g) i)]
  · have e1 : s.drop (min i s.length) = [] := List.drop_of_length_le (by lia)
    have e2 : s.drop i = [] := List.drop_of_length_le (by lia)
    rw [e1, e2]; simp
noncomputable def nmk (b : List Nat) (t k : Nat) : List Nat := b.take t ++ (97 + k) :: b.drop t
noncomputable def abm : List Nat := [97, 98, 99, 100, 101, 102, 103, 104, 105, 106, 107, 108, 109]
theorem abm_at {k : Nat} (h : k < 13) : ixD (.str abm) (.int ((0 : Int) + (k : Nat))) = some (.str [97 + k]) := by
  have a : ∀ j : Nat, j < 13 -> abm[j]? = some (97 + j) := by decide
  show (if abm.length <= sizeLine then (atI abm ((0 : Int) + (k : Nat))).map fun c => D.str [c] else none) = _
  rw [if_pos (by decide), show ((0 : Int) + (k : Nat)) = (k : Nat) by lia, atI_nat (a k h)]; rfl
noncomputable def bodyM : MS := (sX (mApp 4 (zF yD (zF yD (mSl (zA 2) xL (yV (zA 3))) (zF ixD (mC (.str [97, 98, 99, 100, 101, 102, 103, 104, 105, 106, 107, 108, 109])) (zA 5))) (mSl (zA 2) (yV (zA 3)) xL))))
theorem dn_loop {c m : D} {b : List Nat} {t : Nat} (hb : b.length <= 20) : ∀ (ks : List Nat) (A : List (List Nat)) (x : Sl), (∀ k ∈ ks, k < 13) -> A.length + ks.length <= 1000 -> fre x ->
    ∃ x', fre x' /\ forL (yF 5) bodyM (ks.map fun k => .int ((0 : Int) + (k : Nat))) [.v c, .v m, .v (.str b), .v (.int t), .o (A.map D.str), x] = some (.nx [.v c, .v m, .v (.str b), .v (.int t), .o ((A ++ ks.map (nmk b t)).map D.str), x'])
  | [], A, x, _, _, hx => ⟨x, hx, by simp [forL]⟩
  | k :: ks, A, x, h, hl, hx => by
    rw [List.length_cons] at hl
    obtain ⟨x', q1, q2⟩ := dn_loop (c := c) (m := m) (t := t) hb ks (A ++ [nmk b t k]) (.v (.int ((0 : Int) + (k : Nat)))) (fun j hj => h j (by simp [hj])) (by simp; lia) trivial
    refine ⟨x', q1, ?_⟩
    have l1 : (b.take t).length <= 20 := by rw [List.length_take]; lia
    have l2 : (b.drop t).length <= 20 := by rw [List.length_drop]; lia
    have bd : bodyM [.v c, .v m, .v (.str b), .v (.int t), .o (A.map D.str), .v (.int ((0 : Int) + (k : Nat)))] = some (.nx [.v c, .v m, .v (.str b), .v (.int t), .o ((A ++ [nmk b t k]).map D.str), .v (.int ((0 : Int) + (k : Nat)))]) := by
      refine sX_of (d := .non) ?_
      have e1 : mSl (zA 2) xL (yV (zA 3)) [.v c, .v m, .v (.str b), .v (.int t), .o (A.map D.str), .v (.int ((0 : Int) + (k : Nat)))] = some (.str (b.take t)) := sl_of (x := .str b) rfl (by rfl) (by rfl) (by rw [sl_str (by lia), cut_to])
      have e2 : mSl (zA 2) (yV (zA 3)) xL [.v c, .v m, .v (.str b), .v (.int t), .o (A.map D.str), .v (.int ((0 : Int) + (k : Nat)))] = some (.str (b.drop t)) := sl_of (x := .str b) rfl (by rfl) (by rfl) (by rw [sl_str (by lia), cut_from])
      have e3 : zF ixD (mC (.str [97, 98, 99, 100, 101, 102, 103, 104, 105, 106, 107, 108, 109])) (zA 5) [.v c, .v m, .v (.str b), .v (.int t), .o (A.map D.str), .v (.int ((0 : Int) + (k : Nat)))] = some (.str [97 + k]) := zV (x := .str abm) zI rfl (abm_at (h k (by simp)))
      have e4 := zV e1 e3 (str_add (by show _ + 1 <= _; lia))
      have e5 := zV e4 e2 (str_add (by rw [List.length_append]; show _ + 1 + _ <= _; lia))
      rw [app_of (S := A.map D.str) rfl e5 (by rw [List.length_map]; exact Nat.lt_of_le_of_lt (by lia : A.length <= 1000) (by decide)), List.map_append]
      unfold nmk
      simp
    rw [List.map_cons, for_go (yL (x := x) rfl hx) bd, q2]
    simp
theorem keptq : ∀ w ∈ wV, 113 ∉ w := by decide
theorem nmk_q {b : List Nat} {t k : Nat} (hq : 113 ∈ b) : 113 ∈ nmk b t k := by
  unfold nmk
  rw [<- List.take_append_drop t b] at hq
  rcases List.mem_append.mp hq with h | h
  · exact List.mem_append.mpr (.inl h)
  · exact List.mem_append.mpr (.inr (List.mem_cons_of_mem _ h))
theorem nmk_ok {b : List Nat} {t k : Nat} (hw : lw b) (hl : b.length <= 7) (hq : 113 ∈ b) (hk : k < 13) : Fo.nmok (nmk b t k) := by
  refine ⟨fun c hc => ?_, ?_, ?_, fun z => keptq _ z (nmk_q hq)⟩
  · unfold nmk at hc
    rcases List.mem_append.mp hc with h | h
    · exact hw c (List.mem_of_mem_take h)
    · rcases List.mem_cons.mp h with h | h
      · lia
      · exact hw c (List.mem_of_mem_drop h)
  · unfold nmk; simp; lia
  · unfold nmk; simp; lia
theorem nmk_inj {b : List Nat} {t k j : Nat} (h : nmk b t k = nmk b t j) : k = j := by
  unfold nmk at h
  have := List.append_cancel_left h
  injection this with h1 h2
  lia
theorem nodup_map {α β : Type} {f : α -> β} (hf : ∀ a b, f a = f b -> a = b) : ∀ {l : List α}, l.Nodup -> (l.map f).Nodup
  | [], _ => by simp
  | x :: l, h => by
    rw [List.nodup_cons] at h
    rw [List.map_cons]; rw [List.nodup_cons]
    refine ⟨fun z => ?_, nodup_map hf h.2⟩
    obtain ⟨y, hy, e⟩ := List.mem_map.mp z
    exact h.1 (hf _ _ e ▸ hy)
theorem rng_of {f : ME} {r : En} {n : Nat} (e : f r = some (.int (n : Int))) (h : n < 1000) : mRng1 f r = some ((List.range n).map fun k => .int ((0 : Int) + (k : Nat))) := by
  have h1 : -(2 ^ 62 : Int) <= (n : Int) /\ (n : Int) < 2 ^ 62 := by constructor <;> lia
  have h2 : DD.intD (.int (n : Int)) = some (n : Int) := by unfold DD.intD; rfl
  unfold mRng1
  rw [e, Option.bind_some, h2, Option.bind_some, if_pos h1, Int.toNat_natCast]
  unfold rngD; rfl
theorem dnames_eq {c : Int} (hc : 0 <= c) {n : Nat} (h13 : n <= 13) : ∃ ns : List (List Nat), ns.length = n /\ (∀ x ∈ ns, Fo.nmok x /\ 113 ∈ x) /\ ns.Nodup /\ ∃ as, F__law_def_names [.v (.int c), .v (.int ((n : Int) + 1))] = some (.v (.lst ((ns ++ [sMain]).map D.str)), as) := by
  obtain ⟨s, w, p, l, k, e⟩ := name_eq hc
  let b : List Nat := [113] ++ wT s none (some 6)
  have c6 : wT s none (some 6) = s.take 6 := cut_to s 6
  have bl : b.length <= 7 := by show ([113] ++ wT s none (some 6)).length <= 7; rw [c6]; simp; lia
  have b1 : 1 <= b.length := by show 1 <= ([113] ++ wT s none (some 6)).length; simp
  have bw : lw b := lw.app (fun c hc => by simp at hc; lia) (w.cut _ _)
  have bq : 113 ∈ b := by show 113 ∈ ([113] ++ wT s none (some 6)); simp
  have m0 : 0 <= c / 3 % (b.length : Int) := Int.emod_nonneg _ (by lia)
  obtain ⟨t, ht⟩ := Int.eq_ofNat_of_zero_le m0
  obtain ⟨x', q1, q2⟩ := dn_loop (c := .int c) (m := .int ((n : Int) + 1)) (b := b) (t := t) (by lia) (List.range n) [] .un (fun k hk => by have := List.mem_range.mp hk; lia) (by simp; lia) trivial
  refine ⟨(List.range n).map (nmk b t), by simp, fun x hx => ?_, nodup_map (fun a b h => nmk_inj h) List.nodup_range, xV (r' := [.v (.int c), .v (.int ((n : Int) + 1)), .v (.str b), .v (.int t), .v (.lst (((List.range n).map (nmk b t)).map D.str)), x']) ?_⟩
  · obtain ⟨k, hk, rfl⟩ := List.mem_map.mp hx
    have := List.mem_range.mp hk
    exact ⟨nmk_ok bw bl bq (by lia), nmk_q bq⟩
  · show qU [.v (.int c), .v (.int ((n : Int) + 1)), .un, .un, .un, .un] = _
    unfold qU
    refine yO (.str b) (zV zI (sl_of (x := .str s) (yB (p := .v (.str s)) (zE rfl zO) rfl e) (by rfl) (by rfl) (sl_str (by lia))) (str_add (by rw [c6, List.length_take]; show 1 + _ <= _; lia))) (r2 := [.v (.int c), .v (.int ((n : Int) + 1)), .v (.str b), .un, .un, .un]) (by rfl) ?_
    have ln : mUn wE (zA 2) [.v (.int c), .v (.int ((n : Int) + 1)), .v (.str b), .un, .un, .un] = some (.int (b.length : Int)) := un_of (x := .str b) rfl (if_pos (Nat.le_trans bl (by decide)))
    have md : zF wH (zF fdivD (zA 0) (mC (.int 3))) (mUn wE (zA 2)) [.v (.int c), .v (.int ((n : Int) + 1)), .v (.str b), .un, .un, .un] = some (.int (t : Int)) := by
      rw [xM (fdiv_of (i := c) rfl zI (by decide)) ln (by lia), ht]
    refine yO (.int t) md (r2 := [.v (.int c), .v (.int ((n : Int) + 1)), .v (.str b), .v (.int t), .un, .un]) (by rfl) ?_
    rw [yP (r' := [.v (.int c), .v (.int ((n : Int) + 1)), .v (.str b), .v (.int t), .o [], .un]) (by rfl)]
    have sb : zF subD (zA 1) (mC (.int 1)) [.v (.int c), .v (.int ((n : Int) + 1)), .v (.str b), .v (.int t), .o [], .un] = some (.int (n : Int)) := by
      rw [zV (x := .int ((n : Int) + 1)) (y := .int 1) (d := .int ((n : Int) + 1 - 1)) rfl zI rfl, Int.add_sub_cancel]
    have fe : sFor (yF 5) (mRng1 (zF subD (zA 1) (mC (.int 1)))) bodyM [.v (.int c), .v (.int ((n : Int) + 1)), .v (.str b), .v (.int t), .o [], .un] = some (.nx [.v (.int c), .v (.int ((n : Int) + 1)), .v (.str b), .v (.int t), .o (((List.range n).map (nmk b t)).map D.str), x']) := by
      unfold sFor
      rw [rng_of sb (by lia)]
      exact q2
    unfold bodyM at fe
    rw [yP fe]
    show xF (zF yD (zA 4) (yM (yI (zB (mC (.str [109, 97, 105, 110])) zJ)))) [.v (.int c), .v (.int ((n : Int) + 1)), .v (.str b), .v (.int t), .v (.lst (((List.range n).map (nmk b t)).map D.str)), x'] = _
    refine xA ?_
    rw [List.map_append]
    exact ladd (m := [.str sMain]) rfl rfl (by simp; lia)
noncomputable def mn (m k : Nat) (l : List (Int × Nat)) : List (Int × Nat) := l.filter fun p => decide (p.2 % m = k)
noncomputable def cel (p : Int × Nat) : D := .tup [.int (p.2 : Nat), .int p.1]
theorem comp_mine {m k : Nat} (hm : 0 < m) : ∀ (l : List (Int × Nat)) (x y : Sl), fre x -> fre y -> qV (qO 2 (yR (yF 2) (yR (yF 3) bdNil))) (mBl (zF eqA (zF wH (zA 2) (zA 0)) (zA 1))) (xJ (zB (zA 2) (zB (zA 3) zJ))) (l.map cel) [.v (.int (m : Int)), .v (.int (k : Int)), x, y] = some ((mn m k l).map cel)
  | [], x, y, _, _ => rfl
  | p :: l, x, y, hx, hy => by
    have ih := comp_mine (k := k) hm l (.v (.int (p.2 : Nat))) (.v (.int p.1)) trivial trivial
    have e1 : qO 2 (yR (yF 2) (yR (yF 3) bdNil)) (cel p) [.v (.int (m : Int)), .v (.int (k : Int)), x, y] = some [.v (.int (m : Int)), .v (.int (k : Int)), .v (.int (p.2 : Nat)), .v (.int p.1)] := by
      show ((yF 2 (.int (p.2 : Nat)) [.v (.int (m : Int)), .v (.int (k : Int)), x, y]).bind fun r1 => (yF 3 (.int p.1) r1).bind fun r2 => some r2) = _
      rw [yL (x := x) rfl hx]
      show ((yF 3 (.int p.1) [.v (.int (m : Int)), .v (.int (k : Int)), .v (.int (p.2 : Nat)), y]).bind fun r2 => some r2) = _
      rw [yL (x := y) rfl hy]; rfl
    let R : En := [.v (.int (m : Int)), .v (.int (k : Int)), .v (.int (p.2 : Nat)), .v (.int p.1)]
    have e2 : mBl (zF eqA (zF wH (zA 2) (zA 0)) (zA 1)) R = some (decide (p.2 % m = k)) := by
      have a : zF wH (zA 2) (zA 0) R = some (.int ((p.2 : Int) % (m : Int))) := xM rfl rfl (by lia)
      rw [qJ (zV a (y := .int (k : Int)) rfl eq_int)]
      congr 1
      rw [decide_eq_decide]
      lia
    have e3 : xJ (zB (zA 2) (zB (zA 3) zJ)) R = some (cel p) := xX (zE rfl (zE rfl zO)) (by show 2 <= 100; decide)
    rw [List.map_cons]; unfold qV
    rw [e1, Option.bind_some, e2, Option.bind_some, e3, Option.bind_some, ih]
    unfold mn
    rw [List.filter_cons]
    by_cases h : p.2 % m = k
    · simp [h]
    · simp [h]
theorem mn_len (m k : Nat) (l : List Int) : (mn m k l.zipIdx).length = ((List.range l.length).filter fun j => decide (j % m = k)).length := by
  have e : (List.range l.length) = l.zipIdx.map Prod.snd := by rw [List.zipIdx_map_snd, List.range_eq_range']
  rw [e, List.filter_map, List.length_map]; rfl
noncomputable def few (m k n : Nat) : Bool := decide (((List.range n).filter fun j => decide (j % m = k)).length <= 30)
theorem few_all : ((List.range 7).all fun m => (List.range 61).all fun n => decide (m = 0) || decide (m < 1 + (n - 1) / 26) || ((List.range 7).all fun k => few m k n)) = true := by decide +kernel
theorem mn_few {m k : Nat} {l : List Int} (h1 : 0 < m) (h2 : m < 7) (hk : k < m) (hn : l.length <= 60) (hm : 1 + (l.length - 1) / 26 <= m) : (mn m k l.zipIdx).length <= 30 := by
  have a := few_all
  rw [List.all_eq_true] at a
  have b := a m (List.mem_range.mpr h2)
  rw [List.all_eq_true] at b
  have c := b l.length (List.mem_range.mpr (by lia))
  simp only [Bool.or_eq_true, decide_eq_true_eq] at c
  rcases c with (c | c) | c
  · lia
  · lia
  · rw [List.all_eq_true] at c
    have d := c k (List.mem_range.mpr (by lia))
    unfold few at d
    rw [mn_len]
    exact of_decide_eq_true d
noncomputable def bodyG : MS := (yW 10 (zS 4 F__law_grown (zB (zA 10) (zB (zA 12) (zB (zA 11) (zB (zA 8) zJ))))))
theorem grow_loop {ns : List (List Nat)} (hn : Nms ns) {a0 a1 a2 a3 a4 a5 a6 a7 a9 a13 : Sl} : ∀ (L : List (Int × Nat)) (fs : List Fo) (x y : Sl), (∀ f ∈ fs, Gd ns f /\ f.lv <= 11) -> fs ≠ [] -> tw fs + 4 * L.length <= 900 -> fre x -> fre y ->
    ∃ qs x' y', (∀ f ∈ qs, Gd ns f /\ f.lv <= 11) /\ qs ≠ [] /\ tw qs <= tw fs + 4 * L.length /\ tp qs = tp fs + L.length /\ fre x' /\ fre y' /\
      forL (qO 2 (yR (yF 11) (yR (yF 12) bdNil))) bodyG (L.map cel) [a0, a1, a2, a3, a4, a5, a6, a7, .v (.lst (ns.map D.str)), a9, .v (.lst (fs.map itm)), x, y, a13] = some (.nx [a0, a1, a2, a3, a4, a5, a6, a7, .v (.lst (ns.map D.str)), a9, .v (.lst (qs.map itm)), x', y', a13])
  | [], fs, x, y, hf, h0, _, hx, hy => ⟨fs, x, y, hf, h0, by simp, by simp, hx, hy, rfl⟩
  | p :: L, fs, x, y, hf, h0, ht, hx, hy => by
    rw [List.length_cons] at ht
    obtain ⟨gs, g1, g2, g3, g4, as, ge⟩ := grown_eq (c := p.1) (k := (p.2 : Nat)) hn hf (by lia)
    obtain ⟨qs, x', y', q1, q2, q3, q4, q5, q6, q7⟩ := grow_loop hn (a0 := a0) (a1 := a1) (a2 := a2) (a3 := a3) (a4 := a4) (a5 := a5) (a6 := a6) (a7 := a7) (a9 := a9) (a13 := a13) L gs (.v (.int (p.2 : Nat))) (.v (.int p.1)) g1 g2 (by lia) trivial trivial
    refine ⟨qs, x', y', q1, q2, by rw [List.length_cons]; lia, by rw [List.length_cons]; lia, q5, q6, ?_⟩
    have e1 : qO 2 (yR (yF 11) (yR (yF 12) bdNil)) (cel p) [a0, a1, a2, a3, a4, a5, a6, a7, .v (.lst (ns.map D.str)), a9, .v (.lst (fs.map itm)), x, y, a13] = some [a0, a1, a2, a3, a4, a5, a6, a7, .v (.lst (ns.map D.str)), a9, .v (.lst (fs.map itm)), .v (.int (p.2 : Nat)), .v (.int p.1), a13] := by
      show ((yF 11 (.int (p.2 : Nat)) [a0, a1, a2, a3, a4, a5, a6, a7, .v (.lst (ns.map D.str)), a9, .v (.lst (fs.map itm)), x, y, a13]).bind fun r1 => (yF 12 (.int p.1) r1).bind fun r2 => some r2) = _
      rw [yL (x := x) rfl hx]
      show ((yF 12 (.int p.1) [a0, a1, a2, a3, a4, a5, a6, a7, .v (.lst (ns.map D.str)), a9, .v (.lst (fs.map itm)), .v (.int (p.2 : Nat)), y, a13]).bind fun r2 => some r2) = _
      rw [yL (x := y) rfl hy]; rfl
    have e2 : bodyG [a0, a1, a2, a3, a4, a5, a6, a7, .v (.lst (ns.map D.str)), a9, .v (.lst (fs.map itm)), .v (.int (p.2 : Nat)), .v (.int p.1), a13] = some (.nx [a0, a1, a2, a3, a4, a5, a6, a7, .v (.lst (ns.map D.str)), a9, .v (.lst (gs.map itm)), .v (.int (p.2 : Nat)), .v (.int p.1), a13]) := by
      refine sSet_of (d := .lst (gs.map itm)) ?_ (by rfl)
      exact yB (p := .v (.lst (gs.map itm))) (zE rfl (zE rfl (zE rfl (zE rfl zO)))) rfl ⟨as, ge⟩
    rw [List.map_cons, for_go e1 e2, q7]
noncomputable def dd (q : Df) : D := .tup [.str q.1, itm q.2]
noncomputable def bodyD : MS := (zW (yW 7 (mSl (zA 4) (yV (mMax (zB (mC (.int 0)) (zB (zF subD (zA 6) (mC (.int 2))) zJ)))) (yV (zF yD (zA 6) (mC (.int 1))))))
 (zW (yW 8 (zF yD (mSl (zS 1 F__law_names (zB (zS 2 yE (zB (zA 2) (zB (zA 6) zJ))) zJ)) xL (yV (zF subD (mC (.int 6)) (mUn wE (zA 7))))) (zA 7)))
 (zW (yW 9 (yM (qA [3, 6] 4 (mEnum (zA 0)) (qO 2 (yR (yF 2) (yR (yF 3) bdNil))) (mBl (zF eqA (zF wH (zA 2) (zA 0)) (zA 1))) (xJ (zB (zA 2) (zB (zA 3) zJ))))))
 (zW (yW 10 (yM (yI (zB (zS 3 F__law_leaf (zB (zA 2) (zB (zS 2 yE (zB (zA 2) (zB (zF yD (mC (.int 20)) (zA 6)) zJ))) (zB (zA 8) zJ)))) zJ))))
 (zW (sFor (qO 2 (yR (yF 11) (yR (yF 12) bdNil))) (mIt (zA 9))
 (yW 10 (zS 4 F__law_grown (zB (zA 10) (zB (zA 12) (zB (zA 11) (zB (zA 8) zJ)))))))
 (zW (yW 13 (zS 3 F__law_closed (zB (zS 3 F__law_folded (zB (zA 10) (zB (zA 2) (zB (zA 8) zJ)))) (zB (zA 2) (zB (mSl (zA 4) xL (yV (zF yD (zA 6) (mC (.int 1))))) zJ)))))
 (sX (mApp 5 (xJ (zB (zF ixD (zA 4) (zA 6)) (zB (zA 13) zJ)))))))))))
theorem sl_lst {l : List D} {lo hi : Option Int} : slD (.lst l) lo hi = some (.lst (wT l lo hi)) := rfl
theorem map_cut (l : List (List Nat)) (i k : Nat) : ((l.map D.str).take k).drop i = ((l.take k).drop i).map D.str := by rw [List.map_drop, List.map_take]
theorem max0 (k : Nat) : max (0 : Int) ((k : Int) - 2) = ((k - 2 : Nat) : Int) := by lia
noncomputable def Frm (cs : List Int) (f s : Int) (m : Nat) (cl : List (List Nat)) (L : List D) (r : List Sl) : En := [.v (.lst (cs.map D.int)), .v (.int f), .v (.int s), .v (.int (m : Int)), .v (.lst (cl.map D.str)), .o L] ++ r
theorem one_def {cs : List Int} {f s : Int} {m : Nat} {cl : List (List Nat)} {L : List D} {k : Nat} (hk : k < m) (hm : m < 7) (hcl : cl.length = m) (hok : ∀ x ∈ cl, Fo.nmok x) (hcs : cs.length <= 60) (hmm : 1 + (cs.length - 1) / 26 <= m) (hL : L.length <= 100)
    {b7 b8 b9 b10 b11 b12 b13 : Sl} (h7 : fre b7) (h8 : fre b8) (h9 : fre b9) (h10 : fre b10) (h11 : fre b11) (h12 : fre b12) (h13 : fre b13) :
    ∃ (q : Fo) (c7 c8 c9 c10 c11 c12 c13 : Sl), (q.one /\ q.ok /\ q.lv <= 28 /\ q.pc <= 80 /\ q.ws.length <= 1000 /\ ∀ x ∈ q.oc false none, x ∈ cl.take (k + 1)) /\ (fre c7 /\ fre c8 /\ fre c9 /\ fre c10 /\ fre c11 /\ fre c12 /\ fre c13) /\
      bodyD (Frm cs f s m cl L [.v (.int ((0 : Int) + (k : Nat))), b7, b8, b9, b10, b11, b12, b13]) = some (.nx (Frm cs f s m cl (L ++ [dd (cl.getD k [], q)]) [.v (.int ((0 : Int) + (k : Nat))), c7, c8, c9, c10, c11, c12, c13])) := by
  have k0 : ((0 : Int) + (k : Nat)) = (k : Int) := by lia
  rw [k0]
  let ab : List (List Nat) := (cl.take (k + 1)).drop (k - 2)
  have abl : ab.length <= 3 := by show ((cl.take (k + 1)).drop (k - 2)).length <= 3; rw [List.length_drop, List.length_take]; lia
  have abm : ∀ x ∈ ab, x ∈ cl := fun x hx => List.mem_of_mem_take (List.mem_of_mem_drop hx)
  obtain ⟨mx, mx0, hmx⟩ := mixed_eq s (k : Int)
  obtain ⟨nl, nl6, nlok, hnl⟩ := names_eq mx
  let ns : List (List Nat) := nl.take (6 - ab.length) ++ ab
  have hn : Nms ns := ⟨by show (nl.take (6 - ab.length) ++ ab).length = 6; rw [List.length_append, List.length_take]; lia, fun x hx => by
    rcases List.mem_append.mp hx with h | h
    · exact nlok x (List.mem_of_mem_take h)
    · exact hok x (abm x h)⟩
  let C : D := .lst (cs.map D.int)
  let S0 : List Sl := [.v C, .v (.int f), .v (.int s), .v (.int (m : Int)), .v (.lst (cl.map D.str)), .o L]
  let mine := mn m k cs.zipIdx
  have mfew : mine.length <= 30 := mn_few (by lia) hm hk hcs hmm
  obtain ⟨m2, _, hm2⟩ := mixed_eq s (20 + (k : Int))
  obtain ⟨lf, f1, f2, f3, f4, hlf⟩ := leaf_eq (c := s) (n := m2) hn
  have tw1 : tw [lf] <= 4 := by show (([lf].map fun f => f.ws.length).sum) <= 4; simpa using f4
  have tp1 : tp [lf] = 1 := by show (([lf].map fun f => f.pc).sum) = 1; simpa using f3
  obtain ⟨qs, x', y', q1, q2, q3, q4, q5, q6, q7⟩ := grow_loop hn (a0 := .v C) (a1 := .v (.int f)) (a2 := .v (.int s)) (a3 := .v (.int (m : Int))) (a4 := .v (.lst (cl.map D.str))) (a5 := .o L) (a6 := .v (.int (k : Int))) (a7 := .v (.lst (ab.map D.str))) (a9 := .v (.lst (mine.map cel))) (a13 := b13) mine [lf] b11 b12 (fun z hz => by simp at hz; subst hz; exact ⟨f1, by lia⟩) (by simp) (by lia) h11 h12
  have ql := tw_len (ns := ns) (fs := qs) (fun z hz => (q1 z hz).1)
  have qlen : qs.length <= tp qs := by
    have : ∀ l : List Fo, (∀ z ∈ l, Gd ns z) -> l.length <= tp l := fun l => by
      induction l with
      | nil => intro _; simp
      | cons z l ih =>
        intro h
        have a := ih fun y hy => h y (by simp [hy])
        have b : 1 <= z.pc := by
          have o := (h z (by simp)).one
          rcases z with _ | ⟨x, r⟩ | ⟨x, r⟩ | ⟨n, r⟩ | ⟨w, ps, r⟩ <;> first | (cases o; done) | (simp only [Fo.pc]; lia)
        show l.length + 1 <= ((z :: l).map fun f => f.pc).sum
        rw [List.map_cons]; rw [List.sum_cons]
        show _ <= z.pc + tp l
        lia
    exact this qs fun z hz => (q1 z hz).1
  obtain ⟨fo, fo1, fo2, fo3, fo4, hfo⟩ := fold_eq' hn (c := s) q1 q2 (by lia) (by lia)
  obtain ⟨g, g1, g2, g3, g4, g5, hg⟩ := closed_eq (kn := cl.take (k + 1)) hn (c := s) fo1 (by lia) (by lia) (by rw [List.length_take]; lia)
  refine ⟨g, .v (.lst (ab.map D.str)), .v (.lst (ns.map D.str)), .v (.lst (mine.map cel)), .v (.lst (qs.map itm)), x', y', .v (itm g), ⟨g1.one, g1.ok, by lia, by lia, by lia, g2⟩, ⟨trivial, trivial, trivial, trivial, q5, q6, trivial⟩, ?_⟩
  let Z : List Sl -> En := fun r => .v C :: .v (.int f) :: .v (.int s) :: .v (.int (m : Int)) :: .v (.lst (cl.map D.str)) :: .o L :: .v (.int (k : Int)) :: r
  let Z' : List Sl -> En := fun r => .v C :: .v (.int f) :: .v (.int s) :: .v (.int (m : Int)) :: .v (.lst (cl.map D.str)) :: .o (L ++ [dd (cl.getD k [], g)]) :: .v (.int (k : Int)) :: r
  let A7 : Sl := .v (.lst (ab.map D.str))
  let A8 : Sl := .v (.lst (ns.map D.str))
  let A9 : Sl := .v (.lst (mine.map cel))
  let A10 : Sl := .v (.lst (qs.map itm))
  show bodyD (Z [b7, b8, b9, b10, b11, b12, b13]) = some (.nx (Z' [A7, A8, A9, A10, x', y', .v (itm g)]))
  unfold bodyD
  have e7 : mSl (zA 4) (yV (mMax (zB (mC (.int 0)) (zB (zF subD (zA 6) (mC (.int 2))) zJ)))) (yV (zF yD (zA 6) (mC (.int 1)))) (Z [b7, b8, b9, b10, b11, b12, b13]) = some (.lst (ab.map D.str)) := by
    have a1 : mMax (zB (mC (.int 0)) (zB (zF subD (zA 6) (mC (.int 2))) zJ)) (Z [b7, b8, b9, b10, b11, b12, b13]) = some (.int ((k - 2 : Nat) : Int)) := by
      rw [max2_of (i := 0) (j := (k : Int) - 2) zI (zV (x := .int (k : Int)) rfl zI rfl), max0]
    have a2 : zF yD (zA 6) (mC (.int 1)) (Z [b7, b8, b9, b10, b11, b12, b13]) = some (.int ((k + 1 : Nat) : Int)) := by
      rw [wZ (i := (k : Int)) rfl zI]; rfl
    refine sl_of (x := .lst (cl.map D.str)) rfl (osome_of a1) (osome_of a2) ?_
    rw [sl_lst, cut_mid, map_cut]
  refine yO (.lst (ab.map D.str)) e7 (yL (x := b7) rfl h7) ?_
  show zW _ _ (Z [A7, b8, b9, b10, b11, b12, b13]) = _
  have e8 : zF yD (mSl (zS 1 F__law_names (zB (zS 2 yE (zB (zA 2) (zB (zA 6) zJ))) zJ)) xL (yV (zF subD (mC (.int 6)) (mUn wE (zA 7))))) (zA 7) (Z [A7, b8, b9, b10, b11, b12, b13]) = some (.lst (ns.map D.str)) := by
    have a1 : zS 1 F__law_names (zB (zS 2 yE (zB (zA 2) (zB (zA 6) zJ))) zJ) (Z [A7, b8, b9, b10, b11, b12, b13]) = some (.lst (nl.map D.str)) := yB (p := .v (.lst (nl.map D.str))) (zE (yB (p := .v (.int mx)) (zE rfl (zE rfl zO)) rfl hmx) zO) rfl hnl
    have a2 : zF subD (mC (.int 6)) (mUn wE (zA 7)) (Z [A7, b8, b9, b10, b11, b12, b13]) = some (.int ((6 - ab.length : Nat) : Int)) := by
      rw [zV (x := .int 6) (y := .int ((ab.map D.str).length : Int)) (d := .int (6 - ((ab.map D.str).length : Int))) zI (un_of (x := .lst (ab.map D.str)) rfl rfl) rfl, List.length_map, show (6 : Int) - (ab.length : Int) = ((6 - ab.length : Nat) : Int) by lia]
    have a3 := sl_of (lo := xL) (a := none) a1 rfl (osome_of a2) sl_lst
    rw [cut_to, <- List.map_take] at a3
    have a4 := ladd (g := zA 7) (m := ab.map D.str) a3 rfl (by simp; lia)
    rw [a4, <- List.map_append]
  refine yO (.lst (ns.map D.str)) e8 (yL (x := b8) rfl h8) ?_
  show zW _ _ (Z [A7, A8, b9, b10, b11, b12, b13]) = _
  have en : enumD (cs.map D.int) = cs.zipIdx.map cel := by
    unfold enumD
    rw [List.zipIdx_map, List.map_map]; rfl
  have e9 : yM (qA [3, 6] 4 (mEnum (zA 0)) (qO 2 (yR (yF 2) (yR (yF 3) bdNil))) (mBl (zF eqA (zF wH (zA 2) (zA 0)) (zA 1))) (xJ (zB (zA 2) (zB (zA 3) zJ)))) (Z [A7, A8, b9, b10, b11, b12, b13]) = some (.lst (mine.map cel)) := by
    unfold yM qA
    show ((if (enumD (cs.map D.int)).length < sizeLine then qV _ _ _ (enumD (cs.map D.int)) [.v (.int (m : Int)), .v (.int (k : Int)), .un, .un] else none).map D.lst) = _
    rw [if_pos (by unfold enumD; simp only [List.length_map, List.length_zipIdx]; exact Nat.lt_of_le_of_lt hcs (by decide)), en, comp_mine (by lia) _ .un .un trivial trivial]; rfl
  refine yO (.lst (mine.map cel)) e9 (yL (x := b9) rfl h9) ?_
  show zW _ _ (Z [A7, A8, A9, b10, b11, b12, b13]) = _
  have e10 : yM (yI (zB (zS 3 F__law_leaf (zB (zA 2) (zB (zS 2 yE (zB (zA 2) (zB (zF yD (mC (.int 20)) (zA 6)) zJ))) (zB (zA 8) zJ)))) zJ)) (Z [A7, A8, A9, b10, b11, b12, b13]) = some (.lst ([lf].map itm)) :=
    xQ (zE (yB (p := .v (itm lf)) (zE rfl (zE (yB (p := .v (.int m2)) (zE rfl (zE (wZ zI rfl) zO)) rfl hm2) (zE rfl zO))) rfl hlf) zO) (by show 1 <= 100; decide)
  refine yO (.lst ([lf].map itm)) e10 (yL (x := b10) rfl h10) ?_
  show zW _ _ (Z [A7, A8, A9, .v (.lst ([lf].map itm)), b11, b12, b13]) = _
  have fe : sFor (qO 2 (yR (yF 11) (yR (yF 12) bdNil))) (mIt (zA 9)) bodyG (Z [A7, A8, A9, .v (.lst ([lf].map itm)), b11, b12, b13]) = some (.nx (Z [A7, A8, A9, A10, x', y', b13])) := by
    unfold sFor
    exact q7
  unfold bodyG at fe
  rw [yP fe]
  have kc : k < cl.length := by lia
  have e13 : zS 3 F__law_closed (zB (zS 3 F__law_folded (zB (zA 10) (zB (zA 2) (zB (zA 8) zJ)))) (zB (zA 2) (zB (mSl (zA 4) xL (yV (zF yD (zA 6) (mC (.int 1))))) zJ))) (Z [A7, A8, A9, A10, x', y', b13]) = some (itm g) := by
    have a2 : zF yD (zA 6) (mC (.int 1)) (Z [A7, A8, A9, A10, x', y', b13]) = some (.int ((k + 1 : Nat) : Int)) := by
      rw [wZ (i := (k : Int)) rfl zI]; rfl
    have a3 := sl_of (f := zA 4) (lo := xL) (a := none) (x := .lst (cl.map D.str)) rfl rfl (osome_of a2) sl_lst
    rw [cut_to, <- List.map_take] at a3
    exact yB (p := .v (itm g)) (zE (yB (p := .v (itm fo)) (zE rfl (zE rfl (zE rfl zO))) rfl hfo) (zE rfl (zE a3 zO))) rfl hg
  refine yO (itm g) e13 (yL (x := b13) rfl h13) ?_
  show sX _ (Z [A7, A8, A9, A10, x', y', .v (itm g)]) = _
  have e6 : zF ixD (zA 4) (zA 6) (Z [A7, A8, A9, A10, x', y', .v (itm g)]) = some (.str (cl.getD k [])) :=
    zV (x := .lst (cl.map D.str)) (y := .int (k : Int)) rfl rfl (atI_nat (by simp [kc]))
  have e5 : xJ (zB (zF ixD (zA 4) (zA 6)) (zB (zA 13) zJ)) (Z [A7, A8, A9, A10, x', y', .v (itm g)]) = some (dd (cl.getD k [], g)) := xX (zE e6 (zE rfl zO)) (by show 2 <= 100; decide)
  exact sX_of (d := .non) (app_of (S := L) rfl e5 (Nat.lt_of_le_of_lt hL (by decide)))
noncomputable def Sound (cl : List (List Nat)) (i : Nat) (q : Df) : Prop := q.1 = cl.getD i [] /\ q.2.one /\ q.2.ok /\ q.2.lv <= 28 /\ q.2.pc <= 80 /\ q.2.ws.length <= 1000 /\ ∀ x ∈ q.2.oc false none, x ∈ cl.take (i + 1)
noncomputable def AllS (cl : List (List Nat)) (Ds : List Df) : Prop := ∀ (i : Nat) (q : Df), Ds[i]? = some q -> Sound cl i q
theorem defs_loop {cs : List Int} {f s : Int} {m : Nat} {cl : List (List Nat)} (hm : m < 7) (hcl : cl.length = m) (hok : ∀ x ∈ cl, Fo.nmok x) (hcs : cs.length <= 60) (hmm : 1 + (cs.length - 1) / 26 <= m) : ∀ (n k : Nat) (Ds : List Df) (b6 b7 b8 b9 b10 b11 b12 b13 : Sl), k + n = m -> Ds.length = k -> AllS cl Ds -> fre b6 -> fre b7 -> fre b8 -> fre b9 -> fre b10 -> fre b11 -> fre b12 -> fre b13 ->
    ∃ (Es : List Df) (r : List Sl), Es.length = m /\ AllS cl Es /\ forL (yF 6) bodyD ((List.range' k n).map fun j => .int ((0 : Int) + (j : Nat))) (Frm cs f s m cl (Ds.map dd) [b6, b7, b8, b9, b10, b11, b12, b13]) = some (.nx (Frm cs f s m cl (Es.map dd) r))
  | 0, k, Ds, b6, b7, b8, b9, b10, b11, b12, b13, h, hl, ha, _, _, _, _, _, _, _, _ => ⟨Ds, _, by lia, ha, rfl⟩
  | n + 1, k, Ds, b6, b7, b8, b9, b10, b11, b12, b13, h, hl, ha, h6, h7, h8, h9, h10, h11, h12, h13 => by
    obtain ⟨q, c7, c8, c9, c10, c11, c12, c13, ⟨q1, q2, q3, q4, q5, q6⟩, ⟨d7, d8, d9, d10, d11, d12, d13⟩, e⟩ := one_def (cs := cs) (f := f) (s := s) (L := Ds.map dd) (k := k) (by lia) hm hcl hok hcs hmm (by rw [List.length_map]; lia) h7 h8 h9 h10 h11 h12 h13
    obtain ⟨Es, r, e1, e2, e3⟩ := defs_loop (f := f) (s := s) hm hcl hok hcs hmm n (k + 1) (Ds ++ [(cl.getD k [], q)]) (.v (.int ((0 : Int) + (k : Nat)))) c7 c8 c9 c10 c11 c12 c13 (by lia) (by simp; lia) (fun i p hp => by
      rw [List.getElem?_append] at hp
      split at hp
      · exact ha i p hp
      · rename_i hi
        have : i = k := by
          cases hz : i - Ds.length with
          | zero => lia
          | succ z => rw [hz] at hp; simp at hp
        subst this
        rw [hl, Nat.sub_self] at hp
        simp at hp
        subst hp
        exact ⟨rfl, q1, q2, q3, q4, q5, q6⟩) trivial d7 d8 d9 d10 d11 d12 d13
    refine ⟨Es, r, e1, e2, ?_⟩
    have e0 : yF 6 (.int ((0 : Int) + (k : Nat))) (Frm cs f s m cl (Ds.map dd) [b6, b7, b8, b9, b10, b11, b12, b13]) = some (Frm cs f s m cl (Ds.map dd) [.v (.int ((0 : Int) + (k : Nat))), b7, b8, b9, b10, b11, b12, b13]) := yL (x := b6) rfl h6
    rw [List.range'_succ, List.map_cons, for_go e0 e]
    rw [List.map_append] at e3
    exact e3
theorem nd_get {l : List (List Nat)} (h : l.Nodup) {n : Nat} (hi : n < l.length) : l.getD n [] ∉ l.take n := by
  induction l generalizing n with
  | nil => simp
  | cons x l ih =>
    rw [List.nodup_cons] at h
    cases n with
    | zero => simp
    | succ n =>
      have hi' : n < l.length := by simpa using hi
      have a := ih h.2 hi'
      rw [List.take_succ_cons, List.getD_cons_succ, List.mem_cons, not_or]
      refine ⟨fun e => h.1 ?_, a⟩
      rw [<- e, List.getD_eq_getElem?_getD, List.getElem?_eq_getElem hi']
      exact List.getElem_mem hi'
theorem take_get {l : List (List Nat)} {i : Nat} (hi : i < l.length) : l.take (i + 1) = l.take i ++ [l.getD i []] := by
  rw [List.take_succ, List.getD_eq_getElem?_getD, List.getElem?_eq_getElem hi]; rfl
theorem fst_all {cl : List (List Nat)} {Es : List Df} (hl : Es.length = cl.length) (h : AllS cl Es) : Es.map Prod.fst = cl := by
  apply List.ext_getElem?
  intro i
  rw [List.getElem?_map]
  by_cases hi : i < Es.length
  · have a := h i Es[i] (List.getElem?_eq_getElem hi)
    rw [List.getElem?_eq_getElem hi, Option.map_some, a.1, List.getElem?_eq_getElem (by lia), List.getD_eq_getElem?_getD, List.getElem?_eq_getElem (by lia)]; rfl
  · rw [List.getElem?_eq_none (by lia), List.getElem?_eq_none (by lia)]; rfl
theorem prog_of {ns : List (List Nat)} {Es : List Df} (hl : Es.length = ns.length + 1) (h12 : Es.length <= 12) (hok : ∀ x ∈ ns, Fo.nmok x /\ 113 ∈ x) (hnd : ns.Nodup) (h : AllS (ns ++ [sMain]) Es) : Prog Es := by
  have hm : sMain ∉ ns := fun z => by have := (hok _ z).2; revert this; decide
  have nd : (ns ++ [sMain]).Nodup := by
    rw [List.nodup_append]
    exact ⟨hnd, by simp, fun a ha b hb => by simp at hb; subst hb; intro e; subst e; exact hm ha⟩
  have mo : Fo.nmok sMain := ⟨by decide, by decide, by decide, by decide⟩
  have ok : ∀ x ∈ ns ++ [sMain], Fo.nmok x := fun x hx => by
    rcases List.mem_append.mp hx with z | z
    · exact (hok x z).1
    · simp at z; subst z; exact mo
  have lc : Es.length = (ns ++ [sMain]).length := by simp [hl]
  have fa := fst_all lc h
  refine ⟨fun C q E e => ?_, h12, ?_⟩
  · have ci : Es[C.length]? = some q := by rw [e]; simp
    obtain ⟨a1, a2, a3, a4, a5, a6, a7⟩ := h C.length q ci
    have cl : C.length < (ns ++ [sMain]).length := by rw [<- lc, e]; simp
    have cf : C.map Prod.fst = (ns ++ [sMain]).take C.length := by
      rw [<- fa, e, List.map_append, List.take_append_of_le_length (by simp), List.take_of_length_le (by simp)]
    rw [cf]
    refine ⟨?_, ?_, a2, a3, by lia, a5, by lia, fun x hx => ?_⟩
    · rw [a1, List.getD_eq_getElem?_getD, List.getElem?_eq_getElem cl]; exact ok _ (List.getElem_mem cl)
    · rw [a1]; exact nd_get nd cl
    · have := a7 x hx
      rw [take_get cl, <- a1] at this
      exact this
  · have ne : Es ≠ [] := fun z => by rw [z] at hl; simp at hl
    obtain ⟨a1, _⟩ := h (Es.length - 1) (Es.getLast ne) (by rw [List.getLast_eq_getElem]; exact List.getElem?_eq_getElem (by lia))
    have e1 : (Es.getLast ne).1 = sMain := by
      rw [a1, hl, Nat.add_sub_cancel, List.getD_eq_getElem?_getD]; simp
    refine ⟨Es.dropLast, (Es.getLast ne).2, ?_⟩
    rw [<- e1]
    exact (List.dropLast_concat_getLast ne).symm
theorem defs_eq {cs : List Int} {f s : Int} (hf : 0 <= f) (hs : 0 <= s) (hcs : cs.length <= 60) : ∃ Ds, Prog Ds /\ ∃ as, F__law_defs [.v (.lst (cs.map D.int)), .v (.int f), .v (.int s)] = some (.f (Ds.map dd), as) := by
  have f5 : 0 <= f % 5 := Int.emod_nonneg _ (by decide)
  have f5' : f % 5 < 5 := Int.emod_lt_of_pos _ (by decide)
  have f4 : 0 <= f / 5 % 4 := Int.emod_nonneg _ (by decide)
  have f4' : f / 5 % 4 < 4 := Int.emod_lt_of_pos _ (by decide)
  let M : Int := max ((cs.length : Int) - 1) (f % 5)
  have M0 : 0 <= M := Int.le_trans f5 (Int.le_max_right _ _)
  have M1 : (cs.length : Int) - 1 <= M := Int.le_max_left _ _
  have M2 : M <= 59 := Int.max_le.mpr ⟨by lia, by lia⟩
  obtain ⟨n, hn⟩ := Int.eq_ofNat_of_zero_le (a := M / 26 + f / 5 % 4) (by lia)
  have n6 : n < 6 := by lia
  have hmm : 1 + (cs.length - 1) / 26 <= n + 1 := by lia
  obtain ⟨ns, nl, nok, nnd, hns⟩ := dnames_eq hs (n := n) (by lia)
  have mo : Fo.nmok sMain := ⟨by decide, by decide, by decide, by decide⟩
  obtain ⟨Es, r, e1, e2, e3⟩ := defs_loop (cs := cs) (f := f) (s := s) (m := n + 1) (cl := ns ++ [sMain]) (by lia) (by simp [nl]) (fun x hx => by
    rcases List.mem_append.mp hx with z | z
    · exact (nok x z).1
    · simp at z; subst z; exact mo) hcs hmm (n + 1) 0 [] .un .un .un .un .un .un .un .un (by lia) rfl (fun i q h => by simp at h) trivial trivial trivial trivial trivial trivial trivial trivial
  refine ⟨Es, prog_of (by lia) (by lia) nok nnd e2, ?_⟩
  let C : D := .lst (cs.map D.int)
  unfold F__law_defs mkF
  show ∃ as, (g__law_defs [.v C, .v (.int f), .v (.int s), .un, .un, .un, .un, .un, .un, .un, .un, .un, .un, .un]).bind _ = _
  unfold g__law_defs
  have a1 : zF yD (zF yD (mC (.int 1)) (zF fdivD (mMax (zB (zF subD (mUn wE (zA 0)) (mC (.int 1))) (zB (zF wH (zA 1) (mC (.int 5))) zJ))) (mC (.int 26)))) (zF wH (zF fdivD (zA 1) (mC (.int 5))) (mC (.int 4))) [.v C, .v (.int f), .v (.int s), .un, .un, .un, .un, .un, .un, .un, .un, .un, .un, .un] = some (.int ((n + 1 : Nat) : Int)) := by
    have b1 : mMax (zB (zF subD (mUn wE (zA 0)) (mC (.int 1))) (zB (zF wH (zA 1) (mC (.int 5))) zJ)) [.v C, .v (.int f), .v (.int s), .un, .un, .un, .un, .un, .un, .un, .un, .un, .un, .un] = some (.int M) := by
      have b2 : zF subD (mUn wE (zA 0)) (mC (.int 1)) [.v C, .v (.int f), .v (.int s), .un, .un, .un, .un, .un, .un, .un, .un, .un, .un, .un] = some (.int (((cs.map D.int).length : Int) - 1)) := zV (x := .int ((cs.map D.int).length : Int)) (un_of (x := C) rfl rfl) zI rfl
      have b3 : zF wH (zA 1) (mC (.int 5)) [.v C, .v (.int f), .v (.int s), .un, .un, .un, .un, .un, .un, .un, .un, .un, .un, .un] = some (.int (f % 5)) := xM rfl zI (by decide)
      rw [max2_of b2 b3, List.length_map]
    rw [wZ (wZ zI (fdiv_of b1 zI (by decide))) (xM (fdiv_of (i := f) rfl zI (by decide)) zI (by decide)), show 1 + M / 26 + f / 5 % 4 = ((n + 1 : Nat) : Int) by lia]
  rw [yP (r' := [.v C, .v (.int f), .v (.int s), .v (.int ((n + 1 : Nat) : Int)), .un, .un, .un, .un, .un, .un, .un, .un, .un, .un]) (sSet_of a1 (by rfl))]
  have a2 : zS 2 F__law_def_names (zB (zA 2) (zB (zA 3) zJ)) [.v C, .v (.int f), .v (.int s), .v (.int ((n + 1 : Nat) : Int)), .un, .un, .un, .un, .un, .un, .un, .un, .un, .un] = some (.lst ((ns ++ [sMain]).map D.str)) := yB (p := .v (.lst ((ns ++ [sMain]).map D.str))) (zE rfl (zE rfl zO)) rfl hns
  rw [yP (r' := [.v C, .v (.int f), .v (.int s), .v (.int ((n + 1 : Nat) : Int)), .v (.lst ((ns ++ [sMain]).map D.str)), .un, .un, .un, .un, .un, .un, .un, .un, .un]) (sSet_of a2 (by rfl))]
  rw [yP (r' := [.v C, .v (.int f), .v (.int s), .v (.int ((n + 1 : Nat) : Int)), .v (.lst ((ns ++ [sMain]).map D.str)), .o [], .un, .un, .un, .un, .un, .un, .un, .un]) (by rfl)]
  have rg : mRng1 (zA 3) [.v C, .v (.int f), .v (.int s), .v (.int ((n + 1 : Nat) : Int)), .v (.lst ((ns ++ [sMain]).map D.str)), .o [], .un, .un, .un, .un, .un, .un, .un, .un] = some ((List.range (n + 1)).map fun k => .int ((0 : Int) + (k : Nat))) := rng_of rfl (by lia)
  have fe : sFor (yF 6) (mRng1 (zA 3)) bodyD [.v C, .v (.int f), .v (.int s), .v (.int ((n + 1 : Nat) : Int)), .v (.lst ((ns ++ [sMain]).map D.str)), .o [], .un, .un, .un, .un, .un, .un, .un, .un] = some (.nx (Frm cs f s (n + 1) (ns ++ [sMain]) (Es.map dd) r)) := by
    unfold sFor
    rw [rg, List.range_eq_range']
    exact e3
  unfold bodyD at fe
  rw [yP fe]
  exact ⟨_, rfl⟩
theorem join_of {f : ME} {fl : ML} {r : En} {sep : List Nat} {l : List (List Nat)} (e1 : f r = some (.str sep)) (e2 : fl r = some (l.map D.str)) (h : (l.map List.length).sum + l.length * sep.length <= 16777216) : mJoin f fl r = some (.str (xZ sep l)) := by
  unfold mJoin
  rw [e1, Option.bind_some]
  show ((fl r).bind fun l => (strsD l).bind fun ss => if (ss.map List.length).sum + ss.length * sep.length <= 16777216 then some (D.str (xZ sep ss)) else none) = _
  rw [e2, Option.bind_some, strs_ok, Option.bind_some, if_pos h]
theorem bd2 {a b : D} {x y : Sl} (hx : fre x) (hy : fre y) : qO 2 (yR (yF 0) (yR (yF 1) bdNil)) (.tup [a, b]) [x, y] = some [.v a, .v b] := by
  show ((yF 0 a [x, y]).bind fun r1 => (yF 1 b r1).bind fun r2 => some r2) = _
  rw [yL (x := x) rfl hx]
  show ((yF 1 b [.v a, y]).bind fun r2 => some r2) = _
  rw [yL (x := y) rfl hy]; rfl
theorem comp2 {α : Type} {g : ME} {a b u : α -> D} : ∀ (l : List α) (x y : Sl), fre x -> fre y -> (∀ q ∈ l, g [.v (a q), .v (b q)] = some (u q)) -> qV (qO 2 (yR (yF 0) (yR (yF 1) bdNil))) mTrue g (l.map fun q => .tup [a q, b q]) [x, y] = some (l.map u)
  | [], _, _, _, _, _ => rfl
  | q :: l, x, y, hx, hy, h => by
    have ih := comp2 (g := g) (a := a) (b := b) (u := u) l (.v (a q)) (.v (b q)) trivial trivial fun z hz => h z (by simp [hz])
    rw [List.map_cons]; unfold qV
    have e3 : mTrue [.v (a q), .v (b q)] = some true := rfl
    rw [bd2 hx hy, Option.bind_some, e3, Option.bind_some, if_pos rfl, h q (by simp), Option.bind_some, ih]; rfl
theorem comp_lst {α : Type} {it : ML} {g : ME} {r : En} {l : List α} {a b u : α -> D} (e : it r = some (l.map fun q => .tup [a q, b q])) (hl : l.length <= 1000) (h : ∀ q ∈ l, g [.v (a q), .v (b q)] = some (u q)) : wY [] 2 it (qO 2 (yR (yF 0) (yR (yF 1) bdNil))) g r = some (l.map u) := by
  unfold wY qA
  rw [e, Option.bind_some]
  rw [if_pos (by rw [List.length_map]; exact Nat.lt_of_le_of_lt hl (by decide))]
  exact comp2 l .un .un trivial trivial h
noncomputable def sd (q : Df) : D := .tup [.str q.1, .str (xZ [32] q.2.ws)]
theorem shdefs_eq {Ds : List Df} (h : Prog Ds) : ∃ as, F_shown_defs [.v (.lst (Ds.map pd))] = some (.v (.lst (Ds.map sd)), as) := by
  refine xV (r' := [.v (.lst (Ds.map pd))]) ?_
  show g_shown_defs [.v (.lst (Ds.map pd))] = _
  unfold g_shown_defs
  refine xA ?_
  have f := h.few
  unfold yM
  rw [comp_lst (l := Ds) (a := fun q => .str q.1) (b := fun q => q.2.hd) (u := sd) rfl (by lia) fun q hq => ?_]
  · rfl
  · obtain ⟨ab, fn⟩ := h.mem hq
    have hw := fn.ws
    exact xX (zE rfl (zE (yB (p := .v (.str (xZ [32] q.2.ws))) (zE rfl zO) rfl (F_shown_eq fn.one fn.ok (Fo.one_ds fn.one) (by lia))) zO)) (by show 2 <= 100; decide)
theorem fstr4 {a b : List Nat} {r : En} (e0 : zA 0 r = some (.str a)) (e1 : zA 1 r = some (.str b)) (h : a.length + b.length <= 100000) : mFstr (jE (mC (.str [100, 101, 102, 32])) (jE (zA 0) (jE (mC (.str [32])) (jE (zA 1) jNil)))) r = some (.str (sDef ++ 32 :: (a ++ 32 :: b))) := by
  have j : jE (mC (.str [100, 101, 102, 32])) (jE (zA 0) (jE (mC (.str [32])) (jE (zA 1) jNil))) r = some [[100, 101, 102, 32], a, [32], b] := by
    unfold jE
    rw [e0, e1]; rfl
  unfold mFstr
  rw [j, Option.bind_some, if_pos (by simp only [List.map_cons, List.map_nil, List.sum_cons, List.sum_nil, List.length_cons, List.length_nil]; exact Nat.le_trans (by lia : _ <= 100005) (by decide))]
  unfold sDef
  simp
theorem shown_eq {Ds : List Df} (h : Prog Ds) : ∃ as, F_shown [.v (.lst (Ds.map pd))] = some (.v (.str (txt Ds)), as) := by
  refine xV (r' := [.v (.lst (Ds.map pd))]) ?_
  show g_shown [.v (.lst (Ds.map pd))] = _
  unfold g_shown
  refine xA ?_
  have f := h.few
  have sl := sum_le (Ds := Ds) fun q hq => (h.mem hq).elim fun ab fn => lin_len fn
  refine join_of zI ?_ (by simp only [List.length_map, List.length_cons, List.length_nil]; lia)
  have ed : mIt (zS 1 F_shown_defs (zB (zA 0) zJ)) [.v (.lst (Ds.map pd))] = some (Ds.map sd) := by
    have e0 : zS 1 F_shown_defs (zB (zA 0) zJ) [.v (.lst (Ds.map pd))] = some (.lst (Ds.map sd)) := yB (p := .v (.lst (Ds.map sd))) (zE (x := .lst (Ds.map pd)) rfl zO) rfl (shdefs_eq h)
    unfold mIt
    rw [e0]; rfl
  rw [comp_lst (l := Ds) (a := fun q => .str q.1) (b := fun q => .str (xZ [32] q.2.ws)) (u := fun q => .str (lin q)) ed (by lia) fun q hq => ?_]
  · rw [List.map_map]; rfl
  · obtain ⟨ab, fn⟩ := h.mem hq
    have ll := lin_len fn
    rw [lin_eq fn.one] at ll ⊢
    simp only [List.length_append, List.length_cons] at ll
    exact fstr4 rfl rfl (by lia)
theorem alike_eq {Ds : List Df} (h : Prog Ds) : AlOk (yH RF) (.lst (Ds.map pd)) := by
  show AlOk (yH (39 + 1)) _
  refine al_seq 39 (.inr rfl) fun e he => ?_
  obtain ⟨q, hq, rfl⟩ := List.mem_map.mp he
  obtain ⟨ab, fn⟩ := h.mem hq
  show AlOk (yH (38 + 1)) _
  refine al_seq 38 (.inl rfl) fun e he => ?_
  simp only [List.mem_cons, List.not_mem_nil, or_false] at he
  rcases he with rfl | rfl
  · exact al_str 37 _
  · have lv := fn.lv
    exact al_ok 36 q.2 (by lia) _ (by rw [Fo.one_ds fn.one]; simp)
theorem cell_eq (ns : List Int) (k : Nat) : ∃ i : Int, ∃ as, qK [.v (.lst (ns.map D.int)), .v (.int (k : Int))] = some (.v (.int i), as) := by
  have c : mBl (zF ltD (zA 1) (mUn wE (zA 0))) [.v (.lst (ns.map D.int)), .v (.int (k : Int))] = some (decide ((k : Int) < (ns.length : Int))) := by
    rw [qJ (b := decide ((k : Int) < ((ns.map D.int).length : Int))) (zV (x := .int (k : Int)) (y := .int ((ns.map D.int).length : Int)) rfl (un_of (x := .lst (ns.map D.int)) rfl rfl) rfl), List.length_map]
  by_cases h : k < ns.length
  · refine ⟨ns[k], xV (r' := [.v (.lst (ns.map D.int)), .v (.int (k : Int))]) ?_⟩
    show g__law_cell [.v (.lst (ns.map D.int)), .v (.int (k : Int))] = _
    unfold g__law_cell
    refine seq_tt (by rw [c, decide_eq_true (by lia)]) (xA (zV (x := .lst (ns.map D.int)) (y := .int (k : Int)) rfl rfl (atI_nat (by simp [h]))))
  · refine ⟨0, xV (r' := [.v (.lst (ns.map D.int)), .v (.int (k : Int))]) ?_⟩
    show g__law_cell [.v (.lst (ns.map D.int)), .v (.int (k : Int))] = _
    unfold g__law_cell
    exact yY (by rw [c, decide_eq_false (by lia)]) (xA zI)
theorem law_math : ∀ ns : List Int, ns.length <= 63 -> ∃ as, F_law [.v (.lst (ns.map .int))] = some (.v (.bl true), as) := by
  intro ns hl
  obtain ⟨i0, c0⟩ := cell_eq ns 0
  obtain ⟨i1, c1⟩ := cell_eq ns 1
  obtain ⟨i2, c2⟩ := cell_eq ns 2
  obtain ⟨f, hf, mf⟩ := mixed_eq i0 900
  obtain ⟨s, hs, ms⟩ := mixed_eq (i1 + i2) 901
  let cs : List Int := (ns.take 203).drop 3
  have csl : cs.length <= 60 := by show ((ns.take 203).drop 3).length <= 60; rw [List.length_drop, List.length_take]; lia
  obtain ⟨Ds, P, as0, ed⟩ := defs_eq hf hs csl
  obtain ⟨as1, er⟩ := read_prog P
  obtain ⟨as2, es⟩ := shown_eq P
  obtain ⟨as3, ea⟩ := alike_eq P
  obtain ⟨A, g, eA⟩ := P.last
  have few := P.few
  let S : D := .lst (ns.map D.int)
  let L : D := .lst (Ds.map dd)
  let U : D := .lst (Ds.map pd)
  let t : D := .str (txt Ds)
  refine xV (r' := [.v S, .v (.int f), .v L, .v U, .v t, .o (A.map pd), .v t]) ?_
  show g_law [.v S, .un, .un, .un, .un, .un, .un] = _
  unfold g_law
  refine yO (.int f) (yB (p := .v (.int f)) (zE (yB (p := .v (.int i0)) (zE rfl (zE zI zO)) rfl c0) (zE zI zO)) rfl mf) (r2 := [.v S, .v (.int f), .un, .un, .un, .un, .un]) (by rfl) ?_
  have e2 : yM (mCallF 3 F__law_defs (zB (mSl (zA 0) (yV (mC (.int 3))) (yV (mC (.int 203)))) (zB (zA 1) (zB (zS 2 yE (zB (zF yD (zS 2 qK (zB (zA 0) (zB (mC (.int 1)) zJ))) (zS 2 qK (zB (zA 0) (zB (mC (.int 2)) zJ)))) (zB (mC (.int 901)) zJ))) zJ)))) [.v S, .v (.int f), .un, .un, .un, .un, .un] = some L := by
    have a1 : mSl (zA 0) (yV (mC (.int 3))) (yV (mC (.int 203))) [.v S, .v (.int f), .un, .un, .un, .un, .un] = some (.lst (cs.map D.int)) := by
      refine sl_of (x := S) rfl (osome_of zI) (osome_of zI) ?_
      rw [sl_lst, show (some (3 : Int)) = some ((3 : Nat) : Int) from rfl, show (some (203 : Int)) = some ((203 : Nat) : Int) from rfl, cut_mid]
      show some (D.lst (((ns.map D.int).take 203).drop 3)) = some (D.lst (((ns.take 203).drop 3).map D.int))
      rw [List.map_drop, List.map_take]
    have a2 : zS 2 yE (zB (zF yD (zS 2 qK (zB (zA 0) (zB (mC (.int 1)) zJ))) (zS 2 qK (zB (zA 0) (zB (mC (.int 2)) zJ)))) (zB (mC (.int 901)) zJ)) [.v S, .v (.int f), .un, .un, .un, .un, .un] = some (.int s) :=
      yB (p := .v (.int s)) (zE (wZ (yB (p := .v (.int i1)) (zE rfl (zE zI zO)) rfl c1) (yB (p := .v (.int i2)) (zE rfl (zE zI zO)) rfl c2)) (zE zI zO)) rfl ms
    have a3 := zE a1 (zE (f := zA 1) (x := .int f) rfl (zE a2 zO))
    unfold yM mCallF
    rw [a3, Option.bind_some]
    show (((F__law_defs [.v (.lst (cs.map D.int)), .v (.int f), .v (.int s)]).bind _).map D.lst) = _
    rw [ed]; rfl
  refine yO L e2 (r2 := [.v S, .v (.int f), .v L, .un, .un, .un, .un]) (by rfl) ?_
  have e3 : yM (wY [] 2 (mIt (zA 2)) (qO 2 (yR (yF 0) (yR (yF 1) bdNil))) (xJ (zB (zA 0) (zB (zF ixD (zA 1) (mC (.int 0))) zJ)))) [.v S, .v (.int f), .v L, .un, .un, .un, .un] = some U := by
    unfold yM
    rw [comp_lst (l := Ds) (a := fun q => .str q.1) (b := fun q => itm q.2) (u := pd) rfl (by lia) fun q hq => xX (zE rfl (zE (ix0 (f := q.2) rfl) zO)) (by show 2 <= 100; decide)]; rfl
  refine yO U e3 (r2 := [.v S, .v (.int f), .v L, .v U, .un, .un, .un]) (by rfl) ?_
  have sl := sum_le (Ds := Ds) fun q hq => (P.mem hq).elim fun ab fn => lin_len fn
  have e4 : mJoin (mC (.str [10])) (wY [] 2 (mIt (zA 2)) (qO 2 (yR (yF 0) (yR (yF 1) bdNil))) (mJoin (mC (.str [32])) (mAsL (zF yD (yM (yI (zB (mC (.str [100, 101, 102])) (zB (zA 0) zJ)))) (zF ixD (zA 1) (mC (.int 1))))))) [.v S, .v (.int f), .v L, .v U, .un, .un, .un] = some t := by
    refine join_of (l := Ds.map lin) zI ?_ (by simp only [List.length_map, List.length_cons, List.length_nil]; lia)
    rw [comp_lst (l := Ds) (a := fun q => .str q.1) (b := fun q => itm q.2) (u := fun q => .str (lin q)) rfl (by lia) fun q hq => ?_]
    · rw [List.map_map]; rfl
    · obtain ⟨ab, fn⟩ := P.mem hq
      have w := Fo.ws_sum (Fo.ws_ok q.2 fn.ok)
      have n := fn.nm.2.2.1
      have hw := fn.ws
      have dl : sDef.length = 3 := rfl
      refine join_of (l := sDef :: q.1 :: q.2.ws) zI ?_ (by simp only [List.map_cons, List.sum_cons, List.length_cons, List.length_nil]; lia)
      have a1 : zF yD (yM (yI (zB (mC (.str [100, 101, 102])) (zB (zA 0) zJ)))) (zF ixD (zA 1) (mC (.int 1))) [.v (.str q.1), .v (itm q.2)] = some (.lst ((sDef :: q.1 :: q.2.ws).map D.str)) := ladd (l := [.str sDef, .str q.1]) (m := q.2.ws.map D.str) (xQ (zE zI (zE rfl zO)) (by show 2 <= 100; decide)) (ix1 (f := q.2) rfl) (by simp; lia)
      unfold mAsL
      rw [a1]; rfl
  refine yO t e4 (r2 := [.v S, .v (.int f), .v L, .v U, .v t, .un, .un]) (by rfl) ?_
  have e5 : ∀ r : En, zA 4 r = some t -> mCallF 1 F_read (zB (zA 4) zJ) r = some (Ds.map pd) := fun r hr => by
    unfold mCallF
    rw [zE hr zO, Option.bind_some]
    show ((F_read [.v t]).bind _) = _
    rw [er]; rfl
  rw [yP (r' := [.v S, .v (.int f), .v L, .v U, .v t, .o (Ds.map pd), .un]) (by unfold sOwn; rw [e5 _ rfl]; rfl)]
  have e6 : ∀ x : Sl, mCallS 2 (yH RF) (mConsB (mOwn 5) (zB (zA 3) zJ)) [.v S, .v (.int f), .v L, .v U, .v t, .o (Ds.map pd), x] = some (.bl true) := fun x => by
    show ((yH RF [.v U, .v U]).bind _) = _
    rw [ea]; rfl
  have e7 : ∀ x : Sl, wX (qS (mCallS 2 (yH RF) (mConsB (mOwn 5) (zB (zA 3) zJ)))) [.v S, .v (.int f), .v L, .v U, .v t, .o (Ds.map pd), x] = some false := fun x => by
    unfold wX qS
    rw [e6 x]; rfl
  refine yY (e7 .un) ?_
  have e8 : mCallS 1 F_shown (mConsB (mOwn 5) zJ) [.v S, .v (.int f), .v L, .v U, .v t, .o (Ds.map pd), .un] = some t := by
    show ((F_shown [.v U]).bind _) = _
    rw [es]; rfl
  refine yO t e8 (r2 := [.v S, .v (.int f), .v L, .v U, .v t, .o (Ds.map pd), .v t]) (by rfl) ?_
  have e9 : mOrT (wX (qS (mUn (wG "str") (zA 6)))) (mOrT (mBl (zF neA (zA 6) (zA 4))) (wX (qS (mCallS 2 (yH RF) (mConsB (mOwn 5) (zB (zA 3) zJ)))))) [.v S, .v (.int f), .v L, .v U, .v t, .o (Ds.map pd), .v t] = some false := by
    have a1 : wX (qS (mUn (wG "str") (zA 6))) [.v S, .v (.int f), .v L, .v U, .v t, .o (Ds.map pd), .v t] = some false := by
      have b : mUn (wG "str") (zA 6) [.v S, .v (.int f), .v L, .v U, .v t, .o (Ds.map pd), .v t] = some (.bl true) := un_of (x := t) rfl (by simp [t, wG, tyN, inst_ss])
      unfold wX qS
      rw [b]; rfl
    have a2 : mBl (zF neA (zA 6) (zA 4)) [.v S, .v (.int f), .v L, .v U, .v t, .o (Ds.map pd), .v t] = some false := by
      refine qJ (zV (x := t) (y := t) rfl rfl ?_)
      show some (D.bl (!(decide (txt Ds = txt Ds)))) = _
      simp
    unfold mOrT
    rw [a1, Option.bind_some, if_neg (by simp), a2, Option.bind_some, if_neg (by simp), e7 (.v t)]
  refine yY e9 ?_
  have e10 : mPop 5 [.v S, .v (.int f), .v L, .v U, .v t, .o (Ds.map pd), .v t] = some (pd (sMain, g), [.v S, .v (.int f), .v L, .v U, .v t, .o (A.map pd), .v t]) := by
    rw [eA, List.map_append]
    exact pop_of rfl
  rw [yP (sX_of e10)]
  refine xA ?_
  have e11 : yM (mCallF 1 F_read (zB (zA 4) zJ)) [.v S, .v (.int f), .v L, .v U, .v t, .o (A.map pd), .v t] = some U := by
    unfold yM
    rw [e5 _ rfl]; rfl
  exact yB (p := .v (.bl true)) (zE e11 (zE rfl zO)) rfl ⟨as3, ea⟩
theorem len0 {α : Type} {l : List α} (h : l.length = 0) : l = [] := List.length_eq_zero_iff.mp h
theorem len1 {α : Type} {l : List α} (h : l.length = 1) : ∃ a0, l = [a0] := List.length_eq_one_iff.mp h
theorem len2 {α : Type} {l : List α} (h : l.length = 2) : ∃ a0 a1, l = [a0, a1] := by
  cases l with
  | nil => cases h
  | cons a0 l => obtain ⟨a1, rfl⟩ := len1 (Nat.succ.inj h); exact ⟨a0, a1, rfl⟩
theorem len3 {α : Type} {l : List α} (h : l.length = 3) : ∃ a0 a1 a2, l = [a0, a1, a2] := by
  cases l with
  | nil => cases h
  | cons a0 l => obtain ⟨a1, a2, rfl⟩ := len2 (Nat.succ.inj h); exact ⟨a0, a1, a2, rfl⟩
theorem len4 {α : Type} {l : List α} (h : l.length = 4) : ∃ a0 a1 a2 a3, l = [a0, a1, a2, a3] := by
  cases l with
  | nil => cases h
  | cons a0 l => obtain ⟨a1, a2, a3, rfl⟩ := len3 (Nat.succ.inj h); exact ⟨a0, a1, a2, a3, rfl⟩
noncomputable def DfOk (K : Fg) (n : Str) (st : Stmt) : Prop := ∃ (f : Addr) (od an : Option Addr) (sl : Array (Option Value)) (oc kV dc pm cd ct : Value), PySem.W.nsIn K mainGlobals n = some (some (.ref f)) /\ K.lookup f = some ⟨oc, od, .func (PySem.W.fnOf n n (defArgs st) (defBody st) (zY st) .none kV dc pm an cd ct), sl⟩ /\ PySem.W.codeIn K cd n = true /\ PySem.W.keepIn K (.ref f) = true
theorem dfo {K : Fg} {n : Str} {st : Stmt} {f : Addr} {od an : Option Addr} {sl : Array (Option Value)} {oc kV dc pm cd ct : Value} (a : PySem.W.nsIn K mainGlobals n = some (some (.ref f))) (l : K.lookup f = some ⟨oc, od, .func (PySem.W.fnOf n n (defArgs st) (defBody st) (zY st) .none kV dc pm an cd ct), sl⟩) (c : PySem.W.codeIn K cd n = true) (k : PySem.W.keepIn K (.ref f) = true) : DfOk K n st := ⟨f, od, an, sl, oc, kV, dc, pm, cd, ct, a, l, c, k⟩
theorem deo {K : Fg} {h : Heap} {mg : Str -> Option Value} {n : Str} {i : Nat} {ps : List Str} (X : K.In h) (G : h.Ns mainGlobals mg) (D : DfOk K n (top i)) (hb : ∀ {f : Addr} {d : FuncData}, Fun K n n (top i) f d -> Binds K d ps []) : Nonempty (De K mg n i ps) := by
  obtain ⟨f, _, _, _, _, _, _, _, _, _, a, l, c, k⟩ := D
  have F := fun_mk (st := top i) l c k
  exact ⟨⟨f, _, F, PySem.W.mg_of X G a, hb F⟩⟩
theorem law_sp {K : Fg} (hm : ∀ ns : List Int, ns.length <= 63 -> ∃ as, F_law [.v (.lst (ns.map .int))] = some (.v (.bl true), as)) (H : Hp) (a : Addr) (ns : List Int) (hl : ns.length <= 63) (hS : SqL K H a (ns.map V.int)) : spD K 1 F_law [.ref a] H (fun v _ => v = .bl true) (fun _ _ _ => False) := by
  have il : ∀ l : List Int, IsL K (fun _ => False) H (l.map D.int) (l.map V.int) := fun l => by
    induction l with
    | nil => exact IsL.nil
    | cons x l ih => exact .cons (by rw [Is.int_iff]) ih
  obtain ⟨as, e⟩ := hm ns hl
  refine ⟨fun _ => False, [.v (.lst (ns.map .int))], _, as, rfl, R.args (ds := [.lst (ns.map .int)]) noF (.cons (by rw [Is.lst_iff]; exact ⟨a, _, rfl, hS.imp (fun z => ⟨id, z⟩) id, il ns⟩) .nil), fun i l => ?_, e, fun v H' _ iv => by rw [Is.bl_iff] at iv; exact iv⟩
  cases i with
  | zero => exact ⟨(fun z => by cases z), (fun z => by cases z), (fun _ z => by cases z)⟩
  | succ i => exact ⟨(fun z => by cases z), (fun z => by cases z), (fun _ z => by cases z)⟩
theorem all_mk {l : PySem.W.OpenLaw} {w : World} {K : Fg} {h : Heap} {mg : Str -> Option Value} {fa : Addr} (X : K.In h) (G : h.Ns mainGlobals mg) (hfa : mg "law" = some (.ref fa))
    (D0 : DfOk K "inner" (top 7))
    (D1 : DfOk K "places" (top 6))
    (D2 : DfOk K "all_between" (top 14))
    (D3 : DfOk K "is_name" (top 15))
    (D4 : DfOk K "is_number" (top 16))
    (D5 : DfOk K "read_number" (top 17))
    (D6 : DfOk K "take_word" (top 19))
    (D7 : DfOk K "take_name" (top 20))
    (D8 : DfOk K "read_leaf" (top 22))
    (D9 : DfOk K "take_expression" (top 21))
    (D10 : DfOk K "read_expression" (top 18))
    (D11 : DfOk K "written_parts" (top 24))
    (D12 : DfOk K "shown_expression" (top 23))
    (D13 : DfOk K "refuse_open_name" (top 31))
    (D14 : DfOk K "scopes_in" (top 32))
    (D15 : DfOk K "refuse_open_names" (top 30))
    (D16 : DfOk K "read_def" (top 29))
    (D17 : DfOk K "read" (top 28))
    (D18 : DfOk K "shown_defs" (top 34))
    (D19 : DfOk K "shown" (top 33))
    (D20 : DfOk K "_law_cell" (top 36))
    (D21 : DfOk K "_law_mixed" (top 37))
    (D22 : DfOk K "_law_kept" (top 38))
    (D23 : DfOk K "_law_name" (top 39))
    (D24 : DfOk K "_law_names" (top 40))
    (D25 : DfOk K "_law_leaf" (top 41))
    (D26 : DfOk K "_law_one" (top 42))
    (D27 : DfOk K "_law_two" (top 43))
    (D28 : DfOk K "_law_three" (top 44))
    (D29 : DfOk K "_law_grown" (top 45))
    (D30 : DfOk K "_law_folded" (top 46))
    (D31 : DfOk K "_law_free" (top 47))
    (D32 : DfOk K "_law_closed" (top 48))
    (D33 : DfOk K "_law_def_names" (top 49))
    (D34 : DfOk K "_law_defs" (top 50))
    (D35 : DfOk K "_law_alike" (top 51))
    (D36 : DfOk K "law" (top 52))
    (z_all : PySem.W.nsIn K mainGlobals "all" = some none)
    (z_bool : PySem.W.nsIn K mainGlobals "bool" = some none)
    (z_enumerate : PySem.W.nsIn K mainGlobals "enumerate" = some none)
    (z_int : PySem.W.nsIn K mainGlobals "int" = some none)
    (z_isinstance : PySem.W.nsIn K mainGlobals "isinstance" = some none)
    (z_len : PySem.W.nsIn K mainGlobals "len" = some none)
    (z_list : PySem.W.nsIn K mainGlobals "list" = some none)
    (z_max : PySem.W.nsIn K mainGlobals "max" = some none)
    (z_range : PySem.W.nsIn K mainGlobals "range" = some none)
    (z_str : PySem.W.nsIn K mainGlobals "str" = some none)
    (z_tuple : PySem.W.nsIn K mainGlobals "tuple" = some none)
    (z_zip : PySem.W.nsIn K mainGlobals "zip" = some none)
    {t_LONGEST_NAME : Tok} (c_LONGEST_NAME : PySem.W.nsIn K mainGlobals "LONGEST_NAME" = some (some (.int 8 t_LONGEST_NAME)))
    {t_MOST_FIGURES : Tok} (c_MOST_FIGURES : PySem.W.nsIn K mainGlobals "MOST_FIGURES" = some (some (.int 6 t_MOST_FIGURES)))
    {t_DEEPEST : Tok} (c_DEEPEST : PySem.W.nsIn K mainGlobals "DEEPEST" = some (some (.int 30 t_DEEPEST)))
    {p_KEPT_WORDS : Addr} {dd_KEPT_WORDS : Option Addr} {it_KEPT_WORDS : Array Value} {n_KEPT_WORDS : Nat} {sl_KEPT_WORDS : Array (Option Value)} (c_KEPT_WORDS : PySem.W.nsIn K mainGlobals "KEPT_WORDS" = some (some (.ref p_KEPT_WORDS))) (l_KEPT_WORDS : K.lookup p_KEPT_WORDS = some ⟨.type "tuple", dd_KEPT_WORDS, .seq it_KEPT_WORDS n_KEPT_WORDS, sl_KEPT_WORDS⟩) (s_KEPT_WORDS : it_KEPT_WORDS.size <= sizeLine) (v_KEPT_WORDS : yU (wV.map fun s => V.str ⟨s.toArray⟩) it_KEPT_WORDS.toList)
    {p_FORMS : Addr} {es_FORMS : Array DictEntry} {n_FORMS : Nat} (c_FORMS : PySem.W.nsIn K mainGlobals "FORMS" = some (some (.ref p_FORMS))) (l_FORMS : K.lookup p_FORMS = some ⟨.type "dict", none, .dict es_FORMS n_FORMS, #[]⟩) (y_FORMS : (p_FORMS == sysModules) = false) (k_FORMS : PySem.W.KeysLit w.params es_FORMS.toList) (e_FORMS : Ents es_FORMS.toList xS)
    {t_MOST_LINES : Tok} (c_MOST_LINES : PySem.W.nsIn K mainGlobals "MOST_LINES" = some (some (.int 12 t_MOST_LINES)))
    {t_MOST_PLACES : Tok} (c_MOST_PLACES : PySem.W.nsIn K mainGlobals "MOST_PLACES" = some (some (.int 80 t_MOST_PLACES))) :
    ∃ fd : FuncData, (∀ (s : Shared) (v : Value), BindsTo s fd ⟨[v], []⟩ [("_law_script", v)]) /\ ∀ base : Heap, K.In base -> base.Ns mainGlobals mg -> FnOk l.prog w K mg base CX0 48 fa fd ["_law_script"] (spD K 1 F_law) := by
  obtain ⟨f36, _, _, _, _, _, _, _, _, _, a36, l36, c36, k36⟩ := D36
  have e := hfa.symm.trans (PySem.W.mg_of X G a36)
  cases e
  have F36 := fun_mk (st := top 52) l36 c36 k36
  have b36 := F36.binds (ps := ["_law_script"]) fun _ _ _ _ _ _ us hl => by obtain ⟨_, rfl⟩ := len1 hl; rfl
  exact ⟨_, fun s v => .of_eq rfl, fun base _ _ => ok_law ⟨Classical.choice (deo (ps := ["expression"]) X G D0 fun F => F.binds (ps := ["expression"]) fun _ _ _ _ _ _ us hl => by obtain ⟨_, rfl⟩ := len1 hl; rfl),
    Classical.choice (deo (ps := ["E"]) X G D1 fun F => F.binds (ps := ["E"]) fun _ _ _ _ _ _ us hl => by obtain ⟨_, rfl⟩ := len1 hl; rfl),
    Classical.choice (deo (ps := ["text", "least", "greatest"]) X G D2 fun F => F.binds (ps := ["text", "least", "greatest"]) fun _ _ _ _ _ _ us hl => by obtain ⟨_, _, _, rfl⟩ := len3 hl; rfl),
    Classical.choice (deo (ps := ["text"]) X G D3 fun F => F.binds (ps := ["text"]) fun _ _ _ _ _ _ us hl => by obtain ⟨_, rfl⟩ := len1 hl; rfl),
    Classical.choice (deo (ps := ["text"]) X G D4 fun F => F.binds (ps := ["text"]) fun _ _ _ _ _ _ us hl => by obtain ⟨_, rfl⟩ := len1 hl; rfl),
    Classical.choice (deo (ps := ["text"]) X G D5 fun F => F.binds (ps := ["text"]) fun _ _ _ _ _ _ us hl => by obtain ⟨_, rfl⟩ := len1 hl; rfl),
    Classical.choice (deo (ps := ["waiting"]) X G D6 fun F => F.binds (ps := ["waiting"]) fun _ _ _ _ _ _ us hl => by obtain ⟨_, rfl⟩ := len1 hl; rfl),
    Classical.choice (deo (ps := ["waiting"]) X G D7 fun F => F.binds (ps := ["waiting"]) fun _ _ _ _ _ _ us hl => by obtain ⟨_, rfl⟩ := len1 hl; rfl),
    Classical.choice (deo (ps := ["word"]) X G D8 fun F => F.binds (ps := ["word"]) fun _ _ _ _ _ _ us hl => by obtain ⟨_, rfl⟩ := len1 hl; rfl),
    Classical.choice (deo (ps := ["waiting", "around"]) X G D9 fun F => F.binds (ps := ["waiting", "around"]) fun _ _ _ _ _ _ us hl => by obtain ⟨_, _, rfl⟩ := len2 hl; rfl),
    Classical.choice (deo (ps := ["text"]) X G D10 fun F => F.binds (ps := ["text"]) fun _ _ _ _ _ _ us hl => by obtain ⟨_, rfl⟩ := len1 hl; rfl),
    Classical.choice (deo (ps := ["expression"]) X G D11 fun F => F.binds (ps := ["expression"]) fun _ _ _ _ _ _ us hl => by obtain ⟨_, rfl⟩ := len1 hl; rfl),
    Classical.choice (deo (ps := ["E"]) X G D12 fun F => F.binds (ps := ["E"]) fun _ _ _ _ _ _ us hl => by obtain ⟨_, rfl⟩ := len1 hl; rfl),
    Classical.choice (deo (ps := ["expression", "known"]) X G D13 fun F => F.binds (ps := ["expression", "known"]) fun _ _ _ _ _ _ us hl => by obtain ⟨_, _, rfl⟩ := len2 hl; rfl),
    Classical.choice (deo (ps := ["expression", "known"]) X G D14 fun F => F.binds (ps := ["expression", "known"]) fun _ _ _ _ _ _ us hl => by obtain ⟨_, _, rfl⟩ := len2 hl; rfl),
    Classical.choice (deo (ps := ["expression", "known"]) X G D15 fun F => F.binds (ps := ["expression", "known"]) fun _ _ _ _ _ _ us hl => by obtain ⟨_, _, rfl⟩ := len2 hl; rfl),
    Classical.choice (deo (ps := ["line", "above"]) X G D16 fun F => F.binds (ps := ["line", "above"]) fun _ _ _ _ _ _ us hl => by obtain ⟨_, _, rfl⟩ := len2 hl; rfl),
    Classical.choice (deo (ps := ["text"]) X G D17 fun F => F.binds (ps := ["text"]) fun _ _ _ _ _ _ us hl => by obtain ⟨_, rfl⟩ := len1 hl; rfl),
    Classical.choice (deo (ps := ["program"]) X G D18 fun F => F.binds (ps := ["program"]) fun _ _ _ _ _ _ us hl => by obtain ⟨_, rfl⟩ := len1 hl; rfl),
    Classical.choice (deo (ps := ["program"]) X G D19 fun F => F.binds (ps := ["program"]) fun _ _ _ _ _ _ us hl => by obtain ⟨_, rfl⟩ := len1 hl; rfl),
    Classical.choice (deo (ps := ["_law_script", "_law_k"]) X G D20 fun F => F.binds (ps := ["_law_script", "_law_k"]) fun _ _ _ _ _ _ us hl => by obtain ⟨_, _, rfl⟩ := len2 hl; rfl),
    Classical.choice (deo (ps := ["_law_cell_here", "_law_k"]) X G D21 fun F => F.binds (ps := ["_law_cell_here", "_law_k"]) fun _ _ _ _ _ _ us hl => by obtain ⟨_, _, rfl⟩ := len2 hl; rfl),
    Classical.choice (deo (ps := []) X G D22 fun F => F.binds (ps := []) fun _ _ _ _ _ _ us hl => by obtain rfl := len0 hl; rfl),
    Classical.choice (deo (ps := ["_law_number"]) X G D23 fun F => F.binds (ps := ["_law_number"]) fun _ _ _ _ _ _ us hl => by obtain ⟨_, rfl⟩ := len1 hl; rfl),
    Classical.choice (deo (ps := ["_law_cell_here"]) X G D24 fun F => F.binds (ps := ["_law_cell_here"]) fun _ _ _ _ _ _ us hl => by obtain ⟨_, rfl⟩ := len1 hl; rfl),
    Classical.choice (deo (ps := ["_law_cell_here", "_law_number", "_law_names_here"]) X G D25 fun F => F.binds (ps := ["_law_cell_here", "_law_number", "_law_names_here"]) fun _ _ _ _ _ _ us hl => by obtain ⟨_, _, _, rfl⟩ := len3 hl; rfl),
    Classical.choice (deo (ps := ["_law_number", "_law_names_here", "_law_one_here"]) X G D26 fun F => F.binds (ps := ["_law_number", "_law_names_here", "_law_one_here"]) fun _ _ _ _ _ _ us hl => by obtain ⟨_, _, _, rfl⟩ := len3 hl; rfl),
    Classical.choice (deo (ps := ["_law_number", "_law_names_here", "_law_one_here", "_law_other"]) X G D27 fun F => F.binds (ps := ["_law_number", "_law_names_here", "_law_one_here", "_law_other"]) fun _ _ _ _ _ _ us hl => by obtain ⟨_, _, _, _, rfl⟩ := len4 hl; rfl),
    Classical.choice (deo (ps := ["_law_number", "_law_names_here", "_law_parts_here"]) X G D28 fun F => F.binds (ps := ["_law_number", "_law_names_here", "_law_parts_here"]) fun _ _ _ _ _ _ us hl => by obtain ⟨_, _, _, rfl⟩ := len3 hl; rfl),
    Classical.choice (deo (ps := ["_law_pile", "_law_cell_here", "_law_k", "_law_names_here"]) X G D29 fun F => F.binds (ps := ["_law_pile", "_law_cell_here", "_law_k", "_law_names_here"]) fun _ _ _ _ _ _ us hl => by obtain ⟨_, _, _, _, rfl⟩ := len4 hl; rfl),
    Classical.choice (deo (ps := ["_law_pile", "_law_cell_here", "_law_names_here"]) X G D30 fun F => F.binds (ps := ["_law_pile", "_law_cell_here", "_law_names_here"]) fun _ _ _ _ _ _ us hl => by obtain ⟨_, _, _, rfl⟩ := len3 hl; rfl),
    Classical.choice (deo (ps := ["_law_told", "_law_known"]) X G D31 fun F => F.binds (ps := ["_law_told", "_law_known"]) fun _ _ _ _ _ _ us hl => by obtain ⟨_, _, rfl⟩ := len2 hl; rfl),
    Classical.choice (deo (ps := ["_law_item", "_law_cell_here", "_law_known"]) X G D32 fun F => F.binds (ps := ["_law_item", "_law_cell_here", "_law_known"]) fun _ _ _ _ _ _ us hl => by obtain ⟨_, _, _, rfl⟩ := len3 hl; rfl),
    Classical.choice (deo (ps := ["_law_cell_here", "_law_many"]) X G D33 fun F => F.binds (ps := ["_law_cell_here", "_law_many"]) fun _ _ _ _ _ _ us hl => by obtain ⟨_, _, rfl⟩ := len2 hl; rfl),
    Classical.choice (deo (ps := ["_law_cells", "_law_first", "_law_second"]) X G D34 fun F => F.binds (ps := ["_law_cells", "_law_first", "_law_second"]) fun _ _ _ _ _ _ us hl => by obtain ⟨_, _, _, rfl⟩ := len3 hl; rfl),
    Classical.choice (deo (ps := ["_law_found", "_law_due"]) X G D35 fun F => F.binds (ps := ["_law_found", "_law_due"]) fun _ _ _ _ _ _ us hl => by obtain ⟨_, _, rfl⟩ := len2 hl; rfl),
    ⟨_, _, F36, PySem.W.mg_of X G a36, b36⟩, PySem.W.mg_none_of X G z_all, PySem.W.mg_none_of X G z_bool, PySem.W.mg_none_of X G z_enumerate, PySem.W.mg_none_of X G z_int, PySem.W.mg_none_of X G z_isinstance, PySem.W.mg_none_of X G z_len, PySem.W.mg_none_of X G z_list, PySem.W.mg_none_of X G z_max, PySem.W.mg_none_of X G z_range, PySem.W.mg_none_of X G z_str, PySem.W.mg_none_of X G z_tuple, PySem.W.mg_none_of X G z_zip, ⟨_, PySem.W.mg_of X G c_LONGEST_NAME⟩, ⟨_, PySem.W.mg_of X G c_MOST_FIGURES⟩, ⟨_, PySem.W.mg_of X G c_DEEPEST⟩, ⟨_, _, _, _, PySem.W.mg_of X G c_KEPT_WORDS, l_KEPT_WORDS, rfl, rfl, s_KEPT_WORDS, v_KEPT_WORDS⟩, ⟨_, _, _, PySem.W.mg_of X G c_FORMS, y_FORMS, l_FORMS, k_FORMS, e_FORMS⟩, ⟨_, PySem.W.mg_of X G c_MOST_LINES⟩, ⟨_, PySem.W.mg_of X G c_MOST_PLACES⟩⟩⟩
theorem walk {l : PySem.W.OpenLaw} {q : Program} {loose : List Str} {XP : (Str -> Option Value) -> Heap -> Prop} {YP : World -> Heap -> Prop} {d : DefRec} {K : Params -> Fg} (hm : ∀ ns : List Int, ns.length <= 63 -> ∃ as, F_law [.v (.lst (ns.map .int))] = some (.v (.bl true), as)) (hn : l.most = some 63) (hdf : d.params.defaults = [])
    (hY : ∀ (w : World) (h : Heap), YP w h -> (K w.params).In h)
    (F : ∀ (w : World) (mg : Str -> Option Value) (fa : Addr) (h : Heap), (K w.params).In h -> h.Ns mainGlobals mg -> mg d.name = some (.ref fa) ->
      ∃ fd : FuncData, (∀ (s : Shared) (u : Value), BindsTo s fd ⟨[u], []⟩ [("_law_script", u)]) /\ ∀ base : Heap, (K w.params).In base -> base.Ns mainGlobals mg -> FnOk l.prog w (K w.params) mg base CX0 48 fa fd ["_law_script"] (spD (K w.params) 1 F_law)) :
    PySem.W.WalkO q loose XP YP l.row.toRowW d [] (fun f vs => PySem.call f vs) :=
  L2.walk_ofK (n := 63) (k := 48) (x := "_law_script") (CX := CX0) (sp := fun K => spD K 1 F_law) hn (by decide) hdf ⟨rfl, by decide, by decide⟩ hY F (fun K H a ns hl _ hS => law_sp hm H a ns hl hS) fun _ _ _ _ z => z
end K05
namespace PySem.W.Fast
noncomputable def tw14091275199583315408 : PySem.Program := PySem.Challenge.pw_fieldrows_k05_programs_read
theorem te14091275199583315408 : PySem.Challenge.pw_fieldrows_k05_programs_read = tw14091275199583315408 := rfl
noncomputable def tw14699167668575106023 : PySem.Params -> Fg := fun _ => []
theorem te14699167668575106023 : tw14699167668575106023 = fun _ => [] := rfl
end PySem.W.Fast
open PyProof.Rows PySem PySem.W
set_option maxRecDepth 100000 in
set_option maxHeartbeats 0 in
theorem PySem.Challenge.cw_fieldrows_k05_programs_read_holds : PySem.Challenge.rw_fieldrows_k05_programs_read.Holds := by
  w_on; o_law; k_head; (case hw => w_witness2)
  k_fill
  refine K05.walk (l := PySem.Challenge.rw_fieldrows_k05_programs_read) K05.law_math rfl rfl (fun w h Y => PySem.W.kIn_of Y) ?F
  case F =>
    intro w mg fa h KX G hmg
    refine' K05.all_mk KX G hmg (K05.dfo ?a0 ?l0 ?c0 ?k0) (K05.dfo ?a1 ?l1 ?c1 ?k1) (K05.dfo ?a2 ?l2 ?c2 ?k2) (K05.dfo ?a3 ?l3 ?c3 ?k3) (K05.dfo ?a4 ?l4 ?c4 ?k4) (K05.dfo ?a5 ?l5 ?c5 ?k5) (K05.dfo ?a6 ?l6 ?c6 ?k6) (K05.dfo ?a7 ?l7 ?c7 ?k7) (K05.dfo ?a8 ?l8 ?c8 ?k8) (K05.dfo ?a9 ?l9 ?c9 ?k9) (K05.dfo ?a10 ?l10 ?c10 ?k10) (K05.dfo ?a11 ?l11 ?c11 ?k11) (K05.dfo ?a12 ?l12 ?c12 ?k12) (K05.dfo ?a13 ?l13 ?c13 ?k13) (K05.dfo ?a14 ?l14 ?c14 ?k14) (K05.dfo ?a15 ?l15 ?c15 ?k15) (K05.dfo ?a16 ?l16 ?c16 ?k16) (K05.dfo ?a17 ?l17 ?c17 ?k17) (K05.dfo ?a18 ?l18 ?c18 ?k18) (K05.dfo ?a19 ?l19 ?c19 ?k19) (K05.dfo ?a20 ?l20 ?c20 ?k20) (K05.dfo ?a21 ?l21 ?c21 ?k21) (K05.dfo ?a22 ?l22 ?c22 ?k22) (K05.dfo ?a23 ?l23 ?c23 ?k23) (K05.dfo ?a24 ?l24 ?c24 ?k24) (K05.dfo ?a25 ?l25 ?c25 ?k25) (K05.dfo ?a26 ?l26 ?c26 ?k26) (K05.dfo ?a27 ?l27 ?c27 ?k27) (K05.dfo ?a28 ?l28 ?c28 ?k28) (K05.dfo ?a29 ?l29 ?c29 ?k29) (K05.dfo ?a30 ?l30 ?c30 ?k30) (K05.dfo ?a31 ?l31 ?c31 ?k31) (K05.dfo ?a32 ?l32 ?c32 ?k32) (K05.dfo ?a33 ?l33 ?c33 ?k33) (K05.dfo ?a34 ?l34 ?c34 ?k34) (K05.dfo ?a35 ?l35 ?c35 ?k35) (K05.dfo ?a36 ?l36 ?c36 ?k36) ?z_all ?z_bool ?z_enumerate ?z_int ?z_isinstance ?z_len ?z_list ?z_max ?z_range ?z_str ?z_tuple ?z_zip ?c_LONGEST_NAME ?c_MOST_FIGURES ?c_DEEPEST ?c_KEPT_WORDS ?l_KEPT_WORDS ?s_KEPT_WORDS ?v_KEPT_WORDS ?c_FORMS ?l_FORMS ?y_FORMS ?k_FORMS ?e_FORMS ?c_MOST_LINES ?c_MOST_PLACES
    (case a0 => k_is)
    (case l0 => k_is)
    (case c0 => k_is)
    (case k0 => k_is)
    (case a1 => k_is)
    (case l1 => k_is)
    (case c1 => k_is)
    (case k1 => k_is)
    (case a2 => k_is)
    (case l2 => k_is)
    (case c2 => k_is)
    (case k2 => k_is)
    (case a3 => k_is)
    (case l3 => k_is)
    (case c3 => k_is)
    (case k3 => k_is)
    (case a4 => k_is)
    (case l4 => k_is)
    (case c4 => k_is)
    (case k4 => k_is)
    (case a5 => k_is)
    (case l5 => k_is)
    (case c5 => k_is)
    (case k5 => k_is)
    (case a6 => k_is)
    (case l6 => k_is)
    (case c6 => k_is)
    (case k6 => k_is)
    (case a7 => k_is)
    (case l7 => k_is)
    (case c7 => k_is)
    (case k7 => k_is)
    (case a8 => k_is)
    (case l8 => k_is)
    (case c8 => k_is)
    (case k8 => k_is)
    (case a9 => k_is)
    (case l9 => k_is)
    (case c9 => k_is)
    (case k9 => k_is)
    (case a10 => k_is)
    (case l10 => k_is)
    (case c10 => k_is)
    (case k10 => k_is)
    (case a11 => k_is)
    (case l11 => k_is)
    (case c11 => k_is)
    (case k11 => k_is)
    (case a12 => k_is)
    (case l12 => k_is)
    (case c12 => k_is)
    (case k12 => k_is)
    (case a13 => k_is)
    (case l13 => k_is)
    (case c13 => k_is)
    (case k13 => k_is)
    (case a14 => k_is)
    (case l14 => k_is)
    (case c14 => k_is)
    (case k14 => k_is)
    (case a15 => k_is)
    (case l15 => k_is)
    (case c15 => k_is)
    (case k15 => k_is)
    (case a16 => k_is)
    (case l16 => k_is)
    (case c16 => k_is)
    (case k16 => k_is)
    (case a17 => k_is)
    (case l17 => k_is)
    (case c17 => k_is)
    (case k17 => k_is)
    (case a18 => k_is)
    (case l18 => k_is)
    (case c18 => k_is)
    (case k18 => k_is)
    (case a19 => k_is)
    (case l19 => k_is)
    (case c19 => k_is)
    (case k19 => k_is)
    (case a20 => k_is)
    (case l20 => k_is)
    (case c20 => k_is)
    (case k20 => k_is)
    (case a21 => k_is)
    (case l21 => k_is)
    (case c21 => k_is)
    (case k21 => k_is)
    (case a22 => k_is)
    (case l22 => k_is)
    (case c22 => k_is)
    (case k22 => k_is)
    (case a23 => k_is)
    (case l23 => k_is)
    (case c23 => k_is)
    (case k23 => k_is)
    (case a24 => k_is)
    (case l24 => k_is)
    (case c24 => k_is)
    (case k24 => k_is)
    (case a25 => k_is)
    (case l25 => k_is)
    (case c25 => k_is)
    (case k25 => k_is)
    (case a26 => k_is)
    (case l26 => k_is)
    (case c26 => k_is)
    (case k26 => k_is)
    (case a27 => k_is)
    (case l27 => k_is)
    (case c27 => k_is)
    (case k27 => k_is)
    (case a28 => k_is)
    (case l28 => k_is)
    (case c28 => k_is)
    (case k28 => k_is)
    (case a29 => k_is)
    (case l29 => k_is)
    (case c29 => k_is)
    (case k29 => k_is)
    (case a30 => k_is)
    (case l30 => k_is)
    (case c30 => k_is)
    (case k30 => k_is)
    (case a31 => k_is)
    (case l31 => k_is)
    (case c31 => k_is)
    (case k31 => k_is)
    (case a32 => k_is)
    (case l32 => k_is)
    (case c32 => k_is)
    (case k32 => k_is)
    (case a33 => k_is)
    (case l33 => k_is)
    (case c33 => k_is)
    (case k33 => k_is)
    (case a34 => k_is)
    (case l34 => k_is)
    (case c34 => k_is)
    (case k34 => k_is)
    (case a35 => k_is)
    (case l35 => k_is)
    (case c35 => k_is)
    (case k35 => k_is)
    (case a36 => k_is)
    (case l36 => k_is)
    (case c36 => k_is)
    (case k36 => k_is)
    (case z_all => k_is)
    (case z_bool => k_is)
    (case z_enumerate => k_is)
    (case z_int => k_is)
    (case z_isinstance => k_is)
    (case z_len => k_is)
    (case z_list => k_is)
    (case z_max => k_is)
    (case z_range => k_is)
    (case z_str => k_is)
    (case z_tuple => k_is)
    (case z_zip => k_is)
    (case c_LONGEST_NAME => k_is)
    (case c_MOST_FIGURES => k_is)
    (case c_DEEPEST => k_is)
    (case c_KEPT_WORDS => k_is)
    (case l_KEPT_WORDS => k_is)
    (case s_KEPT_WORDS => decide)
    (case v_KEPT_WORDS => repeat (first | exact .nil | refine .cons ⟨_, rfl⟩ ?_))
    (case c_FORMS => k_is)
    (case l_FORMS => k_is)
    (case y_FORMS => decide)
    (case k_FORMS => repeat (first | exact trivial | refine ⟨⟨_, _, rfl, rfl⟩, ?_⟩))
    (case e_FORMS => repeat (first | exact rfl | refine ⟨_, _, rfl, ⟨_, _, rfl, rfl⟩, ?_⟩))
    (case c_MOST_LINES => k_is)
    (case c_MOST_PLACES => k_is)
