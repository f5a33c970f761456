import PyProof.Rows.All
import Wide.All
import OpenK.AllK
import Wide.FinOn
import Lean
import PyProof.EqAt
import PyProof.EqKinds
import PyProof.TupleCall
import PySem.Challenge.RW_furlough_k31_asks_off_back
set_option compiler.extract_closed false
set_option genSizeOf false
set_option genInjectivity false
set_option Elab.async false
set_option linter.all false
set_option maxRecDepth 100000
set_option maxHeartbeats 4000000
section
theorem Zz.a5 {α β γ : Sort _} {p q : α → β → γ → Prop} {R : Prop} (h : ∃ a b c, p a b c ∧ q a b c) (f : ∀ a b c, p a b c → q a b c → R) : R := by
  obtain ⟨a, b, c, x, y⟩ := h
  exact f a b c x y
theorem Zz.b5 {α β : Sort _} {p q r : α → β → Prop} {R : Prop} (h : ∃ a b, p a b ∧ q a b ∧ r a b) (f : ∀ a b, p a b → q a b → r a b → R) : R := by
  obtain ⟨a, b, x, y, z⟩ := h
  exact f a b x y z
namespace L2
open PySem PySem.Spec PyProof.Rows
noncomputable abbrev Key := Sum Int Str
noncomputable def keyIs : Key → Value → Bool
  | .inl k, v => Value.isInt k v
  | .inr x, v => Value.isStrOf x v
noncomputable def keyH (w : World) : Key → Int
  | .inl k => hashInt k
  | .inr x => hashStr w x
theorem keyIs_shape : ∀ {k : Key} {v : Value}, keyIs k v = true → (∃ i t, k = Sum.inl i ∧ v = Value.int i t) ∨ (∃ x t, k = Sum.inr x ∧ v = Value.str x t)
  | .inl i, v, h => by
    obtain ⟨t, e⟩ := Value.isInt_shape (k := i) (v := v) h
    exact .inl ⟨i, t, rfl, e⟩
  | .inr x, v, h => by
    obtain ⟨t, e⟩ := Value.isStrOf_shape (x := x) (v := v) h
    exact .inr ⟨x, t, rfl, e⟩
theorem keyIs_int (i : Int) (t : Tok) : keyIs (.inl i) (.int i t) = true := by simp [keyIs, Value.isInt]
theorem keyIs_str (x : Str) (t : Tok) : keyIs (.inr x) (.str x t) = true := by simp [keyIs, Value.isStrOf]
theorem key_ll (a b : Int) : decide ((Sum.inl a : Key) = Sum.inl b) = (a == b) := by
  by_cases e : a = b
  · subst e; simp
  · have h : ¬ (Sum.inl a : Key) = Sum.inl b := fun q => e (Sum.inl.inj q)
    rw [decide_eq_false h]
    exact (beq_eq_false_iff_ne.mpr e).symm
theorem key_rr (a b : Str) : decide ((Sum.inr a : Key) = Sum.inr b) = decide (a = b) := by
  by_cases e : a = b
  · subst e; simp
  · have h : ¬ (Sum.inr a : Key) = Sum.inr b := fun q => e (Sum.inr.inj q)
    rw [decide_eq_false h, decide_eq_false e]
theorem key_lr (a : Int) (b : Str) : decide ((Sum.inl a : Key) = Sum.inr b) = false := decide_eq_false (fun q => nomatch q)
theorem key_rl (a : Str) (b : Int) : decide ((Sum.inr a : Key) = Sum.inl b) = false := decide_eq_false (fun q => nomatch q)
noncomputable def mixKind (prog : Program) (w : World) : PySem.KeyKind prog w Key where
  is := keyIs
  hash := keyH w
  inj := fun v a b ha hb => by
    rcases keyIs_shape ha with ⟨i, t, rfl, rfl⟩ | ⟨x, t, rfl, rfl⟩
    · rcases keyIs_shape hb with ⟨j, u, rfl, e⟩ | ⟨y, u, rfl, e⟩
      · injection e with e1 _; rw [e1]
      · exact nomatch e
    · rcases keyIs_shape hb with ⟨j, u, rfl, e⟩ | ⟨y, u, rfl, e⟩
      · exact nomatch e
      · injection e with e1 _; rw [e1]
  byValue := fun k v h => by
    rcases keyIs_shape h with ⟨i, t, rfl, rfl⟩ | ⟨x, t, rfl, rfl⟩ <;> rfl
  pyHash := fun hv h => by
    rcases keyIs_shape hv with ⟨i, t, rfl, rfl⟩ | ⟨x, t, rfl, rfl⟩
    · exact wpAny_pyHash_int h
    · exact wpAny_pyHash_str h
  eqBool := fun hu hv h => by
    rcases keyIs_shape hu with ⟨i, t, rfl, rfl⟩ | ⟨x, t, rfl, rfl⟩
    · rcases keyIs_shape hv with ⟨j, u, rfl, rfl⟩ | ⟨y, u, rfl, rfl⟩
      · rw [key_ll] at h; exact wpAny_eqBool_int h
      · rw [key_lr] at h; exact SeqAt.EqAt.int_str i t y u _ _ _ _ h
    · rcases keyIs_shape hv with ⟨j, u, rfl, rfl⟩ | ⟨y, u, rfl, rfl⟩
      · rw [key_rl] at h; exact SeqAt.EqAt.str_int x t j u _ _ _ _ h
      · rw [key_rr] at h; exact wpAny_eqBool_str h
  «strs» := fun k x t v h => by
    rcases keyIs_shape h with ⟨i, u, rfl, e⟩ | ⟨y, u, rfl, e⟩
    · exact nomatch e
    · injection e with e1 _
      subst e1
      cases v <;> rfl
theorem mixKind_int (prog : Program) (w : World) (i : Int) (t : Tok) : (mixKind prog w).is (.inl i) (.int i t) = true := keyIs_int i t
theorem mixKind_str (prog : Program) (w : World) (x : Str) (t : Tok) : (mixKind prog w).is (.inr x) (.str x t) = true := keyIs_str x t
end L2
namespace L2
open PySem PySem.Spec PyProof.Rows
inductive V where
  | non | bl (b : Bool) | int (i : Int) | str (x : Str) | byt (b : Array UInt8) | flt (b : UInt64) | ref (a : Addr) | ty (n : String)
  deriving DecidableEq
noncomputable def RelV : V → Value → Prop
  | .non, u => u = Value.none
  | .bl b, u => u = Value.bool b
  | .int i, u => ∃ t, u = Value.int i t
  | .str x, u => ∃ t, u = Value.str x t
  | .byt b, u => ∃ t, u = Value.bytes b t
  | .flt b, u => ∃ t, u = Value.float b t
  | .ref a, u => u = Value.ref a
  | .ty n, u => u = Value.type n
noncomputable abbrev Vals : List V → List Value → Prop := Paired RelV
theorem Vals.length {xs : List V} {us : List Value} (r : Vals xs us) : xs.length = us.length := Paired.length r
theorem Vals.get : ∀ {xs : List V} {us : List Value} {i : Nat} {x : V}, Vals xs us → xs[i]? = some x → ∃ u, us[i]? = some u ∧ RelV x u
  | _, _, _, _, .nil, e => by simp at e
  | _, _, 0, _, .cons r _, e => by simp at e; subst e; exact ⟨_, rfl, r⟩
  | _, _, i + 1, x, .cons _ t, e => by
    obtain ⟨u, h1, h2⟩ := Vals.get (i := i) (x := x) t (by simpa using e)
    exact ⟨u, by simpa using h1, h2⟩
theorem Vals.append : ∀ {xs ys : List V} {us ws : List Value}, Vals xs us → Vals ys ws → Vals (xs ++ ys) (us ++ ws)
  | _, _, _, _, .nil, s => s
  | _, _, _, _, .cons r t, s => .cons r (Vals.append t s)
theorem Vals.take : ∀ {xs : List V} {us : List Value} (n : Nat), Vals xs us → Vals (xs.take n) (us.take n)
  | _, _, 0, _ => .nil
  | _, _, _ + 1, .nil => .nil
  | _, _, n + 1, .cons r t => .cons r (Vals.take n t)
theorem Vals.drop : ∀ {xs : List V} {us : List Value} (n : Nat), Vals xs us → Vals (xs.drop n) (us.drop n)
  | _, _, 0, r => r
  | _, _, _ + 1, .nil => .nil
  | _, _, n + 1, .cons _ t => Vals.drop n t
noncomputable def RelO : Option V → Option Value → Prop
  | some v, some u => RelV v u
  | none, none => True
  | _, _ => False
noncomputable def KV {κ : Type} : List (κ × V) → List (κ × Value) → Prop := Paired fun (p : κ × V) (q : κ × Value) => p.1 = q.1 ∧ RelV p.2 q.2
noncomputable def kV : Key → V
  | .inl i => .int i
  | .inr x => .str x
inductive HO where
  /-- a list -/
  | lst (xs : List V)
  /-- a tuple (never changes) -/
  | tup (xs : List V)
  /-- a dict whose keys are ints and texts; one whose keys are tuples of ints and texts (the empty one is both) -/
  | dK (kvs : List (Key × V)) | dT (kvs : List (List Key × V))
  /-- a set of ints: its members, its size -/
  | set (S : Int → Bool) (n : Nat)
  /-- an instance of the class at C, its dict at dx, its attributes -/
  | ins (C dx : Addr) (fs : List (Str × V))
  /-- the dict of the instance at x -/
  | own (x : Addr)
  /-- the dict of an exception -/
  | xd (fs : List (Str × V))
  /-- a bound method, f of x -/
  | met (f x : Addr)
  /-- a range object lo, lo + 1, .. below hi -/
  | rng (lo hi : Int)
  /-- a thing that is known to the object (the script; a dict while a loop walks it): read, never written while it is so -/
  | frz (o : Obj) (u : HO)
  /-- a code object's table -/
  | tbl (ps : Array Value)
  /-- any other thing, by what is true of its one object (a def of one's own: SetO a S n := HO.ext fun h => ..) -/
  | ext (φ : Heap → Prop)
noncomputable abbrev Hp := Addr → Option HO
noncomputable def upd (H : Hp) (a : Addr) (o : HO) : Hp := fun b => if b = a then some o else H b
theorem upd_same {H : Hp} {a : Addr} {o : HO} : upd H a o a = some o := by unfold upd; rw [if_pos rfl]
theorem upd_ne {H : Hp} {a b : Addr} {o : HO} (h : b ≠ a) : upd H a o b = H b := by unfold upd; rw [if_neg h]
theorem ne_of {H : Hp} {a b : Addr} {o u : HO} (h : H a = some o) (h' : H b = some u) (d : o ≠ u) : a ≠ b := by
  intro e; subst e; rw [h] at h'; exact d (Option.some.inj h')
theorem ne_of_none {H : Hp} {a b : Addr} {o : HO} (h : H a = some o) (h' : H b = none) : a ≠ b := by
  intro e; subst e; rw [h] at h'; cases h'
section
variable (P : Program) (w : World)
noncomputable def ObjOk (H : Hp) (h : Heap) (a : Addr) : HO → Prop
  | .lst xs => xs.length ≤ sizeLine ∧ ∃ (its : List Value) (n : Nat), Vals xs its ∧ h.get? a = some { cls := .type "list", data := .seq its.toArray n }
  | .tup xs => xs.length ≤ sizeLine ∧ ∃ its : List Value, Vals xs its ∧ IsTup h a its.toArray
  | .dK kvs => kvs.length ≤ sizeLine ∧ (a == sysModules) = false ∧ ∃ vs, KV kvs vs ∧ h.DictOf (mixKind P w) a vs
  | .dT kvs => kvs.length ≤ sizeLine ∧ (a == sysModules) = false ∧ ∃ xs : List (List Key × Addr × Value),
      Paired (fun (p : List Key × V) (q : List Key × Addr × Value) => p.1 = q.1 ∧ H q.2.1 = some (.tup (p.1.map kV)) ∧ RelV p.2 q.2.2) kvs xs ∧
      ∃ o es ep, h.get? a = some o ∧ o.ExactDict ∧ o.data = .dict es ep ∧ es.toList = xs.map (entryOfKey (tupleKind (mixKind P w))) ∧ (xs.map (·.1)).Nodup
  | .set S n => h.SetOf (intKind P w) a S n
  | .ins C dx fs => H dx = some (.own a) ∧ fs.length ≤ 1000 ∧ dx ≠ a ∧ h.get? a = some (PySem.W.instObj C dx) ∧
      ∃ mA, h.Ns1 dx mA ∧ (∀ f, RelO (fs.lookup f) (mA f)) ∧ PySem.Within mA (fs.map (·.1))
  | .own _ => ∃ o, h.get? a = some o
  | .xd fs => ∃ mA, h.Ns1 a mA ∧ ∀ f, RelO (fs.lookup f) (mA f)
  | .rng lo hi => ∃ t u v, h.get? a = some { cls := .type "range", data := .fields #[.int lo t, .int hi u, .int 1 v] }
  | .frz o u => h.get? a = some o ∧ ObjOk H h a u
  | .tbl ps => h.get? a = some { cls := .none, data := .fields ps }
  | .met f x => h.get? a = some (PySem.W.methodObj (.ref f) (.ref x))
  | .ext φ => φ h ∧ (∃ o, h.get? a = some o) ∧ ∀ h1 h2 : Heap, φ h1 → (∀ o, h1.get? a = some o → h2.get? a = some o) → φ h2
noncomputable def HOk (H : Hp) (h : Heap) : Prop := ∀ a o, H a = some o → ObjOk P w H h a o
end
section
variable {P : Program} {w : World} {H H' : Hp} {h h' : Heap} {a : Addr} {o : HO}
theorem ObjOk.lt (x : ObjOk P w H h a o) : a < h.objs.size := by
  cases o with
  | lst xs => obtain ⟨_, _, _, _, e⟩ := x; exact Heap.lt_size e
  | tup xs => obtain ⟨_, _, _, p⟩ := x; exact p.lt
  | dK kvs => obtain ⟨_, _, _, _, o, _, _, e, _⟩ := x; exact Heap.lt_size e
  | dT kvs => obtain ⟨_, _, _, _, o, _, _, e, _⟩ := x; exact Heap.lt_size e
  | set S n => obtain ⟨o, _, _, _, e, _⟩ := x; exact Heap.lt_size e
  | ins C dx fs => obtain ⟨_, _, _, e, _⟩ := x; exact Heap.lt_size e
  | own y => obtain ⟨_, e⟩ := x; exact Heap.lt_size e
  | xd fs => obtain ⟨_, ⟨_, _, _, e, _⟩, _⟩ := x; exact Heap.lt_size e
  | rng lo hi => obtain ⟨_, _, _, e⟩ := x; exact Heap.lt_size e
  | frz ob u => obtain ⟨e, _⟩ := x; exact Heap.lt_size e
  | tbl ps => exact Heap.lt_size (show h.get? a = some _ from x)
  | met f y => exact Heap.lt_size (show h.get? a = some _ from x)
  | ext φ => obtain ⟨_, ⟨_, e⟩, _⟩ := x; exact Heap.lt_size e
theorem Paired.mapP {α β : Type} {F G : α → β → Prop} : ∀ {l₁ : List α} {l₂ : List β}, Paired F l₁ l₂ → (∀ a b, F a b → G a b) → Paired G l₁ l₂
  | _, _, .nil, _ => .nil
  | _, _, .cons r t, f => .cons (f _ _ r) (Paired.mapP t f)
theorem ObjOk.stay (x : ObjOk P w H h a o) (k : ∀ b u, (b = a ∨ H b = some (.own a)) → h.get? b = some u → h'.get? b = some u)
    (ho : ∀ b, H b = some (.own a) → H' b = some (.own a)) (ht : ∀ b xs, H b = some (.tup xs) → H' b = some (.tup xs)) : ObjOk P w H' h' a o := by
  induction o with
  | lst xs => obtain ⟨z, its, n, r, e⟩ := x; exact ⟨z, its, n, r, k _ _ (.inl rfl) e⟩
  | tup xs => obtain ⟨z, its, r, ob, e, c⟩ := x; exact ⟨z, its, r, ob, k _ _ (.inl rfl) e, c⟩
  | dK kvs => obtain ⟨z, y, vs, r, ob, es, ep, e, c⟩ := x; exact ⟨z, y, vs, r, ob, es, ep, k _ _ (.inl rfl) e, c⟩
  | dT kvs =>
    obtain ⟨z, y, xs, r, ob, es, ep, e, c⟩ := x
    exact ⟨z, y, xs, Paired.mapP r fun p q z => ⟨z.1, ht _ _ z.2.1, z.2.2⟩, ob, es, ep, k _ _ (.inl rfl) e, c⟩
  | set S n => obtain ⟨ob, es, ep, t, e, c⟩ := x; exact ⟨ob, es, ep, t, k _ _ (.inl rfl) e, c⟩
  | ins C dx fs =>
    obtain ⟨d, z, ne, e, mA, ⟨od, es, ep, e2, c⟩, r⟩ := x
    exact ⟨ho _ d, z, ne, k _ _ (.inl rfl) e, mA, ⟨od, es, ep, k _ _ (.inr d) e2, c⟩, r⟩
  | own y => obtain ⟨ob, e⟩ := x; exact ⟨ob, k _ _ (.inl rfl) e⟩
  | xd fs => obtain ⟨mA, ⟨od, es, ep, e, c⟩, r⟩ := x; exact ⟨mA, ⟨od, es, ep, k _ _ (.inl rfl) e, c⟩, r⟩
  | rng lo hi => obtain ⟨t, u, v, e⟩ := x; exact ⟨t, u, v, k _ _ (.inl rfl) e⟩
  | frz ob u ih => obtain ⟨e, q⟩ := x; exact ⟨k _ _ (.inl rfl) e, ih q⟩
  | tbl ps =>
    have e : h.get? a = some { cls := .none, data := .fields ps } := x
    show h'.get? a = some { cls := .none, data := .fields ps }
    exact k a _ (.inl rfl) e
  | met f y =>
    have e : h.get? a = some (PySem.W.methodObj (.ref f) (.ref y)) := x
    show h'.get? a = some (PySem.W.methodObj (.ref f) (.ref y))
    exact k a _ (.inl rfl) e
  | ext φ => obtain ⟨p, ⟨o, e⟩, st⟩ := x; exact ⟨st _ _ p fun o q => k _ _ (.inl rfl) q, ⟨o, k _ _ (.inl rfl) e⟩, st⟩
theorem HOk.lt (x : HOk P w H h) (e : H a = some o) : a < h.objs.size := (x a o e).lt
theorem HOk.fresh (x : HOk P w H h) (e : h.objs.size ≤ a) : H a = none := by
  cases q : H a with
  | none => rfl
  | some u => exact absurd (Nat.lt_of_lt_of_le (x.lt q) e) (Nat.lt_irrefl _)
theorem HOk.kept (x : HOk P w H h) (k : ∀ b u, h.get? b = some u → h'.get? b = some u) : HOk P w H h' := fun a o e =>
  (x a o e).stay (fun b u _ q => k b u q) (fun _ q => q) fun _ _ q => q
theorem HOk.laid (x : HOk P w H h) (k : ∀ b u, h.get? b = some u → h'.get? b = some u) (hp : h.objs.size ≤ a) (new : ObjOk P w (upd H a o) h' a o) : HOk P w (upd H a o) h' := fun b u e => by
  have hn := x.fresh hp
  by_cases hb : b = a
  · subst hb; rw [upd_same] at e; cases e; exact new
  · rw [upd_ne hb] at e
    exact (x b u e).stay (fun c v _ q => k c v q) (fun c q => by rw [upd_ne (ne_of_none q hn)]; exact q) fun c xs q => by rw [upd_ne (ne_of_none q hn)]; exact q
end
noncomputable def Rd (H : Hp) (a : Addr) (u : HO) : Prop := H a = some u ∨ ∃ o, H a = some (.frz o u)
theorem Rd.ok {P : Program} {w : World} {H : Hp} {h : Heap} {a : Addr} {u : HO} (r : Rd H a u) (x : HOk P w H h) : ObjOk P w H h a u := by
  rcases r with r | ⟨o, r⟩
  · exact x a u r
  · obtain ⟨_, q⟩ := x a _ r
    exact q
noncomputable def Mut : Option HO → Prop
  | some (.lst _) => True
  | some (.dK _) => True
  | some (.dT _) => True
  | some (.set _ _) => True
  | some (.ins _ _ _) => True
  | some (.ext _) => True
  | _ => False
section
variable {P : Program} {w : World} {H : Hp} {h h' : Heap} {x e : Addr} {o' : HO}
theorem HOk.write (ok : HOk P w H h) (mu : Mut (H x)) (he : e = x ∨ H e = some (.own x)) (k : ∀ b u, b ≠ e → h.get? b = some u → h'.get? b = some u) (heo : ∃ u, h'.get? e = some u)
    (new : ObjOk P w (upd H x o') h' x o') : HOk P w (upd H x o') h' := fun b u q => by
  have nown : ∀ c y, H c = some (.own y) → c ≠ x := fun c y r z => by subst z; rw [r] at mu; exact mu
  have ntup : ∀ c xs, H c = some (.tup xs) → c ≠ x := fun c xs r z => by subst z; rw [r] at mu; exact mu
  by_cases hb : b = x
  · subst hb; rw [upd_same] at q; cases q; exact new
  · rw [upd_ne hb] at q
    by_cases hbe : b = e
    · have q' : H b = some (.own x) := by
        rcases he with z | z
        · exact absurd (hbe.trans z) hb
        · rw [hbe]; exact z
      rw [q] at q'; cases q'
      obtain ⟨v, hv⟩ := heo
      exact ⟨v, by rw [hbe]; exact hv⟩
    · refine (ok b u q).stay (fun c v hc r => k c v ?_ r) (fun c r => by rw [upd_ne (nown c b r)]; exact r) fun c xs r => by rw [upd_ne (ntup c xs r)]; exact r
      rcases hc with rfl | hc
      · exact hbe
      · rintro rfl
        rcases he with z | z
        · exact nown c b hc z
        · rw [hc] at z; cases z; exact hb rfl
end
structure Un (fs ex : List Addr) (H H' : Hp) (h h' : Heap) : Prop where
  keep : ∀ b o, h.get? b = some o → H b = none → b ∉ fs → b ∉ ex → h'.get? b = some o
  slot : ∀ b o, h.get? b = some o → H b = none → b ∈ fs → b ∉ ex → ∃ sl, h'.get? b = some { o with slots := sl }
  free : ∀ b o, h.get? b = some o → H b = none → b ∉ ex → H' b = none
  there : ∀ b o, h.get? b = some o → b ∉ ex → ∃ o', h'.get? b = some o'
  tups : ∀ b xs, H b = some (.tup xs) → H' b = some (.tup xs)
  frzs : ∀ b o u, H b = some (.frz o u) → H' b = some (.frz o u)
  tbls : ∀ b ps, H b = some (.tbl ps) → ∃ more, H' b = some (.tbl (ps ++ more))
section
variable {fs fs' ex ex' : List Addr} {H H1 H2 : Hp} {h h1 h2 h' : Heap} {a x e : Addr} {o : HO}
theorem Un.any (u : Un fs ex H H1 h h1) {b : Addr} {ob : Obj} (q : h.get? b = some ob) (n : H b = none) (hx : b ∉ ex) : ∃ sl, h1.get? b = some { ob with slots := sl } := by
  by_cases hb : b ∈ fs
  · exact u.slot b ob q n hb hx
  · exact ⟨ob.slots, u.keep b ob q n hb hx⟩
theorem Un.kept (k : ∀ b u, h.get? b = some u → h'.get? b = some u) : Un fs ex H H h h' :=
  ⟨fun b ob q _ _ _ => k b ob q, fun b ob q _ _ _ => ⟨ob.slots, k b ob q⟩, fun _ _ _ n _ => n, fun b ob q _ => ⟨ob, k b ob q⟩, fun _ _ q => q, fun _ _ _ q => q, fun _ ps q => ⟨#[], by rw [q]; simp⟩⟩
theorem Un.refl : Un fs ex H H h h := Un.kept fun _ _ q => q
theorem Un.laid (k : ∀ b u, h.get? b = some u → h'.get? b = some u) (hp : h.objs.size ≤ a) (hn : H a = none) : Un fs ex H (upd H a o) h h' where
  keep := fun b u q _ _ _ => k b u q
  slot := fun b u q _ _ _ => ⟨u.slots, k b u q⟩
  free := fun b u q n _ => by rw [upd_ne (Nat.ne_of_lt (Nat.lt_of_lt_of_le (Heap.lt_size q) hp))]; exact n
  there := fun b u q _ => ⟨u, k b u q⟩
  tups := fun b xs q => by rw [upd_ne (ne_of_none q hn)]; exact q
  frzs := fun b u xs q => by rw [upd_ne (ne_of_none q hn)]; exact q
  tbls := fun b ps q => ⟨#[], by rw [upd_ne (ne_of_none q hn), q]; simp⟩
theorem Un.write (mu : Mut (H x)) (he : e = x ∨ H e = some (.own x)) (k : ∀ b u, b ≠ e → h.get? b = some u → h'.get? b = some u) (heo : ∃ u, h'.get? e = some u) : Un fs ex H (upd H x o) h h' := by
  have hx : ∀ b, H b = none → b ≠ x := fun b n z => by subst z; rw [n] at mu; exact mu
  have hb : ∀ b, H b = none → b ≠ e := fun b n z => by
    subst z
    rcases he with r | r
    · exact hx b n r
    · rw [n] at r; cases r
  have hm : ∀ b u, H b = some u → ¬ Mut (some u) → b ≠ x := fun b u q nm z => by subst z; rw [q] at mu; exact nm mu
  refine ⟨fun b u q n _ _ => k b u (hb b n) q, fun b u q n _ _ => ⟨u.slots, k b u (hb b n) q⟩, fun b u q n _ => by rw [upd_ne (hx b n)]; exact n, fun b u q _ => ?_,
    fun b xs q => by rw [upd_ne (hm b _ q fun z => z)]; exact q, fun b u xs q => by rw [upd_ne (hm b _ q fun z => z)]; exact q, fun b ps q => ⟨#[], by rw [upd_ne (hm b _ q fun z => z), q]; simp⟩⟩
  by_cases hbe : b = e
  · subst hbe; exact heo
  · exact ⟨u, k b u hbe q⟩
end
noncomputable def trk (h : Heap) (H : Hp) : List Addr := (List.range h.objs.size).filter fun a => (H a).isSome
noncomputable def hidT (h : Heap) (H : Hp) : Heap := PySem.W.hideAll h (trk h H)
theorem hidT_size (h : Heap) (H : Hp) : (hidT h H).objs.size = h.objs.size := PySem.W.hideAll_size _ _
theorem hidT_get {h : Heap} {H : Hp} {b : Addr} {o : Obj} (e : h.get? b = some o) (n : H b = none) : (hidT h H).get? b = some o :=
  PySem.W.hideAll_get _ e fun hm => by
    have q : (H b).isSome = true := (List.mem_filter.mp hm).2
    rw [n] at q; simp at q
theorem of_hidT {h : Heap} {H : Hp} {b : Addr} {o : Obj} (e : (hidT h H).get? b = some o) : h.get? b = some o ∧ H b = none := by
  have e' : h.get? b = some o := PySem.W.of_hideAll (trk h H) e
  refine ⟨e', ?_⟩
  cases q : H b with
  | none => rfl
  | some x =>
    have hm : b ∈ trk h H := List.mem_filter.mpr ⟨List.mem_range.mpr (Heap.lt_size e'), by simp [q]⟩
    have z : (hidT h H).get? b = none := PySem.W.hideAll_none (trk h H) hm
    rw [z] at e; cases e
end L2
namespace L2
open PySem PySem.Spec PyProof.Rows
structure Mod (K : PySem.W.Frag) (mg : Str → Option Value) (base : Heap) : Prop where
  kin : K.In base
  glob : base.Ns mainGlobals mg
  blt : ∃ mb, base.Ns builtinsNs mb ∧ ∀ x : Str, x ≠ "__name__" → mb x = bootBuiltins x
  nolimit : base.NoLimit
structure Cx where
  prog : Program
  w : World
  K : PySem.W.Frag
  mg : Str → Option Value
  base : Heap
  A : Around
  N : List Str
  s₀ : Shared
  H₀ : Hp
  env : Env
  outer : List Env
  stack : List Env
  ex : List Addr
  fn : Str → Bool
  calm : Bool
  pn : List (Addr × Obj)
  xe : Value → Shared → Prop
noncomputable def frs (l : List Env) : List Addr := l.filterMap (·.frame)
noncomputable abbrev Cx.fs (X : Cx) : List Addr := frs X.outer
noncomputable def Vis (sc : Scope) (x : Str) : Prop := sc.names.lookup x = some .local ∨ sc.names.lookup x = some .cell ∨ sc.names.lookup x = some .free
noncomputable def Loc (sc : Scope) (x : Str) : Prop := sc.names.lookup x = some .local ∨ sc.names.lookup x = some .cell
noncomputable def Look (env : Env) (h : Heap) (m : Str → Option Value) (x : Str) (u : Value) : Prop :=
  (env.kindOf x = some .local ∧ m x = some u) ∨ ((env.kindOf x = some .cell ∨ env.kindOf x = some .free) ∧ ∃ c, env.cells.lookup x = some c ∧ h.IsCell c (some u))
structure Cx.Ok (X : Cx) : Prop where
  mod : Mod X.K X.mg X.base
  kind : X.env.scope.kind = .function
  glob : X.env.globals = mainGlobals
  blt : X.env.builtins = builtinsNs
  above : X.s₀.heap.objs.size ≤ X.env.locals
  inj : ∀ x y c, X.env.cells.lookup x = some c → X.env.cells.lookup y = some c → x = y
  has : ∀ x, (X.env.kindOf x = some .cell ∨ X.env.kindOf x = some .free) → ∃ c, X.env.cells.lookup x = some c
  cab : ∀ x c, X.fn x = true → X.env.cells.lookup x = some c → X.s₀.heap.objs.size ≤ c
  hd : X.calm = true → X.A.handled = none
  frames : X.A.frames = some X.stack
  stk : X.stack = X.outer ∨ (X.stack = X.env :: X.outer ∧ X.env.frame = some X.env.locals)
  exf : ∀ b ∈ X.ex, b ≠ X.env.locals ∧ ∀ x c, X.env.cells.lookup x = some c → c ≠ b
  bs : ∀ b o, X.base.get? b = some o → X.s₀.heap.get? b = some o ∧ X.H₀ b = none
  bsz : X.base.objs.size ≤ X.s₀.heap.objs.size
  noex : ∀ b o, X.base.get? b = some o → b ∉ X.ex
  exfs : ∀ b ∈ X.ex, b ∉ X.fs
  funs : X.s₀.heap.FunFrames X.base X.outer
  frf : ∀ b ∈ X.fs, X.H₀ b = none
structure Inv (X : Cx) (pins : List (Addr × Obj)) (σ : List (Option V)) (H : Hp) (s : Shared) : Prop where
  ok : X.Ok
  os : s.os = X.s₀.os
  bare : AllBare s.gens
  base : Un X.fs X.ex X.H₀ H X.s₀.heap s.heap
  loc : ∃ m, s.heap.Ns X.env.locals m ∧ ∀ (i : Nat) (x : Str) (v : V), X.N[i]? = some x → σ[i]? = some (some v) → Vis X.env.scope x → ∃ u, RelV v u ∧ Look X.env s.heap m x u
  cell : ∀ x c, X.env.cells.lookup x = some c → ∃ v, s.heap.IsCell c v
  free : H X.env.locals = none
  freeC : ∀ x c, X.env.cells.lookup x = some c → H c = none
  pin : ∀ p ∈ X.pn ++ pins, s.heap.get? p.1 = some p.2 ∧ H p.1 = none ∧ p.1 ≠ X.env.locals ∧ p.1 ∉ X.fs ∧ ∀ v, p.2.data ≠ .cell v
  hok : HOk X.prog X.w H s.heap
  len : σ.length = X.N.length
section
variable {X : Cx} {pins : List (Addr × Obj)} {σ : List (Option V)} {H H' : Hp} {s : Shared} {h' : Heap}
theorem Cx.Ok.nofr (ok : X.Ok) {b : Addr} {o : Obj} (e : X.base.get? b = some o) : b ∉ X.fs := fun hb => by
  have := (ok.funs.mem hb).1
  rw [e] at this; cases this
theorem Inv.bs (I : Inv X pins σ H s) : ∀ b o, X.base.get? b = some o → s.heap.get? b = some o ∧ H b = none := fun b o e =>
  ⟨I.base.keep b o (I.ok.bs b o e).1 (I.ok.bs b o e).2 (I.ok.nofr e) (I.ok.noex b o e), I.base.free b o (I.ok.bs b o e).1 (I.ok.bs b o e).2 (I.ok.noex b o e)⟩
theorem Inv.bk (I : Inv X pins σ H s) : ∀ b o, X.base.get? b = some o → s.heap.get? b = some o := fun b o e => (I.bs b o e).1
theorem Inv.mod (I : Inv X pins σ H s) : Mod X.K X.mg X.base := I.ok.mod
theorem Inv.kIn (I : Inv X pins σ H s) : X.K.In s.heap := I.ok.mod.kin.keeps I.bk
theorem Inv.lt (I : Inv X pins σ H s) : X.env.locals < s.heap.objs.size := let ⟨_, hn, _⟩ := I.loc; hn.lt
theorem Inv.sz (I : Inv X pins σ H s) : X.s₀.heap.objs.size ≤ s.heap.objs.size := Nat.le_trans I.ok.above (Nat.le_of_lt I.lt)
theorem Inv.nofs (I : Inv X pins σ H s) {a : Addr} (h : s.heap.objs.size ≤ a) : a ∉ X.fs := fun hb => by
  obtain ⟨_, o, ho, _⟩ := I.ok.funs.mem hb
  exact absurd (Nat.lt_of_lt_of_le (Heap.lt_size ho) (Nat.le_trans I.sz h)) (Nat.lt_irrefl _)
theorem Inv.cne (I : Inv X pins σ H s) : ∀ x c, X.env.cells.lookup x = some c → c ≠ X.env.locals := fun x c e z => by
  obtain ⟨v, o, ho, hd⟩ := I.cell x c e
  obtain ⟨m, ⟨o', es, ep, ho', hd', _⟩, _⟩ := I.loc
  rw [z, ho'] at ho; cases ho; rw [hd'] at hd; cases hd
theorem Inv.funs (I : Inv X pins σ H s) : s.heap.FunFrames X.base X.outer := by
  have all : ∀ (l : List Env), (∀ b ∈ frs l, b ∈ X.fs) → X.s₀.heap.FunFrames X.base l → s.heap.FunFrames X.base l := by
    intro l
    induction l with
    | nil => intro _ _; trivial
    | cons env r ih =>
      intro hs hl
      obtain ⟨hk, ⟨L, o, hf, hn, ho, hd⟩, hr⟩ := hl
      have hL : L ∈ X.fs := hs L (by unfold frs; rw [List.filterMap_cons, hf]; exact List.mem_cons_self)
      obtain ⟨sl, e⟩ := I.base.slot L o ho (I.ok.frf L hL) hL fun z => I.ok.exfs L z hL
      exact ⟨hk, ⟨L, _, hf, hn, e, hd⟩, ih (fun b hb => hs b (by unfold frs; rw [List.filterMap_cons, hf]; exact List.mem_cons_of_mem _ hb)) hr⟩
  exact all X.outer (fun _ hb => hb) I.ok.funs
theorem Inv.stack (I : Inv X pins σ H s) : s.heap.FunFrames X.base X.stack := by
  rcases I.ok.stk with e | ⟨e, hf⟩
  · rw [e]; exact I.funs
  · rw [e]
    obtain ⟨m, hn, _⟩ := I.loc
    refine .cons (by rw [I.ok.kind]; decide) hf hn ?_ I.funs
    exact Heap.get?_none_of_le (Nat.le_trans I.ok.bsz I.ok.above)
theorem Inv.stkSub (I : Inv X pins σ H s) : ∀ b ∈ frs X.stack, b ∈ X.env.locals :: X.fs := fun b hb => by
  rcases I.ok.stk with e | ⟨e, hf⟩
  · rw [e] at hb; exact List.mem_cons_of_mem _ hb
  · rw [e] at hb
    unfold frs at hb
    rw [List.filterMap_cons, hf] at hb
    exact hb
theorem Inv.stkFree (I : Inv X pins σ H s) : ∀ b ∈ frs X.stack, H b = none := fun b hb => by
  rcases List.mem_cons.mp (I.stkSub b hb) with e | hb
  · rw [e]; exact I.free
  · obtain ⟨_, o, ho, _⟩ := I.ok.funs.mem hb
    exact I.base.free b o ho (I.ok.frf b hb) fun z => I.ok.exfs b z hb
theorem Inv.step {g' : Array GenState} {t' : Nat} {d' : Drawn} {ch : List Addr} (I : Inv X pins σ H s)
    (hch : ∀ b ∈ ch, (b ∈ X.ex ∨ X.s₀.heap.objs.size ≤ b) ∧ b ≠ X.env.locals ∧ (∀ x c, X.env.cells.lookup x = some c → c ≠ b) ∧ ∀ p ∈ X.pn ++ pins, p.1 ≠ b)
    (keep : ∀ b o, b ≠ X.env.locals → b ∉ X.fs → b ∉ ch → s.heap.get? b = some o → H b = none → h'.get? b = some o)
    (slot : ∀ b o, b ≠ X.env.locals → b ∈ X.fs → b ∉ ch → s.heap.get? b = some o → H b = none → ∃ sl, h'.get? b = some { o with slots := sl }) (free : ∀ b o, b ∉ ch → s.heap.get? b = some o → H b = none → H' b = none)
    (there : ∀ b o, b ∉ ch → s.heap.get? b = some o → ∃ o', h'.get? b = some o')
    (tups : ∀ b xs, H b = some (.tup xs) → H' b = some (.tup xs)) (frzs : ∀ b o u, H b = some (.frz o u) → H' b = some (.frz o u)) (tbls : ∀ b ps, H b = some (.tbl ps) → ∃ more, H' b = some (.tbl (ps ++ more)))
    (ns : ∀ m, s.heap.Ns X.env.locals m → h'.Ns X.env.locals m) (hok : HOk X.prog X.w H' h') (hg : AllBare g') :
    Inv X pins σ H' { s with heap := h', gens := g', drawn := d', toks := t' } := by
  have neL : ∀ b o, X.s₀.heap.get? b = some o → b ≠ X.env.locals := fun b o e => Nat.ne_of_lt (Nat.lt_of_lt_of_le (Heap.lt_size e) I.ok.above)
  have neC : ∀ b o, X.s₀.heap.get? b = some o → b ∉ X.ex → b ∉ ch := fun b o e hx hb => by
    rcases (hch b hb).1 with z | z
    · exact hx z
    · exact absurd (Nat.lt_of_lt_of_le (Heap.lt_size e) z) (Nat.lt_irrefl _)
  have cellK : ∀ x c, X.env.cells.lookup x = some c → ∀ v, s.heap.IsCell c v → h'.IsCell c v := fun x c e v ⟨o, ho, hd⟩ => by
    have nch : c ∉ ch := fun z => (hch c z).2.2.1 x c e rfl
    by_cases hc : c ∈ X.fs
    · obtain ⟨sl, q⟩ := slot c o (I.cne x c e) hc nch ho (I.freeC x c e)
      exact ⟨_, q, hd⟩
    · exact ⟨o, keep c o (I.cne x c e) hc nch ho (I.freeC x c e), hd⟩
  refine ⟨I.ok, I.os, hg, ⟨fun b o e n hb hx => ?_, fun b o e n hb hx => ?_, fun b o e n hx => ?_, fun b o e hx => ?_, fun b xs e => tups b xs (I.base.tups b xs e), fun b o xs e => frzs b o xs (I.base.frzs b o xs e), fun b ps e => ?_⟩, ?_, fun x c e => ?_, ?_, fun x c e => ?_, fun p hp => ?_, hok, I.len⟩
  · exact keep b o (neL b o e) hb (neC b o e hx) (I.base.keep b o e n hb hx) (I.base.free b o e n hx)
  · obtain ⟨sl, e1⟩ := I.base.slot b o e n hb hx
    obtain ⟨sl', e2⟩ := slot b _ (neL b o e) hb (neC b o e hx) e1 (I.base.free b o e n hx)
    exact ⟨sl', e2⟩
  · obtain ⟨o', e1⟩ := I.base.there b o e hx
    exact free b o' (neC b o e hx) e1 (I.base.free b o e n hx)
  · obtain ⟨o', e1⟩ := I.base.there b o e hx
    exact there b o' (neC b o e hx) e1
  · obtain ⟨m1, e1⟩ := I.base.tbls b ps e
    obtain ⟨m2, e2⟩ := tbls b _ e1
    exact ⟨m1 ++ m2, by rw [e2, Array.append_assoc]⟩
  · obtain ⟨m, hn, hl⟩ := I.loc
    refine ⟨m, ns m hn, fun i x v e1 e2 e3 => ?_⟩
    obtain ⟨u, r, l⟩ := hl i x v e1 e2 e3
    refine ⟨u, r, ?_⟩
    rcases l with l | ⟨k, c, e, z⟩
    · exact .inl l
    · exact .inr ⟨k, c, e, cellK x c e _ z⟩
  · obtain ⟨v, z⟩ := I.cell x c e
    exact ⟨v, cellK x c e v z⟩
  · obtain ⟨m, ⟨o, _, _, ho, _⟩, _⟩ := I.loc
    exact free _ o (fun z => (hch _ z).2.1 rfl) ho I.free
  · obtain ⟨v, o, ho, hd⟩ := I.cell x c e
    exact free c o (fun z => (hch c z).2.2.1 x c e rfl) ho (I.freeC x c e)
  · obtain ⟨e, n, ne, nf, d⟩ := I.pin p hp
    have nch : p.1 ∉ ch := fun z => (hch p.1 z).2.2.2 p hp rfl
    exact ⟨keep p.1 p.2 ne nf nch e n, free p.1 p.2 nch e n, ne, nf, d⟩
theorem Inv.un {t' : Nat} (I : Inv X pins σ H s) (u : Un X.fs [] H H' s.heap h') (hok : HOk X.prog X.w H' h') : Inv X pins σ H' { s with heap := h', toks := t' } := by
  obtain ⟨m, ⟨o, es, ep, ho, r⟩, _⟩ := id I.loc
  obtain ⟨sl, hL⟩ := u.any ho I.free (by simp)
  exact I.step (g' := s.gens) (d' := s.drawn) (ch := []) (fun _ z => nomatch z) (fun b o _ hb _ e n => u.keep b o e n hb (by simp)) (fun b o _ hb _ e n => u.slot b o e n hb (by simp)) (fun b o _ e n => u.free b o e n (by simp)) (fun b o _ e => u.there b o e (by simp)) u.tups u.frzs u.tbls (fun m' hm => by
    obtain ⟨o', es', ep', ho', r'⟩ := hm
    rw [ho] at ho'; cases ho'
    exact ⟨_, es', ep', hL, r'⟩) hok I.bare
theorem Inv.call {g' : Array GenState} {t' : Nat} {d' : Drawn} {ch : List Addr} (I : Inv X pins σ H s) (u : Un (frs X.stack) ch H H' s.heap h') (hok : HOk X.prog X.w H' h') (hg : AllBare g')
    (hch : ∀ b ∈ ch, (b ∈ X.ex ∨ X.s₀.heap.objs.size ≤ b) ∧ b ≠ X.env.locals ∧ (∀ x c, X.env.cells.lookup x = some c → c ≠ b) ∧ ∀ p ∈ X.pn ++ pins, p.1 ≠ b) :
    Inv X pins σ H' { s with heap := h', gens := g', drawn := d', toks := t' } := by
  obtain ⟨m, ⟨o, es, ep, ho, r⟩, _⟩ := id I.loc
  obtain ⟨sl, hL⟩ := u.any ho I.free fun z => (hch _ z).2.1 rfl
  exact I.step (ch := ch) hch (fun b o hL hb hc e n => u.keep b o e n (fun z => (List.mem_cons.mp (I.stkSub b z)).elim hL hb) hc) (fun b o _ _ hc e n => u.any e n hc) (fun b o hc e n => u.free b o e n hc) (fun b o hc e => u.there b o e hc) u.tups u.frzs u.tbls (fun m' hm => by
    obtain ⟨o', es', ep', ho', r'⟩ := hm
    rw [ho] at ho'; cases ho'
    exact ⟨_, es', ep', hL, r'⟩) hok hg
theorem Inv.turned {t' : Nat} {it : Addr} (I : Inv X pins σ H s) (k : ∀ b o, b ≠ it → s.heap.get? b = some o → h'.get? b = some o) (hn : H it = none) (hL : it ≠ X.env.locals)
    (h1 : it ∈ X.ex ∨ X.s₀.heap.objs.size ≤ it) (h2 : ∀ x c, X.env.cells.lookup x = some c → c ≠ it) (h3 : ∀ p ∈ X.pn ++ pins, p.1 ≠ it) : Inv X pins σ H { s with heap := h', toks := t' } := by
  have nit : ∀ b u, H b = some u → b ≠ it := fun b u e z => by rw [z, hn] at e; cases e
  refine I.step (g' := s.gens) (d' := s.drawn) (ch := [it]) (fun b hb => ?_) (fun b o _ _ hc e _ => k b o (fun z => hc (by simp [z])) e) (fun b o _ _ hc e _ => ⟨o.slots, k b o (fun z => hc (by simp [z])) e⟩) (fun _ _ _ _ n => n)
    (fun b o hc e => ⟨o, k b o (fun z => hc (by simp [z])) e⟩) (fun _ _ e => e) (fun _ _ _ e => e) (fun b ps e => ⟨#[], by rw [e]; simp⟩) (fun m hm => ?_) (fun b u e => ?_) I.bare
  · have e : b = it := by simpa using hb
    subst e
    exact ⟨h1, hL, h2, h3⟩
  · obtain ⟨o, es, ep, ho, r⟩ := hm
    exact ⟨o, es, ep, k _ o (Ne.symm hL) ho, r⟩
  · refine (I.hok b u e).stay (fun c v hc q => k c v ?_ q) (fun _ q => q) fun _ _ q => q
    rcases hc with z | z
    · rw [z]; exact nit b u e
    · exact nit c _ z
theorem Inv.tok (I : Inv X pins σ H s) (t : Nat) : Inv X pins σ H { s with toks := t } := I.un (h' := s.heap) (t' := t) Un.refl I.hok
theorem Inv.kept {t' : Nat} (I : Inv X pins σ H s) (k : ∀ b u, s.heap.get? b = some u → h'.get? b = some u) : Inv X pins σ H { s with heap := h', toks := t' } := I.un (Un.kept k) (I.hok.kept k)
theorem Inv.laid {a : Addr} {o : HO} {t' : Nat} (I : Inv X pins σ H s) (k : ∀ b u, s.heap.get? b = some u → h'.get? b = some u) (hp : s.heap.objs.size ≤ a) (new : ObjOk X.prog X.w (upd H a o) h' a o) :
    Inv X pins σ (upd H a o) { s with heap := h', toks := t' } := I.un (Un.laid k hp (I.hok.fresh hp)) (I.hok.laid k hp new)
theorem Inv.write {x e : Addr} {o : HO} {t' : Nat} (I : Inv X pins σ H s) (mu : Mut (H x)) (he : e = x ∨ H e = some (.own x)) (k : ∀ b u, b ≠ e → s.heap.get? b = some u → h'.get? b = some u) (heo : ∃ u, h'.get? e = some u)
    (new : ObjOk X.prog X.w (upd H x o) h' x o) : Inv X pins σ (upd H x o) { s with heap := h', toks := t' } := I.un (Un.write mu he k heo) (I.hok.write mu he k heo new)
theorem Inv.weak {σ' : List (Option V)} (I : Inv X pins σ H s) (hl : σ'.length = σ.length) (w : ∀ (i : Nat) v, σ'[i]? = some (some v) → σ[i]? = some (some v)) : Inv X pins σ' H s :=
  ⟨I.ok, I.os, I.bare, I.base, let ⟨m, hn, hl'⟩ := I.loc; ⟨m, hn, fun i x v e1 e2 e3 => hl' i x v e1 (w i v e2) e3⟩, I.cell, I.free, I.freeC, I.pin, I.hok, hl.trans I.len⟩
theorem Inv.pins_of {pins' : List (Addr × Obj)} (I : Inv X pins σ H s) (h : ∀ p ∈ pins', s.heap.get? p.1 = some p.2 ∧ H p.1 = none ∧ p.1 ≠ X.env.locals ∧ p.1 ∉ X.fs ∧ ∀ v, p.2.data ≠ .cell v) : Inv X pins' σ H s :=
  ⟨I.ok, I.os, I.bare, I.base, I.loc, I.cell, I.free, I.freeC, fun p hp => (List.mem_append.mp hp).elim (fun z => I.pin p (List.mem_append_left _ z)) (h p), I.hok, I.len⟩
theorem nodup_ix {N : List Str} (hN : N.Nodup) {i j : Nat} {x : Str} (a : N[i]? = some x) (b : N[j]? = some x) : i = j := by
  obtain ⟨h1, e1⟩ := List.getElem?_eq_some_iff.mp a
  obtain ⟨h2, e2⟩ := List.getElem?_eq_some_iff.mp b
  exact (List.getElem_inj hN).mp (e1.trans e2.symm)
theorem store_ok2 {M : Model} {A : Around} {E : Value → Shared → Prop} {i : Nat} {x : Str} {v : V} {u : Value} {Q : Unit → Shared → Prop} (I : Inv X pins σ H s) (hN : X.N.Nodup) (hi : X.N[i]? = some x) (hx : Loc X.env.scope x) (r : RelV v u)
    (h : ∀ s', Inv X pins (σ.set i (some v)) H s' → (∃ a, Heap.SameBut a s.heap s'.heap ∧ (a = X.env.locals ∨ X.env.cells.lookup x = some a)) → Q () s') (hf : X.fn x = true ∨ X.env.scope.names.lookup x = some .local := by first | exact .inl rfl | exact .inr rfl | assumption) : wpAny M A (storeName X.env x u) Q E s := by
  obtain ⟨m, hn, hl⟩ := id I.loc
  have hcls : (X.env.scope.kind == .class || (X.env.scope.kind == .module && X.env.locals != X.env.globals)) = false := by rw [I.ok.kind]; rfl
  have hiσ : i < σ.length := by rw [I.len]; exact (List.getElem?_eq_some_iff.mp hi).1
  have cne := I.cne
  have tracked : ∀ {a : Addr} {h' : Heap}, (∃ o, s.heap.get? a = some o ∧ H a = none) → Heap.SameBut a s.heap h' → HOk X.prog X.w H h' := fun {a h'} ha hs b ob e => by
    obtain ⟨_, _, hfree⟩ := ha
    refine (I.hok b ob e).stay (fun c w' hc q => (hs.2 c ?_).trans q) (fun _ q => q) fun _ _ q => q
    rintro rfl
    rcases hc with rfl | hc
    · rw [hfree] at e; cases e
    · rw [hfree] at hc; cases hc
  rcases hx with hk | hk
  · refine wpAny_storeName_local hk hn (fun h' hn' hs => ?_) hcls
    obtain ⟨oL, _, _, hoL, _⟩ := id hn
    refine h _ ⟨I.ok, I.os, I.bare, ⟨fun b o e n hb hx => ?_, fun b o e n hb hx => ?_, I.base.free, fun b o e hx => ?_, I.base.tups, I.base.frzs, I.base.tbls⟩, ⟨_, hn', fun j y v' e1 e2 e3 => ?_⟩, fun y c e => ?_, I.free, I.freeC, fun p hp => ?_, tracked ⟨oL, hoL, I.free⟩ hs, by simpa using I.len⟩ ⟨_, hs, .inl rfl⟩
    · exact (hs.2 b (Nat.ne_of_lt (Nat.lt_of_lt_of_le (Heap.lt_size e) I.ok.above))).trans (I.base.keep b o e n hb hx)
    · obtain ⟨sl, e1⟩ := I.base.slot b o e n hb hx
      exact ⟨sl, (hs.2 b (Nat.ne_of_lt (Nat.lt_of_lt_of_le (Heap.lt_size e) I.ok.above))).trans e1⟩
    · obtain ⟨o', e1⟩ := I.base.there b o e hx
      exact ⟨o', (hs.2 b (Nat.ne_of_lt (Nat.lt_of_lt_of_le (Heap.lt_size e) I.ok.above))).trans e1⟩
    · by_cases hj : j = i
      · subst hj
        rw [hi] at e1; cases e1
        rw [List.getElem?_set_self hiσ] at e2
        cases e2
        exact ⟨u, r, .inl ⟨hk, by simp⟩⟩
      · rw [List.getElem?_set_ne (Ne.symm hj)] at e2
        obtain ⟨u', r', q⟩ := hl j y v' e1 e2 e3
        refine ⟨u', r', ?_⟩
        rcases q with ⟨k, e⟩ | ⟨k, c, e, z⟩
        · refine .inl ⟨k, ?_⟩
          have : y ≠ x := fun e => hj (nodup_ix hN e1 (e ▸ hi))
          simp [this, e]
        · exact .inr ⟨k, c, e, z.sameBut hs (cne y c e)⟩
    · obtain ⟨w', z⟩ := I.cell y c e
      exact ⟨w', z.sameBut hs (cne y c e)⟩
    · obtain ⟨e, n, ne, nf, d⟩ := I.pin p hp
      exact ⟨(hs.2 p.1 ne).trans e, n, ne, nf, d⟩
  · have hfn : X.fn x = true := by
      rcases hf with z | z
      · exact z
      · rw [z] at hk; cases hk
    obtain ⟨c, hc⟩ := I.ok.has x (.inl hk)
    obtain ⟨w', z⟩ := I.cell x c hc
    refine wpAny_storeName_cell I.ok.kind hk hc z (fun h' hc' hs => ?_)
    obtain ⟨oc, hoc, hocd⟩ := id z
    refine h { s with heap := h' } ⟨I.ok, I.os, I.bare, ⟨fun b o e n hb hx => ?_, fun b o e n hb hx => ?_, I.base.free, fun b o e hx => ?_, I.base.tups, I.base.frzs, I.base.tbls⟩, ⟨m, hn.sameBut hs (Ne.symm (cne x c hc)), fun j y v' e1 e2 e3 => ?_⟩, fun y c' e => ?_, I.free, I.freeC, fun p hp => ?_, tracked ⟨oc, hoc, I.freeC x c hc⟩ hs, by simpa using I.len⟩ ⟨c, hs, .inr hc⟩
    · exact (hs.2 b (Nat.ne_of_lt (Nat.lt_of_lt_of_le (Heap.lt_size e) (I.ok.cab x c hfn hc)))).trans (I.base.keep b o e n hb hx)
    · obtain ⟨sl, e1⟩ := I.base.slot b o e n hb hx
      exact ⟨sl, (hs.2 b (Nat.ne_of_lt (Nat.lt_of_lt_of_le (Heap.lt_size e) (I.ok.cab x c hfn hc)))).trans e1⟩
    · obtain ⟨o', e1⟩ := I.base.there b o e hx
      exact ⟨o', (hs.2 b (Nat.ne_of_lt (Nat.lt_of_lt_of_le (Heap.lt_size e) (I.ok.cab x c hfn hc)))).trans e1⟩
    · by_cases hj : j = i
      · subst hj
        rw [hi] at e1; cases e1
        rw [List.getElem?_set_self hiσ] at e2
        cases e2
        exact ⟨u, r, .inr ⟨.inl hk, c, hc, hc'⟩⟩
      · rw [List.getElem?_set_ne (Ne.symm hj)] at e2
        obtain ⟨u', r', q⟩ := hl j y v' e1 e2 e3
        refine ⟨u', r', ?_⟩
        rcases q with q | ⟨k, c', e, z'⟩
        · exact .inl q
        · refine .inr ⟨k, c', e, z'.sameBut hs ?_⟩
          rintro rfl
          exact hj (nodup_ix hN e1 (I.ok.inj _ _ _ e hc ▸ hi))
    · by_cases hcc : c' = c
      · subst hcc; exact ⟨_, hc'⟩
      · obtain ⟨w2, z2⟩ := I.cell y c' e
        exact ⟨w2, z2.sameBut hs hcc⟩
    · obtain ⟨e, n, ne, nf, d⟩ := I.pin p hp
      refine ⟨(hs.2 p.1 ?_).trans e, n, ne, nf, d⟩
      intro q
      rw [q, hoc] at e
      have q' : oc = p.2 := Option.some.inj e
      exact d w' (by rw [← q']; exact hocd)
theorem store_ok {M : Model} {A : Around} {E : Value → Shared → Prop} {i : Nat} {x : Str} {v : V} {u : Value} {Q : Unit → Shared → Prop} (I : Inv X pins σ H s) (hN : X.N.Nodup) (hi : X.N[i]? = some x) (hx : Loc X.env.scope x) (r : RelV v u)
    (h : ∀ s', Inv X pins (σ.set i (some v)) H s' → Q () s') (hf : X.fn x = true ∨ X.env.scope.names.lookup x = some .local := by first | exact .inl rfl | exact .inr rfl | assumption) : wpAny M A (storeName X.env x u) Q E s :=
  store_ok2 I hN hi hx r (fun s' I' _ => h s' I') hf
theorem Inv.call' {s' : Shared} {ch : List Addr} (I : Inv X pins σ H s) (ho : s'.os = s.os) (u : Un (frs X.stack) ch H H' s.heap s'.heap) (hok : HOk X.prog X.w H' s'.heap) (hg : AllBare s'.gens)
    (hch : ∀ b ∈ ch, (b ∈ X.ex ∨ X.s₀.heap.objs.size ≤ b) ∧ b ≠ X.env.locals ∧ (∀ x c, X.env.cells.lookup x = some c → c ≠ b) ∧ ∀ p ∈ X.pn ++ pins, p.1 ≠ b) : Inv X pins σ H' s' := by
  obtain ⟨h', g', d', t', o'⟩ := s'
  have e : o' = s.os := ho
  subst e
  exact I.call (g' := g') (t' := t') (d' := d') u hok hg hch
end
noncomputable abbrev XK := Value → Option Addr → Hp → Prop
noncomputable abbrev St := List (Option V)
noncomputable abbrev VK := V → Hp → Prop
noncomputable abbrev TE := St → Hp → VK → Prop
noncomputable abbrev TT := St → Hp → (Bool → Hp → Prop) → Prop
noncomputable abbrev TA := St → Hp → (List V → Hp → Prop) → Prop
structure Ends where
  nx : St → Hp → Prop
  rt : VK
  bk : St → Hp → Prop := fun _ _ => False
  ct : St → Hp → Prop := fun _ _ => False
noncomputable abbrev TS := Ends → St → Hp → Prop
noncomputable def EP (X : Cx) (pins : List (Addr × Obj)) (σ : St) (Q : VK) (u : Value) (s' : Shared) : Prop := ∃ v H', Inv X pins σ H' s' ∧ RelV v u ∧ Q v H'
noncomputable def TP (X : Cx) (pins : List (Addr × Obj)) (σ : St) (Q : Bool → Hp → Prop) (b : Bool) (s' : Shared) : Prop := ∃ H', Inv X pins σ H' s' ∧ Q b H'
noncomputable def AP (X : Cx) (pins : List (Addr × Obj)) (σ : St) (Q : List V → Hp → Prop) (us : List Value) (s' : Shared) : Prop := ∃ vs H', Inv X pins σ H' s' ∧ Vals vs us ∧ Q vs H'
noncomputable def SP (X : Cx) (pins : List (Addr × Obj)) (D : Ends) (f : Flow) (s' : Shared) : Prop :=
  match f with
  | .next => ∃ σ' H', Inv X pins σ' H' s' ∧ D.nx σ' H'
  | .brk => ∃ σ' H', Inv X pins σ' H' s' ∧ D.bk σ' H'
  | .cont => ∃ σ' H', Inv X pins σ' H' s' ∧ D.ct σ' H'
  | .ret u => ∃ v σ' H', Inv X pins σ' H' s' ∧ RelV v u ∧ D.rt v H'
noncomputable def PE (X : Cx) (e : Expr) (t : TE) : Prop :=
  ∀ (pins : List (Addr × Obj)) (s : Shared) (σ : St) (H : Hp) (Q : VK), Inv X pins σ H s → t σ H Q → wpAny (model X.prog X.w) X.A (eval e X.env) (EP X pins σ Q) X.xe s
noncomputable def PT (X : Cx) (e : Expr) (t : TT) : Prop :=
  ∀ (pins : List (Addr × Obj)) (s : Shared) (σ : St) (H : Hp) (Q : Bool → Hp → Prop), Inv X pins σ H s → t σ H Q → wpAny (model X.prog X.w) X.A (isTrue e X.env (eval e X.env)) (TP X pins σ Q) X.xe s
noncomputable def PW (X : Cx) (e : Expr) (t : TT) : Prop :=
  ∀ (whole : Sem Value) (pins : List (Addr × Obj)) (s : Shared) (σ : St) (H : Hp) (Q : Bool → Hp → Prop), Inv X pins σ H s → t σ H Q → wpAny (model X.prog X.w) X.A (isTrue e X.env whole) (TP X pins σ Q) X.xe s
noncomputable def PA (X : Cx) (es : List Expr) (t : TA) : Prop :=
  ∀ (pos : Pos) (pins : List (Addr × Obj)) (s : Shared) (σ : St) (H : Hp) (Q : List V → Hp → Prop), Inv X pins σ H s → t σ H Q → wpAny (model X.prog X.w) X.A (spliced (backTo pos (starEach es X.env))) (AP X pins σ Q) X.xe s
noncomputable def PS (X : Cx) (st : Stmt) (t : TS) : Prop :=
  ∀ (pins : List (Addr × Obj)) (s : Shared) (σ : St) (H : Hp) (D : Ends), Inv X pins σ H s → t D σ H → wpAny (model X.prog X.w) X.A (exec st X.env) (SP X pins D) X.xe s
noncomputable def PSs (X : Cx) (st : List Stmt) (t : TS) : Prop :=
  ∀ (pins : List (Addr × Obj)) (s : Shared) (σ : St) (H : Hp) (D : Ends), Inv X pins σ H s → t D σ H → wpAny (model X.prog X.w) X.A (execs st X.env) (SP X pins D) X.xe s
theorem thn {α : Type} {t : Sem α} {Q Q' : α → Shared → Prop} {M : Model} {A : Around} {E : Value → Shared → Prop} {s : Shared} (h : wpAny M A t Q E s) (hQ : ∀ a s, Q a s → Q' a s) : wpAny M A t Q' E s := wpAny_mono h hQ fun _ _ x => x
end L2
namespace L2
open PySem PySem.Spec PyProof.Rows
section
variable {X : Cx}
noncomputable def tVar (i : Nat) : TE := fun σ H Q => ∃ v, σ[i]? = some (some v) ∧ Q v H
noncomputable def tC (v : V) : TE := fun _ H Q => Q v H
theorem pe_var {i : Nat} {x : Str} {pos : Pos} (hN : X.N[i]? = some x) (hv : Vis X.env.scope x) (hd : (x == ("__debug__" : Str)) = false := by decide) (hcd : (x == ("__classdict__" : Str)) = false := by decide) : PE X (.Name x pos) (tVar i) := by
  intro pins s σ H Q I h
  obtain ⟨v, e, h⟩ := h
  obtain ⟨m, hn, hl⟩ := I.loc
  obtain ⟨u, r, l⟩ := hl i x v hN e hv
  have fin : EP X pins σ Q u s := ⟨v, H, I, r, h⟩
  rcases l with ⟨hk, hm⟩ | ⟨hk, c, hc, hcell⟩
  · exact wpAny_Name (wpAny_loadName_local I.ok.kind hk hn hm fin) hd
  · rcases hk with hk | hk
    · exact wpAny_Name (wpAny_loadName_cell I.ok.kind hk hc hcell fin) hd
    · exact wpAny_Name (wpAny_loadName_free I.ok.kind hk hc hcell fin hcd) hd
theorem pe_int {i j pos} : PE X (.Constant (.int i) j pos) (tC (.int i)) := fun _ _ _ H _ I h => wpAny_Constant_int ⟨.int i, H, I.tok _, ⟨_, rfl⟩, h⟩
theorem pe_bl {b j pos} : PE X (.Constant (.bool b) j pos) (tC (.bl b)) := fun _ _ _ H _ I h => Constant_bool ⟨.bl b, H, I, rfl, h⟩
theorem pe_non {j pos} : PE X (.Constant .none j pos) (tC .non) := fun _ _ _ H _ I h => Constant_none ⟨.non, H, I, rfl, h⟩
noncomputable def Gl (X : Cx) (x : Str) : Prop := X.env.kindOf x = some .globalImplicit
theorem ld_glob {E : Value → Shared → Prop} {pins : List (Addr × Obj)} {s : Shared} {σ : St} {H : Hp} {x : Str} {u : Value} {pos : Pos} {Q : Value → Shared → Prop} (I : Inv X pins σ H s) (hg : Gl X x) (hm : X.mg x = some u) (h : Q u s)
    (hd : (x == ("__debug__" : Str)) = false := by decide) : wpAny (model X.prog X.w) X.A (eval (.Name x pos) X.env) Q E s :=
  Calls.Name_function_global I.ok.kind hg (Calls.loadGlobal_global (by rw [I.ok.glob]; exact I.mod.glob.keeps I.bk) hm h) hd
theorem ld_blt {E : Value → Shared → Prop} {pins : List (Addr × Obj)} {s : Shared} {σ : St} {H : Hp} {x : Str} {u : Value} {pos : Pos} {Q : Value → Shared → Prop} (I : Inv X pins σ H s) (hg : Gl X x) (hm : X.mg x = none) (hv : bootBuiltins x = some u) (h : Q u s)
    (hn : x ≠ "__name__" := by decide) (hd : (x == ("__debug__" : Str)) = false := by decide) : wpAny (model X.prog X.w) X.A (eval (.Name x pos) X.env) Q E s := by
  obtain ⟨mb, h1, h2⟩ := I.mod.blt
  exact Calls.Name_function_global I.ok.kind hg (Calls.loadGlobal_builtin (by rw [I.ok.glob]; exact I.mod.glob.keeps I.bk) hm (by rw [I.ok.blt]; exact h1.keeps I.bk) ((h2 x hn).trans hv) h) hd
theorem pe_glob {x : Str} {v : V} {u : Value} {pos : Pos} (hg : Gl X x) (hm : X.mg x = some u) (r : RelV v u) (hd : (x == ("__debug__" : Str)) = false := by decide) : PE X (.Name x pos) (tC v) :=
  fun _ _ _ H _ I h => ld_glob I hg hm ⟨v, H, I, r, h⟩ hd
theorem pe_bltn {x : Str} {v : V} {u : Value} {pos : Pos} (hg : Gl X x) (hm : X.mg x = none) (hv : bootBuiltins x = some u) (r : RelV v u) (hn : x ≠ "__name__" := by decide) (hd : (x == ("__debug__" : Str)) = false := by decide) : PE X (.Name x pos) (tC v) :=
  fun _ _ _ H _ I h => ld_blt I hg hm hv ⟨v, H, I, r, h⟩ hn hd
variable {a b : Expr} {ta tb : TE} {pos : Pos}
noncomputable def PC (X : Cx) (op : CmpOp) (a b : Expr) (t : TE) : Prop :=
  ∀ (pins : List (Addr × Obj)) (s : Shared) (σ : St) (H : Hp) (Q : VK), Inv X pins σ H s → t σ H Q →
    wpAny (model X.prog X.w) X.A (eval a X.env) (fun v s₁ => wpAny (model X.prog X.w) X.A (eval b X.env) (fun u s₂ => wpAny (model X.prog X.w) X.A (compareOp op v u) (EP X pins σ Q) X.xe s₂) X.xe s₁) X.xe s
theorem nobehind (b : Expr) {op : CmpOp} (h : op ≠ .In) (h2 : op ≠ .NotIn) : behindInMarks op b = false := by
  have e1 : (op == CmpOp.In) = false := by cases op <;> first | rfl | exact absurd rfl h
  have e2 : (op == CmpOp.NotIn) = false := by cases op <;> first | rfl | exact absurd rfl h2
  cases b <;> simp [behindInMarks, e1, e2]
noncomputable def tNotN (ta : TE) : TE := fun σ H Q => ta σ H fun x H1 => Q (.bl (!decide (x = .non))) H1
theorem RelV.none_iff {x : V} {v : Value} (r : RelV x v) : (v == Value.none) = decide (x = .non) := by
  cases x with
  | non => cases r; rfl
  | bl _ => cases r; rfl
  | int _ => obtain ⟨t, rfl⟩ := r; rfl
  | str _ => obtain ⟨t, rfl⟩ := r; rfl
  | byt _ => obtain ⟨t, rfl⟩ := r; rfl
  | flt _ => obtain ⟨t, rfl⟩ := r; rfl
  | ref _ => cases r; rfl
  | ty _ => cases r; rfl
theorem pc_notN {j pos'} (ha : PE X a ta) : PC X .IsNot a (.Constant .none j pos') (tNotN ta) := by
  intro pins s σ H Q I h
  refine thn (ha pins s σ H _ I h) fun v s1 hh57 => Zz.b5 hh57 fun x H1 I1 r1 q1 => ?_
  exact Constant_none (isnot_none_gen ⟨.bl _, H1, I1, by rw [r1.none_iff]; rfl, q1⟩)
noncomputable def tB (t : TE) : TT := fun σ H Q => t σ H fun x H1 => ∃ c, x = .bl c ∧ Q c H1
theorem pt_cmp {op : CmpOp} {t : TE} (h : PC X op a b t) (h1 : behindInMarks op b = false := by first | exact nobehind _ (by decide) (by decide) | rfl) : PT X (.Compare a [op] [b] pos) (tB t) := by
  intro pins s σ H Q I hw
  refine wpAny_isTrue_Compare1 (thn (h pins s σ H _ I hw) fun v s1 h1 => thn h1 fun u s2 h2 => thn h2 fun c s3 hh58 => Zz.b5 hh58 fun x H1 I1 r1 q1 => ?_) h1
  obtain ⟨d, rfl, q⟩ := q1
  cases r1
  exact wpAny_truthy_bool ⟨H1, I1, q⟩
theorem pt_val {e : Expr} {t : TE} (h : PE X e t) (he : ∀ whole, isTrue e X.env whole = (do let v ← whole; standAt e.pos; holding [v] (truthy v)) := by intro _; rfl) : PT X e (tB t) := by
  intro pins s σ H Q I hw
  refine isTrue_plain (thn (h pins s σ H _ I hw) fun v s1 hh59 => Zz.b5 hh59 fun x H1 I1 r1 q1 => ?_) (he _)
  obtain ⟨d, rfl, q⟩ := q1
  cases r1
  exact wpAny_truthy_bool ⟨H1, I1, q⟩
variable {tA tB' : TT} {rest : List Expr}
noncomputable def tAnd (t u : TT) : TT := fun σ H Q => t σ H fun c H1 => if c = true then u σ H1 Q else Q false H1
noncomputable def tOr (t u : TT) : TT := fun σ H Q => t σ H fun c H1 => if c = true then Q true H1 else u σ H1 Q
noncomputable def tNot (t : TT) : TT := fun σ H Q => t σ H fun c H1 => Q (!c) H1
theorem pw_and1 (ha : PT X a tA) : PW X (.BoolOp .And [a] pos) tA := by
  intro wh pins s σ H Q I h
  refine isTrue_and (thn (ha pins s σ H Q I h) fun c s1 e => ?_)
  cases c with
  | true => exact isTrue_and_nil e
  | false => exact e
theorem pw_or1 (ha : PT X a tA) : PW X (.BoolOp .Or [a] pos) tA := by
  intro wh pins s σ H Q I h
  refine isTrue_or (thn (ha pins s σ H Q I h) fun c s1 e => ?_)
  cases c with
  | false => exact isTrue_or_nil e
  | true => exact e
theorem pw_and (ha : PT X a tA) (hb : PW X (.BoolOp .And (b :: rest) pos) tB') : PW X (.BoolOp .And (a :: b :: rest) pos) (tAnd tA tB') := by
  intro wh pins s σ H Q I h
  refine isTrue_and (thn (ha pins s σ H _ I h) fun c s1 ⟨H1, I1, q1⟩ => ?_)
  cases c with
  | true => exact hb wh pins s1 σ H1 Q I1 q1
  | false => exact ⟨H1, I1, q1⟩
theorem pw_or (ha : PT X a tA) (hb : PW X (.BoolOp .Or (b :: rest) pos) tB') : PW X (.BoolOp .Or (a :: b :: rest) pos) (tOr tA tB') := by
  intro wh pins s σ H Q I h
  refine isTrue_or (thn (ha pins s σ H _ I h) fun c s1 ⟨H1, I1, q1⟩ => ?_)
  cases c with
  | true => exact ⟨H1, I1, q1⟩
  | false => exact hb wh pins s1 σ H1 Q I1 q1
theorem pt_not (ha : PT X a tA) : PT X (.UnaryOp .Not a pos) (tNot tA) := by
  intro pins s σ H Q I h
  exact isTrue_not (ha pins s σ H (fun c H1 => Q (!c) H1) I h)
noncomputable def tAndV (ta tb : TE) : TE := fun σ H Q => ta σ H fun x H1 => ∃ c, x = .bl c ∧ if c = true then tb σ H1 Q else Q (.bl false) H1
theorem pe_one {op} {t : TE} (h : PE X a t) : PE X (.BoolOp op [a] pos) t := fun pins s σ H Q I hw => BoolOp_one (h pins s σ H Q I hw)
theorem pe_and (ha : PE X a ta) (hb : PE X (.BoolOp .And (b :: rest) pos) tb) : PE X (.BoolOp .And (a :: b :: rest) pos) (tAndV ta tb) := by
  intro pins s σ H Q I h
  refine BoolOp_and (thn (ha pins s σ H _ I h) fun v s1 hh60 => Zz.b5 hh60 fun x H1 I1 r1 q1 => ?_)
  obtain ⟨c, rfl, q1⟩ := q1
  cases r1
  refine wpAny_truthy_bool ?_
  cases c with
  | true => exact hb pins s1 σ H1 Q I1 q1
  | false => exact ⟨.bl false, H1, I1, rfl, q1⟩
end
end L2
namespace L2
open PySem PySem.Spec PyProof.Rows
noncomputable def SqL (K : PySem.W.Frag) (H : Hp) (a : Addr) (xs : List V) : Prop :=
  Rd H a (.lst xs) ∨
    ∃ (o : Obj) (its : Array Value) (n : Nat), K.lookup a = some o ∧ o.cls = .type "list" ∧ o.dict = none ∧ o.data = .seq its n ∧ its.size ≤ sizeLine ∧ Vals xs its.toList
noncomputable def SqT (K : PySem.W.Frag) (H : Hp) (a : Addr) (xs : List V) : Prop :=
  Rd H a (.tup xs) ∨
    ∃ (o : Obj) (its : Array Value) (n : Nat), K.lookup a = some o ∧ o.cls = .type "tuple" ∧ o.data = .seq its n ∧ its.size ≤ sizeLine ∧ Vals xs its.toList
noncomputable def absV : Value → Option V
  | .none => some .non
  | .bool b => some (.bl b)
  | .int i _ => some (.int i)
  | .str x _ => some (.str x)
  | .bytes b _ => some (.byt b)
  | .float b _ => some (.flt b)
  | .ref a => some (.ref a)
  | .type n => some (.ty n)
  | _ => none
theorem RelV.abs {x : V} {u : Value} (r : RelV x u) : absV u = some x := by
  cases x with
  | non => cases r; rfl
  | bl _ => cases r; rfl
  | int _ => obtain ⟨t, rfl⟩ := r; rfl
  | str _ => obtain ⟨t, rfl⟩ := r; rfl
  | byt _ => obtain ⟨t, rfl⟩ := r; rfl
  | flt _ => obtain ⟨t, rfl⟩ := r; rfl
  | ref _ => cases r; rfl
  | ty _ => cases r; rfl
theorem RelV.inj {x y : V} {u : Value} (r : RelV x u) (q : RelV y u) : x = y := Option.some.inj (r.abs.symm.trans q.abs)
theorem Vals.inj : ∀ {xs ys : List V} {us : List Value}, Vals xs us → Vals ys us → xs = ys
  | _, _, _, .nil, .nil => rfl
  | _, _, _, .cons r t, .cons r' t' => by rw [r.inj r', Vals.inj t t']
section
variable {X : Cx} {pins : List (Addr × Obj)} {σ : St} {H : Hp} {s : Shared} {a : Addr} {xs ys : List V}
theorem SqL.of {K : PySem.W.Frag} (h : H a = some (.lst xs)) : SqL K H a xs := .inl (.inl h)
theorem SqT.of {K : PySem.W.Frag} (h : H a = some (.tup xs)) : SqT K H a xs := .inl (.inl h)
theorem Inv.list (I : Inv X pins σ H s) (h : SqL X.K H a xs) : ∃ its : List Value, Vals xs its ∧ PlainL s.heap a its.toArray ∧ xs.length ≤ sizeLine := by
  rcases h with h | ⟨o, its, n, hk, hc, hd, hs, hz, r⟩
  · obtain ⟨z, its, n, r, e⟩ := h.ok I.hok
    exact ⟨its, r, ⟨_, n, e, rfl, rfl, rfl⟩, z⟩
  · refine ⟨its.toList, r, ⟨o, n, I.kIn a o hk, hc, hd, by simpa using hs⟩, ?_⟩
    have e := r.length
    simp only [Array.length_toList] at e
    omega
theorem Inv.tuple (I : Inv X pins σ H s) (h : SqT X.K H a xs) : ∃ its : List Value, Vals xs its ∧ IsTup s.heap a its.toArray ∧ xs.length ≤ sizeLine := by
  rcases h with h | ⟨o, its, n, hk, hc, hs, hz, r⟩
  · obtain ⟨z, its, r, p⟩ := h.ok I.hok
    exact ⟨its, r, p, z⟩
  · refine ⟨its.toList, r, ⟨o, I.kIn a o hk, hc, n, by simpa using hs⟩, ?_⟩
    have e := r.length
    simp only [Array.length_toList] at e
    omega
theorem Inv.list_inj (I : Inv X pins σ H s) (h : SqL X.K H a xs) (h' : SqL X.K H a ys) : xs = ys := by
  obtain ⟨its, r, ⟨o, n, e, _, _, d⟩, _⟩ := I.list h
  obtain ⟨its', r', ⟨o', n', e', _, _, d'⟩, _⟩ := I.list h'
  rw [e] at e'; cases e'
  rw [d] at d'
  injection d' with d1 _
  have : its = its' := by simpa using congrArg Array.toList d1
  subst this
  exact r.inj r'
end
noncomputable abbrev Cx.wish (X : Cx) (E : Value → Shared → Prop) : Cx := { X with xe := E }
noncomputable abbrev Cx.nox (X : Cx) : Cx := X.wish fun _ _ => False
theorem Cx.Ok.wish {X : Cx} (ok : X.Ok) (E : Value → Shared → Prop) : (X.wish E).Ok :=
  ⟨ok.mod, ok.kind, ok.glob, ok.blt, ok.above, ok.inj, ok.has, ok.cab, ok.hd, ok.frames, ok.stk, ok.exf, ok.bs, ok.bsz, ok.noex, ok.exfs, ok.funs, ok.frf⟩
theorem Cx.Ok.unwish {X : Cx} {E : Value → Shared → Prop} (ok : (X.wish E).Ok) : X.Ok :=
  ⟨ok.mod, ok.kind, ok.glob, ok.blt, ok.above, ok.inj, ok.has, ok.cab, ok.hd, ok.frames, ok.stk, ok.exf, ok.bs, ok.bsz, ok.noex, ok.exfs, ok.funs, ok.frf⟩
section
variable {X : Cx} {pins : List (Addr × Obj)} {σ : St} {H : Hp} {s : Shared} {E : Value → Shared → Prop}
theorem Inv.wish (I : Inv X pins σ H s) (E : Value → Shared → Prop) : Inv (X.wish E) pins σ H s := ⟨I.ok.wish E, I.os, I.bare, I.base, I.loc, I.cell, I.free, I.freeC, I.pin, I.hok, I.len⟩
theorem Inv.unwish (I : Inv (X.wish E) pins σ H s) : Inv X pins σ H s := ⟨I.ok.unwish, I.os, I.bare, I.base, I.loc, I.cell, I.free, I.freeC, I.pin, I.hok, I.len⟩
theorem SP.unwish {D : Ends} {f : Flow} {s' : Shared} (h : SP (X.wish E) pins D f s') : SP X pins D f s' := by
  cases f with
  | next => obtain ⟨σ', H', I, q⟩ := h; exact ⟨σ', H', I.unwish, q⟩
  | brk => obtain ⟨σ', H', I, q⟩ := h; exact ⟨σ', H', I.unwish, q⟩
  | cont => obtain ⟨σ', H', I, q⟩ := h; exact ⟨σ', H', I.unwish, q⟩
  | ret u => obtain ⟨v, σ', H', I, r, q⟩ := h; exact ⟨v, σ', H', I.unwish, r, q⟩
theorem PSs.nox {st : List Stmt} {t : TS} (h : PSs X.nox st t) : PSs X st t := fun pins s σ H D I hw =>
  wpAny_mono (h pins s σ H D (I.wish _) hw) (fun _ _ q => q.unwish) fun _ _ z => False.elim z
end
section
variable {X : Cx} {st : Stmt} {rest : List Stmt} {t u : TS} {e : Expr} {te : TE} {pos : Pos}
noncomputable def tNext : TS := fun D σ H => D.nx σ H
noncomputable def tSeq (t u : TS) : TS := fun D σ H => t { D with nx := u D } σ H
theorem pss_nil : PSs X [] tNext := fun _ _ σ H _ I h => wpAny_execs_nil ⟨σ, H, I, h⟩
theorem pss_cons (h1 : PS X st t) (h2 : PSs X rest u) : PSs X (st :: rest) (tSeq t u) := by
  intro pins s σ H D I h
  refine wpAny_execs_cons (thn (h1 pins s σ H { D with nx := u D } I h) fun f s1 q => ?_)
  cases f with
  | next =>
    obtain ⟨σ', H', I', q⟩ := q
    exact h2 pins s1 σ' H' D I' q
  | ret v => exact q
  | brk => exact q
  | cont => exact q
theorem pss_one (h1 : PS X st t) : PSs X [st] t := by
  intro pins s σ H D I h
  refine wpAny_execs_cons (thn (h1 pins s σ H D I h) fun f s1 q => ?_)
  cases f with
  | next => exact wpAny_execs_nil q
  | ret v => exact q
  | brk => exact q
  | cont => exact q
theorem Inv.quiet {pins : List (Addr × Obj)} {σ : St} {H : Hp} {s : Shared} (I : Inv X pins σ H s) : interactive X.env = false := by simp [interactive, I.ok.kind]
noncomputable def tDrop (te : TE) : TS := fun D σ H => te σ H fun _ H1 => D.nx σ H1
theorem ps_expr (he : PE X e te) (hs : swapsWith e none pos.line X.env = pure false := by rfl) : PS X (.Expr e pos) (tDrop te) := by
  intro pins s σ H D I h
  exact wpAny_Expr_any (thn (he pins s σ H _ I h) fun v s1 hh61 => Zz.b5 hh61 fun x H1 I1 r1 q1 => ⟨σ, H1, I1, q1⟩) I.quiet hs
noncomputable def tRet (te : TE) : TS := fun D σ H => te σ H D.rt
theorem ps_ret (he : PE X e te) : PS X (.Return (some e) pos) (tRet te) := by
  intro pins s σ H D I h
  exact wpAny_Return_some (thn (he pins s σ H _ I h) fun v s1 hh62 => Zz.b5 hh62 fun x H1 I1 r1 q1 => ⟨x, σ, H1, I1, r1, q1⟩)
noncomputable def tIfS (c : TT) (t u : TS) : TS := fun D σ H => c σ H fun b H1 => if b = true then t D σ H1 else u D σ H1
theorem ps_if {c : Expr} {a b : List Stmt} {tc : TT} (hc : PT X c tc) (ha : PSs X a t) (hb : PSs X b u) : PS X (.If c a b pos) (tIfS tc t u) := by
  intro pins s σ H D I h
  refine wpAny_If (thn (hc pins s σ H _ I h) fun d s1 ⟨H1, I1, q1⟩ => ?_)
  cases d with
  | true => exact ha pins s1 σ H1 D I1 q1
  | false => exact hb pins s1 σ H1 D I1 q1
noncomputable def tNever : TS := fun _ _ _ => False
theorem pss_never {sts : List Stmt} : PSs X sts tNever := fun _ _ _ _ _ _ h => h.elim
end
noncomputable abbrev TG := V → St → Hp → (St → Hp → Prop) → Prop
noncomputable abbrev TGs := List V → St → Hp → (St → Hp → Prop) → Prop
noncomputable def PG (X : Cx) (target : Expr) (t : TG) : Prop :=
  ∀ (pins : List (Addr × Obj)) (s : Shared) (σ : St) (H : Hp) (v : V) (u : Value) (Q : St → Hp → Prop), Inv X pins σ H s → RelV v u → t v σ H Q →
    wpAny (model X.prog X.w) X.A (assign target X.env u) (fun _ s' => ∃ σ' H', Inv X pins σ' H' s' ∧ Q σ' H') X.xe s
noncomputable def PGs (X : Cx) (ts : List Expr) (t : TGs) : Prop :=
  ∀ (pins : List (Addr × Obj)) (s : Shared) (σ : St) (H : Hp) (vs : List V) (us : List Value) (Q : St → Hp → Prop), Inv X pins σ H s → Vals vs us → t vs σ H Q →
    wpAny (model X.prog X.w) X.A (assignInOrder ((assignEach ts X.env).map (·.2)) us) (fun _ s' => ∃ σ' H', Inv X pins σ' H' s' ∧ Q σ' H') X.xe s
section
variable {X : Cx} {pos : Pos}
noncomputable def gName (i : Nat) : TG := fun v σ H Q => Q (σ.set i (some v)) H
theorem pg_name {i : Nat} {x : Str} (hN : X.N.Nodup) (hi : X.N[i]? = some x) (hx : Loc X.env.scope x) (hf : X.fn x = true ∨ X.env.scope.names.lookup x = some .local := by first | exact .inl rfl | exact .inr rfl | assumption) : PG X (.Name x pos) (gName i) := by
  intro pins s σ H v u Q I r h
  exact wpAny_assign_Name (store_ok I hN hi hx r (fun s' I' => ⟨_, H, I', h⟩) hf)
noncomputable def gNil : TGs := fun vs σ H Q => vs = [] ∧ Q σ H
noncomputable def gCons (t : TG) (u : TGs) : TGs := fun vs σ H Q => ∃ v r, vs = v :: r ∧ t v σ H fun σ' H' => u r σ' H' Q
theorem pgs_nil : PGs X [] gNil := by
  intro pins s σ H vs us Q I r h
  obtain ⟨e, h⟩ := h
  subst e
  cases r
  exact assignInOrder_nil ⟨σ, H, I, h⟩
theorem pgs_cons {e : Expr} {es : List Expr} {t : TG} {u : TGs} (h1 : PG X e t) (h2 : PGs X es u)
    (hs : (assignEach (e :: es) X.env).map (·.2) = assign e X.env :: (assignEach es X.env).map (·.2) := by rfl) : PGs X (e :: es) (gCons t u) := by
  intro pins s σ H vs us Q I r h
  obtain ⟨v, vr, e1, h⟩ := h
  subst e1
  cases r with
  | cons r rr =>
    rw [hs]
    refine assignInOrder_cons (thn (h1 pins s σ H _ _ _ I r h) fun _ s1 ⟨σ1, H1, I1, q1⟩ => ?_)
    exact h2 pins s1 σ1 H1 _ _ Q I1 rr q1
noncomputable def gTup (K : PySem.W.Frag) (n : Nat) (t : TGs) : TG := fun v σ H Q => ∃ a xs, v = .ref a ∧ SqT K H a xs ∧ xs.length = n ∧ t xs σ H Q
theorem pg_tup {es : List Expr} {k : Nat} {t : TGs} {n : Nat} (hc : X.calm = true) (h : PGs X es t)
    (hn : (assignEach es X.env).length = n := by rfl) (hst : (assignEach es X.env).findIdx? (·.1) = none := by rfl) : PG X (.Tuple es k pos) (gTup X.K n t) := by
  intro pins s σ H v u Q I r hw
  obtain ⟨a, xs, e1, hq, hl, hw⟩ := hw
  subst e1
  cases r
  obtain ⟨its, rv, ht, hz⟩ := I.tuple hq
  refine assign_Tuple_tuple (I.ok.hd hc) ht (by simp [hn, ← hl, rv.length]) hst fun h' hx => ?_
  have I1 : Inv X pins σ H { s with heap := h' } := I.kept (t' := s.toks) fun b o e => hx b o (Nat.ne_of_lt (Heap.lt_size e)) e
  exact h pins _ σ H xs _ Q I1 (by simpa using rv) hw
noncomputable def tAsg (te : TE) (g : TG) : TS := fun D σ H => te σ H fun x H1 => g x σ H1 D.nx
theorem ps_asg {tg e : Expr} {te : TE} {g : TG} (he : PE X e te) (hg : PG X tg g) (hs : swapsWithSole [tg] e pos.line X.env = pure false := by rfl) (hw : swappedStores [tg] e X.env = pure none := by rfl)
    (h1 : (assignEach [tg] X.env).map (·.2) = [assign tg X.env] := by rfl) : PS X (.Assign [tg] e pos) (tAsg te g) := by
  intro pins s σ H D I h
  refine wpAny_Assign_stores (thn (he pins s σ H _ I h) fun v s1 hh63 => Zz.b5 hh63 fun x H1 I1 r1 q1 => ?_) hs hw
  rw [h1]
  exact thn (hg pins s1 σ H1 x v _ I1 r1 q1) fun _ s2 q => q
theorem ps_set {i : Nat} {x : Str} {e : Expr} {te : TE} {pos' : Pos} (hN : X.N.Nodup) (hi : X.N[i]? = some x) (hx : Loc X.env.scope x) (he : PE X e te) (hs : swapsWith e (some (.Name x pos')) pos.line X.env = pure false := by rfl) (hf : X.fn x = true ∨ X.env.scope.names.lookup x = some .local := by first | exact .inl rfl | exact .inr rfl | assumption) :
    PS X (.Assign [.Name x pos'] e pos) (tAsg te (gName i)) := by
  intro pins s σ H D I h
  refine wpAny_Assign_Name (thn (he pins s σ H _ I h) fun v s1 hh64 => Zz.b5 hh64 fun y H1 I1 r1 q1 => ?_) hs
  exact store_ok I1 hN hi hx r1 (fun s2 I2 => ⟨_, H1, I2, q1⟩) hf
end
section
variable {X : Cx} {pos : Pos}
end
structure It where
  go : Nat → Hp → Prop
  yld : Nat → Hp → V → Hp → Prop
  stop : Nat → Hp → Prop
noncomputable def FpOk (X : Cx) (pins : List (Addr × Obj)) (H : Hp) (b : Addr) : Prop :=
  H b = none ∧ b ≠ X.env.locals ∧ b ∉ X.fs ∧ (b ∈ X.ex ∨ X.s₀.heap.objs.size ≤ b) ∧ (∀ x c, X.env.cells.lookup x = some c → c ≠ b) ∧ ∀ p ∈ X.pn ++ pins, p.1 ≠ b
theorem Inv.fpOk {X : Cx} {pins : List (Addr × Obj)} {σ : St} {H H' : Hp} {s : Shared} {b : Addr} (I : Inv X pins σ H s) (hb : s.heap.objs.size ≤ b) (hn : H' b = none) : FpOk X pins H' b := by
  refine ⟨hn, Nat.ne_of_gt (Nat.lt_of_lt_of_le I.lt hb), I.nofs hb, .inr (Nat.le_trans I.sz hb), fun x c e z => ?_, fun p hp z => ?_⟩
  · obtain ⟨v, q⟩ := I.cell x c e
    exact absurd (Nat.lt_of_lt_of_le q.lt (by rw [z]; exact hb)) (Nat.lt_irrefl _)
  · exact absurd (Nat.lt_of_lt_of_le (Heap.lt_size (I.pin p hp).1) (by rw [z]; exact hb)) (Nat.lt_irrefl _)
structure Turn (P : Program) (w : World) (K : PySem.W.Frag) (tg : Expr) (J : It) (fp : List Addr) (it : Addr) (tn : Nat → Heap → Prop) : Prop where
  mem : it ∈ fp
  obj : ∀ i h, tn i h → ∀ b ∈ fp, ∃ o, h.get? b = some o ∧ ∀ v, o.data ≠ .cell v
  keep : ∀ i h h', tn i h → (∀ b ∈ fp, ∀ o, h.get? b = some o → h'.get? b = some o) → tn i h'
  item : ∀ (X : Cx), X.prog = P → X.w = w → X.K = K → X.calm = true → ∀ (i : Nat) (pins : List (Addr × Obj)) (s : Shared) (σ : St) (H : Hp) (E : Value → Shared → Prop), Inv X pins σ H s → (∀ b ∈ fp, FpOk X pins H b) → tn i s.heap → J.go i H →
    wpAny (model P w) X.A (pyNext (.ref it)) (fun r s1 => ∃ u, r = some u ∧
      wpAny (model P w) X.A (letOwnedTupleGo tg (.ref it) u) (fun _ s2 => ∃ x H', Inv X pins σ H' s2 ∧ RelV x u ∧ J.yld i H x H' ∧ tn (i + 1) s2.heap ∧ ∀ b ∈ fp, H' b = none) E s1) E s
  done : ∀ (X : Cx), X.prog = P → X.w = w → X.K = K → X.calm = true → ∀ (i : Nat) (pins : List (Addr × Obj)) (s : Shared) (σ : St) (H : Hp) (E : Value → Shared → Prop), Inv X pins σ H s → (∀ b ∈ fp, FpOk X pins H b) → tn i s.heap → J.stop i H →
    wpAny (model P w) X.A (pyNext (.ref it)) (fun r s1 => r = none ∧ Inv X pins σ H s1) E s
  self : ∀ (A : Around) (i : Nat) (s : Shared) (Q : Value → Shared → Prop) (E : Value → Shared → Prop), tn i s.heap → Q (.ref it) s → wpAny (model P w) A (pyIter (.ref it)) Q E s
noncomputable abbrev TI := St → Hp → (It → Hp → Prop) → Prop
noncomputable def PIE (X : Cx) (pins : List (Addr × Obj)) (σ : St) (tg : Expr) (R : It → Hp → Prop) (itv : Value) (s2 : Shared) : Prop :=
  ∃ (it : Addr) (fp : List Addr) (tn : Nat → Heap → Prop) (J : It) (H' : Hp), itv = .ref it ∧ Inv X pins σ H' s2 ∧ Turn X.prog X.w X.K tg J fp it tn ∧ tn 0 s2.heap ∧ (∀ b ∈ fp, FpOk X pins H' b) ∧ R J H'
noncomputable def PI (X : Cx) (tg iter : Expr) (wi : TI) : Prop :=
  ∀ (pins : List (Addr × Obj)) (s : Shared) (σ : St) (H : Hp) (R : It → Hp → Prop), Inv X pins σ H s → wi σ H R →
    wpAny (model X.prog X.w) X.A (eval iter X.env) (fun v s1 => wpAny (model X.prog X.w) X.A (pyIter v) (PIE X pins σ tg R) X.xe s1) X.xe s
theorem go_of {M : Model} {A : Around} {E : Value → Shared → Prop} {s : Shared} {tg : Expr} {it : Addr} {u : Value} {o : Obj} {n : String} {vs : Array Value} {Q : Unit → Shared → Prop} (ho : s.heap.get? it = some o) (hc : o.cls = .type n) (hd : o.data = .fields vs)
    (hn : ["enumerate", "zip", "dict_itemiterator", "dict_reverseitemiterator", "odict_iterator", "itertools.zip_longest", "itertools.pairwise"].contains n = false) (hQ : Q () s) : wpAny M A (letOwnedTupleGo tg (.ref it) u) Q E s := by
  unfold letOwnedTupleGo
  cases tg <;> first
    | exact wpAny_pure hQ
    | (cases u <;> first
        | exact wpAny_pure hQ
        | (refine wpAny_bind (wpAny_load ho ?_)
           rw [hc, hd]
           show wpAny M A (if (["enumerate", "zip", "dict_itemiterator", "dict_reverseitemiterator", "odict_iterator", "itertools.zip_longest", "itertools.pairwise"].contains n && vs[0]? == some (rawInt _)) = true then _ else _) Q E s
           rw [if_neg (by intro h; rw [hn, Bool.false_and] at h; cases h)]
           exact wpAny_pure hQ))
noncomputable def Itl (K : PySem.W.Frag) (a : Addr) : It :=
  ⟨fun i H => ∃ xs x, SqL K H a xs ∧ xs[i]? = some x, fun i H x H' => H' = H ∧ ∀ xs, SqL K H a xs → xs[i]? = some x, fun i H => ∃ xs, SqL K H a xs ∧ xs.length ≤ i⟩
noncomputable def Itr (lo : Int) (n : Nat) : It := ⟨fun i _ => i < n, fun i H x H' => H' = H ∧ x = .int (lo + i), fun i _ => n ≤ i⟩
theorem turn_list {P : Program} {w : World} {K : PySem.W.Frag} {tg : Expr} (a it : Addr) : Turn P w K tg (Itl K a) [it] it (fun i h => h.IsListIter it a i) where
  mem := by simp
  obj := fun i h st b hb => by
    have e : b = it := by simpa using hb
    subst e
    obtain ⟨o, e, c, d⟩ := st
    exact ⟨o, e, fun v z => by rw [d] at z; cases z⟩
  keep := fun i h h' st k => st.at fun o e => k it (by simp) o e
  item := by
    intro X hP hw hK hc i pins s σ H E I hf st hg
    subst hP hw hK
    obtain ⟨xs, x, hq, hx⟩ := hg
    obtain ⟨its, rv, p, hz⟩ := I.list hq
    obtain ⟨u, hu, ru⟩ := rv.get hx
    obtain ⟨f0, f1, f2, f3, f4, f5⟩ := hf it (by simp)
    refine wpAny_pyNext_list_item st p.isList (x := u) (by simpa using hu) fun h' st' sb => ?_
    have I1 : Inv X pins σ H { s with heap := h' } := I.turned (t' := s.toks) (fun b o hb e => (sb.2 b hb).trans e) f0 f1 f3 f4 f5
    obtain ⟨o, e, c, d⟩ := id st'
    exact ⟨u, rfl, go_of (s := { s with heap := h' }) e c d (by decide) ⟨x, H, I1, ru, ⟨rfl, fun ys hy => by rw [I.list_inj hy hq]; exact hx⟩, st', fun b hb => (hf b hb).1⟩⟩
  done := by
    intro X hP hw hK hc i pins s σ H E I hf st hg
    subst hP hw hK
    obtain ⟨xs, hq, hx⟩ := hg
    obtain ⟨its, rv, p, hz⟩ := I.list hq
    obtain ⟨f0, f1, f2, f3, f4, f5⟩ := hf it (by simp)
    have hl := rv.length
    exact wpAny_pyNext_list_end (I.ok.hd hc) st p.isList (by simp; omega) fun h' eb => ⟨rfl, I.turned (t' := s.toks) (fun b o hb e => eb b o hb e) f0 f1 f3 f4 f5⟩
  self := fun _ _ _ _ _ st h => wpAny_pyIter_listiter st h
theorem turn_range {P : Program} {w : World} {K : PySem.W.Frag} {tg : Expr} (it : Addr) (lo : Int) (n : Nat) : Turn P w K tg (Itr lo n) [it] it (fun i h => IsRangeIter h it (lo + (i : Nat) * 1) ((n : Int) - (i : Nat)) 1) where
  mem := by simp
  obj := fun i h st b hb => by
    have e : b = it := by simpa using hb
    subst e
    exact ⟨_, st, fun v z => by
      have z' : Data.fields _ = Data.cell v := z
      cases z'⟩
  keep := fun i h h' st k => k it (by simp) _ st
  item := by
    intro X hP hw hK hc i pins s σ H E I hf st hg
    subst hP hw hK
    obtain ⟨f0, f1, f2, f3, f4, f5⟩ := hf it (by simp)
    have W := Walks.range (prog := X.prog) (w := X.w) (I.ok.hd hc) it lo 1 n
    refine W.item i s _ _ hg st fun v h' tk hv st' kk => ?_
    obtain ⟨t, rfl⟩ := hv
    have I1 : Inv X pins σ H { s with heap := h', toks := tk } := I.turned (fun b o hb e => kk b o (by simpa using hb) e) f0 f1 f3 f4 f5
    refine ⟨_, rfl, go_of (s := { s with heap := h', toks := tk }) (n := "range_iterator") st' rfl rfl (by decide) ⟨.int (lo + i), H, I1, ⟨t, ?_⟩, ⟨rfl, rfl⟩, st', fun b hb => (hf b hb).1⟩⟩
    rw [Int.mul_one]
  done := by
    intro X hP hw hK hc i pins s σ H E I hf st hg
    subst hP hw hK
    obtain ⟨f0, f1, f2, f3, f4, f5⟩ := hf it (by simp)
    exact wpAny_pyNext_range_end (I.ok.hd hc) st (by have : n ≤ i := hg; omega) fun h' eb => ⟨rfl, I.turned (t' := s.toks) (fun b o hb e => eb b o hb e) f0 f1 f3 f4 f5⟩
  self := fun _ _ _ _ _ st h => wpAny_pyIter_rangeiter st h
end L2
namespace L2
open PySem PySem.Spec PyProof.Rows
section
variable {X : Cx} {tg : Expr}
noncomputable def iList (K : PySem.W.Frag) (tl : TE) : TI := fun σ H R => tl σ H fun x H1 => ∃ a, x = .ref a ∧ (∃ xs, SqL K H1 a xs) ∧ R (Itl K a) H1
theorem pi_list {l : Expr} {tl : TE} (hl : PE X l tl) : PI X tg l (iList X.K tl) := by
  intro pins s σ H R I h
  refine thn (hl pins s σ H _ I h) fun v s1 hh65 => Zz.b5 hh65 fun x H1 I1 r1 q1 => ?_
  obtain ⟨a, e, ⟨xs, hq⟩, q⟩ := q1
  subst e
  cases r1
  obtain ⟨its, rv, p, hz⟩ := I1.list hq
  refine wpAny_pyIter_list p.isList ?_
  refine ⟨s1.heap.objs.size, [s1.heap.objs.size], _, _, H1, rfl, I1.kept (t' := s1.toks) fun b o e => Heap.get?_push_of_some _ e, turn_list a _, ⟨_, Heap.get?_push_size _ rfl, rfl, rfl⟩, fun b hb => ?_, q⟩
  have e : b = s1.heap.objs.size := by simpa using hb
  subst e
  exact I1.fpOk (Nat.le_refl _) (I1.hok.fresh (Nat.le_refl _))
theorem range_it {pins : List (Addr × Obj)} {σ : St} {H : Hp} {s : Shared} {R : It → Hp → Prop} {E : Value → Shared → Prop} {lo hi : Int} {t u v : Tok} {tk : Nat} (I : Inv X pins σ H s) (h1 : -(2 ^ 62) ≤ lo) (h2 : lo < 2 ^ 62) (h3 : -(2 ^ 62) ≤ hi) (h4 : hi < 2 ^ 62)
    (q : R (Itr lo (hi - lo).toNat) H) : wpAny (model X.prog X.w) X.A (pyIter (.ref s.heap.objs.size)) (PIE X pins σ tg R) E { s with heap := s.heap.push { cls := .type "range", data := .fields #[.int lo t, .int hi u, .int 1 v] }, toks := tk } := by
  refine wpAny_pyIter_range (IsRange.new ..) (small_one h1 h2 h3 h4) ?_
  have I1 : Inv X pins σ H { s with heap := s.heap.push { cls := .type "range", data := .fields #[.int lo t, .int hi u, .int 1 v] }, toks := tk } := I.kept fun b o e => Heap.get?_push_of_some _ e
  refine ⟨(s.heap.push { cls := .type "range", data := .fields #[.int lo t, .int hi u, .int 1 v] }).objs.size, [(s.heap.push { cls := .type "range", data := .fields #[.int lo t, .int hi u, .int 1 v] }).objs.size], _, _, H, rfl,
    I1.kept (t' := tk) fun b o e => Heap.get?_push_of_some _ e, turn_range _ lo (hi - lo).toNat, ?_, fun b hb => ?_, q⟩
  · have e1 : lo + ((0 : Nat) : Int) * 1 = lo := by simp
    have e2 : (((hi - lo).toNat : Nat) : Int) - ((0 : Nat) : Int) = Builtin.Range.rangeSize lo hi 1 := by rw [rangeSize_one]; split <;> omega
    show IsRangeIter _ _ (lo + ((0 : Nat) : Int) * 1) ((((hi - lo).toNat : Nat) : Int) - ((0 : Nat) : Int)) 1
    rw [e1, e2]
    exact Heap.get?_push_size _ rfl
  · have e : b = (s.heap.push { cls := .type "range", data := .fields #[.int lo t, .int hi u, .int 1 v] }).objs.size := by simpa using hb
    subst e
    exact I1.fpOk (Nat.le_refl _) (I1.hok.fresh (Nat.le_refl _))
noncomputable def iRng1 (ta : TA) : TI := fun σ H R => ta σ H fun vs H1 => ∃ j : Int, vs = [.int j] ∧ -(2 ^ 62) ≤ j ∧ j < 2 ^ 62 ∧ R (Itr 0 j.toNat) H1
theorem pi_range1 {a : Expr} {ta : TA} {p pos : Pos} (hg : Gl X "range") (hm : X.mg "range" = none) (ha : PA X [a] ta) (hs : starEach [a] X.env = [(false, eval a X.env)] := by rfl) : PI X tg (.Call (.Name "range" p) [a] [] pos) (iRng1 ta) := by
  intro pins s σ H R I h
  refine Call_ (ld_blt I hg hm boot_range (PyProof.Rows.callWith_type1 (thn (ha pos pins s σ H _ I h) fun us s1 hh66 => Zz.b5 hh66 fun vs H1 I1 r1 q1 => ?_) hs rfl))
  obtain ⟨j, e, q1, q2, q⟩ := q1
  subst e
  cases r1 with
  | cons r rr =>
    cases rr
    obtain ⟨t, rfl⟩ := r
    exact call_range_1 (range_it I1 (by omega) (by omega) q1 q2 (by simpa using q))
noncomputable def tFor (wi : TI) (g : TG) (tb : TS) : TS := fun D σ H => wi σ H fun J H1 => ∃ W : Nat → Nat → St → Hp → Prop, (∃ m, W 0 m σ H1) ∧ ∀ i m σ H, W i m σ H →
  (J.stop i H ∧ D.nx σ H) ∨ (J.go i H ∧ ∃ N : St → Hp → Prop, (∀ σ' H', N σ' H' → ∃ m', m' < m ∧ W (i + 1) m' σ' H') ∧ ∀ x H', J.yld i H x H' → g x σ H' fun σ2 H2 => tb { D with nx := N, ct := N, bk := D.nx } σ2 H2)
noncomputable def pinsAt (fp : List Addr) (h : Heap) : List (Addr × Obj) := fp.filterMap fun b => (h.get? b).map fun o => (b, o)
theorem mem_pinsAt {fp : List Addr} {h : Heap} {b : Addr} {o : Obj} (hb : b ∈ fp) (e : h.get? b = some o) : (b, o) ∈ pinsAt fp h := List.mem_filterMap.mpr ⟨b, hb, by rw [e]; rfl⟩
theorem of_pinsAt {fp : List Addr} {h : Heap} {p : Addr × Obj} (hp : p ∈ pinsAt fp h) : p.1 ∈ fp ∧ h.get? p.1 = some p.2 := by
  obtain ⟨b, hb, e⟩ := List.mem_filterMap.mp hp
  cases q : h.get? b with
  | none => rw [q] at e; cases e
  | some o =>
    rw [q] at e
    have e' : (b, o) = p := Option.some.inj e
    subst e'
    exact ⟨hb, q⟩
theorem Inv.pinned {pins : List (Addr × Obj)} {σ : St} {H : Hp} {s : Shared} {fp : List Addr} (I : Inv X pins σ H s) (hf : ∀ b ∈ fp, FpOk X pins H b) (ho : ∀ b ∈ fp, ∃ o, s.heap.get? b = some o ∧ ∀ v, o.data ≠ .cell v) : Inv X (pins ++ pinsAt fp s.heap) σ H s :=
  I.pins_of fun p hp => (List.mem_append.mp hp).elim (fun z => I.pin p (List.mem_append_right _ z)) fun z => by
    obtain ⟨hb, e⟩ := of_pinsAt z
    obtain ⟨f0, f1, f2, _⟩ := hf p.1 hb
    obtain ⟨o, e', d⟩ := ho p.1 hb
    rw [e] at e'; cases e'
    exact ⟨e, f0, f1, f2, d⟩
theorem Inv.unpinned {pins pl : List (Addr × Obj)} {σ : St} {H : Hp} {s : Shared} (I : Inv X (pins ++ pl) σ H s) : Inv X pins σ H s := I.pins_of fun p hp => I.pin p (List.mem_append_right _ (List.mem_append_left _ hp))
theorem ps_for {iter : Expr} {body : List Stmt} {wi : TI} {g : TG} {tb : TS} {pos : Pos} (hp : PassesOwn (model X.prog X.w) X.A X.env X.xe) (hc : X.calm = true) (hi : PI X tg iter wi) (hg : PG X tg g) (hb : PSs X body tb)
    (hs : ∀ x, foldedSetIterable iter X.env x = pure x := by intro _; rfl) : PS X (.For tg iter body [] pos) (tFor wi g tb) := by
  intro pins s σ H D I h
  refine wpAny_For (thn (hi pins s σ H _ I h) fun v s1 h1 => thn h1 fun itv s2 h2 => ?_) hs
  obtain ⟨it, fp, tn, J, H2, e, I2, T, st2, f2, W, ⟨m0, w0⟩, turn⟩ := h2
  subst e
  have stat : ∀ {H' : Hp}, (∀ b ∈ fp, H' b = none) → ∀ b ∈ fp, FpOk X pins H' b := fun hn b hb => ⟨hn b hb, (f2 b hb).2⟩
  refine codeAny_forLoop_any (fun n s' => ∃ i σ' H', Inv X pins σ' H' s' ∧ tn i s'.heap ∧ (∀ b ∈ fp, H' b = none) ∧ W i n σ' H') ?_ m0 ⟨0, σ, H2, I2, st2, fun b hb => (f2 b hb).1, w0⟩
  rintro n s3 ⟨i, σ3, H3, I3, st3, fr3, w3⟩
  rcases turn i n σ3 H3 w3 with ⟨stop, qn⟩ | ⟨go, N, hN, step⟩
  · refine wpAny_passesOwn hp (thn (T.done X rfl rfl rfl hc i pins s3 σ3 H3 X.xe I3 (stat fr3) st3 stop) fun r s4 ⟨hr, I4⟩ => ?_)
    subst hr
    exact wpAny_execs_nil ⟨σ3, H3, I4, qn⟩
  · refine wpAny_passesOwn hp (thn (T.item X rfl rfl rfl hc i pins s3 σ3 H3 X.xe I3 (stat fr3) st3 go) fun r s4 ⟨u, hr, h4⟩ => ?_)
    subst hr
    refine wpAny_passesOwn hp (thn h4 fun _ s5 ⟨x, H5, I5, r5, y5, st5, fr5⟩ => ?_)
    have I5' := I5.pinned (stat fr5) (T.obj _ _ st5)
    refine wpAny_passesOwn hp (thn (hg _ s5 σ3 H5 x u _ I5' r5 (step x H5 y5)) fun _ s6 ⟨σ6, H6, I6, q6⟩ => ?_)
    refine wpAny_passesOwn hp (thn (hb _ s6 σ6 H6 _ I6 q6) fun f s7 q7 => ?_)
    have again : ∀ {σ7 : St} {H7 : Hp}, Inv X (pins ++ pinsAt fp s5.heap) σ7 H7 s7 → N σ7 H7 → ∃ m, m < n ∧ ∃ i σ' H', Inv X pins σ' H' s7 ∧ tn i s7.heap ∧ (∀ b ∈ fp, H' b = none) ∧ W i m σ' H' := fun {σ7 H7} I7 n7 => by
      obtain ⟨m', hm, w7⟩ := hN σ7 H7 n7
      refine ⟨m', hm, i + 1, σ7, H7, I7.unpinned, T.keep _ _ _ st5 fun b hb o e => (I7.pin (b, o) (List.mem_append_right _ (List.mem_append_right _ (mem_pinsAt hb e)))).1, fun b hb => ?_, w7⟩
      obtain ⟨o, e, d⟩ := T.obj _ _ st5 b hb
      exact (I7.pin (b, o) (List.mem_append_right _ (List.mem_append_right _ (mem_pinsAt hb e)))).2.1
    cases f with
    | next => obtain ⟨σ7, H7, I7, n7⟩ := q7; exact again I7 n7
    | cont => obtain ⟨σ7, H7, I7, n7⟩ := q7; exact again I7 n7
    | brk => obtain ⟨σ7, H7, I7, q7⟩ := q7; exact ⟨σ7, H7, I7.unpinned, q7⟩
    | ret v => obtain ⟨x7, σ7, H7, I7, r7, q7⟩ := q7; exact ⟨x7, σ7, H7, I7.unpinned, r7, q7⟩
end
end L2
namespace L2
open PySem PySem.Spec PyProof.Rows
noncomputable abbrev R2 := V → V → Hp → VK → Prop
noncomputable def OpR (X : Cx) (f : Value → Value → Sem Value) (r : R2) : Prop :=
  ∀ (pins : List (Addr × Obj)) (s : Shared) (σ : St) (H : Hp) (x y : V) (v u : Value) (Q : VK), Inv X pins σ H s → RelV x v → RelV y u → r x y H Q →
    wpAny (model X.prog X.w) X.A (f v u) (EP X pins σ Q) X.xe s
noncomputable def CallR (X : Cx) (f : Value) (r : List V → Hp → VK → Prop) : Prop :=
  ∀ (pins : List (Addr × Obj)) (s : Shared) (σ : St) (H : Hp) (xs : List V) (us : List Value) (Q : VK), Inv X pins σ H s → Vals xs us → r xs H Q →
    wpAny (model X.prog X.w) X.A (call f us) (EP X pins σ Q) X.xe s
noncomputable def tOp (r : R2) (ta tb : TE) : TE := fun σ H Q => ta σ H fun x H1 => tb σ H1 fun y H2 => r x y H2 Q
noncomputable def rI (C : Int → Int → Prop) (g : Int → Int → V) : R2 := fun x y H Q => ∃ i j, x = .int i ∧ y = .int j ∧ C i j ∧ Q (g i j) H
noncomputable def rI0 (g : Int → Int → V) : R2 := fun x y H Q => ∃ i j, x = .int i ∧ y = .int j ∧ Q (g i j) H
section
variable {X : Cx} {a b c : Expr} {ta tb tc : TE} {pos : Pos}
theorem binT (ha : PE X a ta) (hb : PE X b tb) {pins : List (Addr × Obj)} {s : Shared} {σ : St} {H : Hp} {R : V → V → Hp → Prop} (I : Inv X pins σ H s)
    (h : ta σ H fun x H1 => tb σ H1 fun y H2 => R x y H2) {Q : Value → Shared → Prop} {f : Value → Value → Sem Value}
    (hf : ∀ v u s2 x y H2, Inv X pins σ H2 s2 → RelV x v → RelV y u → R x y H2 → wpAny (model X.prog X.w) X.A (f v u) Q X.xe s2) :
    wpAny (model X.prog X.w) X.A (eval a X.env) (fun v s₁ => wpAny (model X.prog X.w) X.A (eval b X.env) (fun u s₂ => wpAny (model X.prog X.w) X.A (f v u) Q X.xe s₂) X.xe s₁) X.xe s := by
  refine thn (ha pins s σ H _ I h) fun v s1 hh67 => Zz.b5 hh67 fun x H1 I1 r1 q1 => ?_
  refine thn (hb pins s1 σ H1 _ I1 q1) fun u s2 hh68 => Zz.b5 hh68 fun y H2 I2 r2 q2 => ?_
  exact hf v u s2 x y H2 I2 r1 r2 q2
theorem pe_op {op : Operator} {r : R2} (ho : OpR X (binaryOp op) r) (ha : PE X a ta) (hb : PE X b tb) : PE X (.BinOp a op b pos) (tOp r ta tb) := by
  intro pins s σ H Q I h
  exact wpAny_BinOp (binT ha hb I h fun v u s2 x y H2 I2 rx ry q => ho pins s2 σ H2 x y v u Q I2 rx ry q)
theorem opI {f : Value → Value → Sem Value} {C : Int → Int → Prop} {g : Int → Int → Int}
    (rule : ∀ (i j : Int) (t u : Tok) (s : Shared) (Q : Value → Shared → Prop) (E : Value → Shared → Prop), C i j → Q (.int (g i j) s.toks) { s with toks := s.toks + 1 } → wpAny (model X.prog X.w) X.A (f (.int i t) (.int j u)) Q E s) :
    OpR X f (rI C fun i j => .int (g i j)) := by
  intro pins s σ H x y v u Q I rx ry h
  obtain ⟨i, j, rfl, rfl, hc, q⟩ := h
  obtain ⟨t, rfl⟩ := rx
  obtain ⟨t', rfl⟩ := ry
  exact rule i j t t' s _ _ hc ⟨.int (g i j), H, I.tok _, ⟨_, rfl⟩, q⟩
theorem opI0 {f : Value → Value → Sem Value} {g : Int → Int → Int}
    (rule : ∀ (i j : Int) (t u : Tok) (s : Shared) (Q : Value → Shared → Prop) (E : Value → Shared → Prop), Q (.int (g i j) s.toks) { s with toks := s.toks + 1 } → wpAny (model X.prog X.w) X.A (f (.int i t) (.int j u)) Q E s) :
    OpR X f (rI0 fun i j => .int (g i j)) := by
  intro pins s σ H x y v u Q I rx ry h
  obtain ⟨i, j, rfl, rfl, q⟩ := h
  obtain ⟨t, rfl⟩ := rx
  obtain ⟨t', rfl⟩ := ry
  exact rule i j t t' s _ _ ⟨.int (g i j), H, I.tok _, ⟨_, rfl⟩, q⟩
theorem opB0 {f : Value → Value → Sem Value} {g : Int → Int → Bool}
    (rule : ∀ (i j : Int) (t u : Tok) (s : Shared) (Q : Value → Shared → Prop) (E : Value → Shared → Prop), Q (.bool (g i j)) s → wpAny (model X.prog X.w) X.A (f (.int i t) (.int j u)) Q E s) :
    OpR X f (rI0 fun i j => .bl (g i j)) := by
  intro pins s σ H x y v u Q I rx ry h
  obtain ⟨i, j, rfl, rfl, q⟩ := h
  obtain ⟨t, rfl⟩ := rx
  obtain ⟨t', rfl⟩ := ry
  exact rule i j t t' s _ _ ⟨.bl (g i j), H, I, rfl, q⟩
noncomputable def CDiv (i j : Int) : Prop := 0 < j ∧ j < 1073741824
noncomputable def CMul (i j : Int) : Prop := (-(2 ^ 64) < i ∧ i < 2 ^ 64) ∨ (-(2 ^ 64) < j ∧ j < 2 ^ 64)
theorem CMul.ok {i j : Int} (h : CMul i j) : IntMulOk i j := by
  rcases h with ⟨h1, h2⟩ | ⟨h1, h2⟩
  · exact .of_left (intBits_le_64 h1 h2)
  · exact .of_right (intBits_le_64 h1 h2)
theorem op_add : OpR X (binaryOp .Add) (rI0 fun i j => .int (i + j)) := opI0 fun _ _ _ _ _ _ _ q => add_int q
theorem op_sub : OpR X (binaryOp .Sub) (rI0 fun i j => .int (i - j)) := opI0 fun _ _ _ _ _ _ _ q => sub_int q
theorem op_mul : OpR X (binaryOp .Mult) (rI CMul fun i j => .int (i * j)) := opI fun _ _ _ _ _ _ _ hc q => mul_int q hc.ok
theorem op_fdiv : OpR X (binaryOp .FloorDiv) (rI CDiv fun i j => .int (i / j)) := opI fun i j _ _ _ _ _ hc q => by
  have h1 : (0 : Int) < j := hc.1
  have h2 : j < 1073741824 := hc.2
  exact floordiv_int (by omega) (by rw [Int.fdiv_eq_ediv_of_nonneg i (by omega)]; exact q) (.inl (PyProof.noPylong_small (by omega)))
theorem op_mod : OpR X (binaryOp .Mod) (rI (fun _ j => 0 < j) fun i j => .int (i % j)) := opI fun i j _ _ _ _ _ hc q => by
  have h1 : (0 : Int) < j := hc
  exact mod_int' (by omega) (by rw [Int.fmod_eq_emod_of_nonneg i (by omega)]; exact q)
end
section
variable {X : Cx} {a b c : Expr} {ta tb tc : TE} {pos : Pos}
theorem fin_bl {pins : List (Addr × Obj)} {σ : St} {H : Hp} {s : Shared} {Q : VK} {k k' : Bool} (I : Inv X pins σ H s) (q : Q (.bl k) H) (e : k = k') : EP X pins σ Q (.bool k') s := by
  subst e
  exact ⟨.bl k, H, I, rfl, q⟩
theorem op_lt : OpR X (compareOp .Lt) (rI0 fun i j => .bl (decide (i < j))) := opB0 fun _ _ _ _ _ _ _ q => lt_int q
theorem op_gt : OpR X (compareOp .Gt) (rI0 fun i j => .bl (decide (j < i))) := opB0 fun _ _ _ _ _ _ _ q => gt_int q
theorem op_ge : OpR X (compareOp .GtE) (rI0 fun i j => .bl (decide (j ≤ i))) := opB0 fun _ _ _ _ _ _ _ q => ge_int q
theorem nomark (b : Expr) {op : CmpOp} (h : op ≠ .In := by decide) (h2 : op ≠ .NotIn := by decide) : behindInMarks op b = false := by
  have e1 : (op == CmpOp.In) = false := by cases op <;> first | rfl | exact absurd rfl h
  have e2 : (op == CmpOp.NotIn) = false := by cases op <;> first | rfl | exact absurd rfl h2
  cases b <;> simp [behindInMarks, e1, e2]
theorem pe_cmpR {op : CmpOp} {r : R2} (ho : OpR X (compareOp op) r) (ha : PE X a ta) (hb : PE X b tb) (hm : behindInMarks op b = false) : PE X (.Compare a [op] [b] pos) (tOp r ta tb) := by
  intro pins s σ H Q I h
  exact wpAny_Compare1 (binT ha hb I h fun v u s2 x y H2 I2 rx ry q => ho pins s2 σ H2 x y v u Q I2 rx ry q) hm
noncomputable def tTest (t : TE) : TT := fun σ H Q => t σ H fun x H' => ∃ k, x = .bl k ∧ Q k H'
theorem pt_cmpR {op : CmpOp} {r : R2} (ho : OpR X (compareOp op) r) (ha : PE X a ta) (hb : PE X b tb) (hm : behindInMarks op b = false) : PT X (.Compare a [op] [b] pos) (tTest (tOp r ta tb)) := by
  intro pins s σ H Q I h
  refine wpAny_isTrue_Compare1 (thn (ha pins s σ H _ I h) fun v s1 hh69 => Zz.b5 hh69 fun x H1 I1 r1 q1 => thn (hb pins s1 σ H1 _ I1 q1) fun u s2 hh70 => Zz.b5 hh70 fun y H2 I2 r2 q2 =>
    thn (ho pins s2 σ H2 x y v u _ I2 r1 r2 q2) fun c s3 ⟨z, H3, I3, r3, k, e, q3⟩ => ?_) hm
  subst e
  cases r3
  exact wpAny_truthy_bool ⟨H3, I3, q3⟩
theorem line63 : (sizeLine : Nat) < 2 ^ 63 := by rw [sizeLine_eq]; decide
theorem vals1 {x : V} {us : List Value} (r : Vals [x] us) : ∃ u, us = [u] ∧ RelV x u := by
  cases r with
  | cons r1 r2 => cases r2; exact ⟨_, rfl, r1⟩
theorem vals2 {x y : V} {us : List Value} (r : Vals [x, y] us) : ∃ u w', us = [u, w'] ∧ RelV x u ∧ RelV y w' := by
  cases r with
  | cons r1 r2 =>
    cases r2 with
    | cons r3 r4 => cases r4; exact ⟨_, _, rfl, r1, r3⟩
theorem call_max2 (hc : X.calm = true) : CallR X (.builtin "max") (fun xs H Q => ∃ i j, xs = [.int i, .int j] ∧ Q (.int (if j > i then j else i)) H) := by
  intro pins s σ H xs us Q I r h
  obtain ⟨i, j, rfl, q⟩ := h
  obtain ⟨u, w', rfl, ⟨t, rfl⟩, ⟨t', rfl⟩⟩ := vals2 r
  refine max_two_ints (I.ok.hd hc) fun h' tk k => ⟨_, H, I.kept k, ?_, q⟩
  by_cases hj : j > i
  · rw [if_pos hj, if_pos hj]; exact ⟨_, rfl⟩
  · rw [if_neg hj, if_neg hj]; exact ⟨_, rfl⟩
theorem call_int1 : CallR X (.type "int") (fun xs H Q => (∃ i, xs = [.int i] ∧ Q (.int i) H) ∨ ∃ k, xs = [.bl k] ∧ Q (.int (if k then 1 else 0)) H) := by
  intro pins s σ H xs us Q I r h
  rcases h with ⟨i, rfl, q⟩ | ⟨k, rfl, q⟩
  · obtain ⟨u, rfl, t, rfl⟩ := vals1 r
    exact call_int_int ⟨.int i, H, I, ⟨_, rfl⟩, q⟩
  · obtain ⟨u, rfl, r1⟩ := vals1 r
    cases r1
    exact call_int_bool ⟨.int (if k then 1 else 0), H, I.tok _, ⟨_, rfl⟩, q⟩
end
end L2
namespace L2
open PySem PySem.Spec PyProof.Rows
structure ObjM (h : Heap) (x dx C : Addr) (mA : Str → Option Value) : Prop where
  obj : h.get? x = some (PySem.W.instObj C dx)
  ns : h.Ns1 dx mA
  ne : dx ≠ x
theorem lookIn_ns {h : Heap} {dx : Addr} {mA : Str → Option Value} (n : h.Ns1 dx mA) : ∃ od, h.get? dx = some od ∧ ∀ name, PySem.W.lookIn name od = some (mA name) := by
  obtain ⟨o, es, ep, ho, hd, hk, _, hm⟩ := n
  refine ⟨o, ho, fun name => ?_⟩
  have e := hm name
  unfold nsFind findBy at e
  rw [← Array.find?_toList] at e
  unfold PySem.W.lookIn
  rw [hd]
  dsimp only
  split
  · rename_i y q
    rw [q] at e
    exact congrArg some e
  · rename_i q
    rw [q] at e
    have a : es.toList.any (·.refKey) = false := by
      rw [List.any_eq_false]
      intro y hy
      obtain ⟨z, t, hkey⟩ := hk y (Array.mem_toList_iff.mp hy)
      simp [DictEntry.refKey, hkey]
    have a' : ¬ es.toList.any (·.refKey) = true := by rw [a]; exact Bool.false_ne_true
    rw [if_neg a']
    exact congrArg some e
theorem ObjM.look {h : Heap} {x dx C : Addr} {mA : Str → Option Value} (I : ObjM h x dx C mA) : ∃ od, PySem.W.InstAt h x (PySem.W.instObj C dx) C (some od) ∧ ∀ name, PySem.W.lookIn name od = some (mA name) :=
  let ⟨od, ho, hl⟩ := lookIn_ns I.ns
  ⟨od, ⟨I.obj, rfl, rfl, ho⟩, hl⟩
section
variable {prog : Program} {w : World} {A : Around} {E : Value → Shared → Prop} {s : Shared} {K : PySem.W.Frag} {x dx C f : Addr} {mA : Str → Option Value} {name : Str} {v : Value}
theorem get_map {expr : Bool} {Q : Value → Shared → Prop} (X : K.In s.heap) (I : ObjM s.heap x dx C mA) (hg : PySem.W.plainGet K C name = true) (hh : PySem.W.hasDictIn K C = true)
    (ha : PySem.W.findIn K (.ref C) name = some none) (hv : mA name = some v) (hv' : PySem.W.handedIn v = true) (h : Q v { s with toks := s.toks + 1 }) :
    wpAny (model prog w) A (getAttr (.ref x) name expr) Q E s := by
  obtain ⟨od, J, hl⟩ := I.look
  exact PySem.W.get_value X J (PySem.W.plainGet_of hg).1 (PySem.W.findObj_own hh ha rfl (by rw [hl, hv])) hv' h
theorem get_meth {pl : Sem Bool} {Q : Value × List Value → Shared → Prop} (X : K.In s.heap) (I : ObjM s.heap x dx C mA) (hg : PySem.W.plainGet K C name = true)
    (hf : PySem.W.findIn K (.ref C) name = some (some (.ref f))) (ht : PySem.W.isFn K (.ref f) = true) (hv : mA name = none) (h : Q (.ref f, [.ref x]) s) :
    wpAny (model prog w) A (getMethod (.ref x) name pl) Q E s := by
  obtain ⟨od, J, hl⟩ := I.look
  exact PySem.W.method_fn X J (PySem.W.plainGet_of hg).1 (PySem.W.plainGet_of hg).2 hf (beq_iff_eq.mp ht) (by show (PySem.W.lookIn name od).map (·.isSome) = some false; rw [hl, hv]; rfl) h
theorem set_map {ns : List Str} {Q : Unit → Shared → Prop} (X : K.In s.heap) (I : ObjM s.heap x dx C mA)
    (hs : PySem.W.findIn K (.ref C) "__setattr__" = some (some (.builtin "object.__setattr__"))) (hp : PySem.W.plainOver K C = true) (ht : PySem.W.takerIn K C name = some none) (hh : PySem.W.hasDictIn K C = true)
    (hw : PySem.Within mA ns) (hsz : ns.length ≤ sizeLine)
    (h : ∀ h', ObjM h' x dx C (fun y => if y = name then some v else mA y) → Heap.SameBut dx s.heap h' → Q () { s with heap := h', toks := s.toks + 2 }) :
    wpAny (model prog w) A (setAttr (.ref x) name v) Q E s := by
  obtain ⟨od, J, hl⟩ := I.look
  refine PySem.W.set_plain X J hs (PySem.W.osa_open (s := { s with toks := s.toks + 1 }) (r := none) X J hp ht fun b => ?_)
  obtain ⟨cd, hc, hd'⟩ := PySem.W.any_some hh
  have hx : s.heap.get? x = some ⟨.ref C, some dx, .plain, #[]⟩ := I.obj
  refine wpAny_bind (wpAny_pure (wpAny_bind (wpAny_bind (wpAny_loadPart hx (wpAny_bind (PySem.W.Looks.here (s := { s with toks := s.toks + 1 }) (PySem.W.looks_clsIn X hc) ?_))))))
  rw [hd']
  refine wpAny_pure (a := some dx) (wpAny_bind (wpAny_pure (wpAny_bind ?_)))
  refine wpAny_nsSet1 (s := { s with toks := s.toks + 1 }) I.ns fun h' hn2 hs2 => ?_
  obtain ⟨oD, esD, epD, hoD, hdD, hcD⟩ := hn2.count (PySem.Within.cons name v hw)
  refine wpAny_bind (wpAny_lookBehind hoD (by rw [hdD]; exact pastItsLine_dict (Nat.le_trans hcD (by rw [List.length_cons]; omega))) ?_)
  exact wpAny_pure (h _ ⟨(hs2.2 _ (Ne.symm I.ne)).trans I.obj, hn2, I.ne⟩ hs2)
theorem make_map {R : Result → Shared → Prop} {vs : List Value} {kw : List (Str × Value)} (X : K.In s.heap) (hm : PySem.W.makesIn K C = true)
    (hi : PySem.W.findIn K (.ref C) "__init__" = some (some (.ref f))) (hf : PySem.W.typeIn K (.ref f) = some (.type "function"))
    (h : codeAny (model prog w) (A.under (.builtin "type.__call__" ⟨.ref C :: vs, kw⟩)) (.call (.ref f) ⟨.ref (s.heap.objs.size + 1) :: vs, kw⟩) (PySem.W.InitBack (s.heap.objs.size + 1) R)
      { s with heap := (s.heap.push PySem.W.emptyDict).push (PySem.W.instObj C s.heap.objs.size) }) :
    codeAny (model prog w) A (.call (.ref C) ⟨vs, kw⟩) R s := by
  obtain ⟨hh, g, d, t, os⟩ := s
  exact PySem.W.make_core (PySem.W.makes_of X hm) (PySem.W.looks_findIn X hi) (fun self => PySem.W.bind_fn X self hf) (.inl rfl) h
end
noncomputable def putF (f : Str) (v : V) : List (Str × V) → List (Str × V)
  | [] => [(f, v)]
  | (g, x) :: r => if g = f then (g, v) :: r else (g, x) :: putF f v r
theorem lookup_putF (f g : Str) (v : V) : ∀ fs : List (Str × V), (putF f v fs).lookup g = if g = f then some v else fs.lookup g
  | [] => by
    show List.lookup g [(f, v)] = _
    by_cases h : g = f
    · have hb : (g == f) = true := beq_iff_eq.mpr h
      simp only [List.lookup, hb, if_pos h]
    · have hb : (g == f) = false := beq_eq_false_iff_ne.mpr h
      simp only [List.lookup, hb, if_neg h]
  | (k, x) :: r => by
    have ih := lookup_putF f g v r
    rw [show putF f v ((k, x) :: r) = (if k = f then (k, v) :: r else (k, x) :: putF f v r) from rfl]
    by_cases hk : k = f
    · rw [if_pos hk]
      by_cases h : g = k
      · have hb : (g == k) = true := beq_iff_eq.mpr h
        simp only [List.lookup, hb, if_pos (h.trans hk)]
      · have hb : (g == k) = false := beq_eq_false_iff_ne.mpr h
        simp only [List.lookup, hb, if_neg (fun e : g = f => h (e.trans hk.symm))]
    · rw [if_neg hk]
      by_cases h : g = k
      · have hb : (g == k) = true := beq_iff_eq.mpr h
        simp only [List.lookup, hb, if_neg (fun e : g = f => hk (h.symm.trans e))]
      · have hb : (g == k) = false := beq_eq_false_iff_ne.mpr h
        simp only [List.lookup, hb]
        exact ih
theorem keys_putF (f : Str) (v : V) : ∀ fs : List (Str × V), f ∈ (putF f v fs).map (·.1) ∧ ∀ g, g ∈ fs.map (·.1) → g ∈ (putF f v fs).map (·.1)
  | [] => ⟨by simp [putF], fun g h => by simp at h⟩
  | (k, x) :: r => by
    obtain ⟨i1, i2⟩ := keys_putF f v r
    rw [show putF f v ((k, x) :: r) = (if k = f then (k, v) :: r else (k, x) :: putF f v r) from rfl]
    by_cases hk : k = f
    · rw [if_pos hk]
      subst hk
      exact ⟨by simp, fun g h => by simpa using h⟩
    · rw [if_neg hk]
      refine ⟨?_, fun g h => ?_⟩
      · rw [List.map_cons]
        exact List.mem_cons_of_mem _ i1
      · rw [List.map_cons] at h ⊢
        rcases List.mem_cons.mp h with e | e
        · exact List.mem_cons.mpr (.inl e)
        · exact List.mem_cons_of_mem _ (i2 g e)
theorem length_putF (f : Str) (v : V) : ∀ fs : List (Str × V), (putF f v fs).length ≤ fs.length + 1
  | [] => by simp [putF]
  | (k, x) :: r => by
    have ih := length_putF f v r
    rw [show putF f v ((k, x) :: r) = (if k = f then (k, v) :: r else (k, x) :: putF f v r) from rfl]
    by_cases hk : k = f
    · rw [if_pos hk, List.length_cons, List.length_cons]; omega
    · rw [if_neg hk, List.length_cons, List.length_cons]; omega
theorem RelO.some_of {v : V} {o : Option Value} (r : RelO (some v) o) : ∃ u, o = some u ∧ RelV v u := by
  cases o with
  | none => exact (show False from r).elim
  | some u => exact ⟨u, rfl, r⟩
theorem RelO.none_of {o : Option Value} (r : RelO none o) : o = none := by
  cases o with
  | none => rfl
  | some u => exact (show False from r).elim
theorem handed_of {v : V} {u : Value} (r : RelV v u) : PySem.W.handedIn u = true := by
  cases v with
  | non => cases (show u = Value.none from r); rfl
  | bl b => cases (show u = Value.bool b from r); rfl
  | int i => obtain ⟨t, e⟩ := (show ∃ t, u = Value.int i t from r); cases e; rfl
  | str x => obtain ⟨t, e⟩ := (show ∃ t, u = Value.str x t from r); cases e; rfl
  | byt b => obtain ⟨t, e⟩ := (show ∃ t, u = Value.bytes b t from r); cases e; rfl
  | flt b => obtain ⟨t, e⟩ := (show ∃ t, u = Value.float b t from r); cases e; rfl
  | ref a => cases (show u = Value.ref a from r); rfl
  | ty n => cases (show u = Value.type n from r); rfl
section
variable {P : Program} {w : World} {H H' : Hp} {h h' : Heap} {a C dx : Addr} {fs fs' : List (Str × V)}
theorem ins_get (hok : HOk P w H h) (e : H a = some (.ins C dx fs)) : ∃ mA, ObjM h a dx C mA ∧ (∀ f, RelO (fs.lookup f) (mA f)) ∧ PySem.Within mA (fs.map (·.1)) ∧ fs.length ≤ 1000 ∧ H dx = some (.own a) := by
  obtain ⟨d, z, ne, ob, mA, n, r, q⟩ := (show ObjOk P w H h a (.ins C dx fs) from hok a _ e)
  exact ⟨mA, ⟨ob, n, ne⟩, r, q, z, d⟩
end
structure Cls (K : PySem.W.Frag) (C : Addr) : Prop where
  pg : PySem.W.plainGet K C Str.empty = true
  hd : PySem.W.hasDictIn K C = true
  po : PySem.W.plainOver K C = true
  sa : PySem.W.findIn K (.ref C) "__setattr__" = some (some (.builtin "object.__setattr__"))
theorem Cls.get {K : PySem.W.Frag} {C : Addr} (c : Cls K C) (f : Str) : PySem.W.plainGet K C f = true := c.pg
noncomputable def NoAttr (K : PySem.W.Frag) (C : Addr) (f : Str) : Prop := PySem.W.findIn K (.ref C) f = some none
theorem NoAttr.taker {K : PySem.W.Frag} {C : Addr} {f : Str} (n : NoAttr K C f) : PySem.W.takerIn K C f = some none := by
  unfold PySem.W.takerIn
  rw [show PySem.W.findIn K (.ref C) f = some none from n]
  rfl
structure Meth (K : PySem.W.Frag) (C : Addr) (m : Str) (f : Addr) : Prop where
  at_ : PySem.W.findIn K (.ref C) m = some (some (.ref f))
  fn : PySem.W.isFn K (.ref f) = true
  kp : PySem.W.keepIn K (.ref f) = true
section
variable {X : Cx} {pins : List (Addr × Obj)} {σ : St} {H : Hp} {s : Shared} {a C dx : Addr} {fs : List (Str × V)} {f : Str} {v : V} {A : Around} {E : Value → Shared → Prop}
theorem getattr_ok {b : Bool} {Q : Value → Shared → Prop} (I : Inv X pins σ H s) (e : H a = some (.ins C dx fs)) (c : Cls X.K C) (n : NoAttr X.K C f) (l : fs.lookup f = some v)
    (h : ∀ u s', Inv X pins σ H s' → RelV v u → Q u s') : wpAny (model X.prog X.w) A (getAttr (.ref a) f b) Q E s := by
  obtain ⟨mA, O, r, _, _, _⟩ := ins_get I.hok e
  obtain ⟨u, hu, ru⟩ := RelO.some_of (v := v) (o := mA f) (by rw [← l]; exact r f)
  exact get_map I.kIn O (c.get f) c.hd n hu (handed_of ru) (h u _ (I.tok _) ru)
theorem getmeth_ok {m : Str} {g : Addr} {pl : Sem Bool} {Q : Value × List Value → Shared → Prop} (I : Inv X pins σ H s) (e : H a = some (.ins C dx fs)) (c : Cls X.K C) (k : Meth X.K C m g) (l : fs.lookup m = none)
    (h : Q (.ref g, [.ref a]) s) : wpAny (model X.prog X.w) A (getMethod (.ref a) m pl) Q E s := by
  obtain ⟨mA, O, r, _, _, _⟩ := ins_get I.hok e
  have hn : mA m = none := RelO.none_of (by rw [← l]; exact r m)
  exact get_meth I.kIn O (c.get m) k.at_ k.fn hn h
theorem setattr_ok {y : V} {u : Value} {Q : Unit → Shared → Prop} (I : Inv X pins σ H s) (e : H a = some (.ins C dx fs)) (c : Cls X.K C) (n : NoAttr X.K C f) (hl : fs.length < 1000) (ry : RelV y u)
    (h : ∀ s', Inv X pins σ (upd H a (.ins C dx (putF f y fs))) s' → Q () s') : wpAny (model X.prog X.w) A (setAttr (.ref a) f u) Q E s := by
  obtain ⟨mA, O, r, wi, _, ho⟩ := ins_get I.hok e
  have hz : (fs.map (·.1)).length ≤ sizeLine := by rw [List.length_map, sizeLine_eq]; omega
  refine set_map I.kIn O c.sa c.po n.taker c.hd wi hz fun h' O' sb => h _ ?_
  have hd : ∃ o, h'.get? dx = some o := let ⟨o, _, _, e', _⟩ := O'.ns; ⟨o, e'⟩
  refine I.write (x := a) (e := dx) (by rw [e]; exact True.intro) (.inr ho) (fun b q hb z => (sb.2 b hb).trans z) hd ?_
  refine ⟨by rw [upd_ne O.ne]; exact ho, ?_, O.ne, O'.obj, _, O'.ns, fun g => ?_, fun g hg => ?_⟩
  · have := length_putF f y fs; omega
  · show RelO ((putF f y fs).lookup g) (if g = f then some u else mA g)
    rw [lookup_putF]
    by_cases q : g = f
    · rw [if_pos q, if_pos q]; exact ry
    · rw [if_neg q, if_neg q]; exact r g
  · by_cases q : g = f
    · rw [q]; exact (keys_putF f y fs).1
    · refine (keys_putF f y fs).2 g (wi g fun z => hg ?_)
      show (if g = f then some u else mA g) = none
      rw [if_neg q]; exact z
theorem Inv.made (I : Inv X pins σ H s) : Inv X pins σ (upd (upd H s.heap.objs.size (.own (s.heap.objs.size + 1))) (s.heap.objs.size + 1) (.ins C s.heap.objs.size []))
    { s with heap := (s.heap.push PySem.W.emptyDict).push (PySem.W.instObj C s.heap.objs.size) } := by
  have e1 : (s.heap.push PySem.W.emptyDict).get? s.heap.objs.size = some PySem.W.emptyDict := Heap.get?_push_size s.heap rfl
  have e2 : ((s.heap.push PySem.W.emptyDict).push (PySem.W.instObj C s.heap.objs.size)).get? (s.heap.objs.size + 1) = some (PySem.W.instObj C s.heap.objs.size) := by
    have := Heap.get?_push_size (s.heap.push PySem.W.emptyDict) (o := PySem.W.instObj C s.heap.objs.size) rfl
    rwa [Heap.size_push] at this
  have e3 : (s.heap.push PySem.W.emptyDict).Ns s.heap.objs.size (fun _ => none) := ⟨PySem.W.emptyDict, #[], _, e1, rfl, (fun e he => absurd he (by simp)), fun _ => rfl⟩
  have I1 := I.laid (a := s.heap.objs.size) (o := .own (s.heap.objs.size + 1)) (h' := s.heap.push PySem.W.emptyDict) (t' := s.toks) (fun b u q => Heap.get?_push_of_some _ q) (Nat.le_refl _) ⟨_, e1⟩
  refine I1.laid (a := s.heap.objs.size + 1) (o := .ins C s.heap.objs.size []) (t' := s.toks) (fun b u q => Heap.get?_push_of_some _ q) (Nat.le_of_eq (Heap.size_push _ _)) ?_
  have ne : s.heap.objs.size ≠ s.heap.objs.size + 1 := Nat.ne_of_lt (Nat.lt_succ_self _)
  refine ⟨by rw [upd_ne ne, upd_same], Nat.zero_le _, ne, e2, fun _ => none, (Heap.Ns1.of_empty e3).at fun o q => Heap.get?_push_of_some _ q, fun _ => True.intro, fun y hy => absurd rfl hy⟩
theorem attr_of {prog : Program} {w : World} {env : Env} {e : Expr} {f : Str} {pos : Pos} {s : Shared} {Q : Value → Shared → Prop} (hb : attributeBase e f env (eval e env) = eval e env)
    (h : wpAny (model prog w) A (eval e env) (fun o s₁ => wpAny (model prog w) A (getAttr o f true) Q E s₁) E s) : wpAny (model prog w) A (eval (.Attribute e f pos) env) Q E s :=
  Attribute_any_ h (by rw [arm_eval_Attribute, hb])
end
noncomputable def tFld (K : PySem.W.Frag) (ta : TE) (f : Str) : TE := fun σ H Q => ta σ H fun x H1 => ∃ a C dx fs v, x = .ref a ∧ H1 a = some (.ins C dx fs) ∧ Cls K C ∧ NoAttr K C f ∧ fs.lookup f = some v ∧ Q v H1
noncomputable def sFld (K : PySem.W.Frag) (ta tv : TE) (f : Str) : TS := fun D σ H => tv σ H fun y H1 => ta σ H1 fun x H2 => ∃ a C dx fs, x = .ref a ∧ H2 a = some (.ins C dx fs) ∧ Cls K C ∧ NoAttr K C f ∧ fs.length < 1000 ∧
  D.nx σ (upd H2 a (.ins C dx (putF f y fs)))
section
variable {X : Cx} {o e value : Expr} {f : Str} {pos pos' tpos : Pos} {ta tv : TE}
theorem pe_fld (he : PE X e ta) (hb : attributeBase e f X.env (eval e X.env) = eval e X.env) : PE X (.Attribute e f pos) (tFld X.K ta f) := by
  intro pins s σ H Q I h
  refine attr_of hb (thn (he pins s σ H _ I h) fun u s1 ⟨x, H1, I1, rx, a, C, dx, fs, v, ex, ea, c, n, l, q⟩ => ?_)
  subst ex
  obtain rfl : u = Value.ref a := rx
  exact getattr_ok I1 ea c n l fun u' s2 I2 ru => ⟨v, H1, I2, ru, q⟩
theorem ps_fld (ha : PE X o ta) (hv : PE X value tv) (hs : swapsWith value (some (.Attribute o f pos')) pos.line X.env = pure false) : PS X (.Assign [.Attribute o f pos'] value pos) (sFld X.K ta tv f) := by
  intro pins s σ H D I h
  refine plainObj_wpAny_Assign_Attribute (thn (hv pins s σ H _ I h) fun u s1 ⟨y, H1, I1, ry, q⟩ => thn (ha pins s1 σ H1 _ I1 q) fun ov s2 ⟨x, H2, I2, rx, a, C, dx, fs, ex, ea, c, n, l, q2⟩ => ?_) hs
  subst ex
  obtain rfl : ov = Value.ref a := rx
  exact setattr_ok I2 ea c n l ry fun s3 I3 => ⟨σ, _, I3, q2⟩
end
section
variable {X : Cx} {pins : List (Addr × Obj)} {σ : St} {H : Hp} {s : Shared} {A : Around} {E : Value → Shared → Prop} {Q : Value → Shared → Prop} {c : Value} {b : Bool}
inductive TyOf (K : PySem.W.Frag) (H : Hp) : V → Value → Prop where
  | non : TyOf K H .non (.type "NoneType")
  | bl (x : Bool) : TyOf K H (.bl x) (.type "bool")
  | int (i : Int) : TyOf K H (.int i) (.type "int")
  | str (x : Str) : TyOf K H (.str x) (.type "str")
  | flt (x : UInt64) : TyOf K H (.flt x) (.type "float")
  | lst {a : Addr} {xs : List V} (e : H a = some (.lst xs)) : TyOf K H (.ref a) (.type "list")
  | frz {a : Addr} {o : Obj} {xs : List V} (e : H a = some (.frz o (.lst xs))) : TyOf K H (.ref a) (.type "list")
  | tup {a : Addr} {xs : List V} (e : H a = some (.tup xs)) : TyOf K H (.ref a) (.type "tuple")
  | dK {a : Addr} {kvs : List (Key × V)} (e : H a = some (.dK kvs)) : TyOf K H (.ref a) (.type "dict")
  | dT {a : Addr} {kvs : List (List Key × V)} (e : H a = some (.dT kvs)) : TyOf K H (.ref a) (.type "dict")
  | ins {a C dx : Addr} {fs : List (Str × V)} (e : H a = some (.ins C dx fs)) (cl : Cls K C) (ha : PySem.W.findIn K (.ref C) "__class__" = some (some (.builtin "object.__class__")))
      (hn : PySem.W.specialIn K (.builtin "object.__class__") "__get__" = some (some (.builtin "getset_descriptor.__get__"))) (htk : PySem.W.takesIn K (.builtin "object.__class__") = some true)
      (hm : PySem.W.mroIn K C (.type "object") = some true) : TyOf K H (.ref a) (.ref C)
theorem isinst_ok {x : V} {u t : Value} (I : Inv X pins σ H s) (rx : RelV x u) (ty : TyOf X.K H x t) (e : PySem.W.kitOne X.K t c = some b) (h : ∀ tk, Q (.bool b) { s with toks := tk }) :
    wpAny (model X.prog X.w) A (call (.builtin "isinstance") [u, c]) Q E s := by
  cases ty with
  | non => cases (show u = Value.none from rx); exact PySem.W.kia_one PySem.W.kitx_none I.kIn True.intro e (fun z => nomatch z) h
  | bl y => cases (show u = Value.bool y from rx); exact PySem.W.kia_one PySem.W.kitx_bool I.kIn True.intro e (fun z => nomatch z) h
  | int i => obtain ⟨t, q⟩ := (show ∃ t, u = Value.int i t from rx); cases q; exact PySem.W.kia_one PySem.W.kitx_int I.kIn True.intro e (fun z => nomatch z) h
  | str y => obtain ⟨t, q⟩ := (show ∃ t, u = Value.str y t from rx); cases q; exact PySem.W.kia_one PySem.W.kitx_str I.kIn True.intro e (fun z => nomatch z) h
  | flt y => obtain ⟨t, q⟩ := (show ∃ t, u = Value.float y t from rx); cases q; exact PySem.W.kia_one PySem.W.kitx_float I.kIn True.intro e (fun z => nomatch z) h
  | @lst a xs ea =>
    cases (show u = Value.ref a from rx)
    obtain ⟨_, _, n, _, h1⟩ := (show ObjOk X.prog X.w H s.heap a (.lst xs) from I.hok a _ ea)
    exact PySem.W.kia_one PySem.W.kitx_list I.kIn ⟨_, h1, rfl⟩ e (fun z => nomatch z) h
  | @frz a ob xs ea =>
    cases (show u = Value.ref a from rx)
    obtain ⟨_, _, _, n, _, h1⟩ := (show ObjOk X.prog X.w H s.heap a (.frz ob (.lst xs)) from I.hok a _ ea)
    exact PySem.W.kia_one PySem.W.kitx_list I.kIn ⟨_, h1, rfl⟩ e (fun z => nomatch z) h
  | @tup a xs ea =>
    cases (show u = Value.ref a from rx)
    obtain ⟨_, _, _, p⟩ := (show ObjOk X.prog X.w H s.heap a (.tup xs) from I.hok a _ ea)
    obtain ⟨o, h1, h2, _⟩ := p
    exact PySem.W.kia_one PySem.W.kitx_tuple I.kIn ⟨o, h1, h2⟩ e (fun z => nomatch z) h
  | @dK a kvs ea =>
    cases (show u = Value.ref a from rx)
    obtain ⟨_, _, vs, _, p⟩ := (show ObjOk X.prog X.w H s.heap a (.dK kvs) from I.hok a _ ea)
    obtain ⟨o, es, ep, h1, h2, _⟩ := p
    exact PySem.W.kia_one PySem.W.kitx_dict I.kIn ⟨o, h1, h2.1⟩ e (fun z => nomatch z) h
  | @dT a kvs ea =>
    cases (show u = Value.ref a from rx)
    obtain ⟨_, _, xs, _, o, es, ep, h1, h2, _⟩ := (show ObjOk X.prog X.w H s.heap a (.dT kvs) from I.hok a _ ea)
    exact PySem.W.kia_one PySem.W.kitx_dict I.kIn ⟨o, h1, h2.1⟩ e (fun z => nomatch z) h
  | @ins a C dx fs ea cl ha hn htk hm =>
    cases (show u = Value.ref a from rx)
    obtain ⟨mA, O, _⟩ := ins_get I.hok ea
    obtain ⟨od, J, _⟩ := O.look
    exact PySem.W.kia_one (PySem.W.kitx_own (cl.get _) cl.hd ha hn htk hm) I.kIn J e (fun z => nomatch z) h
end
end L2
namespace L2
open PySem PySem.Spec PyProof.Rows
structure Room (k : Nat) (A : Around) : Prop where
  hd : A.handled = none
  dp : A.depth + 3 * k + 5 < recursionLimit
  un : A.units + 16 * k + 200 < cLine
theorem Room.mono {j k : Nat} {A : Around} (r : Room k A) (h : j ≤ k) : Room j A := ⟨r.hd, by have := r.dp; omega, by have := r.un; omega⟩
theorem Room.deeper {k : Nat} {A : Around} (r : Room (k + 1) A) (env : Env) : Room k (A.deeper env) :=
  ⟨r.hd, by have := r.dp; show A.depth + 1 + 3 * k + 5 < _; omega, by have := r.un; show A.units + 3 + 16 * k + 200 < _; omega⟩
theorem make_depth {A : Around} {C : Addr} {us : List Value} {kw : List (Str × Value)} : (A.under (.builtin "type.__call__" ⟨.ref C :: us, kw⟩)).depth = A.depth + 1 := by
  first | rfl | simp [Around.under, Code.weight, Code.isCreation, Code.isGuard, Code.isCaller, Code.frames, Code.isFrame, guardIds]
theorem make_units {A : Around} {C : Addr} {us : List Value} {kw : List (Str × Value)} : (A.under (.builtin "type.__call__" ⟨.ref C :: us, kw⟩)).units = A.units + 1 := by
  first | rfl | simp [Around.under, Code.cUnits, Code.frames, Code.isFrame]
theorem Room.make {k : Nat} {A : Around} (r : Room (k + 1) A) (C : Addr) (us : List Value) (kw : List (Str × Value)) : Room k (A.under (.builtin "type.__call__" ⟨.ref C :: us, kw⟩)) :=
  ⟨r.hd, by have := r.dp; rw [make_depth]; omega, by have := r.un; rw [make_units]; omega⟩
theorem Room.depth {k : Nat} {A : Around} (r : Room k A) : A.depth < recursionLimit := by have := r.dp; omega
theorem Room.units {k : Nat} {A : Around} (r : Room k A) : A.units + 64 < cLine := by have := r.un; omega
noncomputable def tNil : TA := fun _ H Q => Q [] H
noncomputable def tCons (ta : TE) (tr : TA) : TA := fun σ H Q => ta σ H fun x H1 => tr σ H1 fun xs H2 => Q (x :: xs) H2
section
variable {X : Cx} {e : Expr} {es : List Expr} {te : TE} {t : TA} {pos : Pos}
theorem pa_nil : PA X [] tNil := fun _ _ _ _ H Q I h => Calls.spliced_nil ⟨[], H, I, .nil, h⟩
theorem pa_cons (ha : PE X e te) (hr : PA X es t) (hs : starEach (e :: es) X.env = (false, eval e X.env) :: starEach es X.env := by rfl) : PA X (e :: es) (tCons te t) := by
  intro pos pins s σ H Q I h
  rw [hs]
  show wpAny _ _ (spliced ((false, eval e X.env) :: backTo pos (starEach es X.env))) _ _ s
  refine Calls.spliced_cons (thn (ha pins s σ H _ I h) fun u s1 hh71 => Zz.b5 hh71 fun x H1 I1 r1 q1 => ?_)
  exact thn (hr pos pins s1 σ H1 _ I1 q1) fun us s2 hh72 => Zz.b5 hh72 fun xs H2 I2 r2 q2 => ⟨x :: xs, H2, I2, .cons r1 r2, q2⟩
noncomputable def tTup (t : TA) : TE := fun σ H Q => t σ H fun xs H1 => xs.length ≤ sizeLine ∧ ∀ p, H1 p = none → Q (.ref p) (upd H1 p (.tup xs))
noncomputable def tLst (t : TA) : TE := fun σ H Q => t σ H fun xs H1 => xs.length ≤ sizeLine ∧ ∀ p, H1 p = none → Q (.ref p) (upd H1 p (.lst xs))
theorem pe_tup {x1} (h : PA X es t) : PE X (.Tuple es x1 pos) (tTup t) := by
  intro pins s σ H Q I hq
  refine wpAny_Tuple_spliced (thn (h pos pins s σ H _ I hq) fun us s1 ⟨xs, H1, I1, r, z, q⟩ => ⟨by rw [← r.length]; exact z, ?_⟩)
  have hf : H1 s1.heap.objs.size = none := I1.hok.fresh (Nat.le_refl _)
  refine ⟨.ref s1.heap.objs.size, upd H1 s1.heap.objs.size (.tup xs), I1.laid (t' := s1.toks) (fun b u e => Heap.get?_push_of_some _ e) (Nat.le_refl _) ?_, rfl, q _ hf⟩
  exact ⟨z, us, r, ⟨_, Heap.get?_push_size _ rfl, rfl, _, rfl⟩⟩
theorem pe_lst (h : PA X es t) : PE X (.List es pos) (tLst t) := by
  intro pins s σ H Q I hq
  refine wpAny_List_spliced (thn (h pos pins s σ H _ I hq) fun us s1 ⟨xs, H1, I1, r, z, q⟩ => ⟨by rw [← r.length]; exact z, ?_⟩)
  have hf : H1 s1.heap.objs.size = none := I1.hok.fresh (Nat.le_refl _)
  refine ⟨.ref s1.heap.objs.size, upd H1 s1.heap.objs.size (.lst xs), I1.laid (t' := s1.toks) (fun b u e => Heap.get?_push_of_some _ e) (Nat.le_refl _) ?_, rfl, q _ hf⟩
  exact ⟨z, us, 0, r, Heap.get?_push_size _ rfl⟩
end
noncomputable abbrev Sp := List V → Hp → VK → XK → Prop
noncomputable abbrev CXT := List Env → Hp → Shared → XK → Value → Shared → Prop
structure Env0 (P : Program) (w : World) (K : PySem.W.Frag) (mg : Str → Option Value) (base : Heap) (A : Around) (outer : List Env) (s : Shared) (H : Hp) : Prop where
  frames : A.frames = some outer
  mod : Mod K mg base
  bs : ∀ b o, base.get? b = some o → s.heap.get? b = some o ∧ H b = none
  bsz : base.objs.size ≤ s.heap.objs.size
  funs : s.heap.FunFrames base outer
  frf : ∀ b ∈ frs outer, H b = none
  hok : HOk P w H s.heap
  bare : AllBare s.gens
noncomputable def CE (outer : List Env) (P : Program) (w : World) (H : Hp) (s : Shared) (Q : VK) (u : Value) (s' : Shared) : Prop :=
  ∃ v H', s'.os = s.os ∧ AllBare s'.gens ∧ Un (frs outer) [] H H' s.heap s'.heap ∧ HOk P w H' s'.heap ∧ RelV v u ∧ Q v H'
noncomputable def CR (CX : CXT) (outer : List Env) (P : Program) (w : World) (H : Hp) (s : Shared) (Q : VK) (E : XK) (r : Result) (s' : Shared) : Prop :=
  match r with
  | .ok (.ret u) => CE outer P w H s Q u s'
  | .ok _ => False
  | .error e => CX outer H s E e s'
structure FnOk (P : Program) (w : World) (K : PySem.W.Frag) (mg : Str → Option Value) (base : Heap) (CX : CXT) (k : Nat) (f : Addr) (fd : FuncData) (ps : List Str) (sp : Sp) : Prop where
  len : ∀ vs H Q E, sp vs H Q E → vs.length = ps.length
  run : ∀ (A : Around) (outer : List Env) (s : Shared) (H : Hp) (args : Args) (us : List Value) (vs : List V) (Q : VK) (E : XK), Room k A → Env0 P w K mg base A outer s H → BindsTo s fd args (ps.zip us) → Vals vs us → sp vs H Q E →
    codeAny (model P w) A (.call (.ref f) args) (CR CX outer P w H s Q E) s
theorem Env0.make {P : Program} {w : World} {K : PySem.W.Frag} {mg : Str → Option Value} {base : Heap} {A : Around} {outer : List Env} {s : Shared} {H : Hp} (e : Env0 P w K mg base A outer s H) (C : Addr) (us : List Value) (kw : List (Str × Value)) :
    Env0 P w K mg base (A.under (.builtin "type.__call__" ⟨.ref C :: us, kw⟩)) outer s H := ⟨by first | exact e.frames | (simpa [Around.under, Code.envs, Code.isFrame, pushEnvs] using e.frames), e.mod, e.bs, e.bsz, e.funs, e.frf, e.hok, e.bare⟩
section
variable {X : Cx} {pins : List (Addr × Obj)} {σ : St} {H : Hp} {s s' : Shared}
theorem Inv.env0 (I : Inv X pins σ H s) : Env0 X.prog X.w X.K X.mg X.base X.A X.stack s H :=
  ⟨I.ok.frames, I.ok.mod, I.bs, Nat.le_trans I.ok.bsz I.sz, I.stack, I.stkFree, I.hok, I.bare⟩
theorem Inv.after {Q : VK} {u : Value} (I : Inv X pins σ H s) (h : CE X.stack X.prog X.w H s Q u s') : EP X pins σ Q u s' := by
  obtain ⟨v, H', os, bare, un, hok, r, q⟩ := h
  obtain ⟨hh, g, d, t, os'⟩ := s'
  obtain rfl : os' = s.os := os
  exact ⟨v, H', I.call (h' := hh) (g' := g) (d' := d) (t' := t) (ch := []) un hok bare (fun b z => absurd z (by simp)), r, q⟩
end
noncomputable def tCall (sp : Sp) (dvs : List V) (E : XK) (t : TA) : TE := fun σ H Q => t σ H fun vs H1 => sp (vs ++ dvs) H1 Q E
noncomputable def tMeth (C : Addr) (m : Str) (sp : Sp) (dvs : List V) (E : XK) (ta : TE) (t : TA) : TE := fun σ H Q => ta σ H fun x H1 => ∃ a dx fs, x = .ref a ∧ H1 a = some (.ins C dx fs) ∧ fs.lookup m = none ∧
  t σ H1 fun vs H2 => sp (x :: (vs ++ dvs)) H2 Q E
noncomputable def tMake (C : Addr) (sp : Sp) (dvs : List V) (E : XK) (t : TA) : TE := fun σ H Q => t σ H fun vs H1 => ∀ x dx, H1 x = none → H1 dx = none → dx ≠ x →
  sp (.ref x :: (vs ++ dvs)) (upd (upd H1 dx (.own x)) x (.ins C dx [])) (fun v H2 => v = .non ∧ Q (.ref x) H2) E
noncomputable def Binds (K : PySem.W.Frag) (fd : FuncData) (ps : List Str) (ds : List Value) : Prop :=
  ∀ (s : Shared) (us : List Value), K.In s.heap → (us ++ ds).length = ps.length → BindsTo s fd ⟨us, []⟩ (ps.zip (us ++ ds))
theorem Binds.all {K : PySem.W.Frag} {fd : FuncData} {ps : List Str} (h : ∀ us : List Value, us.length = ps.length → bindArgs fd ⟨us, []⟩ = pure (ps.zip us)) : Binds K fd ps [] := fun s us _ hl => by
  rw [List.append_nil] at hl ⊢
  exact .of_eq (h us hl)
noncomputable def Passes (CX : CXT) (X : Cx) (E : XK) : Prop := ∀ (pins : List (Addr × Obj)) (σ : St) (H : Hp) (s : Shared) (e : Value) (s' : Shared), Inv X pins σ H s → CX X.stack H s E e s' → X.xe e s'
section
variable {X : Cx} {CX : CXT} {k : Nat} {f C : Addr} {fd : FuncData} {ps : List Str} {sp : Sp} {dvs : List V} {ds : List Value} {E : XK} {x m : Str} {p pos apos : Pos} {e o : Expr} {es : List Expr} {ta : TE} {t : TA}
theorem run_fn {pins : List (Addr × Obj)} {σ : St} {H : Hp} {s : Shared} {Q : VK} {us : List Value} {vs : List V} (F : FnOk X.prog X.w X.K X.mg X.base CX k f fd ps sp) (hr : Room k X.A) (hb : Binds X.K fd ps ds) (hd : Vals dvs ds) (hx : Passes CX X E)
    (I : Inv X pins σ H s) (r : Vals vs us) (h : sp (vs ++ dvs) H Q E) : wpAny (model X.prog X.w) X.A (call (.ref f) us) (EP X pins σ Q) X.xe s := by
  have r2 : Vals (vs ++ dvs) (us ++ ds) := r.append hd
  have hl : (us ++ ds).length = ps.length := by rw [← r2.length]; exact F.len _ _ _ _ h
  refine wpAny_call (codeAny_mono (F.run X.A X.stack s H ⟨us, []⟩ (us ++ ds) (vs ++ dvs) Q E hr I.env0 (hb s us I.kIn hl) r2 h) fun r s' hq => ?_)
  cases r with
  | error e => exact hx pins σ H s e s' I hq
  | ok fl =>
    cases fl with
    | ret u => exact I.after hq
    | next => exact False.elim hq
    | brk => exact False.elim hq
    | cont => exact False.elim hq
theorem pe_call (F : FnOk X.prog X.w X.K X.mg X.base CX k f fd ps sp) (hr : Room k X.A) (hg : Gl X x) (hm : X.mg x = some (.ref f)) (hk : PySem.W.keepIn X.K (.ref f) = true) (hb : Binds X.K fd ps ds) (hd : Vals dvs ds) (hx : Passes CX X E)
    (ha : PA X (e :: es) t) (hdb : (x == ("__debug__" : Str)) = false := by decide) (he : starEach (e :: es) X.env = (false, eval e X.env) :: starEach es X.env := by rfl) (hpl : (backTo pos (starEach es X.env)).any (·.1) = false := by rfl) :
    PE X (.Call (.Name x p) (e :: es) [] pos) (tCall sp dvs E t) := by
  intro pins s σ H Q I h
  refine wpAny_Call_Name_kw (ld_glob I hg hm ?_ hdb)
  refine PySem.W.callWith_K (h₀ := X.base) I.ok.mod.kin hk (thn (ha pos pins s σ H _ I h) fun us s1 hh73 => Zz.b5 hh73 fun vs H1 I1 r q => ⟨I1.kIn, ?_⟩) he hpl
  exact run_fn F hr hb hd hx I1 r q
theorem pe_meth {pl : Sem Bool} (he : PE X o ta) (c : Cls X.K C) (hm : Meth X.K C m f) (F : FnOk X.prog X.w X.K X.mg X.base CX k f fd ps sp) (hr : Room k X.A) (hb : Binds X.K fd ps ds) (hd : Vals dvs ds) (hx : Passes CX X E) (ha : PA X (e :: es) t)
    (hst : starEach (e :: es) X.env = (false, eval e X.env) :: starEach es X.env := by rfl) (hpl : (backTo pos (starEach es X.env)).any (·.1) = false := by rfl)
    (ht : eval (.Call (.Attribute o m apos) (e :: es) [] pos) X.env = (do
      let ov ← eval o X.env
      standAt apos.atName
      let (f, first) ← holding [ov] (getMethod ov m pl)
      callWith pos f first (backTo pos (starEach (e :: es) X.env)) (backToKw pos (keywordEach [] X.env))) := by rfl) :
    PE X (.Call (.Attribute o m apos) (e :: es) [] pos) (tMeth C m sp dvs E ta t) := by
  intro pins s σ H Q I h
  refine PySem.W.methodCall_KW (pl := pl) (thn (he pins s σ H _ I h) fun u s1 ⟨x, H1, I1, rx, a, dx, fs, ex, ea, l, q⟩ => ?_) ht
  subst ex
  obtain rfl : u = Value.ref a := rx
  refine getmeth_ok I1 ea c hm l ?_
  refine PySem.W.callWith_K (first := [.ref a]) (h₀ := X.base) I.ok.mod.kin hm.kp (thn (ha pos pins s1 σ H1 _ I1 q) fun us s2 hh74 => Zz.b5 hh74 fun vs H2 I2 r q2 => ⟨I2.kIn, ?_⟩) hst hpl
  exact run_fn (us := .ref a :: us) (vs := .ref a :: vs) F hr hb hd hx I2 (.cons rfl r) q2
theorem pe_meth0 {pl : Sem Bool} (he : PE X o ta) (c : Cls X.K C) (hm : Meth X.K C m f) (F : FnOk X.prog X.w X.K X.mg X.base CX k f fd ps sp) (hr : Room k X.A) (hb : Binds X.K fd ps ds) (hd : Vals dvs ds) (hx : Passes CX X E)
    (ht : eval (.Call (.Attribute o m apos) [] [] pos) X.env = (do
      let ov ← eval o X.env
      standAt apos.atName
      let (f, first) ← holding [ov] (getMethod ov m pl)
      callWith pos f first (backTo pos (starEach [] X.env)) (backToKw pos (keywordEach [] X.env))) := by rfl) :
    PE X (.Call (.Attribute o m apos) [] [] pos) (tMeth C m sp dvs E ta tNil) := by
  intro pins s σ H Q I h
  refine PySem.W.methodCall_KW (pl := pl) (thn (he pins s σ H _ I h) fun u s1 ⟨x, H1, I1, rx, a, dx, fs, ex, ea, l, q⟩ => ?_) ht
  subst ex
  obtain rfl : u = Value.ref a := rx
  refine getmeth_ok I1 ea c hm l ?_
  exact PySem.W.callWith_K0 (first := [.ref a]) I1.kIn hm.kp (run_fn (us := [.ref a]) (vs := [.ref a]) F hr hb hd hx I1 (.cons rfl .nil) q)
structure Mk (K : PySem.W.Frag) (C f : Addr) : Prop where
  makes : PySem.W.makesIn K C = true
  init : PySem.W.findIn K (.ref C) "__init__" = some (some (.ref f))
  fn : PySem.W.isFn K (.ref f) = true
  kp : PySem.W.keepIn K (.ref C) = true
theorem run_make {pins : List (Addr × Obj)} {σ : St} {H : Hp} {s : Shared} {Q : VK} {us : List Value} {vs : List V} (M : Mk X.K C f) (F : FnOk X.prog X.w X.K X.mg X.base CX k f fd ps sp) (hr : Room (k + 1) X.A) (hb : Binds X.K fd ps ds) (hd : Vals dvs ds)
    (hx : Passes CX X E) (I : Inv X pins σ H s) (r : Vals vs us)
    (h : ∀ x dx, H x = none → H dx = none → dx ≠ x → sp (.ref x :: (vs ++ dvs)) (upd (upd H dx (.own x)) x (.ins C dx [])) (fun v H2 => v = .non ∧ Q (.ref x) H2) E) :
    wpAny (model X.prog X.w) X.A (call (.ref C) us) (EP X pins σ Q) X.xe s := by
  have hq := h (s.heap.objs.size + 1) s.heap.objs.size (I.hok.fresh (Nat.le_succ _)) (I.hok.fresh (Nat.le_refl _)) (Nat.ne_of_lt (Nat.lt_succ_self _))
  have I2 := Inv.made (C := C) I
  have r2 : Vals (V.ref (s.heap.objs.size + 1) :: (vs ++ dvs)) (Value.ref (s.heap.objs.size + 1) :: (us ++ ds)) := .cons rfl (r.append hd)
  have hl : (Value.ref (s.heap.objs.size + 1) :: us ++ ds).length = ps.length := by
    have e := r2.length
    rw [F.len _ _ _ _ hq] at e
    exact e.symm
  refine wpAny_call (make_map (f := f) I.kIn M.makes M.init (beq_iff_eq.mp M.fn) (codeAny_mono (F.run _ X.stack _ _ ⟨Value.ref (s.heap.objs.size + 1) :: us, []⟩ (Value.ref (s.heap.objs.size + 1) :: (us ++ ds)) _ _ E (hr.make C us [])
    (I2.env0.make C us []) (hb _ (Value.ref (s.heap.objs.size + 1) :: us) I2.kIn hl) r2 hq) fun r s' hq' => ?_))
  cases r with
  | error e => exact hx pins σ _ _ e s' I2 hq'
  | ok fl =>
    cases fl with
    | ret u =>
      obtain ⟨v, H', I3, rv, ev, q3⟩ := I2.after hq'
      subst ev
      exact ⟨rv, ⟨V.ref (s.heap.objs.size + 1), H', I3, rfl, q3⟩⟩
    | next => exact False.elim hq'
    | brk => exact False.elim hq'
    | cont => exact False.elim hq'
theorem pe_make (M : Mk X.K C f) (F : FnOk X.prog X.w X.K X.mg X.base CX k f fd ps sp) (hr : Room (k + 1) X.A) (hg : Gl X x) (hm : X.mg x = some (.ref C)) (hb : Binds X.K fd ps ds) (hd : Vals dvs ds) (hx : Passes CX X E)
    (ha : PA X (e :: es) t) (hdb : (x == ("__debug__" : Str)) = false := by decide) (he : starEach (e :: es) X.env = (false, eval e X.env) :: starEach es X.env := by rfl) (hpl : (backTo pos (starEach es X.env)).any (·.1) = false := by rfl) :
    PE X (.Call (.Name x p) (e :: es) [] pos) (tMake C sp dvs E t) := by
  intro pins s σ H Q I h
  refine wpAny_Call_Name_kw (ld_glob I hg hm ?_ hdb)
  refine PySem.W.callWith_K (h₀ := X.base) I.ok.mod.kin M.kp (thn (ha pos pins s σ H _ I h) fun us s1 hh75 => Zz.b5 hh75 fun vs H1 I1 r q => ⟨I1.kIn, ?_⟩) he hpl
  exact run_make M F hr hb hd hx I1 r q
end
section
variable {X : Cx} {CX : CXT} {k : Nat} {f C : Addr} {fd : FuncData} {ps ks : List Str} {sp : Sp} {E : XK} {x m : Str} {p pos apos kpos : Pos} {e o : Expr} {es : List Expr} {kws : List Keyword} {te ta : TE} {t tk : TA} {nm : Option Str}
variable {g : List Value → List Value → List Value} {gV : List V → List V → List V}
end
structure FnScope (N P : List Str) (sc : Scope) : Prop where
  kind : sc.kind = .function
  co : sc.isCoroutine = false
  gen : sc.isGenerator = false
  nd : N.Nodup
  pre : N.take P.length = P
  par : ∀ x ∈ P, sc.names.lookup x = some .local ∨ sc.names.lookup x = some .cell
  nofree : ∀ y ∈ sc.names, y.2 ≠ .free
theorem bindL_out {kindOf : Str → Option NameKind} {x : Str} : ∀ {binds : List (Str × Value)} {m : Str → Option Value}, (∀ v, (x, v) ∉ binds) → bindL kindOf binds m x = m x
  | [], _, _ => rfl
  | (n, v) :: r, m, h => by
    unfold bindL
    rw [bindL_out fun w hw => h w (List.mem_cons_of_mem _ hw)]
    split
    · have : x ≠ n := by rintro rfl; exact h v List.mem_cons_self
      simp [this]
    · rfl
theorem bindC_out {kindOf : Str → Option NameKind} {x : Str} : ∀ {binds : List (Str × Value)} {m : Str → Option Value}, (∀ v, (x, v) ∉ binds) → bindC kindOf binds m x = m x
  | [], _, _ => rfl
  | (n, v) :: r, m, h => by
    unfold bindC
    rw [bindC_out fun w hw => h w (List.mem_cons_of_mem _ hw)]
    split
    · rfl
    · have : x ≠ n := by rintro rfl; exact h v List.mem_cons_self
      simp [this]
theorem bindL_get {kindOf : Str → Option NameKind} {x : Str} {v : Value} : ∀ {P : List Str} {vs : List Value} {i : Nat} {m : Str → Option Value}, P.Nodup → P[i]? = some x → vs[i]? = some v → kindOf x = some .local →
    bindL kindOf (P.zip vs) m x = some v
  | [], _, _, _, _, h, _, _ => by simp at h
  | _ :: _, [], _, _, _, _, h, _ => by simp at h
  | p :: P, w :: vs, 0, m, nd, h1, h2, hk => by
    simp at h1 h2; subst h1; subst h2
    show bindL kindOf ((p, w) :: P.zip vs) m p = _
    unfold bindL
    rw [bindL_out fun v hv => (List.nodup_cons.mp nd).1 (List.of_mem_zip hv).1, if_pos hk]
    simp
  | p :: P, w :: vs, i + 1, m, nd, h1, h2, hk => by
    show bindL kindOf ((p, w) :: P.zip vs) m x = _
    unfold bindL
    exact bindL_get (i := i) (List.nodup_cons.mp nd).2 (by simpa using h1) (by simpa using h2) hk
theorem bindC_get {kindOf : Str → Option NameKind} {x : Str} {v : Value} : ∀ {P : List Str} {vs : List Value} {i : Nat} {m : Str → Option Value}, P.Nodup → P[i]? = some x → vs[i]? = some v → kindOf x ≠ some .local →
    bindC kindOf (P.zip vs) m x = some v
  | [], _, _, _, _, h, _, _ => by simp at h
  | _ :: _, [], _, _, _, _, h, _ => by simp at h
  | p :: P, w :: vs, 0, m, nd, h1, h2, hk => by
    simp at h1 h2; subst h1; subst h2
    show bindC kindOf ((p, w) :: P.zip vs) m p = _
    unfold bindC
    rw [bindC_out fun v hv => (List.nodup_cons.mp nd).1 (List.of_mem_zip hv).1, if_neg hk]
    simp
  | p :: P, w :: vs, i + 1, m, nd, h1, h2, hk => by
    show bindC kindOf ((p, w) :: P.zip vs) m x = _
    unfold bindC
    exact bindC_get (i := i) (List.nodup_cons.mp nd).2 (by simpa using h1) (by simpa using h2) hk
noncomputable def start (N : List Str) (vs : List V) : St := vs.map some ++ List.replicate (N.length - vs.length) none
noncomputable def cxOf (CX : CXT) (P : Program) (w : World) (K : PySem.W.Frag) (mg : Str → Option Value) (base : Heap) (N : List Str) (qual : Str) (scope : Scope) (f : Addr) (cd : Value) (A : Around) (outer : List Env) (s : Shared) (H : Hp) (E : XK) : Cx where
  prog := P
  w := w
  K := K
  mg := mg
  base := base
  A := A.deeper (envOfC qual scope s.heap.objs.size f cd)
  N := N
  s₀ := s
  H₀ := H
  env := envOfC qual scope s.heap.objs.size f cd
  outer := outer
  stack := envOfC qual scope s.heap.objs.size f cd :: outer
  ex := []
  calm := true
  fn := fun _ => true
  pn := []
  xe := fun e s' => wpAny (model P w) (A.deeper (envOfC qual scope s.heap.objs.size f cd)) (leaving (envOfC qual scope s.heap.objs.size f cd) e) (fun _ s'' => CX outer H s E e s'') (fun e' s'' => CX outer H s E e' s'') s'
theorem cell_has {sc : Scope} {n : Nat} {x : Str} (h : sc.names.lookup x = some .cell) : ∃ c, (cellsFrom n sc.names []).lookup x = some c := by
  have q := PySem.W.cellsFrom_some sc.names n [] (.inl h)
  exact Option.isSome_iff_exists.mp q
theorem inv_start {CX : CXT} {P : Program} {w : World} {K : PySem.W.Frag} {mg : Str → Option Value} {base : Heap} {N ps : List Str} {qual : Str} {scope : Scope} {f : Addr} {cd : Value} {A : Around} {outer : List Env} {s s1 : Shared} {H : Hp} {E : XK} {us : List Value} {vs : List V}
    (S : FnScope N ps scope) (hd : A.handled = none) (e0 : Env0 P w K mg base A outer s H) (hl : vs.length = ps.length) (r : Vals vs us)
    (x : InCallC s s.heap.objs.size (bindL (envOfC qual scope s.heap.objs.size f cd).kindOf (ps.zip us) fun _ => none) (cellsFrom (s.heap.objs.size + 1) scope.names []) (bindC (envOfC qual scope s.heap.objs.size f cd).kindOf (ps.zip us) fun _ => none) s1) :
    Inv (cxOf CX P w K mg base N qual scope f cd A outer s H E) [] (start N vs) H s1 := by
  have hpl : ps.length ≤ N.length := by have := congrArg List.length S.pre; rw [List.length_take] at this; omega
  obtain ⟨h1, tk, rfl, hk⟩ := x.done
  have noA : ∀ b : Addr, b ∉ (cxOf CX P w K mg base N qual scope f cd A outer s H E).ex := fun b z => absurd (show b ∈ ([] : List Addr) from z) (by simp)
  refine ⟨⟨e0.mod, S.kind, rfl, rfl, Nat.le_refl _, fun y z c h1 h2 => ?_, fun y hy => ?_, fun y c _ h => ?_, fun _ => hd, Around.frames_deeper e0.frames, .inr ⟨rfl, rfl⟩, fun b z => absurd z (noA b), e0.bs, e0.bsz, fun b _ _ => noA b, fun b z => absurd z (noA b), e0.funs, e0.frf⟩,
    rfl, e0.bare, Un.kept hk, ⟨_, x.toInCall.ns, fun i y v h1 h2 h3 => ?_⟩, fun y c h => ⟨_, x.cell y c h⟩, e0.hok.fresh (Nat.le_refl _), fun y c h => ?_, fun p hp => absurd (show p ∈ ([] : List (Addr × Obj)) from hp) (by simp), e0.hok.kept hk, ?_⟩
  · exact name_of_addr x.apart (PySem.mem_of_lookup h1) (PySem.mem_of_lookup h2)
  · have hy : scope.names.lookup y = some .cell ∨ scope.names.lookup y = some .free := hy
    rcases hy with hy | hy
    · exact cell_has hy
    · exact absurd rfl (S.nofree _ (PySem.mem_of_lookup hy))
  · exact Nat.le_of_lt (x.above y c (PySem.mem_of_lookup h))
  · have hi : i < vs.length := by
      unfold start at h2
      by_cases hi : i < vs.length
      · exact hi
      · rw [List.getElem?_append_right (by simpa using hi)] at h2
        rw [List.getElem?_replicate] at h2
        split at h2 <;> cases h2
    have ha : vs[i]? = some v := by
      unfold start at h2
      rw [List.getElem?_append_left (by simpa using hi), List.getElem?_map] at h2
      cases e : vs[i]? with
      | none => rw [e] at h2; cases h2
      | some a => rw [e] at h2; cases h2; rfl
    obtain ⟨u, hu, rv⟩ := r.get ha
    have hp : ps[i]? = some y := by
      rw [← S.pre, List.getElem?_take_of_lt (by omega)]; exact h1
    have ndP : ps.Nodup := by rw [← S.pre]; exact S.nd.sublist (List.take_sublist _ _)
    refine ⟨u, rv, ?_⟩
    rcases S.par y (List.mem_of_getElem? hp) with k | k
    · exact .inl ⟨k, bindL_get ndP hp hu k⟩
    · obtain ⟨c, e⟩ := cell_has (n := s.heap.objs.size + 1) k
      refine .inr ⟨.inl k, c, e, ?_⟩
      have q := x.cell y c e
      rw [bindC_get ndP hp hu (by show scope.names.lookup y ≠ _; rw [k]; decide)] at q
      exact q
  · exact e0.hok.fresh (Nat.le_of_lt (x.above y c (PySem.mem_of_lookup h)))
  · unfold start
    show _ = N.length
    rw [List.length_append, List.length_map, List.length_replicate]
    omega
theorem fn_of {CX : CXT} {P : Program} {w : World} {K : PySem.W.Frag} {mg : Str → Option Value} {base : Heap} {k : Nat} {f : Addr} {name qual : Str} {params : Arguments} {body : List Stmt} {scope : Scope} {dV kV doc pm cdv ct oc : Value} {an od : Option Addr}
    {osl : Array (Option Value)} {N ps : List Str} {sp : Sp} (lk : K.lookup f = some ⟨oc, od, .func (PySem.W.fnOf name qual params body scope dV kV doc pm an cdv ct), osl⟩) (hcd : PySem.W.codeIn K cdv qual = true) (S : FnScope N ps scope)
    (len : ∀ vs H Q E, sp vs H Q E → vs.length = ps.length)
    (hbody : ∀ (A : Around) (outer : List Env) (s : Shared) (H : Hp) (vs : List V) (Q : VK) (E : XK), Room k (A.deeper (envOfC qual scope s.heap.objs.size f cdv)) → sp vs H Q E →
      ∃ t, PSs (cxOf CX P w K mg base N qual scope f cdv A outer s H E) body t ∧ t { nx := fun _ H' => Q .non H', rt := Q } (start N vs) H) :
    FnOk P w K mg base CX (k + 1) f (PySem.W.fnOf name qual params body scope dV kV doc pm an cdv ct) ps sp := by
  refine ⟨len, fun A outer s H args us vs Q E hr e0 hb r hsp => ?_⟩
  have hl := len _ _ _ _ hsp
  have KX : K.In s.heap := e0.mod.kin.keeps fun b o e => (e0.bs b o e).1
  have lim : s.heap.NoLimit := e0.mod.nolimit.keeps fun b o e => (e0.bs b o e).1
  have hkind : ∀ y ∈ ps.zip us, scope.names.lookup y.1 = some .local ∨ (scope.names.lookup y.1 = some .cell ∧ ((cellsFrom (s.heap.objs.size + 1) scope.names []).lookup y.1).isSome = true) := fun ⟨n, v⟩ hy => by
    rcases S.par n (List.of_mem_zip hy).1 with q | q
    · exact .inl q
    · exact .inr ⟨q, PySem.W.cellsFrom_some _ _ _ (.inl q)⟩
  refine codeAny_call_function hr.depth (KX _ _ lk) rfl S.co S.gen rfl (PySem.W.codeRec_of KX hcd) (hb _ _ _ _ ?_)
  refine wpAny_newFunctionEnv_cells S.kind hkind fun env he s1 x => ?_
  subst he
  refine ⟨lim.keeps x.toInCall.keep, codeAny_func ?_⟩
  obtain ⟨t, ht, hq⟩ := hbody A outer s H vs Q E (hr.deeper _) hsp
  have I : Inv (cxOf CX P w K mg base N qual scope f cdv A outer s H E) [] (start N vs) H s1 := inv_start S hr.hd e0 hl r x
  refine wpAny_mono (ht [] s1 (start N vs) H _ I hq) (fun fl s' hs => ?_) fun e s' hs => hs
  have fin : ∀ {σ' : St} {H' : Hp} {v : V} {u : Value}, Inv (cxOf CX P w K mg base N qual scope f cdv A outer s H E) [] σ' H' s' → RelV v u → Q v H' → CE outer P w H s Q u s' :=
    fun {σ' H' v u} J rv q => ⟨v, H', J.os, J.bare, J.base, J.hok, rv, q⟩
  cases fl with
  | ret u =>
    obtain ⟨v, σ', H', J, rv, q⟩ := hs
    exact fin J rv q
  | next =>
    obtain ⟨σ', H', J, q⟩ := hs
    exact fin (v := V.non) (u := Value.none) J rfl q
  | brk =>
    obtain ⟨_, _, _, q⟩ := hs
    exact False.elim q
  | cont =>
    obtain ⟨_, _, _, q⟩ := hs
    exact False.elim q
end L2
namespace L2
open PySem PySem.Spec PyProof.Rows
section
variable {X : Cx} {x : Str} {p pos : Pos} {e : Expr} {es : List Expr} {t : TA} {id T : String} {r : List V → Hp → VK → Prop}
noncomputable def tCB (r : List V → Hp → VK → Prop) (t : TA) : TE := fun σ H Q => t σ H fun vs H1 => r vs H1 Q
theorem pe_callB (hc : CallR X (.builtin id) r) (hg : Gl X x) (hm : X.mg x = none) (hv : bootBuiltins x = some (.builtin id)) (ha : PA X (e :: es) t) (hn : x ≠ "__name__" := by decide) (hdb : (x == ("__debug__" : Str)) = false := by decide)
    (he : starEach (e :: es) X.env = (false, eval e X.env) :: starEach es X.env := by rfl) (hpl : (backTo pos (starEach es X.env)).any (·.1) = false := by rfl) : PE X (.Call (.Name x p) (e :: es) [] pos) (tCB r t) := by
  intro pins s σ H Q I h
  refine wpAny_Call_Name_kw (ld_blt I hg hm hv ?_ hn hdb)
  exact PyProof.Rows.callWith_builtin1 (thn (ha pos pins s σ H _ I h) fun us s1 hh76 => Zz.b5 hh76 fun vs H1 I1 r1 q1 => hc pins s1 σ H1 vs us Q I1 r1 q1) he hpl
theorem pe_callTy (hc : CallR X (.type T) r) (hg : Gl X x) (hm : X.mg x = none) (hv : bootBuiltins x = some (.type T)) (ha : PA X (e :: es) t) (hn : x ≠ "__name__" := by decide) (hdb : (x == ("__debug__" : Str)) = false := by decide)
    (he : starEach (e :: es) X.env = (false, eval e X.env) :: starEach es X.env := by rfl) (hpl : (backTo pos (starEach es X.env)).any (·.1) = false := by rfl) : PE X (.Call (.Name x p) (e :: es) [] pos) (tCB r t) := by
  intro pins s σ H Q I h
  refine wpAny_Call_Name_kw (ld_blt I hg hm hv ?_ hn hdb)
  exact PyProof.Rows.callWith_type1 (thn (ha pos pins s σ H _ I h) fun us s1 hh77 => Zz.b5 hh77 fun vs H1 I1 r1 q1 => hc pins s1 σ H1 vs us Q I1 r1 q1) he hpl
end
end L2
namespace HT
open PySem PyProof.Rows
section
open PySem.SeqAt
open PySem.AutoSeq1 (wpAny_loadPart')
open PySem.MeetsSeq PySem.MeetsSeq2 PySem.MeetsSeq3
end
section
variable {prog : Program} {w : World} {A : Around} {E : Value → Shared → Prop} {s : Shared}
noncomputable def sIx (n d : Nat) : Option Int → Nat
  | none => d
  | some v => if v < 0 then (v + (n : Int)).toNat else min v.toNat n
theorem sIx_nat (n d k : Nat) : sIx n d (some (k : Int)) = min k n := by
  show (if (k : Int) < 0 then ((k : Int) + (n : Int)).toNat else min (k : Int).toNat n) = min k n
  rw [if_neg (by omega), Int.toNat_natCast]
end
end HT
namespace L2
open PySem PySem.Spec PyProof.Rows
noncomputable abbrev TO := St → Hp → (Option Int → Hp → Prop) → Prop
noncomputable def PO (X : Cx) (e : Option Expr) (t : TO) : Prop :=
  ∀ (pins : List (Addr × Obj)) (s : Shared) (σ : St) (H : Hp) (Q : Option Int → Hp → Prop), Inv X pins σ H s → t σ H Q →
    wpAny (model X.prog X.w) X.A (evalPart e X.env) (fun u s' => ∃ o H', Inv X pins σ H' s' ∧ IsPart u o ∧ Q o H') X.xe s
noncomputable def tPart (t : TE) : TO := fun σ H Q => t σ H fun x H1 => ∃ i, x = .int i ∧ Q (some i) H1
section
variable {X : Cx} {e : Expr} {te : TE} {lo hi : Option Expr} {tl th : TO} {pos p2 : Pos}
theorem po_some (h : PE X e te) : PO X (some e) (tPart te) := by
  intro pins s σ H Q I hw
  rw [evalPart_some]
  refine thn (h pins s σ H _ I hw) fun u s1 hh78 => Zz.b5 hh78 fun x H1 I1 r1 q1 => ?_
  obtain ⟨i, rfl, q⟩ := q1
  obtain ⟨t, rfl⟩ := r1
  exact ⟨some i, H1, I1, .int i t, q⟩
noncomputable def SlR (X : Cx) (r : V → Option Int → Option Int → Hp → VK → Prop) : Prop :=
  ∀ (pins : List (Addr × Obj)) (s : Shared) (σ : St) (H : Hp) (x : V) (v vl vu : Value) (lo hi : Option Int) (sl : Addr) (Q : VK), Inv X pins σ H s → RelV x v → s.heap.IsSliceOf sl vl vu .none → IsPart vl lo → IsPart vu hi → r x lo hi H Q →
    ∃ T id, typeLookup (.type T) "__getitem__" = pure (some (.builtin id)) ∧ s.TypeIs v T ∧ wpAny (model X.prog X.w) X.A (getItem v (.ref sl)) (EP X pins σ Q) X.xe s
noncomputable def tSl (r : V → Option Int → Option Int → Hp → VK → Prop) (te : TE) (tl th : TO) : TE := fun σ H Q => te σ H fun x H1 => tl σ H1 fun l H2 => th σ H2 fun u H3 => r x l u H3 Q
theorem pe_slice {r : V → Option Int → Option Int → Hp → VK → Prop} (hr : SlR X r) (he : PE X e te) (hl : PO X lo tl) (hu : PO X hi th) : PE X (.Subscript e (.Slice lo hi none p2) pos) (tSl r te tl th) := by
  intro pins s σ H Q I h
  refine Subscript_ (thn (he pins s σ H _ I h) fun v s1 hh79 => Zz.b5 hh79 fun x H1 I1 r1 q1 => ?_)
  refine wpAny_Slice (thn (hl pins s1 σ H1 _ I1 q1) fun vl s2 ⟨l, H2, I2, pl, q2⟩ => thn (hu pins s2 σ H2 _ I2 q2) fun vu s3 ⟨u, H3, I3, pu, q3⟩ => ?_)
  rw [evalPart_none]
  refine wpAny_pure ?_
  have I4 : Inv X pins σ H3 { s3 with heap := s3.heap.push { cls := .type "slice", data := .fields #[vl, vu, .none] } } := I3.kept (t' := s3.toks) fun b ob q => Heap.get?_push_of_some _ q
  obtain ⟨T, id, hT, ht, hg⟩ := hr pins { s3 with heap := s3.heap.push { cls := .type "slice", data := .fields #[vl, vu, .none] } } σ H3 x v vl vu l u s3.heap.objs.size Q I4 r1 (Heap.IsSliceOf.new ..) pl pu q3
  show wpAny (model X.prog X.w) X.A (subscriptTail e (.Slice lo hi none p2) v (.ref s3.heap.objs.size)) (EP X pins σ Q) X.xe { s3 with heap := s3.heap.push { cls := .type "slice", data := .fields #[vl, vu, .none] } }
  exact tail_any (ops := [.ref s3.heap.objs.size, v]) ht hT hg (by with_unfolding_all rfl)
noncomputable def cutV (xs : List V) (lo hi : Option Int) : List V := (xs.drop (HT.sIx xs.length 0 lo)).take (HT.sIx xs.length xs.length hi - HT.sIx xs.length 0 lo)
theorem cutV_length (xs : List V) (lo hi : Option Int) : (cutV xs lo hi).length ≤ xs.length := by
  unfold cutV
  rw [List.length_take, List.length_drop]
  omega
end
end L2
namespace L2
open PySem PySem.Spec PyProof.Rows
noncomputable def ixN (n : Nat) (i : Int) : Option Nat := if 0 ≤ i then (if i < n then some i.toNat else none) else if -(n : Int) ≤ i then some (i + n).toNat else none
noncomputable def atI {α : Type} (xs : List α) (i : Int) : Option α := (ixN xs.length i).bind fun j => xs[j]?
theorem ixN_seq {n : Nat} {i : Int} {j : Nat} (h : ixN n i = some j) : seqIndex? i n = some j ∧ j < n ∧ -(n : Int) ≤ i ∧ i < n := by
  unfold ixN at h
  by_cases h0 : 0 ≤ i
  · rw [if_pos h0] at h
    by_cases h1 : i < n
    · rw [if_pos h1] at h
      have e : i.toNat = j := Option.some.inj h
      exact ⟨by rw [seqIndex_of h0 h1, e], by omega, by omega, h1⟩
    · rw [if_neg h1] at h; cases h
  · rw [if_neg h0] at h
    by_cases h1 : -(n : Int) ≤ i
    · rw [if_pos h1] at h
      have e : (i + n).toNat = j := Option.some.inj h
      exact ⟨by rw [seqIndex_neg (by omega) h1, e], by omega, h1, by omega⟩
    · rw [if_neg h1] at h; cases h
theorem atI_get {α : Type} {xs : List α} {i : Int} {v : α} (h : atI xs i = some v) : ∃ j, seqIndex? i xs.length = some j ∧ xs[j]? = some v ∧ j < xs.length ∧ -(xs.length : Int) ≤ i ∧ i < xs.length := by
  unfold atI at h
  cases e : ixN xs.length i with
  | none => rw [e] at h; cases h
  | some j =>
    rw [e] at h
    obtain ⟨h1, h2, h3, h4⟩ := ixN_seq e
    exact ⟨j, h1, h, h2, h3, h4⟩
theorem atI_nat {α : Type} {xs : List α} {j : Nat} {v : α} (h : xs[j]? = some v) : atI xs (j : Int) = some v := by
  have hj : j < xs.length := (List.getElem?_eq_some_iff.mp h).1
  have e : ixN xs.length (j : Int) = some j := by
    unfold ixN
    rw [if_pos (by omega), if_pos (by omega)]; simp
  unfold atI; rw [e]; exact h
noncomputable def PlainIx (b : Expr) : Prop := ∀ o i, subscripted b false o i = operate [o, i] (getItem o i)
noncomputable def IxR (X : Cx) (r : R2) : Prop :=
  ∀ (value slice : Expr) (pins : List (Addr × Obj)) (s : Shared) (σ : St) (H : Hp) (x y : V) (v u : Value) (Q : VK), Inv X pins σ H s → RelV x v → RelV y u → r x y H Q →
    subscripted slice false v u = operate [v, u] (getItem v u) → wpAny (model X.prog X.w) X.A (subscriptTail value slice v u) (EP X pins σ Q) X.xe s
noncomputable def MtR (X : Cx) (id : String) (r : V → List V → Hp → VK → Prop) : Prop :=
  ∀ (pins : List (Addr × Obj)) (s : Shared) (σ : St) (H : Hp) (x : V) (xs : List V) (v : Value) (us : List Value) (Q : VK), Inv X pins σ H s → RelV x v → Vals xs us → r x xs H Q →
    wpAny (model X.prog X.w) X.A (call (.builtin id) (v :: us)) (EP X pins σ Q) X.xe s
section
variable {X : Cx} {a b : Expr} {ta tb : TE} {pos : Pos}
theorem pe_ix {r : R2} (hr : IxR X r) (ha : PE X a ta) (hb : PE X b tb) (hs : PlainIx b) : PE X (.Subscript a b pos) (tOp r ta tb) := by
  intro pins s σ H Q I h
  exact Subscript_ (binT ha hb I h fun v u s2 x y H2 I2 rx ry q => hr a b pins s2 σ H2 x y v u Q I2 rx ry q (hs _ _))
noncomputable def rIxL (K : PySem.W.Frag) : R2 := fun x y H Q => ∃ p xs i v, x = .ref p ∧ y = .int i ∧ SqL K H p xs ∧ atI xs i = some v ∧ Q v H
theorem ix_list : IxR X (rIxL X.K) := by
  intro value slice pins s σ H x y v u Q I rx ry h hs
  obtain ⟨p, xs, i, z, rfl, rfl, hq, he, q⟩ := h
  cases rx
  obtain ⟨t, rfl⟩ := ry
  obtain ⟨its, r, pl, hz⟩ := I.list hq
  obtain ⟨j, h1, h2, h3, h4, h5⟩ := atI_get he
  obtain ⟨w, ew, rw'⟩ := r.get h2
  have hl := r.length
  have hn := line63
  have fin : EP X pins σ Q w s := ⟨z, H, I, rw', q⟩
  by_cases h0 : 0 ≤ i
  · have hj : i.toNat = j := by
      rw [seqIndex_of h0 h5] at h1
      exact Option.some.inj h1
    exact item_listR pl.isList h0 (by omega) (by rw [hj]; simpa using ew) fin hs
  · have hj : (i + (its.toArray.size : Int)).toNat = j := by
      rw [seqIndex_neg (by omega) h4] at h1
      rw [List.size_toArray, ← hl]
      exact Option.some.inj h1
    exact subscriptTail_builtinR (x := w) pl.isList.typeIs slot_list_getitem.lookup
      (wpAny_getItem_list_neg (Q := fun r s' => r = w ∧ EP X pins σ Q r s') pl.isList (by omega) (by rw [List.size_toArray] <;> omega) (by omega) (by rw [hj]; simpa using ew) ⟨rfl, fin⟩) hs
theorem slice_bounds (lo hi : Option Int) (n : Nat) : (sliceBounds lo hi none n).1 = ((HT.sIx n 0 lo : Nat) : Int) ∧ (sliceBounds lo hi none n).2.1 = ((HT.sIx n n hi : Nat) : Int) ∧ (sliceBounds lo hi none n).2.2 = 1 := by
  refine ⟨?_, ?_, rfl⟩
  · cases lo with
    | none => simp [sliceBounds, HT.sIx]
    | some i =>
      simp only [sliceBounds, HT.sIx, Option.getD_none, show (1 : Int) > 0 by decide, if_true]
      by_cases h : i < 0
      · simp only [h, if_true] <;> omega
      · simp only [h, if_false] <;> omega
  · cases hi with
    | none => simp [sliceBounds, HT.sIx]
    | some i =>
      simp only [sliceBounds, HT.sIx, Option.getD_none, show (1 : Int) > 0 by decide, if_true]
      by_cases h : i < 0
      · simp only [h, if_true] <;> omega
      · simp only [h, if_false] <;> omega
theorem slicePick_cut (its : List Value) (lo hi : Option Int) : slicePick its.toArray lo hi none = ((its.drop (HT.sIx its.length 0 lo)).take (HT.sIx its.length its.length hi - HT.sIx its.length 0 lo)).toArray := by
  obtain ⟨h1, h2, h3⟩ := slice_bounds lo hi its.toArray.size
  unfold slicePick
  rw [h1, h2, h3]
  simp only [sliceRange_one, pick_run, List.size_toArray] <;> rfl
noncomputable def rSlL (K : PySem.W.Frag) : V → Option Int → Option Int → Hp → VK → Prop := fun x lo hi H Q => ∃ a xs, x = .ref a ∧ SqL K H a xs ∧ ∀ p, H p = none → Q (.ref p) (upd H p (.lst (cutV xs lo hi)))
theorem sl_list : SlR X (rSlL X.K) := by
  intro pins s σ H x v vl vu lo hi sl Q I rx hs pl pu h
  obtain ⟨a, xs, rfl, hx, q⟩ := h
  cases rx
  obtain ⟨its, r, ht, hz⟩ := I.list hx
  have hlen := r.length
  refine ⟨"list", _, slot_list_getitem.lookup, ht.isList.typeIs, ?_⟩
  refine wpAny_getItem_list_slice ht.isList hs pl pu .none (by simp) ?_ (by rw [List.size_toArray] <;> omega)
  rw [slicePick_cut, ← hlen]
  refine ⟨.ref s.heap.objs.size, _, I.laid (t' := s.toks) (o := .lst (cutV xs lo hi)) (fun b ob q => Heap.get?_push_of_some _ q) (Nat.le_refl _) ?_, rfl, q _ (I.hok.fresh (Nat.le_refl _))⟩
  exact ⟨Nat.le_trans (cutV_length xs lo hi) hz, _, 0, (r.drop (HT.sIx xs.length 0 lo)).take (HT.sIx xs.length xs.length hi - HT.sIx xs.length 0 lo), Heap.get?_push_size _ rfl⟩
theorem call_len_seq : CallR X (.builtin "len") (fun xs H Q => ∃ p ys, xs = [.ref p] ∧ (SqL X.K H p ys ∨ SqT X.K H p ys) ∧ Q (.int ys.length) H) := by
  intro pins s σ H xs us Q I r h
  obtain ⟨p, ys, rfl, hq, q⟩ := h
  obtain ⟨u, rfl, rx⟩ := vals1 r
  cases rx
  have hn := line63
  rcases hq with hq | hq
  · obtain ⟨its, r', pl, hz⟩ := I.list hq
    have hlen := r'.length
    exact Calls.call_len_list pl.isList (by simp only [List.size_toArray] <;> omega) ⟨.int ys.length, H, I.tok _, ⟨s.toks + 1, by rw [List.size_toArray, hlen]⟩, q⟩
  · obtain ⟨its, r', pl, hz⟩ := I.tuple hq
    have hlen := r'.length
    exact len_tuple pl (by simp only [List.size_toArray] <;> omega) ⟨.int ys.length, H, I.tok _, ⟨s.toks + 1, by rw [List.size_toArray, hlen]⟩, q⟩
theorem call_list_of : CallR X (.type "list") (fun xs H Q => ∃ p ys, xs = [.ref p] ∧ (SqL X.K H p ys ∨ SqT X.K H p ys) ∧ ∀ l, H l = none → Q (.ref l) (upd H l (.lst ys))) := by
  intro pins s σ H xs us Q I r h
  obtain ⟨p, ys, rfl, hq, q⟩ := h
  obtain ⟨u, rfl, rx⟩ := vals1 r
  cases rx
  have fin : ∀ (its : List Value), Vals ys its → ys.length ≤ sizeLine → ∀ (h' : Heap) (c' : Nat), (∀ b o', s.heap.get? b = some o' → h'.get? b = some o') →
      h'.get? s.heap.objs.size = some { cls := .type "list", dict := none, data := .seq its.toArray c', slots := #[] } → EP X pins σ Q (.ref s.heap.objs.size) { s with heap := h' } := fun its r' hz h' c' kp e =>
    ⟨.ref s.heap.objs.size, _, I.laid (t' := s.toks) kp (Nat.le_refl _) (show ObjOk X.prog X.w _ h' _ (.lst ys) from ⟨hz, its, c', r', e⟩), rfl, q _ (I.hok.fresh (Nat.le_refl _))⟩
  rcases hq with hq | hq
  · obtain ⟨its, r', pl, hz⟩ := I.list hq
    have hlen := r'.length
    obtain ⟨o, ho, hc, n, hd⟩ := pl.isList
    exact call_list_seq p (.inl rfl) ho hc hd (fun h' c' kp e => fin its r' hz h' c' kp e) (by simp only [List.size_toArray] <;> omega)
  · obtain ⟨its, r', pl, hz⟩ := I.tuple hq
    have hlen := r'.length
    obtain ⟨o, ho, hc, n, hd⟩ := pl
    exact call_list_seq p (.inr rfl) ho hc hd (fun h' c' kp e => fin its r' hz h' c' kp e) (by simp only [List.size_toArray] <;> omega)
noncomputable def tyV (K : PySem.W.Frag) (T : String) (x : V) (H : Hp) : Prop := match x with
  | .str _ => T = "str"
  | .int _ => T = "int"
  | .ref p => (T = "list" ∧ ∃ xs, SqL K H p xs) ∨ (T = "tuple" ∧ ∃ o, K.lookup p = some o ∧ o.cls = .type "tuple" ∧ o.dict = none) ∨
      (T = "dict" ∧ ((∃ kvs, H p = some (.dK kvs)) ∨ ∃ kvs, H p = some (.dT kvs))) ∨ (T = "set" ∧ ∃ S n, H p = some (.set S n))
  | _ => False
theorem tyV_is {pins : List (Addr × Obj)} {σ : St} {H : Hp} {s : Shared} {T : String} {x : V} {v : Value} (I : Inv X pins σ H s) (r : RelV x v) (ty : tyV X.K T x H) :
    s.TypeIs v T ∧ ∀ a, v = .ref a → ∃ ob, s.heap.get? a = some ob ∧ ob.dict = none := by
  cases x with
  | str z =>
    obtain ⟨t, rfl⟩ := r
    cases (show T = "str" from ty)
    exact ⟨typeIs_str s z t, fun _ e => nomatch e⟩
  | int i =>
    obtain ⟨t, rfl⟩ := r
    cases (show T = "int" from ty)
    exact ⟨typeIs_int s i t, fun _ e => nomatch e⟩
  | ref p =>
    cases r
    rcases ty with ⟨rfl, xs, hq⟩ | ⟨rfl, o, hk, hc, hd⟩ | ⟨rfl, hk⟩ | ⟨rfl, S, n, hk⟩
    · obtain ⟨its, _, pl, _⟩ := I.list hq
      refine ⟨pl.isList.typeIs, fun a e => ?_⟩
      cases e
      obtain ⟨o, n, e, c, hd, _⟩ := pl
      exact ⟨o, e, hd⟩
    · refine ⟨⟨o, I.kIn p o hk, hc⟩, fun a e => ?_⟩
      cases e
      exact ⟨o, I.kIn _ o hk, hd⟩
    · have z : ∃ o, s.heap.get? p = some o ∧ o.ExactDict := by
        rcases hk with ⟨kvs, hk⟩ | ⟨kvs, hk⟩
        · obtain ⟨_, _, _, _, o, _, _, e, ex, _⟩ := I.hok p _ hk
          exact ⟨o, e, ex⟩
        · obtain ⟨_, _, _, _, o, _, _, e, ex, _⟩ := I.hok p _ hk
          exact ⟨o, e, ex⟩
      obtain ⟨o, e, ex⟩ := z
      refine ⟨⟨o, e, ex.1⟩, fun a e2 => ?_⟩
      cases e2
      exact ⟨o, e, ex.2.1⟩
    · obtain ⟨o, _, _, _, e, ex, _⟩ := I.hok p _ hk
      refine ⟨⟨o, e, ex.1⟩, fun a e2 => ?_⟩
      cases e2
      exact ⟨o, e, ex.2.1⟩
  | _ => exact False.elim ty
noncomputable def tBM (K : PySem.W.Frag) (T : String) (r : V → List V → Hp → VK → Prop) (to : TE) (t : TA) : TE := fun σ H Q => to σ H fun x H1 => tyV K T x H1 ∧ t σ H1 fun xs H2 => r x xs H2 Q
variable {o e : Expr} {es : List Expr} {to : TE} {t : TA} {name : Str} {apos cpos : Pos} {T id : String} {r : V → List V → Hp → VK → Prop}
theorem pe_bm (pa : PlainAttrs T) (slot : Slot T name id) (hty : typeOf (.builtin id) = pure (.type "method_descriptor")) (hm : MtR X id r) (ho : PE X o to) (ha : PA X (e :: es) t)
    (hbase : attributeBase o name X.env (eval o X.env) = eval o X.env := by rfl)
    (hfew : ((backTo cpos (starEach (e :: es) X.env)).all (fun x => !x.1) && (backToKw cpos (keywordEach [] X.env)).all (fun x => x.1.isSome)
      && decide ((e :: es).length + ([] : List Keyword).length + (if ([] : List Keyword).isEmpty then 0 else 1) < 30)) = true := by rfl)
    (hline : (apos.endLine == cpos.line) = true := by rfl) (hs : starEach (e :: es) X.env = (false, eval e X.env) :: starEach es X.env := by rfl) (hplain : (backTo cpos (starEach es X.env)).any (·.1) = false := by rfl) :
    PE X (.Call (.Attribute o name apos) (e :: es) [] cpos) (tBM X.K T r to t) := by
  intro pins s σ H Q I h
  refine wpAny_Call_method_late hbase hfew hline rfl (thn (ho pins s σ H _ I h) fun v s1 ⟨x, H1, I1, r1, ty, q1⟩ => ?_)
  obtain ⟨h1, h2⟩ := tyV_is I1 r1 ty
  refine ⟨T, id, pa, slot, hty, h1, h2, ?_⟩
  have hA := ha cpos pins s1 σ H1 _ I1 q1
  rw [hs] at hA ⊢
  refine Calls.callWith_builtin (by show (false || (backTo cpos (starEach es X.env)).any (·.1)) = false; rw [hplain] <;> rfl) (Calls.evalArgs_plain ?_)
  exact thn hA fun us s2 hh80 => Zz.b5 hh80 fun vs H2 I2 r2 q2 => hm pins s2 σ H2 x vs v us Q I2 r1 r2 q2
end
end L2
namespace L2
open PySem PySem.Spec PyProof.Rows
noncomputable def MtM (X : Cx) (id : String) (r : V → List V → Hp → VK → Prop) : Prop :=
  ∀ (pins : List (Addr × Obj)) (s : Shared) (σ : St) (H : Hp) (x : V) (xs : List V) (v : Value) (us : List Value) (Q : VK), Inv X pins σ H s → RelV x v → Vals xs us → r x xs H Q →
    wpAny (model X.prog X.w) X.A (call (.builtin id) (v :: us)) (EP X pins σ Q) X.xe s
theorem Vals.one : ∀ {x : V} {us : List Value}, Vals [x] us → ∃ u, us = [u] ∧ RelV x u
  | _, _, .cons r .nil => ⟨_, rfl, r⟩
theorem Vals.two : ∀ {x y : V} {us : List Value}, Vals [x, y] us → ∃ u v, us = [u, v] ∧ RelV x u ∧ RelV y v
  | _, _, _, .cons r (.cons q .nil) => ⟨_, _, rfl, r, q⟩
theorem Vals.rep {xs : List V} {us : List Value} (h : Vals xs us) : ∀ k : Nat, Vals (List.replicate k xs).flatten (List.replicate k us).flatten
  | 0 => .nil
  | k + 1 => by
    rw [List.replicate_succ, List.replicate_succ, List.flatten_cons, List.flatten_cons]
    exact Vals.append h (Vals.rep h k)
theorem foldl_rep (its : List Value) : ∀ (k : Nat) (acc : List Value),
    List.foldl (fun x1 x2 => x1 ++ x2) acc.toArray (List.replicate k its.toArray) = (acc ++ (List.replicate k its).flatten).toArray
  | 0, acc => by simp
  | k + 1, acc => by
    have e : acc.toArray ++ its.toArray = (acc ++ its).toArray := by simp
    have e2 : (acc ++ its) ++ (List.replicate k its).flatten = acc ++ (List.replicate (k + 1) its).flatten := by
      rw [List.replicate_succ, List.flatten_cons, List.append_assoc]
    rw [← e2, ← foldl_rep its k (acc ++ its), ← e, List.replicate_succ, List.foldl_cons]
section
variable {X : Cx} {pins : List (Addr × Obj)} {σ : St} {H : Hp} {s : Shared} {l b : Addr} {xs ys zs : List V}
theorem Inv.lset {its its' : List Value} {n : Nat} {f : Array Value → Array Value} {t' : Nat} (I : Inv X pins σ H s) (hH : H l = some (.lst xs))
    (e : s.heap.get? l = some { cls := .type "list", data := .seq its.toArray n }) (hf : f its.toArray = its'.toArray) (hv : Vals ys its') (hz : ys.length ≤ sizeLine) :
    Inv X pins σ (upd H l (.lst ys)) { s with heap := s.heap.update l (Obj.mapSeq f), toks := t' } := by
  have q := PySem.IsL.update e f
  rw [hf] at q
  refine I.write (x := l) (e := l) (by rw [hH]; exact trivial) (.inl rfl) (fun b' u hb hu => (Heap.get?_update_other s.heap (Obj.mapSeq f) (Ne.symm hb)).trans hu) ⟨_, q⟩ ?_
  exact ⟨hz, its', _, hv, q⟩
theorem Inv.lnew {its : List Value} {t' : Nat} (I : Inv X pins σ H s) (hv : Vals ys its) (hz : ys.length ≤ sizeLine) :
    Inv X pins σ (upd H s.heap.objs.size (.lst ys)) { s with heap := s.heap.push { cls := .type "list", data := .seq its.toArray }, toks := t' } :=
  I.laid (fun _ _ q => Heap.get?_push_of_some _ q) (Nat.le_refl _) ⟨hz, its, 0, hv, Heap.get?_push_size _ rfl⟩
theorem Inv.fresh (I : Inv X pins σ H s) : H s.heap.objs.size = none := I.hok.fresh (Nat.le_refl _)
theorem Inv.lstM (I : Inv X pins σ H s) (hH : H l = some (.lst xs)) : xs.length ≤ sizeLine ∧ ∃ (its : List Value) (n : Nat), Vals xs its ∧ xs.length = its.length ∧ s.heap.get? l = some { cls := .type "list", data := .seq its.toArray n } := by
  obtain ⟨z, its, n, r, e⟩ := I.hok l _ hH
  exact ⟨z, its, n, r, r.length, e⟩
theorem notLongL {n : Nat} (h : n ≤ sizeLine) : Builtin.List.listTooLong n = false := by
  unfold Builtin.List.listTooLong
  exact decide_eq_false (by omega)
end
section
variable {X : Cx}
noncomputable def rAppend : V → List V → Hp → VK → Prop := fun x vs H Q => ∃ l xs y, x = .ref l ∧ vs = [y] ∧ H l = some (.lst xs) ∧ xs.length < sizeLine ∧ Q .non (upd H l (.lst (xs ++ [y])))
theorem mt_append : MtM X "list.append" rAppend := by
  intro pins s σ H x vs v us Q I rx rv h
  obtain ⟨l, xs, y, rfl, rfl, hH, hz, q⟩ := h
  cases rx
  obtain ⟨u, rfl, ru⟩ := rv.one
  obtain ⟨z, its, n, r, hl, e⟩ := I.lstM hH
  refine call_meets F.slot_list_append ⟨_, e, rfl⟩ F.entry_list_append (F.args_list_append_2 _ _) (PySem.list_append l its.toArray n u (by rw [List.size_toArray]; omega)) ⟨e, ?_⟩
  refine ⟨.non, _, I.lset (its' := its ++ [u]) hH e (by simp) (r.append (.cons ru .nil)) ?_, rfl, q⟩
  rw [List.length_append, List.length_singleton]
  omega
noncomputable def rExtend : V → List V → Hp → VK → Prop := fun x vs H Q => ∃ l b xs zs, x = .ref l ∧ vs = [.ref b] ∧ H l = some (.lst xs) ∧ H b = some (.lst zs) ∧ xs.length + zs.length ≤ sizeLine ∧ Q .non (upd H l (.lst (xs ++ zs)))
theorem mt_extend : MtM X "list.extend" rExtend := by
  intro pins s σ H x vs v us Q I rx rv h
  obtain ⟨l, b, xs, zs, rfl, rfl, hH, hB, hz, q⟩ := h
  cases rx
  obtain ⟨u, rfl, ru⟩ := rv.one
  cases ru
  obtain ⟨z, its, n, r, hl, e⟩ := I.lstM hH
  obtain ⟨z2, its2, n2, r2, hl2, e2⟩ := I.lstM hB
  have hsz : its.toArray.size + its2.toArray.size ≤ sizeLine := by rw [List.size_toArray, List.size_toArray]; omega
  have hlong : ¬ (!its.toArray.isEmpty && Builtin.List.listTooLong (its.toArray.size + its2.toArray.size)) = true := by
    rw [notLongL hsz, Bool.and_false]
    exact Bool.false_ne_true
  refine call_meets F.slot_list_extend ⟨_, e, rfl⟩ F.entry_list_extend (F.args_list_extend_2 _ _)
    (AutoSeq1.list_extend_list_list_0 l its.toArray n b its2.toArray n2 hlong (by rw [List.size_toArray]; omega) (by omega)) ⟨e, e2, ?_⟩
  refine ⟨.non, _, I.lset (its' := its ++ its2) hH e (by simp) (r.append r2) ?_, rfl, q⟩
  rw [List.length_append]
  omega
noncomputable def rCat : R2 := fun x y H Q => ∃ l b xs zs, x = .ref l ∧ y = .ref b ∧ H l = some (.lst xs) ∧ H b = some (.lst zs) ∧ xs.length + zs.length ≤ sizeLine ∧ ∀ p, H p = none → Q (.ref p) (upd H p (.lst (xs ++ zs)))
theorem op_cat : OpR X (binaryOp .Add) rCat := by
  intro pins s σ H x y v u Q I rx ry h
  obtain ⟨l, b, xs, zs, rfl, rfl, hH, hB, hz, q⟩ := h
  cases rx
  cases ry
  obtain ⟨z, its, n, r, hl, e⟩ := I.lstM hH
  obtain ⟨z2, its2, n2, r2, hl2, e2⟩ := I.lstM hB
  refine PySem.P.add_list e e2 ?_ (by rw [List.size_toArray, List.size_toArray]; omega)
  have ea : its.toArray ++ its2.toArray = (its ++ its2).toArray := by simp
  rw [ea]
  exact ⟨.ref _, _, I.lnew (t' := s.toks) (r.append r2) (by rw [List.length_append]; omega), rfl, q _ I.fresh⟩
noncomputable def rRep : R2 := fun x y H Q => ∃ l k xs, x = .ref l ∧ y = .int k ∧ H l = some (.lst xs) ∧ -(2 ^ 63) ≤ k ∧ k < 2 ^ 63 ∧ xs.length * k.toNat ≤ sizeLine ∧
  ∀ p, H p = none → Q (.ref p) (upd H p (.lst (List.replicate k.toNat xs).flatten))
theorem len_rep {α : Type} (xs : List α) (k : Nat) : (List.replicate k xs).flatten.length = k * xs.length := by
  induction k with
  | zero => simp
  | succ k ih => rw [List.replicate_succ, List.flatten_cons, List.length_append, ih, Nat.succ_mul, Nat.add_comm]
theorem op_rep : OpR X (binaryOp .Mult) rRep := by
  intro pins s σ H x y v u Q I rx ry h
  obtain ⟨l, k, xs, rfl, rfl, hH, h1, h2, hz, q⟩ := h
  cases rx
  obtain ⟨t, rfl⟩ := ry
  obtain ⟨z, its, n, r, hl, e⟩ := I.lstM hH
  have hlen : its.toArray.size * k.toNat ≤ sizeLine := by rw [List.size_toArray, ← hl]; exact hz
  have hcap : ¬ its.toArray.size * k.toNat > (2 ^ 63 - 1) / 8 := by
    have : (sizeLine : Nat) ≤ (2 ^ 63 - 1) / 8 := by decide
    omega
  have hfit : ¬ (!Builtin.List.listFitsIndex k) = true := by
    rw [fitsIndex_both h1 h2]
    exact Bool.false_ne_true
  have hlong : ¬ Builtin.List.listTooLong (its.toArray.size * k.toNat) = true := by
    rw [notLongL hlen]
    exact Bool.false_ne_true
  have hnew : List.foldl (fun x1 x2 => x1 ++ x2) #[] (List.replicate (if its.toArray.isEmpty = true then 0 else k.toNat) its.toArray) = (List.replicate k.toNat its).flatten.toArray := by
    have f0 : ∀ m : Nat, List.foldl (fun x1 x2 => x1 ++ x2) #[] (List.replicate m its.toArray) = (List.replicate m its).flatten.toArray := fun m => by
      have := foldl_rep its m []
      rw [List.nil_append] at this
      exact this
    rw [f0]
    cases its with
    | nil => simp
    | cons a r' => rw [if_neg (by simp)]
  refine wpAny_binaryOp_repeat_ref (T := "list") (U := "int") (by decide) ⟨_, e, rfl⟩ (fun s' => typeIs_int s' k t) noFill_list_mul F.fills_int_mul F.slot_int_rmul repeat_list F.slot_int_index.lookup
    (call_meets F.slot_int_rmul (typeIs_int s k t) F.entry_int_rmul (F.args_int_rmul_2 _ _) (int___rmul___int_list k t l its.toArray n)
      ⟨e, rfl, ⟨_, e, rfl⟩, call_meets F.slot_list_mul ⟨_, e, rfl⟩ F.entry_list_mul (F.args_list_mul_2 _ _) (AutoListH.list___mul___list_int_3 l its.toArray n k t hfit hcap hlong) ⟨e, ?_⟩⟩)
  rw [hnew]
  exact ⟨.ref _, _, I.lnew (t' := s.toks) (r.rep k.toNat) (by rw [len_rep, Nat.mul_comm]; exact hz), rfl, q _ I.fresh⟩
end
section
variable {prog : Program} {w : World} {A : Around} {E : Value → Shared → Prop} {s : Shared}
set_option maxRecDepth 100000 in
end
section
variable {X : Cx}
end
end L2
namespace Att
open PySem PySem.W PySem.Calls PyProof.Rows
theorem ints_of_wellAll {P : Params} {h : Heap} : ∀ (ns : List Int) (vs : List Value), WellAll P h vs (ns.map WData.int) → IntsAre vs ns := by
  intro ns
  induction ns with
  | nil =>
    intro vs w
    rw [List.map_nil] at w
    cases w
    exact .nil
  | cons n ns ih =>
    intro vs w
    rw [List.map_cons] at w
    cases w with
    | cons a b =>
      cases a
      exact .cons _ _ (ih _ b)
theorem script_of {l : OpenLaw} {n : Nat} (hn : l.most = some n) {P : Params} {h : Heap} {args : List WData} {vals : List Value}
    (hpre : l.row.toRowW.claim.pre args = true) (hwl : WellAll P h vals args) :
    ∃ a vs ns, vals = [Value.ref a] ∧ args = [WData.list (ns.map WData.int)] ∧ h.get? a = some { cls := .type "list", data := .seq vs.toArray } ∧ IntsAre vs ns ∧ ns.length ≤ n := by
  have hsh : WShape.hasAll [] args [.list .int] = true := (pre_splitW hpre).1
  have hc : l.pre.holds [] { args := args } = true := (pre_splitW hpre).2
  obtain ⟨d, r, rfl, h1, h2⟩ := hasAllW_cons hsh
  obtain rfl := hasAllW_nil h2
  obtain ⟨xs, rfl, h3⟩ := hasW_list h1
  obtain ⟨ns, rfl⟩ := items_int h3
  have hlen : ns.length ≤ n := by
    unfold OpenLaw.pre at hc
    have h4 : (WTm.not (.lt (.lit (.int (n : Int))) (.len (.arg 0)))).holds [] { args := [.list (ns.map .int)] } = true := by
      have h4 := (holds_andW hc).1
      rw [hn] at h4
      exact h4
    have h5 := condW_of h4 (w_not (w_lt w_lit (w_len_list (w_arg rfl))))
    rw [List.length_map] at h5
    refine Nat.le_of_not_lt fun q => ?_
    have q' : (n : Int) < ((ns.length : Nat) : Int) := by omega
    first
      | (rw [decide_eq_true q'] at h5; exact absurd h5 (by decide))
      | (simp at h5; omega)
  cases hwl with
  | cons w1 w2 =>
    cases w2
    cases w1 with
    | list ho hall => exact ⟨_, _, ns, rfl, rfl, ho, ints_of_wellAll ns _ hall, hlen⟩
theorem post_true (l : OpenLaw) (args : List WData) : l.row.toRowW.claim.post args (.bool true) args = true :=
  postW_of (r := l.row.toRowW) (X := (true == true))
    (show WShape.has [] (.bool true) .bool = true by first | rfl | decide | simp [WShape.has, WShape.arms, WShape.armsAll])
    (show (WTm.eq .res (.lit (.bool true))).value [] { args := args, res := some (.bool true), after := args } = some (.bool (true == true)) from w_eq_bool (w_res rfl) w_lit) rfl
theorem attach_call {l : OpenLaw} {n : Nat} {q : Program} {loose : List Str} {XP : (Str → Option Value) → Heap → Prop} {YP : World → Heap → Prop} {d : DefRec}
    (hn : l.most = some n) (hdf : d.params.defaults = [])
    (call : ∀ (w : World) (s₀ s₁ : Shared) (mg mb : Str → Option Value) (fa : Addr) (o : Obj) (pm cd doc : Value) (a : Addr) (vs : List Value) (ns : List Int),
      Ground q loose [] XP w s₀ mg mb s₁.heap → YP w s₁.heap →
      s₁.heap.get? fa = some o → o.data = .func (docDef d.name d.params d.body d.scope pm cd doc) → s₁.heap.CodeRec cd d.name → mg d.name = some (.ref fa) →
      s₁.heap.get? a = some { cls := .type "list", data := .seq vs.toArray } → IntsAre vs ns → ns.length ≤ n → s₁.gens = #[] →
      codeAny (model l.prog w) callerA (.call (.ref fa) ⟨[.ref a], []⟩) (fun r s' => r = .ok (.ret (.bool true)) ∧ OldK s₁.heap s'.heap ∧ s'.os = s₁.os ∧ AllBare s'.gens) s₁) :
    WalkO q loose XP YP l.row.toRowW d [] (fun f vs => PySem.call f vs) := by
  intro w s₀ s₁ mg mb G Y fa o pm cd doc dV kV ho hd hcd hD hmg hg args vals as hpre hlay hrd hwl hlo
  obtain rfl : dV = .none := Dflts.none hD hdf
  obtain rfl : kV = .none := Dflts.noKw hD
  obtain ⟨a, vs, ns, rfl, rfl, hobj, hints, hlen⟩ := script_of hn hpre hwl
  refine enter_call (codeAny_mono (call w s₀ s₁ mg mb fa o pm cd doc a vs ns G Y ho (fd_plain hd) hcd hmg hobj hints hlen hg) fun r s' hq => ?_)
  obtain ⟨rfl, h2, h3, h4⟩ := hq
  exact ⟨.inl ⟨.bool true, .bool true, [], rfl, fun _ => rfl, .bool true, post_true l _, fun _ => ⟨List.Pairwise.nil, fun _ hm => (nomatch hm)⟩⟩, h2, h3, h4⟩
section
variable {prog : Program} {w : World} {A : Around} {E : Value → Shared → Prop} {s : Shared} {K : Frag}
end
end Att
namespace L2
open PySem PySem.Spec PyProof.Rows
theorem vals_ints : ∀ {vs : List Value} {ns : List Int}, IntsAre vs ns → Vals (ns.map V.int) vs
  | _, _, .nil => .nil
  | _, _, .cons n t h => .cons ⟨t, rfl⟩ (vals_ints h)
noncomputable def Only (H : Hp) : Prop := ∀ b, H b = none ∨ ∃ o xs, H b = some (.frz o (.lst xs))
theorem law_call {P : Program} {w : World} {K : PySem.W.Frag} {mg mb : Str → Option Value} {CX : CXT} {k : Nat} {fa a : Addr} {fd : FuncData} {x : Str} {sp : Sp} {s₁ : Shared} {vs : List Value} {ns : List Int}
    (KX : K.In s₁.heap) (hns : s₁.heap.Ns mainGlobals mg) (hb : s₁.heap.Ns builtinsNs mb) (hbb : ∀ x : Str, x ≠ "__name__" → mb x = bootBuiltins x) (hlim : s₁.heap.NoLimit) (hg : s₁.gens = #[])
    (ha : s₁.heap.get? a = some { cls := .type "list", data := .seq vs.toArray }) (hi : IntsAre vs ns) (hl : ns.length ≤ sizeLine) (hr : Room k callerA)
    (F : ∀ base : Heap, K.In base → base.Ns mainGlobals mg → FnOk P w K mg base CX k fa fd [x] sp) (hbind : ∀ (s : Shared) (u : Value), BindsTo s fd ⟨[u], []⟩ [(x, u)])
    (hsp : ∀ H : Hp, Only H → SqL K H a (ns.map V.int) → sp [.ref a] H (fun v _ => v = .bl true) fun _ _ _ => False)
    (hCX : ∀ H e s', CX [] H s₁ (fun _ _ _ => False) e s' → False) :
    codeAny (model P w) callerA (.call (.ref fa) ⟨[.ref a], []⟩) (fun r s' => r = .ok (.ret (.bool true)) ∧ OldK s₁.heap s'.heap ∧ s'.os = s₁.os ∧ AllBare s'.gens) s₁ := by
  have rv := vals_ints hi
  have lenV := hi.length
  have core : ∀ H : Hp, Only H → SqL K H a (ns.map V.int) → HOk P w H s₁.heap → (∀ b, H b ≠ none → b = a) → (H a ≠ none → K.lookup a = none) →
      codeAny (model P w) callerA (.call (.ref fa) ⟨[.ref a], []⟩) (fun r s' => r = .ok (.ret (.bool true)) ∧ OldK s₁.heap s'.heap ∧ s'.os = s₁.os ∧ AllBare s'.gens) s₁ := by
    intro H hO hS hok hA hK
    have base_of : ∀ {b : Addr} {o : Obj}, s₁.heap.get? b = some o → H b = none → (hidT s₁.heap H).get? b = some o := fun e n => hidT_get e n
    have noA : ∀ {b : Addr} {o : Obj} {es : Array DictEntry} {ep : Nat}, s₁.heap.get? b = some o → o.data = .dict es ep → H b = none := fun {b o es ep} e d => by
      cases q : H b with
      | none => rfl
      | some u =>
        have e' : b = a := hA b (by rw [q]; simp)
        subst e'
        rw [ha] at e; cases e
        have d' : Data.seq vs.toArray _ = Data.dict es ep := d
        cases d'
    have nsK : ∀ {b : Addr} {m : Str → Option Value}, s₁.heap.Ns b m → (hidT s₁.heap H).Ns b m := fun {b m} ⟨o, es, ep, e, d, r⟩ => ⟨o, es, ep, base_of e (noA e d), d, r⟩
    have hKb : K.In (hidT s₁.heap H) := fun b o e => base_of (KX b o e) (by
      cases q : H b with
      | none => rfl
      | some u =>
        have e' : b = a := hA b (by rw [q]; simp)
        subst e'
        rw [hK (by rw [q]; simp)] at e; cases e)
    have hM : Mod K mg (hidT s₁.heap H) := ⟨hKb, nsK hns, ⟨mb, nsK hb, hbb⟩, let ⟨mc, h1, h2⟩ := hlim; ⟨mc, nsK h1, h2⟩⟩
    have e0 : Env0 P w K mg (hidT s₁.heap H) callerA [] s₁ H := ⟨rfl, hM, fun b o e => of_hidT e, Nat.le_of_eq (hidT_size _ _), trivial, fun b hb => absurd (show b ∈ ([] : List Addr) from hb) (by simp), hok, .of_eq hg⟩
    refine codeAny_mono ((F _ hKb (nsK hns)).run callerA [] s₁ H ⟨[.ref a], []⟩ [.ref a] [.ref a] _ _ hr e0 (hbind s₁ (.ref a)) (.cons rfl .nil) (hsp H hO hS)) fun r s' h => ?_
    cases r with
    | error e => exact (hCX H e s' h).elim
    | ok fl =>
      cases fl with
      | next => exact False.elim h
      | brk => exact False.elim h
      | cont => exact False.elim h
      | ret u =>
        obtain ⟨v, H', os, bare, un, hok', r', q⟩ := h
        have q' : v = .bl true := q
        subst q'
        obtain rfl : u = Value.bool true := r'
        refine ⟨rfl, OldK.of_keep fun b o e => ?_, os, bare⟩
        cases q : H b with
        | none => exact un.keep b o e q (by intro z; exact absurd (show b ∈ ([] : List Addr) from z) (by simp)) (by simp)
        | some u =>
          rcases hO b with z | ⟨ob, xs, z⟩
          · rw [q] at z; cases z
          · have z2 := un.frzs b ob _ z
            obtain ⟨e1, _⟩ := hok b _ z
            obtain ⟨e2, _⟩ := hok' b _ z2
            rw [e] at e1; cases e1
            exact e2
  cases hk : K.lookup a with
  | some o =>
    have e := KX a o hk
    rw [ha] at e
    cases e
    refine core (fun _ => none) (fun _ => .inl rfl) (.inr ⟨_, vs.toArray, _, hk, rfl, rfl, rfl, by rw [List.size_toArray, lenV]; exact hl, by simpa using rv⟩) (fun b u z => by have z' : (none : Option HO) = some u := z; cases z') (fun b z => absurd rfl z) fun z => absurd rfl z
  | none =>
    refine core (fun b => if b = a then some (.frz { cls := .type "list", data := .seq vs.toArray } (.lst (ns.map V.int))) else none) (fun b => ?_) (.inl (.inr ⟨{ cls := .type "list", data := .seq vs.toArray }, if_pos rfl⟩)) (fun b u z => ?_) (fun b z => ?_) fun _ => hk
    · by_cases hb : b = a
      · exact .inr ⟨_, _, if_pos hb⟩
      · exact .inl (if_neg hb)
    · by_cases hb : b = a
      · have z' := (if_pos hb).symm.trans z
        cases z'
        subst hb
        exact ⟨ha, by rw [List.length_map]; exact hl, vs, _, rv, ha⟩
      · have z' := (if_neg hb).symm.trans z
        cases z'
    · by_cases hb : b = a
      · exact hb
      · exact absurd (if_neg hb) z
end L2
namespace L2
open PySem PySem.Spec PyProof.Rows
theorem walk_of {l : PySem.W.OpenLaw} {n k : Nat} {q : Program} {loose : List Str} {XP : (Str → Option Value) → Heap → Prop} {YP : World → Heap → Prop} {d : DefRec} {K : Params → PySem.W.Frag} {CX : World → CXT} {sp : World → Sp} {x : Str}
    (hn : l.most = some n) (hn2 : n ≤ sizeLine) (hdf : d.params.defaults = []) (hr : Room k callerA)
    (hY : ∀ (w : World) (h : Heap), YP w h → (K w.params).In h)
    (F : ∀ (w : World) (mg : Str → Option Value) (fa : Addr) (h : Heap), (K w.params).In h → h.Ns mainGlobals mg → mg d.name = some (.ref fa) →
      ∃ fd : FuncData, (∀ (s : Shared) (u : Value), BindsTo s fd ⟨[u], []⟩ [(x, u)]) ∧
        ∀ base : Heap, (K w.params).In base → base.Ns mainGlobals mg → FnOk l.prog w (K w.params) mg base (CX w) k fa fd [x] (sp w))
    (hsp : ∀ (w : World) (H : Hp) (a : Addr) (ns : List Int), ns.length ≤ n → Only H → SqL (K w.params) H a (ns.map V.int) → sp w [.ref a] H (fun v _ => v = .bl true) fun _ _ _ => False)
    (hCX : ∀ (w : World) (H : Hp) (s : Shared) (e : Value) (s' : Shared), CX w [] H s (fun _ _ _ => False) e s' → False) :
    PySem.W.WalkO q loose XP YP l.row.toRowW d [] (fun f vs => PySem.call f vs) := by
  refine Att.attach_call hn hdf fun w s₀ s₁ mg mb fa o pm cd doc a vs ns G Y ho hd hcd hmg hobj hints hlen hg => ?_
  have KX := hY w _ Y
  obtain ⟨fd, hb, hF⟩ := F w mg fa _ KX G.T.g hmg
  exact law_call KX G.T.g G.T.b G.T.builtins G.T.nolimit hg hobj hints (Nat.le_trans hlen hn2) hr hF hb (fun H hO hS => hsp w H a ns hlen hO hS) fun H e s' => hCX w H s₁ e s'
end L2
namespace L2
open PySem PySem.Spec PyProof.Rows
noncomputable def defArgs (s : Stmt) : Arguments := match s with
  | .FunctionDef _ a _ _ _ _ _ _ _ _ => a
  | _ => { posonlyargs := [], args := [], vararg := none, kwonlyargs := [], kw_defaults := [], kwarg := none, defaults := [] }
noncomputable def defBody (s : Stmt) : List Stmt := match s with
  | .FunctionDef _ _ b _ _ _ _ _ _ _ => b
  | _ => []
noncomputable def defScope (s : Stmt) : Scope := match s with
  | .FunctionDef _ _ _ _ _ _ sc _ _ _ => sc
  | _ => { kind := .function, names := [], isGenerator := false, isCoroutine := false }
noncomputable abbrev CX0 : CXT := fun _ _ _ _ _ _ => False
noncomputable abbrev E0 : XK := fun _ _ _ => False
theorem pass0 {X : Cx} : Passes CX0 X E0 := fun _ _ _ _ _ _ _ h => h.elim
structure Fun (K : PySem.W.Frag) (x qual : Str) (st : Stmt) (f : Addr) (fd : FuncData) : Prop where
  ex : ∃ (oc : Value) (od : Option Addr) (kV doc pm : Value) (an : Option Addr) (cdv ct : Value) (osl : Array (Option Value)),
    fd = PySem.W.fnOf x qual (defArgs st) (defBody st) (defScope st) .none kV doc pm an cdv ct ∧ K.lookup f = some ⟨oc, od, .func fd, osl⟩ ∧ PySem.W.codeIn K cdv qual = true
  kp : PySem.W.keepIn K (.ref f) = true
section
variable {P : Program} {w : World} {K : PySem.W.Frag} {mg : Str → Option Value} {base : Heap}
theorem Fun.ok {x qual : Str} {st : Stmt} {f : Addr} {fd : FuncData} {N ps : List Str} {k : Nat} {sp : Sp} (F : Fun K x qual st f fd) (S : FnScope N ps (defScope st)) (len : ∀ vs H Q E, sp vs H Q E → vs.length = ps.length)
    (hbody : ∀ (cdv : Value) (A : Around) (outer : List Env) (s : Shared) (H : Hp) (vs : List V) (Q : VK) (E : XK), Room k (A.deeper (envOfC qual (defScope st) s.heap.objs.size f cdv)) → sp vs H Q E →
      ∃ t, PSs (cxOf CX0 P w K mg base N qual (defScope st) f cdv A outer s H E).nox (defBody st) t ∧ t { nx := fun _ H' => Q .non H', rt := Q } (start N vs) H) : FnOk P w K mg base CX0 (k + 1) f fd ps sp := by
  obtain ⟨oc, od, kV, doc, pm, an, cdv, ct, osl, rfl, lk, hcd⟩ := F.ex
  refine fn_of lk hcd S len fun A outer s H vs Q E hr hsp => ?_
  obtain ⟨t, h, q⟩ := hbody cdv A outer s H vs Q E hr hsp
  exact ⟨t, h.nox, q⟩
theorem Fun.binds {x qual : Str} {st : Stmt} {f : Addr} {fd : FuncData} {ps : List Str} (F : Fun K x qual st f fd)
    (h : ∀ (kV doc pm : Value) (an : Option Addr) (cdv ct : Value) (us : List Value), us.length = ps.length → bindArgs (PySem.W.fnOf x qual (defArgs st) (defBody st) (defScope st) .none kV doc pm an cdv ct) ⟨us, []⟩ = pure (ps.zip us)) : Binds K fd ps [] := by
  obtain ⟨oc, od, kV, doc, pm, an, cdv, ct, osl, rfl, lk, hcd⟩ := F.ex
  exact .all (h kV doc pm an cdv ct)
theorem fun_mk {x qual : Str} {st : Stmt} {f : Addr} {oc : Value} {od an : Option Addr} {osl : Array (Option Value)} {kV doc pm cdv ct : Value} (l : K.lookup f = some ⟨oc, od, .func (PySem.W.fnOf x qual (defArgs st) (defBody st) (defScope st) .none kV doc pm an cdv ct), osl⟩)
    (c : PySem.W.codeIn K cdv qual = true) (k : PySem.W.keepIn K (.ref f) = true) : Fun K x qual st f (PySem.W.fnOf x qual (defArgs st) (defBody st) (defScope st) .none kV doc pm an cdv ct) := ⟨⟨oc, od, kV, doc, pm, an, cdv, ct, osl, rfl, l, c⟩, k⟩
end
theorem hu_of {A : Around} {k : Nat} (hr : Room k A) : A.units + 1 < cLine := Nat.lt_of_le_of_lt (Nat.add_le_add_left (by decide : 1 ≤ 64) _) hr.units
theorem small1000 {n : Nat} (h : n ≤ 1000) : n < sizeLine := Nat.lt_of_le_of_lt h (by decide)
section
variable {X : Cx}
end
theorem iteF {A B : Prop} (h : B) : if false = true then A else B := by
  rw [if_neg Bool.false_ne_true]
  exact h
theorem iteT {A B : Prop} (h : A) : if true = true then A else B := by
  rw [if_pos rfl]
  exact h
noncomputable def Same (H H' : Hp) : Prop := ∀ b o, H b = some o → H' b = some o
theorem Same.refl (H : Hp) : Same H H := fun _ _ h => h
theorem Same.trans {H H1 H2 : Hp} (a : Same H H1) (b : Same H1 H2) : Same H H2 := fun c o h => b c o (a c o h)
theorem Same.free {H H' : Hp} (e : Same H H') {l : Addr} (h : H' l = Option.none) : H l = Option.none := by
  cases q : H l with
  | none => rfl
  | some o =>
    rw [e l o q] at h
    cases h
end L2
end
section
namespace L2
open PySem PySem.Spec PyProof.Rows
section
variable {κ : Type} [DecidableEq κ]
noncomputable def valV (kvs : List (κ × V)) (k : κ) : Option V := (kvs.find? fun kv => decide (kv.1 = k)).map (·.2)
noncomputable def putK (kvs : List (κ × V)) (k : κ) (v : V) : List (κ × V) :=
  if (kvs.any fun kv => decide (kv.1 = k)) = true then kvs.map (fun kv => if kv.1 = k then (kv.1, v) else kv) else kvs ++ [(k, v)]
noncomputable def dropK (kvs : List (κ × V)) (k : κ) : List (κ × V) := kvs.filter fun kv => decide (kv.1 ≠ k)
theorem valV_pos {p : κ × V} {r : List (κ × V)} {k : κ} (e : p.1 = k) : valV (p :: r) k = some p.2 := by simp [valV, List.find?_cons, e]
theorem valV_neg {p : κ × V} {r : List (κ × V)} {k : κ} (e : ¬ p.1 = k) : valV (p :: r) k = valV r k := by simp [valV, List.find?_cons, e]
theorem valV_any (k : κ) : ∀ kvs : List (κ × V), (kvs.any fun kv => decide (kv.1 = k)) = (valV kvs k).isSome
  | [] => rfl
  | p :: r => by
    rw [List.any_cons]
    by_cases e : p.1 = k
    · simp only [valV_pos e, decide_eq_true e, Bool.true_or, Option.isSome_some]
    · rw [valV_neg e, decide_eq_false e, Bool.false_or]; exact valV_any k r
theorem length_putK (kvs : List (κ × V)) (k : κ) (v : V) : (putK kvs k v).length ≤ kvs.length + 1 := by
  unfold putK
  split
  · rw [List.length_map]; omega
  · rw [List.length_append, List.length_cons, List.length_nil]; omega
theorem putK_new {kvs : List (κ × V)} {k : κ} (v : V) (h : valV kvs k = none) : putK kvs k v = kvs ++ [(k, v)] := by
  unfold putK
  rw [valV_any, h]
  exact if_neg (by decide)
theorem RelO.isSome_eq {o : Option V} {u : Option Value} (r : RelO o u) : o.isSome = u.isSome := by
  cases o with
  | none => cases u with
    | none => rfl
    | some _ => exact (show False from r).elim
  | some _ => cases u with
    | none => exact (show False from r).elim
    | some _ => rfl
theorem KV.val {kvs : List (κ × V)} {vs : List (κ × Value)} (r : KV kvs vs) (k : κ) : RelO (valV kvs k) (valueAt vs k) := by
  unfold KV at r
  induction r with
  | nil => exact True.intro
  | @cons p q ps qs h t ih =>
    obtain ⟨h1, h2⟩ := h
    by_cases e : p.1 = k
    · have e' : q.1 = k := h1.symm.trans e
      have b : valueAt (q :: qs) k = some q.2 := by simp [valueAt, List.find?_cons, e']
      rw [valV_pos e, b]; exact h2
    · have e' : ¬ q.1 = k := fun z => e (h1.trans z)
      have b : valueAt (q :: qs) k = valueAt qs k := by simp [valueAt, List.find?_cons, e']
      rw [valV_neg e, b]; exact ih
theorem KV.any {kvs : List (κ × V)} {vs : List (κ × Value)} (r : KV kvs vs) (k : κ) : (kvs.any fun kv => decide (kv.1 = k)) = vs.any fun kv => decide (kv.1 = k) := by
  unfold KV at r
  induction r with
  | nil => rfl
  | cons h t ih => rw [List.any_cons, List.any_cons, ih, h.1]
theorem KV.repl {kvs : List (κ × V)} {vs : List (κ × Value)} (r : KV kvs vs) (k : κ) {y : V} {u : Value} (ry : RelV y u) :
    KV (kvs.map fun kv => if kv.1 = k then (kv.1, y) else kv) (vs.map fun kv => if kv.1 = k then (kv.1, u) else kv) := by
  unfold KV at r ⊢
  induction r with
  | nil => exact .nil
  | @cons p q ps qs h t ih =>
    rw [List.map_cons, List.map_cons]
    refine .cons ?_ ih
    obtain ⟨h1, h2⟩ := h
    by_cases e : p.1 = k
    · rw [if_pos e, if_pos (h1.symm.trans e)]; exact ⟨h1, ry⟩
    · rw [if_neg e, if_neg (fun z => e (h1.trans z))]; exact ⟨h1, h2⟩
theorem KV.put {kvs : List (κ × V)} {vs : List (κ × Value)} (r : KV kvs vs) (k : κ) {y : V} {u : Value} (ry : RelV y u) : KV (putK kvs k y) (stored vs k u) := by
  unfold putK stored
  rw [r.any k]
  by_cases e : (vs.any fun kv => decide (kv.1 = k)) = true
  · rw [if_pos e, if_pos e]; exact r.repl k ry
  · rw [if_neg e, if_neg e]; exact Paired.snoc r ⟨rfl, ry⟩
theorem KV.length {kvs : List (κ × V)} {vs : List (κ × Value)} (r : KV kvs vs) : kvs.length = vs.length := Paired.length r
theorem dropK_le (kvs : List (κ × V)) (k : κ) : (dropK kvs k).length ≤ kvs.length := List.length_filter_le _ _
end
theorem kV_is {P : Program} {w : World} {k : Key} {u : Value} (r : RelV (kV k) u) : (mixKind P w).is k u = true := by
  cases k with
  | inl i => obtain ⟨t, e⟩ := (show ∃ t, u = Value.int i t from r); subst e; exact mixKind_int P w i t
  | inr x => obtain ⟨t, e⟩ := (show ∃ t, u = Value.str x t from r); subst e; exact mixKind_str P w x t
theorem items_are {P : Program} {w : World} : ∀ {ks : List Key} {us : List Value}, Vals (ks.map kV) us → ItemsAre (mixKind P w) ks us
  | [], _, r => by rw [List.map_nil] at r; cases r; exact .nil
  | k :: ks, _, r => by
    rw [List.map_cons] at r
    cases r with
    | cons h t => exact .cons (kV_is h) (items_are t)
noncomputable abbrev KT (H : Hp) : List (List Key × V) → List (List Key × Addr × Value) → Prop := Paired fun p q => p.1 = q.1 ∧ H q.2.1 = some (.tup (p.1.map kV)) ∧ RelV p.2 q.2.2
theorem KT.val {H : Hp} {kvs : List (List Key × V)} {xs : List (List Key × Addr × Value)} (r : KT H kvs xs) (k : List Key) : RelO (valV kvs k) ((atKey xs k).map (·.2)) := by
  induction r with
  | nil => exact True.intro
  | @cons p q ps qs h t ih =>
    obtain ⟨h1, _, h2⟩ := h
    by_cases e : p.1 = k
    · have e' : q.1 = k := h1.symm.trans e
      have b : atKey (q :: qs) k = some q.2 := by simp [atKey, List.find?_cons, e']
      rw [valV_pos e, b]; exact h2
    · have e' : ¬ q.1 = k := fun z => e (h1.trans z)
      have b : atKey (q :: qs) k = atKey qs k := by simp [atKey, List.find?_cons, e']
      rw [valV_neg e, b]; exact ih
theorem KT.repl {H : Hp} {kvs : List (List Key × V)} {xs : List (List Key × Addr × Value)} (r : KT H kvs xs) (k : List Key) {y : V} {u : Value} (ry : RelV y u) :
    KT H (kvs.map fun kv => if kv.1 = k then (kv.1, y) else kv) (xs.map (putAt k u)) := by
  induction r with
  | nil => exact .nil
  | @cons p q ps qs h t ih =>
    rw [List.map_cons, List.map_cons]
    refine .cons ?_ ih
    obtain ⟨h1, h2, h3⟩ := h
    unfold putAt
    by_cases e : p.1 = k
    · rw [if_pos e, if_pos (h1.symm.trans e)]; exact ⟨h1, h2, ry⟩
    · rw [if_neg e, if_neg (fun z => e (h1.trans z))]; exact ⟨h1, h2, h3⟩
theorem KT.put {H : Hp} {kvs : List (List Key × V)} {xs : List (List Key × Addr × Value)} (r : KT H kvs xs) (k : List Key) {b : Addr} {y : V} {u : Value} (hb : H b = some (.tup (k.map kV))) (ry : RelV y u) :
    KT H (putK kvs k y) (storedH xs k b u) := by
  have e : (kvs.any fun kv => decide (kv.1 = k)) = (atKey xs k).isSome := by
    rw [valV_any, (r.val k).isSome_eq, Option.isSome_map]
  unfold putK storedH
  rw [e]
  by_cases q : (atKey xs k).isSome = true
  · rw [if_pos q, if_pos q]; exact r.repl k ry
  · rw [if_neg q, if_neg q]; exact Paired.snoc r ⟨rfl, hb, ry⟩
theorem KT.keeps {H H' : Hp} {kvs : List (List Key × V)} {xs : List (List Key × Addr × Value)} (r : KT H kvs xs) (ht : ∀ b ys, H b = some (.tup ys) → H' b = some (.tup ys)) : KT H' kvs xs :=
  Paired.mapP r fun _ _ z => ⟨z.1, ht _ _ z.2.1, z.2.2⟩
section
variable {P : Program} {w : World} {H : Hp} {h : Heap} {a : Addr}
theorem rd_of {u : HO} (ok : HOk P w H h) (e : Rd H a u) : ObjOk P w H h a u := e.ok ok
theorem dk_rd {kvs : List (Key × V)} (ok : HOk P w H h) (e : Rd H a (.dK kvs)) : kvs.length ≤ sizeLine ∧ (a == sysModules) = false ∧ ∃ vs, KV kvs vs ∧ h.DictOf (mixKind P w) a vs :=
  show ObjOk P w H h a (.dK kvs) from rd_of ok e
theorem dk_of {kvs : List (Key × V)} (ok : HOk P w H h) (e : H a = some (.dK kvs)) : kvs.length ≤ sizeLine ∧ (a == sysModules) = false ∧ ∃ vs, KV kvs vs ∧ h.DictOf (mixKind P w) a vs := dk_rd ok (.inl e)
theorem key_of {ks : List Key} (ok : HOk P w H h) (e : H a = some (.tup (ks.map kV))) : (tupleKind (mixKind P w)).is h ks a := by
  obtain ⟨_, its, r, o, h1, h2, n, h3⟩ := (show ObjOk P w H h a (.tup (ks.map kV)) from ok a _ e)
  exact ⟨o, its.toArray, n, h1, h2, h3, by simpa using items_are r⟩
theorem dt_rd {kvs : List (List Key × V)} (ok : HOk P w H h) (e : Rd H a (.dT kvs)) : kvs.length ≤ sizeLine ∧ (a == sysModules) = false ∧
    ∃ xs, KT H kvs xs ∧ h.DictOfH (tupleKind (mixKind P w)) a xs := by
  obtain ⟨z, y, xs, r, o, es, ep, h1, h2, h3, h4, h5⟩ := (show ObjOk P w H h a (.dT kvs) from rd_of ok e)
  refine ⟨z, y, xs, r, o, es, ep, h1, h2, h3, h4, fun x hx => ?_, h5⟩
  have all : ∀ {l : List (List Key × V)} {m : List (List Key × Addr × Value)}, KT H l m → ∀ x ∈ m, (tupleKind (mixKind P w)).is h x.1 x.2.1 := by
    intro l m q
    induction q with
    | nil => intro x hx; exact nomatch hx
    | @cons p q ps qs hq t ih =>
      intro x hx
      rcases List.mem_cons.mp hx with e | hx
      · subst e
        exact key_of ok (by rw [← hq.1]; exact hq.2.1)
      · exact ih x hx
  exact all r x hx
theorem dt_of {kvs : List (List Key × V)} (ok : HOk P w H h) (e : H a = some (.dT kvs)) : kvs.length ≤ sizeLine ∧ (a == sysModules) = false ∧
    ∃ xs, KT H kvs xs ∧ h.DictOfH (tupleKind (mixKind P w)) a xs := dt_rd ok (.inl e)
end
noncomputable def DGet (H : Hp) (a : Addr) (y : V) (r : Option V) : Prop :=
  (∃ kvs k, Rd H a (.dK kvs) ∧ y = kV k ∧ r = valV kvs k) ∨ ∃ kvs k b, Rd H a (.dT kvs) ∧ y = .ref b ∧ H b = some (.tup (k.map kV)) ∧ r = valV kvs k
noncomputable def DPut (H : Hp) (a : Addr) (y v : V) (H' : Hp) : Prop :=
  (∃ kvs k, H a = some (.dK kvs) ∧ y = kV k ∧ kvs.length < sizeLine ∧ H' = upd H a (.dK (putK kvs k v))) ∨
  ∃ kvs k b, H a = some (.dT kvs) ∧ y = .ref b ∧ H b = some (.tup (k.map kV)) ∧ kvs.length < sizeLine ∧ H' = upd H a (.dT (putK kvs k v))
theorem DGet.t {H : Hp} {a b : Addr} {kvs : List (List Key × V)} {k : List Key} (e : H a = some (.dT kvs)) (eb : H b = some (.tup (k.map kV))) : DGet H a (.ref b) (valV kvs k) := .inr ⟨kvs, k, b, .inl e, rfl, eb, rfl⟩
theorem DPut.k {H : Hp} {a : Addr} {kvs : List (Key × V)} {k : Key} {v : V} (e : H a = some (.dK kvs)) (hl : kvs.length < sizeLine) : DPut H a (kV k) v (upd H a (.dK (putK kvs k v))) := .inl ⟨kvs, k, e, rfl, hl, rfl⟩
theorem DPut.t {H : Hp} {a b : Addr} {kvs : List (List Key × V)} {k : List Key} {v : V} (e : H a = some (.dT kvs)) (eb : H b = some (.tup (k.map kV))) (hl : kvs.length < sizeLine) :
    DPut H a (.ref b) v (upd H a (.dT (putK kvs k v))) := .inr ⟨kvs, k, b, e, rfl, eb, hl, rfl⟩
section
variable {X : Cx} {pins : List (Addr × Obj)} {σ : St} {H : Hp} {s : Shared} {a : Addr} {y v : V} {u r : Value} {o : Option V} {A : Around} {E : Value → Shared → Prop}
theorem Inv.big (I : Inv X pins σ H s) : sysModules < s.heap.objs.size := by
  have h : mainGlobals < s.heap.objs.size := (I.mod.glob.keeps I.bk).lt
  exact Nat.lt_trans (by decide) h
theorem d_getItem {Q : Value → Shared → Prop} (hu : A.units + 1 < cLine) (I : Inv X pins σ H s) (g : DGet H a y (some v)) (ry : RelV y u) (h : ∀ w' s', Inv X pins σ H s' → RelV v w' → Q w' s') :
    wpAny (model X.prog X.w) A (getItem (.ref a) u) Q E s := by
  rcases g with ⟨kvs, k, e, ey, l⟩ | ⟨kvs, k, b, e, ey, eb, l⟩
  · subst ey
    obtain ⟨z, hd, vs, rel, dd⟩ := dk_rd I.hok e
    obtain ⟨w', hw, rw'⟩ := RelO.some_of (v := v) (o := valueAt vs k) (by rw [l]; exact rel.val k)
    exact wpAny_getItem_of (kV_is ry) dd.mapOf hw (h w' _ (I.tok _) rw')
  · subst ey
    cases (show u = Value.ref b from ry)
    obtain ⟨z, hd, xs, rel, dd⟩ := dt_rd I.hok e
    obtain ⟨w', hw, rw'⟩ := RelO.some_of (v := v) (o := (atKey xs k).map (·.2)) (by rw [l]; exact rel.val k)
    obtain ⟨p, hp, hp2⟩ := Option.map_eq_some_iff.mp hw
    refine wpAny_getItem_heap (tupleKind_room_in1 hu) (key_of I.hok eb) dd hp ?_
    rw [hp2]
    exact h w' _ (I.tok _) rw'
theorem d_in {Q : Value → Shared → Prop} (hu : A.units + 1 < cLine) (I : Inv X pins σ H s) (g : DGet H a y o) (ry : RelV y u) (h : ∀ s', Inv X pins σ H s' → Q (.bool o.isSome) s') :
    wpAny (model X.prog X.w) A (compareOp .In u (.ref a)) Q E s := by
  rcases g with ⟨kvs, k, e, ey, l⟩ | ⟨kvs, k, b, e, ey, eb, l⟩
  · subst ey
    obtain ⟨z, hd, vs, rel, dd⟩ := dk_rd I.hok e
    refine wpAny_in_of (kV_is ry) hd dd.mapOf ?_
    rw [← (rel.val k).isSome_eq, ← l]
    exact h _ (I.tok _)
  · subst ey
    cases (show u = Value.ref b from ry)
    obtain ⟨z, hd, xs, rel, dd⟩ := dt_rd I.hok e
    refine wpAny_in_heap (tupleKind_room_in1 hu) (key_of I.hok eb) hd dd ?_
    have q := (rel.val k).isSome_eq
    rw [Option.isSome_map] at q
    rw [← q, ← l]
    exact h _ (I.tok _)
theorem d_notIn {Q : Value → Shared → Prop} (hu : A.units + 1 < cLine) (I : Inv X pins σ H s) (g : DGet H a y o) (ry : RelV y u) (h : ∀ s', Inv X pins σ H s' → Q (.bool (!o.isSome)) s') :
    wpAny (model X.prog X.w) A (compareOp .NotIn u (.ref a)) Q E s := by
  rcases g with ⟨kvs, k, e, ey, l⟩ | ⟨kvs, k, b, e, ey, eb, l⟩
  · subst ey
    obtain ⟨z, hd, vs, rel, dd⟩ := dk_rd I.hok e
    refine wpAny_notIn_of (kV_is ry) hd dd.mapOf ?_
    rw [← (rel.val k).isSome_eq, ← l]
    exact h _ (I.tok _)
  · subst ey
    cases (show u = Value.ref b from ry)
    obtain ⟨z, hd, xs, rel, dd⟩ := dt_rd I.hok e
    refine wpAny_notIn_heap (tupleKind_room_in1 hu) (key_of I.hok eb) hd dd ?_
    have q := (rel.val k).isSome_eq
    rw [Option.isSome_map] at q
    rw [← q, ← l]
    exact h _ (I.tok _)
theorem d_write {h' : Heap} {t' : Nat} {ob : HO} (I : Inv X pins σ H s) (mu : Mut (H a)) (hs : Heap.SameBut a s.heap h') (he : ∃ q, h'.get? a = some q) (new : ObjOk X.prog X.w (upd H a ob) h' a ob) :
    Inv X pins σ (upd H a ob) { s with heap := h', toks := t' } :=
  I.write (x := a) (e := a) mu (.inl rfl) (fun b q hb z => (hs.2 b hb).trans z) he new
theorem dk_new {P : Program} {w : World} {H' : Hp} {h' : Heap} {kvs : List (Key × V)} {vs : List (Key × Value)} (z : kvs.length ≤ sizeLine) (hd : (a == sysModules) = false) (rel : KV kvs vs) (dd : h'.DictOf (mixKind P w) a vs) :
    ObjOk P w H' h' a (.dK kvs) := ⟨z, hd, vs, rel, dd⟩
theorem d_setItem {H' : Hp} {Q : Unit → Shared → Prop} (hu : A.units + 1 < cLine) (I : Inv X pins σ H s) (g : DPut H a y v H') (ry : RelV y u) (rv : RelV v r) (h : ∀ s', Inv X pins σ H' s' → Q () s') :
    wpAny (model X.prog X.w) A (setItem (.ref a) u r) Q E s := by
  rcases g with ⟨kvs, k, e, ey, l, eH⟩ | ⟨kvs, k, b, e, ey, eb, l, eH⟩
  · subst ey eH
    obtain ⟨z, hd, vs, rel, dd⟩ := dk_of I.hok e
    have hz : vs.length ≤ sizeLine := by rw [← rel.length]; exact z
    have hl : (putK kvs k v).length ≤ sizeLine := by have := length_putK kvs k v; omega
    refine wpAny_setItem_pairs (hsz := hz) (kV_is ry) dd fun h' dd' hs => h _ ?_
    have he : ∃ q, h'.get? a = some q := let ⟨q, _, _, hq, _⟩ := dd'; ⟨q, hq⟩
    exact d_write I (by rw [e]; exact True.intro) hs he (dk_new hl hd (rel.put k rv) dd')
  · subst ey eH
    cases (show u = Value.ref b from ry)
    obtain ⟨z, hd, xs, rel, dd⟩ := dt_of I.hok e
    have hz : xs.length ≤ sizeLine := by rw [← Paired.length rel]; exact z
    have hl : (putK kvs k v).length ≤ sizeLine := by have := length_putK kvs k v; omega
    refine wpAny_setItem_heap (hsz := hz) (tupleKind_room_in1 hu) (key_of I.hok eb) dd fun h' dd' hs => h _ ?_
    obtain ⟨q, es, ep, hq, h2, h3, h4, _, h5⟩ := dd'
    refine d_write I (by rw [e]; exact True.intro) hs ⟨q, hq⟩ ⟨hl, hd, _, (rel.put k eb rv).keeps fun c ys ec => ?_, q, es, ep, hq, h2, h3, h4, h5⟩
    rw [upd_ne (ne_of ec e (fun z => nomatch z))]
    exact ec
end
section
variable {X : Cx} {pins : List (Addr × Obj)} {σ : St} {H : Hp} {s : Shared} {a : Addr} {kvs : List (Key × V)} {k : Key} {u : Value} {A : Around} {E : Value → Shared → Prop}
end
noncomputable def NoSl (i : Expr) : Prop := ∀ ov iv, subscripted i false ov iv = operate [ov, iv] (getItem ov iv)
theorem subD_of {prog : Program} {w : World} {A : Around} {E : Value → Shared → Prop} {s : Shared} {env : Env} {value slice : Expr} {pos : Pos} {T id : String} {Q : Value → Shared → Prop}
    (hl : typeLookup (.type T) "__getitem__" = pure (some (.builtin id))) (hs : NoSl slice)
    (h : wpAny (model prog w) A (eval value env) (fun o s₁ => wpAny (model prog w) A (eval slice env) (fun i s₂ => s₂.TypeIs o T ∧ wpAny (model prog w) A (getItem o i) Q E s₂) E s₁) E s) :
    wpAny (model prog w) A (eval (.Subscript value slice pos) env) Q E s := by
  refine Subscript_ (wpAny_mono h (fun o s₁ h₁ => wpAny_mono h₁ (fun i s₂ h₂ => ?_) fun _ _ x => x) fun _ _ x => x)
  obtain ⟨hT, h₂⟩ := h₂
  unfold subscriptTail
  refine wpAny_bind ?_
  rw [getitemInPython_of_ne hT.not_modules]
  refine wpAny_bind (wpAny_specialOf hT hl ?_)
  have fin : wpAny (model prog w) A (subscripted slice false o i) (fun r s₃ => wpAny (model prog w) A (letTemporaryGo value o r >>= fun _ => pure r) Q E s₃) E s₂ := by
    rw [hs o i]
    exact wpAny_operating (wpAny_mono h₂ (fun r s₃ h₃ => wpAny_bind (wpAny_letTemporaryGo (wpAny_pure h₃))) fun _ _ x => x)
  first
    | exact wpAny_pure (wpAny_bind fin)
    | exact wpAny_bind (wpAny_pure (wpAny_bind fin))
    | exact wpAny_bind fin
theorem dict_typeIs {X : Cx} {pins : List (Addr × Obj)} {σ : St} {H : Hp} {s : Shared} {a : Addr} {y : V} {o : Option V} (I : Inv X pins σ H s) (g : DGet H a y o) : s.TypeIs (.ref a) "dict" := by
  rcases g with ⟨kvs, k, e, _, _⟩ | ⟨kvs, k, b, e, _, _, _⟩
  · obtain ⟨_, _, vs, _, dd⟩ := dk_rd I.hok e
    exact dd.typeIs
  · obtain ⟨_, _, xs, _, dd⟩ := dt_rd I.hok e
    exact dd.typeIs
noncomputable def tDGet (td ty : TE) : TE := fun σ H Q => td σ H fun x H1 => ty σ H1 fun y H2 => ∃ a v, x = .ref a ∧ DGet H2 a y (some v) ∧ Q v H2
noncomputable def tDIn (ty td : TE) : TE := fun σ H Q => ty σ H fun y H1 => td σ H1 fun x H2 => ∃ a o, x = .ref a ∧ DGet H2 a y o ∧ Q (.bl o.isSome) H2
noncomputable def tDNotIn (ty td : TE) : TE := fun σ H Q => ty σ H fun y H1 => td σ H1 fun x H2 => ∃ a o, x = .ref a ∧ DGet H2 a y o ∧ Q (.bl (!o.isSome)) H2
noncomputable def sDPut (td ty tv : TE) : TS := fun D σ H => tv σ H fun v H1 => td σ H1 fun x H2 => ty σ H2 fun y H3 => ∃ a H4, x = .ref a ∧ DPut H3 a y v H4 ∧ D.nx σ H4
section
variable {X : Cx} {o i e value : Expr} {pos pos' tpos : Pos} {td ty tv : TE}
theorem pe_dget (hu : X.A.units + 1 < cLine) (ho : PE X o td) (hi : PE X i ty) (hs : NoSl i) : PE X (.Subscript o i pos) (tDGet td ty) := by
  intro pins s σ H Q I h
  refine subD_of PySem.F.slot_dict_getitem.lookup hs (thn (ho pins s σ H _ I h) fun u s1 ⟨x, H1, I1, rx, q1⟩ => thn (hi pins s1 σ H1 _ I1 q1) fun iv s2 ⟨y, H2, I2, ry, a, v, ex, g, q2⟩ => ?_)
  subst ex
  obtain rfl : u = Value.ref a := rx
  exact ⟨dict_typeIs I2 g, d_getItem hu I2 g ry fun w' s3 I3 rw' => ⟨v, H2, I3, rw', q2⟩⟩
theorem pc_din (hu : X.A.units + 1 < cLine) (hi : PE X i ty) (ho : PE X o td) : PC X .In i o (tDIn ty td) := by
  intro pins s σ H Q I h
  refine thn (hi pins s σ H _ I h) fun iv s1 ⟨y, H1, I1, ry, q1⟩ => thn (ho pins s1 σ H1 _ I1 q1) fun u s2 ⟨x, H2, I2, rx, a, ov, ex, g, q2⟩ => ?_
  subst ex
  obtain rfl : u = Value.ref a := rx
  exact d_in hu I2 g ry fun s3 I3 => ⟨.bl ov.isSome, H2, I3, rfl, q2⟩
theorem pc_dnotin (hu : X.A.units + 1 < cLine) (hi : PE X i ty) (ho : PE X o td) : PC X .NotIn i o (tDNotIn ty td) := by
  intro pins s σ H Q I h
  refine thn (hi pins s σ H _ I h) fun iv s1 ⟨y, H1, I1, ry, q1⟩ => thn (ho pins s1 σ H1 _ I1 q1) fun u s2 ⟨x, H2, I2, rx, a, ov, ex, g, q2⟩ => ?_
  subst ex
  obtain rfl : u = Value.ref a := rx
  exact d_notIn hu I2 g ry fun s3 I3 => ⟨.bl (!ov.isSome), H2, I3, rfl, q2⟩
theorem ps_dput (hu : X.A.units + 1 < cLine) (ho : PE X o td) (hi : PE X i ty) (hv : PE X value tv) (hs : swapsWith value (some (.Subscript o i pos')) pos.line X.env = pure false) :
    PS X (.Assign [.Subscript o i pos'] value pos) (sDPut td ty tv) := by
  intro pins s σ H D I h
  refine wpAny_Assign_Subscript (thn (hv pins s σ H _ I h) fun r s1 ⟨v, H1, I1, rv, q1⟩ => thn (ho pins s1 σ H1 _ I1 q1) fun u s2 ⟨x, H2, I2, rx, q2⟩ => thn (hi pins s2 σ H2 _ I2 q2) fun iv s3 ⟨y, H3, I3, ry, a, H4, ex, g, q3⟩ => ?_) hs
  subst ex
  obtain rfl : u = Value.ref a := rx
  exact d_setItem hu I3 g ry rv fun s4 I4 => ⟨σ, H4, I4, q3⟩
end
theorem dk_empty {P : Program} {w : World} {H : Hp} (h : Heap) (hb : sysModules < h.objs.size) : ObjOk P w H (h.push { cls := .type "dict", data := .dict #[] }) h.objs.size (.dK []) :=
  ⟨Nat.zero_le _, beq_eq_false_iff_ne.mpr (Ne.symm (Nat.ne_of_lt hb)), [], .nil, Heap.DictOf.new h⟩
theorem dt_empty {P : Program} {w : World} {H : Hp} (h : Heap) (hb : sysModules < h.objs.size) : ObjOk P w H (h.push { cls := .type "dict", data := .dict #[] }) h.objs.size (.dT []) :=
  ⟨Nat.zero_le _, beq_eq_false_iff_ne.mpr (Ne.symm (Nat.ne_of_lt hb)), [], .nil, _, #[], 0, Heap.get?_push_size _ rfl, ⟨rfl, rfl, rfl⟩, rfl, rfl, List.nodup_nil⟩
noncomputable def tDNewK : TE := fun _ H Q => ∀ p, H p = none → Q (.ref p) (upd H p (.dK []))
noncomputable def tDNewT : TE := fun _ H Q => ∀ p, H p = none → Q (.ref p) (upd H p (.dT []))
section
variable {X : Cx} {pos : Pos}
theorem pe_dnewK : PE X (.Dict [] [] pos) tDNewK := fun pins s σ H Q I h =>
  wpAny_Dict_empty ⟨.ref s.heap.objs.size, _, I.laid (a := s.heap.objs.size) (o := .dK []) (t' := s.toks) (fun _ _ q => Heap.get?_push_of_some _ q) (Nat.le_refl _) (dk_empty s.heap I.big), rfl, h _ (I.hok.fresh (Nat.le_refl _))⟩
theorem pe_dnewT : PE X (.Dict [] [] pos) tDNewT := fun pins s σ H Q I h =>
  wpAny_Dict_empty ⟨.ref s.heap.objs.size, _, I.laid (a := s.heap.objs.size) (o := .dT []) (t' := s.toks) (fun _ _ q => Heap.get?_push_of_some _ q) (Nat.le_refl _) (dt_empty s.heap I.big), rfl, h _ (I.hok.fresh (Nat.le_refl _))⟩
end
structure M1 (X : Cx) (o : Expr) (m : Str) (apos : Pos) (e : Expr) (cpos : Pos) : Prop where
  base : attributeBase o m X.env (eval o X.env) = eval o X.env
  few : ((backTo cpos (starEach [e] X.env)).all (fun x => !x.1) && (backToKw cpos (keywordEach [] X.env)).all (fun x => x.1.isSome)
    && decide (([e] : List Expr).length + ([] : List Keyword).length + (if ([] : List Keyword).isEmpty then 0 else 1) < 30)) = true
  line : (apos.endLine == cpos.line) = true
  trees : backTo cpos (starEach [e] X.env) = [(false, eval e X.env)]
structure M2 (X : Cx) (o : Expr) (m : Str) (apos : Pos) (e f : Expr) (cpos : Pos) : Prop where
  base : attributeBase o m X.env (eval o X.env) = eval o X.env
  few : ((backTo cpos (starEach [e, f] X.env)).all (fun x => !x.1) && (backToKw cpos (keywordEach [] X.env)).all (fun x => x.1.isSome)
    && decide (([e, f] : List Expr).length + ([] : List Keyword).length + (if ([] : List Keyword).isEmpty then 0 else 1) < 30)) = true
  line : (apos.endLine == cpos.line) = true
  trees : backTo cpos (starEach [e, f] X.env) = [(false, eval e X.env), (false, eval f X.env)]
noncomputable def IsD (H : Hp) (a : Addr) : Prop := (∃ kvs, Rd H a (.dK kvs)) ∨ ∃ kvs, Rd H a (.dT kvs)
theorem isD_at {X : Cx} {pins : List (Addr × Obj)} {σ : St} {H : Hp} {s : Shared} {a : Addr} (I : Inv X pins σ H s) (d : IsD H a) :
    s.TypeIs (.ref a) "dict" ∧ (∀ b, Value.ref a = .ref b → ∃ ob, s.heap.get? b = some ob ∧ ob.dict = none) ∧ (a == sysModules) = false := by
  rcases d with ⟨kvs, e⟩ | ⟨kvs, e⟩
  · obtain ⟨_, hd, vs, _, dd⟩ := dk_rd I.hok e
    refine ⟨dd.typeIs, fun b q => ?_, hd⟩
    cases q
    obtain ⟨ob, _, _, h1, h2, _⟩ := dd
    exact ⟨ob, h1, h2.2.1⟩
  · obtain ⟨_, hd, xs, _, dd⟩ := dt_rd I.hok e
    refine ⟨dd.typeIs, fun b q => ?_, hd⟩
    cases q
    obtain ⟨ob, _, _, h1, h2, _⟩ := dd
    exact ⟨ob, h1, h2.2.1⟩
section
variable {X : Cx} {pins : List (Addr × Obj)} {σ : St} {H : Hp} {s : Shared} {a : Addr} {y d : V} {u r : Value} {o : Option V} {A : Around} {E : Value → Shared → Prop}
end
section
variable {X : Cx} {o e f : Expr} {apos cpos : Pos} {td ty tx : TE}
end
section
variable {X : Cx} {pins : List (Addr × Obj)} {σ : St} {H : Hp} {s : Shared} {a : Addr} {kvs : List (Key × V)} {A : Around} {E : Value → Shared → Prop}
end
section
variable {X : Cx} {pins : List (Addr × Obj)} {σ : St} {H : Hp} {s : Shared} {a : Addr} {y : V} {u : Value} {A : Around} {E : Value → Shared → Prop}
end
end L2
namespace L2
open PySem PySem.Spec PyProof.Rows
section
variable {X : Cx}
end
section
variable {κ : Type} [DecidableEq κ]
theorem valV_not {kvs : List (κ × V)} {k : κ} (h : valV kvs k = none) : ¬ k ∈ kvs.map (·.1) := by
  intro m
  obtain ⟨p, hp, e⟩ := List.mem_map.mp m
  have q : (kvs.any fun kv => decide (kv.1 = k)) = true := List.any_eq_true.mpr ⟨p, hp, decide_eq_true e⟩
  rw [valV_any, h] at q
  exact absurd q (by simp)
end
end L2
end
section
namespace L2
open PySem PySem.Spec PyProof.Rows
theorem big_ne {n c d : Nat} (h1 : n + 2 ≤ c) (h2 : d < n) : c ≠ d := by omega
theorem lt_ne1 {n b : Nat} (h : b < n) : b ≠ n + 1 := by omega
theorem big_ne0 {n c : Nat} (h : n + 2 ≤ c) : c ≠ n := by omega
theorem big_le {n c : Nat} (h : n + 2 ≤ c) : n ≤ c := by omega
theorem cellsFrom_app : ∀ (names : List (Str × NameKind)) (n : Nat) (acc : List (Str × Addr)), cellsFrom n names acc = cellsFrom n names [] ++ acc
  | [], n, acc => rfl
  | (x, k) :: r, n, acc => by
    unfold cellsFrom
    by_cases hk : (k == NameKind.cell) = true
    · rw [if_pos hk, if_pos hk, cellsFrom_app r (n + 1) ((x, n) :: acc), cellsFrom_app r (n + 1) [(x, n)], List.append_assoc]; rfl
    · rw [if_neg hk, if_neg hk]; exact cellsFrom_app r n acc
theorem cellsFrom_mem : ∀ (names : List (Str × NameKind)) (n : Nat) {x : Str} {c : Addr}, (x, c) ∈ cellsFrom n names [] → (x, NameKind.cell) ∈ names
  | [], _, _, _, h => by simp [cellsFrom] at h
  | (y, k) :: r, n, x, c, h => by
    unfold cellsFrom at h
    by_cases hk : (k == NameKind.cell) = true
    · rw [if_pos hk, cellsFrom_app] at h
      rcases List.mem_append.mp h with h | h
      · exact List.mem_cons_of_mem _ (cellsFrom_mem r (n + 1) h)
      · have e : (x, c) = (y, n) := by simpa using h
        cases e
        have : k = .cell := by simpa using hk
        subst this
        exact List.mem_cons_self
    · rw [if_neg hk] at h
      exact List.mem_cons_of_mem _ (cellsFrom_mem r n h)
theorem cellsFrom_has : ∀ (names : List (Str × NameKind)) (n : Nat) {x : Str}, (x, NameKind.cell) ∈ names → ∃ c, (x, c) ∈ cellsFrom n names []
  | [], _, _, h => nomatch h
  | (y, k) :: r, n, x, h => by
    unfold cellsFrom
    by_cases hk : (k == NameKind.cell) = true
    · rw [if_pos hk, cellsFrom_app]
      rcases List.mem_cons.mp h with e | h
      · cases e
        exact ⟨n, List.mem_append_right _ (by simp)⟩
      · obtain ⟨c, hc⟩ := cellsFrom_has r (n + 1) h
        exact ⟨c, List.mem_append_left _ hc⟩
    · rw [if_neg hk]
      rcases List.mem_cons.mp h with e | h
      · cases e
        exact absurd rfl hk
      · exact cellsFrom_has r n h
noncomputable def clos (env : Env) : List (Str × NameKind) → List (Str × Addr) → List (Str × Addr)
  | [], acc => acc
  | (n, k) :: r, acc => clos env r (if k == .free then (n, (env.cells.lookup n).getD 0) :: acc else acc)
theorem clos_app (env : Env) : ∀ (names : List (Str × NameKind)) (acc : List (Str × Addr)), clos env names acc = clos env names [] ++ acc
  | [], acc => rfl
  | (x, k) :: r, acc => by
    unfold clos
    by_cases hk : (k == NameKind.free) = true
    · rw [if_pos hk, if_pos hk, clos_app env r (_ :: acc), clos_app env r [_], List.append_assoc]; rfl
    · rw [if_neg hk, if_neg hk]; exact clos_app env r acc
theorem clos_mem (env : Env) : ∀ (names : List (Str × NameKind)) {x : Str} {c : Addr}, (x, c) ∈ clos env names [] → (x, NameKind.free) ∈ names ∧ c = (env.cells.lookup x).getD 0
  | [], _, _, h => by simp [clos] at h
  | (y, k) :: r, x, c, h => by
    unfold clos at h
    by_cases hk : (k == NameKind.free) = true
    · rw [if_pos hk, clos_app] at h
      rcases List.mem_append.mp h with h | h
      · obtain ⟨h1, h2⟩ := clos_mem env r h
        exact ⟨List.mem_cons_of_mem _ h1, h2⟩
      · have e : (x, c) = (y, (env.cells.lookup y).getD 0) := by simpa using h
        cases e
        have : k = .free := by simpa using hk
        subst this
        exact ⟨List.mem_cons_self, rfl⟩
    · rw [if_neg hk] at h
      obtain ⟨h1, h2⟩ := clos_mem env r h
      exact ⟨List.mem_cons_of_mem _ h1, h2⟩
theorem clos_has (env : Env) : ∀ (names : List (Str × NameKind)) {x : Str}, (x, NameKind.free) ∈ names → (x, (env.cells.lookup x).getD 0) ∈ clos env names []
  | [], _, h => nomatch h
  | (y, k) :: r, x, h => by
    unfold clos
    by_cases hk : (k == NameKind.free) = true
    · rw [if_pos hk, clos_app]
      rcases List.mem_cons.mp h with e | h
      · cases e
        exact List.mem_append_right _ (by simp)
      · exact List.mem_append_left _ (clos_has env r h)
    · rw [if_neg hk]
      rcases List.mem_cons.mp h with e | h
      · cases e
        exact absurd rfl hk
      · exact clos_has env r h
theorem clos_for {env : Env} (f : Str × NameKind → List (Str × Addr) → Sem (ForInStep (List (Str × Addr))))
    (hf : ∀ n k cs, f (n, k) cs = if k == .free then (do let c ← cellOf env n; pure (.yield ((n, c) :: cs))) else pure (.yield cs)) :
    ∀ (names : List (Str × NameKind)) (acc : List (Str × Addr)), (∀ x ∈ names, x.2 = .free → ∃ c, env.cells.lookup x.1 = some c) → forIn names acc f = pure (clos env names acc)
  | [], acc, _ => by rw [List.forIn_nil]; rfl
  | (n, k) :: r, acc, h => by
    rw [List.forIn_cons, hf]
    unfold clos
    by_cases hk : (k == NameKind.free) = true
    · obtain ⟨c, hc⟩ := h (n, k) List.mem_cons_self (by simpa using hk)
      have hc' : env.cells.lookup n = some c := hc
      rw [if_pos hk, if_pos hk]
      have e : cellOf env n = pure c := by unfold cellOf; rw [hc']
      rw [e, hc', pure_bind, pure_bind]
      exact clos_for f hf r _ fun x hx => h x (List.mem_cons_of_mem _ hx)
    · rw [if_neg hk, if_neg hk, pure_bind]
      exact clos_for f hf r _ fun x hx => h x (List.mem_cons_of_mem _ hx)
theorem closureFor_eq {scope : Scope} {env : Env} (h : ∀ x ∈ scope.names, x.2 = .free → ∃ c, env.cells.lookup x.1 = some c) : closureFor scope env = pure (clos env scope.names []) := by
  simp only [closureFor]
  rw [clos_for _ (fun n k cs => by cases hk : k == NameKind.free <;> simp [hk]) scope.names [] h]
  rfl
theorem lookup_of {α : Type} {x : Str} {c : α} : ∀ {l : List (Str × α)}, (x, c) ∈ l → (∀ c', (x, c') ∈ l → c' = c) → l.lookup x = some c
  | [], h, _ => nomatch h
  | (y, d) :: r, h, u => by
    rw [List.lookup_cons]
    cases hb : x == y with
    | true =>
      have e : x = y := beq_iff_eq.mp hb
      subst e
      exact congrArg some (u d List.mem_cons_self)
    | false =>
      rcases List.mem_cons.mp h with e | h
      · cases e
        rw [beq_self_eq_true] at hb
        cases hb
      · exact lookup_of h fun c' hc' => u c' (List.mem_cons_of_mem _ hc')
theorem kinds_one {names : List (Str × NameKind)} (nd : (names.map (·.1)).Nodup) {x : Str} {k k' : NameKind} (h : (x, k) ∈ names) (h' : (x, k') ∈ names) : k = k' := by
  induction names with
  | nil => exact nomatch h
  | cons p r ih =>
    rw [List.map_cons, List.nodup_cons] at nd
    rcases List.mem_cons.mp h with e | h <;> rcases List.mem_cons.mp h' with e' | h'
    · rw [← e'] at e; exact congrArg Prod.snd e
    · exact absurd (List.mem_map.mpr ⟨_, h', by rw [← e]⟩) nd.1
    · exact absurd (List.mem_map.mpr ⟨_, h, by rw [← e']⟩) nd.1
    · exact ih nd.2 h h'
theorem relabel_lookup (scope : Scope) (env : Env) (x : Str) : (relabel scope env).names.lookup x =
    (scope.names.lookup x).map fun k => if (k == NameKind.free && env.scope.kind == .function && env.kindOf x == some .cell) = true then NameKind.cell else k := by
  show List.lookup x (scope.names.map fun (n, k) => if (k == NameKind.free && env.scope.kind == .function && env.kindOf n == some .cell) = true then (n, NameKind.cell) else (n, k)) = _
  induction scope.names with
  | nil => rfl
  | cons p r ih =>
    obtain ⟨n, k⟩ := p
    rw [List.map_cons]
    show List.lookup x ((if (k == NameKind.free && env.scope.kind == .function && env.kindOf n == some .cell) = true then (n, NameKind.cell) else (n, k)) :: _) = _
    cases hx : x == n with
    | true =>
      have e : x = n := beq_iff_eq.mp hx
      subst e
      by_cases hc : (k == NameKind.free && env.scope.kind == .function && env.kindOf x == some .cell) = true
      · rw [if_pos hc]
        simp only [List.lookup_cons, beq_self_eq_true]
        exact congrArg some (if_pos hc).symm
      · rw [if_neg hc]
        simp only [List.lookup_cons, beq_self_eq_true]
        exact congrArg some (if_neg hc).symm
    | false =>
      by_cases hc : (k == NameKind.free && env.scope.kind == .function && env.kindOf n == some .cell) = true
      · rw [if_pos hc]; simp only [List.lookup_cons, hx]; exact ih
      · rw [if_neg hc]; simp only [List.lookup_cons, hx]; exact ih
noncomputable def compX (X : Cx) (scope : Scope) (C : Addr) (s2 : Shared) (H2 : Hp) (fp : List Addr) : Cx where
  prog := X.prog
  w := X.w
  K := X.K
  mg := X.mg
  base := X.base
  A := X.A
  N := X.N
  s₀ := s2
  H₀ := H2
  env := { scope := relabel scope X.env, locals := C, globals := X.env.globals, cells := cellsFrom (C + 1) scope.names (clos X.env scope.names []), qual := X.env.qual, func := none, code := X.env.code, frame := X.env.frame, builtins := X.env.builtins }
  outer := X.stack
  stack := X.stack
  ex := fp
  fn := fun x => decide (scope.names.lookup x = some .cell)
  calm := X.calm
  pn := []
  xe := fun _ _ => False
structure CompScope (X : Cx) (scope : Scope) (is : List Nat) : Prop where
  kind : scope.kind = .function
  nd : (scope.names.map (·.1)).Nodup
  fr : ∀ p ∈ scope.names, p.2 = .free → X.env.scope.names.lookup p.1 = some .cell ∨ X.env.scope.names.lookup p.1 = some .free
  own : ∀ p ∈ X.N.zipIdx, (scope.names.lookup p.1 = some .local ∨ scope.names.lookup p.1 = some .cell) → p.2 ∈ is
noncomputable def blank : List Nat → St → St
  | [], σ => σ
  | i :: r, σ => blank r (σ.set i none)
theorem blank_length : ∀ (is : List Nat) (σ : St), (blank is σ).length = σ.length
  | [], _ => rfl
  | i :: r, σ => by unfold blank; rw [blank_length r, List.length_set]
theorem set_none_weak {σ : St} {j i : Nat} {v : V} (h : (σ.set j none)[i]? = some (some v)) : σ[i]? = some (some v) := by
  rw [List.getElem?_set] at h
  split at h
  · split at h
    · simp at h
    · cases h
  · exact h
theorem blank_weak : ∀ (is : List Nat) {σ : St} {i : Nat} {v : V}, (blank is σ)[i]? = some (some v) → σ[i]? = some (some v)
  | [], _, _, _, h => h
  | j :: r, σ, i, v, h => set_none_weak (blank_weak r h)
theorem blank_at : ∀ (is : List Nat) {σ : St} {i : Nat} {v : V}, i ∈ is → (blank is σ)[i]? ≠ some (some v)
  | [], _, _, _, h, _ => nomatch h
  | j :: r, σ, i, v, h, e => by
    rcases List.mem_cons.mp h with rfl | h
    · have := blank_weak r e
      rw [List.getElem?_set] at this
      simp at this
    · exact blank_at r h e
section
variable {X : Cx} {pins : List (Addr × Obj)} {σ : St} {H2 : Hp} {s2 : Shared} {scope : Scope} {is : List Nat} {fp : List Addr}
theorem CompScope.closed (S : CompScope X scope is) (ok : X.Ok) : ∀ x ∈ scope.names, x.2 = .free → ∃ c, X.env.cells.lookup x.1 = some c := fun x hx hf => ok.has x.1 (S.fr x hx hf)
noncomputable abbrev accHeap (s2 : Shared) : Heap := s2.heap.push { cls := .type "list", data := .seq ([] : List Value).toArray }
noncomputable abbrev blockHeap (s2 : Shared) (scope : Scope) : Heap := pushCells ((accHeap s2).push { cls := .type "dict", data := .dict #[] }) scope.names
theorem inv_comp (I : Inv X pins σ H2 s2) (S : CompScope X scope is) (hf : ∀ b ∈ fp, FpOk X pins H2 b) (ho : ∀ b ∈ fp, ∃ o, s2.heap.get? b = some o) :
    Inv (compX X scope (accHeap s2).objs.size s2 H2 fp) [] (blank is σ) (upd H2 s2.heap.objs.size (.lst [])) { s2 with heap := blockHeap s2 scope } := by
  have hC : (accHeap s2).objs.size = s2.heap.objs.size + 1 := Heap.size_push ..
  have hk : ∀ b u, s2.heap.get? b = some u → (blockHeap s2 scope).get? b = some u := fun b u e => pushCells_keeps _ _ b u (Heap.get?_push_of_some _ (Heap.get?_push_of_some _ e))
  have hD : (blockHeap s2 scope).get? s2.heap.objs.size = some { cls := .type "list", data := .seq ([] : List Value).toArray } :=
    pushCells_keeps _ _ _ _ (Heap.get?_push_of_some _ (Heap.get?_push_size _ rfl))
  have I3 : Inv X pins σ (upd H2 s2.heap.objs.size (.lst [])) { s2 with heap := blockHeap s2 scope } :=
    I.laid (t' := s2.toks) hk (Nat.le_refl _) ⟨Nat.zero_le _, [], 0, .nil, hD⟩
  have ck := cellsFrom_ok scope.names ((accHeap s2).push { cls := .type "dict", data := .dict #[] }) ((accHeap s2).objs.size + 1) [] ⟨fun _ _ hm => (nomatch hm), List.Pairwise.nil⟩ (Nat.le_of_eq (Heap.size_push ..).symm)
  rw [show ((accHeap s2).push { cls := .type "dict", data := .dict #[] }).objs.size = (accHeap s2).objs.size + 1 from Heap.size_push ..] at ck
  have hcl := S.closed I.ok
  have split : ∀ {x : Str} {c : Addr}, (x, c) ∈ cellsFrom ((accHeap s2).objs.size + 1) scope.names (clos X.env scope.names []) →
      ((x, c) ∈ cellsFrom ((accHeap s2).objs.size + 1) scope.names [] ∧ (x, NameKind.cell) ∈ scope.names) ∨ ((x, NameKind.free) ∈ scope.names ∧ X.env.cells.lookup x = some c) := fun {x c} h => by
    rw [cellsFrom_app] at h
    rcases List.mem_append.mp h with h | h
    · exact .inl ⟨h, cellsFrom_mem _ _ h⟩
    · obtain ⟨h1, h2⟩ := clos_mem _ _ h
      obtain ⟨c', hc'⟩ := hcl _ h1 rfl
      have hc'' : X.env.cells.lookup x = some c' := hc'
      rw [hc''] at h2
      cases h2
      exact .inr ⟨h1, hc''⟩
  have small : ∀ {x : Str} {c : Addr}, X.env.cells.lookup x = some c → c < s2.heap.objs.size := fun {x c} e => by obtain ⟨v, q⟩ := I.cell x c e; exact q.lt
  have big : ∀ {x : Str} {c : Addr}, (x, c) ∈ cellsFrom ((accHeap s2).objs.size + 1) scope.names [] → s2.heap.objs.size + 2 ≤ c := fun {x c} h => by
    have := (ck.empty x c h).2
    rw [hC] at this
    exact this
  have freeAt : ∀ {x : Str}, (x, NameKind.free) ∈ scope.names → ∀ {c}, X.env.cells.lookup x = some c → (cellsFrom ((accHeap s2).objs.size + 1) scope.names (clos X.env scope.names [])).lookup x = some c := fun {x} h {c} e => by
    refine lookup_of ?_ fun c' hc' => ?_
    · rw [cellsFrom_app]
      have := clos_has X.env scope.names h
      rw [e] at this
      exact List.mem_append_right _ this
    · rcases split hc' with ⟨_, q⟩ | ⟨_, q⟩
      · exact absurd (kinds_one S.nd h q) (by decide)
      · rw [e] at q; exact (Option.some.inj q).symm
  have ofKind : ∀ {x : Str} {k : NameKind}, (relabel scope X.env).names.lookup x = some k → (k = .local → (x, NameKind.local) ∈ scope.names) ∧ ((k = .cell ∨ k = .free) → (x, NameKind.cell) ∈ scope.names ∨ (x, NameKind.free) ∈ scope.names) := fun {x k} h => by
    rw [relabel_lookup] at h
    cases q : scope.names.lookup x with
    | none => rw [q] at h; cases h
    | some k0 =>
      rw [q] at h
      have hm := PySem.mem_of_lookup q
      have h' : (if (k0 == NameKind.free && X.env.scope.kind == .function && X.env.kindOf x == some .cell) = true then NameKind.cell else k0) = k := Option.some.inj h
      by_cases hc : (k0 == NameKind.free && X.env.scope.kind == .function && X.env.kindOf x == some .cell) = true
      · rw [if_pos hc] at h'
        have hk0 : k0 = .free := by
          rw [Bool.and_eq_true, Bool.and_eq_true] at hc
          simpa using hc.1.1
        subst hk0
        subst h'
        exact ⟨fun z => (nomatch z), fun _ => .inr hm⟩
      · rw [if_neg hc] at h'
        subst h'
        refine ⟨fun z => by rw [z] at hm; exact hm, fun z => ?_⟩
        rcases z with z | z
        · rw [z] at hm; exact .inl hm
        · rw [z] at hm; exact .inr hm
  have ownAt : ∀ {i : Nat} {x : Str} {k : NameKind}, X.N[i]? = some x → (x, k) ∈ scope.names → (k = .local ∨ k = .cell) → i ∈ is := fun {i x k} hN hm hkk => by
    refine S.own (x, i) ?_ ?_
    · rw [List.mem_zipIdx_iff_getElem?]; exact hN
    · have q : scope.names.lookup x = some k := lookup_of hm fun k' hk' => kinds_one S.nd hk' hm
      rcases hkk with z | z
      · subst z; exact .inl q
      · subst z; exact .inr q
  refine ⟨⟨I.ok.mod, S.kind, I.ok.glob, I.ok.blt, ?_, fun x y c h1 h2 => ?_, fun x hx => ?_, fun x c hx h => ?_, I.ok.hd, I.ok.frames, .inl rfl, fun b hb => ⟨?_, fun x c h => ?_⟩, I.bs, Nat.le_trans I.ok.bsz I.sz, fun b o e hb => ?_, fun b hb hx => ?_, I.stack, I.stkFree⟩,
    rfl, I.bare, Un.laid hk (Nat.le_refl _) I.fresh, ⟨fun _ => none, ?_, fun i x v h1 h2 h3 => ?_⟩, fun x c h => ?_, ?_, fun x c h => ?_, fun p hp => (nomatch hp), I3.hok, ?_⟩
  · show s2.heap.objs.size ≤ (accHeap s2).objs.size
    rw [hC]; exact Nat.le_succ _
  · -- inj
    have h1' := PySem.mem_of_lookup h1
    have h2' := PySem.mem_of_lookup h2
    rcases split h1' with ⟨a1, _⟩ | ⟨_, b1⟩ <;> rcases split h2' with ⟨a2, _⟩ | ⟨_, b2⟩
    · exact name_of_addr ck.apart a1 a2
    · exact absurd rfl (big_ne (big a1) (small b2))
    · exact absurd rfl (big_ne (big a2) (small b1))
    · exact I.ok.inj x y c b1 b2
  · -- has
    have hx' : (relabel scope X.env).names.lookup x = some .cell ∨ (relabel scope X.env).names.lookup x = some .free := hx
    have hh : (x, NameKind.cell) ∈ scope.names ∨ (x, NameKind.free) ∈ scope.names := by
      rcases hx' with q | q
      · exact (ofKind q).2 (.inl rfl)
      · exact (ofKind q).2 (.inr rfl)
    rcases hh with q | q
    · obtain ⟨c, hc⟩ := cellsFrom_has scope.names ((accHeap s2).objs.size + 1) q
      refine ⟨c, lookup_of (by show (x, c) ∈ cellsFrom _ _ _; rw [cellsFrom_app]; exact List.mem_append_left _ hc) fun c' hc' => ?_⟩
      rcases split hc' with ⟨a1, _⟩ | ⟨b1, _⟩
      · have hnd : ∀ {l : List (Str × NameKind)} {n : Nat} {c c' : Addr}, (l.map (·.1)).Nodup → (x, c) ∈ cellsFrom n l [] → (x, c') ∈ cellsFrom n l [] → c' = c := by
          intro l
          induction l with
          | nil => intro n c c' _ h _; exact (by simp [cellsFrom] at h)
          | cons p r ih =>
            intro n c c' nd h h'
            obtain ⟨y, k⟩ := p
            rw [List.map_cons, List.nodup_cons] at nd
            unfold cellsFrom at h h'
            by_cases hk : (k == NameKind.cell) = true
            · rw [if_pos hk, cellsFrom_app] at h h'
              rcases List.mem_append.mp h with g | g <;> rcases List.mem_append.mp h' with g' | g'
              · exact ih nd.2 g g'
              · have e : (x, c') = (y, n) := by simpa using g'
                have e1 : x = y := congrArg Prod.fst e
                exact absurd (List.mem_map.mpr ⟨_, cellsFrom_mem _ _ g, e1⟩) nd.1
              · have e : (x, c) = (y, n) := by simpa using g
                have e1 : x = y := congrArg Prod.fst e
                exact absurd (List.mem_map.mpr ⟨_, cellsFrom_mem _ _ g', e1⟩) nd.1
              · have e : (x, c) = (y, n) := by simpa using g
                have e' : (x, c') = (y, n) := by simpa using g'
                exact (congrArg Prod.snd e').trans (congrArg Prod.snd e).symm
            · rw [if_neg hk] at h h'
              exact ih nd.2 h h'
        exact hnd S.nd hc a1
      · exact absurd (kinds_one S.nd q b1) (by decide)
    · obtain ⟨c, hc⟩ := hcl _ q rfl
      exact ⟨c, freeAt q hc⟩
  · -- cab
    have hx' : scope.names.lookup x = some .cell := of_decide_eq_true hx
    rcases split (PySem.mem_of_lookup h) with ⟨a1, _⟩ | ⟨b1, _⟩
    · exact big_le (big a1)
    · exact absurd (kinds_one S.nd (PySem.mem_of_lookup hx') b1) (by decide)
  · -- exf
    obtain ⟨o, e⟩ := ho b hb
    show b ≠ (accHeap s2).objs.size
    rw [hC]; exact lt_ne1 (Heap.lt_size e)
  · obtain ⟨o, e⟩ := ho b hb
    have hlt := Heap.lt_size e
    rcases split (PySem.mem_of_lookup h) with ⟨a1, _⟩ | ⟨_, b1⟩
    · exact big_ne (big a1) hlt
    · exact (hf b hb).2.2.2.2.1 x c b1
  · -- noex
    rcases (hf b hb).2.2.2.1 with z | z
    · exact I.ok.noex b o e z
    · have h1 := Heap.lt_size e
      have h2 := I.ok.bsz
      exact absurd (Nat.lt_of_lt_of_le h1 (Nat.le_trans h2 z)) (Nat.lt_irrefl _)
  · -- exfs
    rcases List.mem_cons.mp (I.stkSub b hx) with e | e
    · exact (hf b hb).2.1 e
    · exact (hf b hb).2.2.1 e
  · -- the block's names
    show (blockHeap s2 scope).Ns (accHeap s2).objs.size fun _ => none
    exact (Heap.Ns.new (accHeap s2) (.type "dict")).keeps (pushCells_keeps _ _)
  · -- loc
    have hv := blank_weak is h2
    have nown : ∀ k, (k = .local ∨ k = .cell) → (x, k) ∉ scope.names := fun k hkk hm => blank_at is (ownAt h1 hm hkk) h2
    have h3' : (relabel scope X.env).names.lookup x = some .local ∨ (relabel scope X.env).names.lookup x = some .cell ∨ (relabel scope X.env).names.lookup x = some .free := h3
    have hfree : (x, NameKind.free) ∈ scope.names := by
      rcases h3' with q | q | q
      · exact absurd ((ofKind q).1 rfl) (nown _ (.inl rfl))
      · exact ((ofKind q).2 (.inl rfl)).resolve_left (nown _ (.inr rfl))
      · exact ((ofKind q).2 (.inr rfl)).resolve_left (nown _ (.inr rfl))
    have hkind := S.fr _ hfree rfl
    obtain ⟨m, _, hl⟩ := I.loc
    obtain ⟨u, r, l⟩ := hl i x v h1 hv (.inr hkind)
    refine ⟨u, r, .inr ⟨?_, ?_⟩⟩
    · rcases h3' with q | q
      · exact absurd ((ofKind q).1 rfl) (nown _ (.inl rfl))
      · exact q
    · rcases l with ⟨k, _⟩ | ⟨_, c, e, z⟩
      · have k' : X.env.scope.names.lookup x = some .local := k
        rcases hkind with q | q <;> (rw [k'] at q; cases q)
      · exact ⟨c, freeAt hfree e, z.keeps hk⟩
  · -- cell
    rcases split (PySem.mem_of_lookup h) with ⟨a1, _⟩ | ⟨_, b1⟩
    · exact ⟨none, (ck.empty x c a1).1⟩
    · obtain ⟨v, z⟩ := I.cell x c b1
      exact ⟨v, z.keeps hk⟩
  · show upd H2 s2.heap.objs.size (.lst []) (accHeap s2).objs.size = none
    rw [upd_ne (by rw [hC]; exact Nat.succ_ne_self _)]
    exact I.hok.fresh (by rw [hC]; exact Nat.le_succ _)
  · -- freeC
    show upd H2 s2.heap.objs.size (.lst []) c = none
    rcases split (PySem.mem_of_lookup h) with ⟨a1, _⟩ | ⟨_, b1⟩
    · rw [upd_ne (big_ne0 (big a1))]
      exact I.hok.fresh (big_le (big a1))
    · rw [upd_ne (Nat.ne_of_lt (small b1))]
      exact I.freeC x c b1
  · show (blank is σ).length = X.N.length
    rw [blank_length]; exact I.len
theorem comp_done {C : Addr} {pins' : List (Addr × Obj)} {σ' : St} {H' : Hp} {s' : Shared} (I : Inv X pins σ H2 s2) (hf : ∀ b ∈ fp, FpOk X pins H2 b) (J : Inv (compX X scope C s2 H2 fp) pins' σ' H' s') : Inv X pins σ H' s' :=
  I.call' J.os J.base J.hok J.bare fun b hb => let ⟨_, f1, _, f3, f4, f5⟩ := hf b hb; ⟨f3, f1, f4, f5⟩
end
theorem newEnv_comp {M : Model} {A : Around} {E : Value → Shared → Prop} {s : Shared} {scope : Scope} {g : Addr} {cl : List (Str × Addr)} {qual : Str} {env : Env} {Q : Env → Shared → Prop}
    (h : Q { scope := scope, locals := s.heap.objs.size, globals := g, cells := cellsFrom (s.heap.objs.size + 1) scope.names cl, qual := qual, func := none, code := env.code, frame := env.frame, builtins := env.builtins }
      { s with heap := pushCells (s.heap.push { cls := .type "dict", data := .dict #[] }) scope.names }) :
    wpAny M A (newFunctionEnv scope g cl [] qual none .none (some env)) Q E s := by
  simp only [newFunctionEnv, Option.isSome_some, if_true]
  refine wpAny_bind (wpAny_alloc ?_)
  refine wpAny_bind (wpAny_layCells _ (fun name kind cells => by cases hkc : kind == NameKind.cell <;> simp [hkc]) _ _ _ _ ?_)
  rw [show ({ s with heap := s.heap.push { cls := .type "dict", data := .dict #[] } } : Shared).heap.objs.size = s.heap.objs.size + 1 from Heap.size_push ..]
  refine wpAny_bind ?_
  rw [List.forIn_nil]
  exact wpAny_pure (wpAny_pure h)
noncomputable def PIfs (X : Cx) (ifs : List Expr) (t : TT) : Prop :=
  ∀ (pins : List (Addr × Obj)) (s : Shared) (σ : St) (H : Hp) (Q : Bool → Hp → Prop), Inv X pins σ H s → t σ H Q →
    wpAny (model X.prog X.w) X.A (forIn ifs true fun c r => if r = true then do let ok ← isTrue c X.env (eval c X.env); pure (ForInStep.yield ok) else pure (ForInStep.yield r)) (TP X pins σ Q) X.xe s
noncomputable def tYes : TT := fun _ H Q => Q true H
theorem pifs_nil {X : Cx} : PIfs X [] tYes := fun _ _ _ H _ I h => wpAny_tests_nil ⟨H, I, h⟩
theorem pifs_one {X : Cx} {c : Expr} {t : TT} (h : PT X c t) : PIfs X [c] t := fun pins s σ H Q I hw => wpAny_tests_one (h pins s σ H Q I hw)
theorem compLoop_own {prog : Program} {w : World} {A : Around} {R : Result → Shared → Prop} {s : Shared} {elt target iter : Expr} {ifs : List Expr} {scope : Scope} {pos : Pos} {it acc : Value} {env : Env} (I : Nat → Shared → Prop)
    (turn : ∀ n s, I n s → wpAny (model prog w) A (pyNext it) (fun r s₁ => match r with
      | none => R (.ok .next) s₁
      | some v => wpAny (model prog w) A (letOwnedTupleGo target it v) (fun _ s₀ => wpAny (model prog w) A (assign target env v) (fun _ s₂ =>
          wpAny (model prog w) A (forIn ifs true fun c r => if r = true then do let ok ← isTrue c env (eval c env); pure (ForInStep.yield ok) else pure (ForInStep.yield r)) (fun ok s₃ =>
            if ok = true then wpAny (model prog w) A (eval elt env) (fun x s₄ =>
              wpAny (model prog w) A (call (.builtin "list.append") [acc, x]) (fun _ s₅ => ∃ m, m < n ∧ I m s₅) (fun _ _ => False) s₄) (fun _ _ => False) s₃
            else ∃ m, m < n ∧ I m s₃) (fun _ _ => False) s₂) (fun _ _ => False) s₀) (fun _ _ => False) s₁) (fun _ _ => False) s)
    (n : Nat) (h : I n s) :
    codeAny (model prog w) A (.compLoop (.ListComp elt [⟨target, iter, ifs, 0⟩] scope pos) 0 it acc env) R s := by
  refine codeAny_loop rfl I (fun n s hI => ?_) n h
  show wpAny _ A ((compTurn (.ListComp elt [⟨target, iter, ifs, 0⟩] scope pos) 0 it acc env).onRaise (fun x => do noteFrame x env; theTreesLotGoes x)) _ _ s
  refine wpAny_noted ?_
  rw [compTurn_list]
  refine wpAny_bind (wpAny_standAt (wpAny_bind (wpAny_mono (turn n s hI) (fun r s₁ h₁ => ?_) fun _ _ h' => h'.elim)))
  cases r with
  | none => exact wpAny_pure h₁
  | some v =>
    refine wpAny_bind (wpAny_mono h₁ (fun _ s₀ h₀ => ?_) fun _ _ h' => h'.elim)
    refine wpAny_bind (wpAny_mono h₀ (fun _ s₂ h₂ => wpAny_bind (wpAny_mono h₂ (fun ok s₃ h₃ => ?_) fun _ _ h' => h'.elim)) fun _ _ h' => h'.elim)
    cases ok with
    | false => exact wpAny_pure ⟨rfl, h₃⟩
    | true =>
      exact wpAny_bind (wpAny_bind (wpAny_mono h₃ (fun x s₄ h₄ => wpAny_bind (wpAny_mono h₄ (fun _ s₅ h₅ => wpAny_pure (wpAny_pure ⟨rfl, h₅⟩)) fun _ _ h' => h'.elim)) fun _ _ h' => h'.elim))
noncomputable def Wk (σ σ' : St) : Prop := σ'.length = σ.length ∧ ∀ (i : Nat) (v : V), σ[i]? = some (some v) → σ'[i]? = some (some v)
noncomputable def tComp (wi : TI) (is : List Nat) (g : TG) (tt : TT) (te : TE) : TE := fun σ H Q => wi σ H fun J H1 => ∀ D, H1 D = none → ∃ W : Nat → Nat → Hp → Prop, (∃ m, W 0 m (upd H1 D (.lst []))) ∧ ∀ i m H, W i m H →
  (J.stop i H ∧ Q (.ref D) H) ∨ (J.go i H ∧ ∀ x H', J.yld i H x H' → g x (blank is σ) H' fun σ2 H2 => Wk (blank is σ) σ2 ∧ tt σ2 H2 fun k H3 =>
    if k = true then te σ2 H3 fun v H4 => ∃ vs, H4 D = some (.lst vs) ∧ vs.length < sizeLine ∧ ∃ m', m' < m ∧ W (i + 1) m' (upd H4 D (.lst (vs ++ [v]))) else ∃ m', m' < m ∧ W (i + 1) m' H3)
section
variable {X : Cx} {tg iter elt : Expr} {ifs : List Expr} {scope : Scope} {pos : Pos} {wi : TI} {is : List Nat} {g : TG} {tt : TT} {te : TE}
theorem comp_core {use : Option (Value → Sem Unit)} {Qr : Value → Shared → Prop} {cpos : Pos} (hc : X.calm = true) (S : CompScope X scope is) (hi : PI X tg iter wi)
    (hb : ∀ C s2 H2 fp, PG (compX X scope C s2 H2 fp) tg g ∧ PIfs (compX X scope C s2 H2 fp) ifs tt ∧ PE (compX X scope C s2 H2 fp) elt te)
    (hs : ∀ x, foldedSetIterable iter X.env x = pure x)
    {pins : List (Addr × Obj)} {s : Shared} {σ : St} {H : Hp} {Q : VK} (I : Inv X pins σ H s) (h : tComp wi is g tt te σ H Q)
    (fin : ∀ D C H' s', Inv X pins σ H' s' → (∃ m, s'.heap.Ns C m) → FpOk X pins H' C → Q (.ref D) H' → compPost (model X.prog X.w) X.A X.xe use Qr (.ref D) C (.ok .next) s') :
    wpAny (model X.prog X.w) X.A (comprehension (.ListComp elt [⟨tg, iter, ifs, 0⟩] scope pos) scope X.env cpos (newList []) false (eval iter X.env) use) Qr X.xe s := by
  have hnames : ∀ x ∈ scope.names, x.2 = .local → scope.names.lookup x.1 = some .local := fun x hx hl => by
    obtain ⟨n, k⟩ := x
    have hl' : k = .local := hl
    subst hl'
    exact lookup_of hx fun k' hk' => kinds_one S.nd hk' hx
  refine wpAny_comprehension_free (use := use) rfl hs (closureFor_eq (S.closed I.ok)) S.kind hnames (thn (hi pins s σ H _ I h) fun v s1 h1 => thn h1 fun itv s2 h2 => ?_)
  obtain ⟨it, fp, tn, J, H2, e, I2, T, st2, f2, R⟩ := h2
  subst e
  obtain ⟨W, ⟨m0, w0⟩, turn⟩ := R s2.heap.objs.size I2.fresh
  refine wpAny_newObj_type (newEnv_comp ?_)
  have hobj : ∀ b ∈ fp, ∃ o, s2.heap.get? b = some o := fun b hb => let ⟨o, e, _⟩ := T.obj 0 _ st2 b hb; ⟨o, e⟩
  have J0 := inv_comp (scope := scope) I2 S f2 hobj
  have hk : ∀ b u, s2.heap.get? b = some u → (blockHeap s2 scope).get? b = some u := fun b u e => pushCells_keeps _ _ b u (Heap.get?_push_of_some _ (Heap.get?_push_of_some _ e))
  have hC : (accHeap s2).objs.size = s2.heap.objs.size + 1 := Heap.size_push ..
  obtain ⟨hg, ht, he⟩ := hb (accHeap s2).objs.size s2 H2 fp
  have stat : ∀ {H' : Hp}, (∀ b ∈ fp, H' b = none) → ∀ b ∈ fp, FpOk (compX X scope (accHeap s2).objs.size s2 H2 fp) [] H' b := fun hn b hb =>
    ⟨hn b hb, (J0.ok.exf b hb).1, J0.ok.exfs b hb, .inl hb, (J0.ok.exf b hb).2, fun p hp => (nomatch hp)⟩
  have st4 : tn 0 (blockHeap s2 scope) := T.keep _ _ _ st2 fun b _ o e => hk b o e
  have fr4 : ∀ b ∈ fp, upd H2 s2.heap.objs.size (.lst []) b = none := fun b hb => by
    obtain ⟨o, e⟩ := hobj b hb
    rw [upd_ne (Nat.ne_of_lt (Heap.lt_size e))]
    exact (f2 b hb).1
  have loop : codeAny (model X.prog X.w) X.A (.compLoop (.ListComp elt [⟨tg, iter, ifs, 0⟩] scope pos) 0 (.ref it) (.ref s2.heap.objs.size) (compX X scope (accHeap s2).objs.size s2 H2 fp).env)
      (compPost (model X.prog X.w) X.A X.xe use Qr (.ref s2.heap.objs.size) (accHeap s2).objs.size) { s2 with heap := blockHeap s2 scope } := by
    refine compLoop_own (fun n s' => ∃ i H', Inv (compX X scope (accHeap s2).objs.size s2 H2 fp) [] (blank is σ) H' s' ∧ tn i s'.heap ∧ (∀ b ∈ fp, H' b = none) ∧ W i n H') ?_ m0 ⟨0, _, J0, st4, fr4, w0⟩
    rintro n s3 ⟨i, H3, I3, st3, fr3, w3⟩
    rcases turn i n H3 w3 with ⟨stop, qn⟩ | ⟨go, step⟩
    · refine thn (T.done (compX X scope (accHeap s2).objs.size s2 H2 fp) rfl rfl rfl hc i [] s3 _ H3 (fun _ _ => False) I3 (stat fr3) st3 stop) fun r s4 ⟨hr, I4⟩ => ?_
      subst hr
      obtain ⟨m, hn, _⟩ := I4.loc
      have hlt : ∀ {b : Addr} {o : Obj}, s2.heap.get? b = some o → b ≠ (accHeap s2).objs.size := fun e => by
        rw [hC]; exact lt_ne1 (Heap.lt_size e)
      refine fin s2.heap.objs.size (accHeap s2).objs.size H3 s4 (comp_done I2 f2 I4) ⟨m, hn⟩ ?_ qn
      refine ⟨I4.free, ?_, I2.nofs (by rw [hC]; exact Nat.le_succ _), .inr (Nat.le_trans I2.sz (by rw [hC]; exact Nat.le_succ _)), fun x c e z => ?_, fun p hp => ?_⟩
      · rw [hC]; exact (lt_ne1 I2.lt).symm
      · obtain ⟨v, q⟩ := I2.cell x c e
        rw [hC] at z
        exact lt_ne1 q.lt z
      · exact hlt (I2.pin p hp).1
    · refine thn (T.item (compX X scope (accHeap s2).objs.size s2 H2 fp) rfl rfl rfl hc i [] s3 _ H3 (fun _ _ => False) I3 (stat fr3) st3 go) fun r s4 ⟨u, hr, h4⟩ => ?_
      subst hr
      refine thn h4 fun _ s5 ⟨x, H5, I5, r5, y5, st5, fr5⟩ => ?_
      have I5' := I5.pinned (stat fr5) (T.obj _ _ st5)
      refine thn (hg _ s5 _ H5 x u _ I5' r5 (step x H5 y5)) fun _ s6 ⟨σ6, H6, I6, wk6, q6⟩ => ?_
      refine thn (ht _ s6 σ6 H6 _ I6 q6) fun ok s7 ⟨H7, I7, q7⟩ => ?_
      have again : ∀ {H8 : Hp} {s8 : Shared}, Inv (compX X scope (accHeap s2).objs.size s2 H2 fp) ([] ++ pinsAt fp s5.heap) σ6 H8 s8 → (∃ m', m' < n ∧ W (i + 1) m' H8) →
          ∃ m, m < n ∧ ∃ i H', Inv (compX X scope (accHeap s2).objs.size s2 H2 fp) [] (blank is σ) H' s8 ∧ tn i s8.heap ∧ (∀ b ∈ fp, H' b = none) ∧ W i m H' := fun {H8 s8} I8 hw => by
        obtain ⟨m', hm, w8⟩ := hw
        refine ⟨m', hm, i + 1, H8, I8.unpinned.weak wk6.1.symm wk6.2, T.keep _ _ _ st5 fun b hb o e => (I8.pin (b, o) (List.mem_append_right _ (List.mem_append_right _ (mem_pinsAt hb e)))).1, fun b hb => ?_, w8⟩
        obtain ⟨o, e, d⟩ := T.obj _ _ st5 b hb
        exact (I8.pin (b, o) (List.mem_append_right _ (List.mem_append_right _ (mem_pinsAt hb e)))).2.1
      cases ok with
      | false => exact again I7 q7
      | true =>
        refine thn (he _ s7 σ6 H7 _ I7 q7) fun y s8 ⟨v, H8, I8, r8, vs, e8, z8, q8⟩ => ?_
        refine thn (mt_append (X := compX X scope (accHeap s2).objs.size s2 H2 fp) _ s8 σ6 H8 (.ref s2.heap.objs.size) [v] (.ref s2.heap.objs.size) [y] (fun _ H9 => ∃ m', m' < n ∧ W (i + 1) m' H9) I8 rfl (.cons r8 .nil) ⟨_, vs, v, rfl, rfl, e8, z8, q8⟩) fun _ s9 ⟨_, H9, I9, _, q9⟩ => ?_
        exact again I9 q9
  exact codeAny_compStart_list loop (T.self _ 0 _ _ _ st4 loop)
theorem pe_lcomp (hc : X.calm = true) (S : CompScope X scope is) (hi : PI X tg iter wi)
    (hb : ∀ C s2 H2 fp, PG (compX X scope C s2 H2 fp) tg g ∧ PIfs (compX X scope C s2 H2 fp) ifs tt ∧ PE (compX X scope C s2 H2 fp) elt te)
    (hs : ∀ x, foldedSetIterable iter X.env x = pure x := by intro _; rfl) : PE X (.ListComp elt [⟨tg, iter, ifs, 0⟩] scope pos) (tComp wi is g tt te) := by
  intro pins s σ H Q I h
  rw [eval_ListComp]
  refine comp_core (use := none) (Qr := EP X pins σ Q) hc S hi hb hs I h fun D C H' s' I' ⟨m, hn⟩ f q => ?_
  exact ⟨m, hn, fun h' hsb => ⟨.ref D, H', I'.turned (t' := s'.toks) (fun b o hb e => hsb.extBut b o hb e) f.1 f.2.1 f.2.2.2.1 f.2.2.2.2.1 f.2.2.2.2.2, rfl, q⟩⟩
theorem ps_setComp {j : Nat} {y : Str} {py spos : Pos} (hc : X.calm = true) (S : CompScope X scope is) (hi : PI X tg iter wi)
    (hb : ∀ C s2 H2 fp, PG (compX X scope C s2 H2 fp) tg g ∧ PIfs (compX X scope C s2 H2 fp) ifs tt ∧ PE (compX X scope C s2 H2 fp) elt te)
    (hN : X.N.Nodup) (hj : X.N[j]? = some y) (hy : X.env.scope.names.lookup y = some .local)
    (hsw : swapsWith (.ListComp elt [⟨tg, iter, ifs, 0⟩] scope pos) (some (.Name y py)) spos.line X.env = pure true)
    (hs : ∀ x, foldedSetIterable iter X.env x = pure x := by intro _; rfl) :
    PS X (.Assign [.Name y py] (.ListComp elt [⟨tg, iter, ifs, 0⟩] scope pos) spos) (tAsg (tComp wi is g tt te) (gName j)) := by
  intro pins s σ H D I h
  rw [exec_Assign_Name_used _ _ _ _ hsw]
  refine wpAny_bind (wpAny_standAt (wpAny_bind ?_))
  show wpAny _ _ (do let _ ← comprehension (.ListComp elt [⟨tg, iter, ifs, 0⟩] scope pos) scope X.env _ (newList []) false (eval iter X.env) (some (assign (.Name y py) X.env))) _ _ s
  refine wpAny_bind (wpAny_mono (comp_core (use := some (assign (.Name y py) X.env)) (Qr := fun _ s' => SP X pins D .next s') hc S hi hb hs I h fun A C H' s' I' hn f q => ?_) (fun _ s' hq => wpAny_pure (wpAny_pure hq)) fun _ _ e => e)
  obtain ⟨m, hn⟩ := hn
  show wpAny _ _ (assign (.Name y py) X.env (.ref A)) _ _ _
  obtain ⟨oC, es, ep, hoC, hdC, hrest⟩ := id hn
  have I'' := I'.pinned (fp := [C]) (fun b hb => by
    have e : b = C := by simpa using hb
    subst e; exact f) (fun b hb => by
    have e : b = C := by simpa using hb
    subst e
    exact ⟨oC, hoC, fun v z => by rw [hdC] at z; cases z⟩)
  refine wpAny_assign_Name (store_ok I'' hN hj (.inl hy) (v := .ref A) rfl (fun s'' J => ?_) (.inr hy))
  have hC : s''.heap.get? C = some oC := (J.pin (C, oC) (List.mem_append_right _ (List.mem_append_right _ (mem_pinsAt (by simp) hoC)))).1
  refine ⟨m, ⟨oC, es, ep, hC, hdC, hrest⟩, fun h' hsb => ⟨_, H', J.unpinned.turned (t' := s''.toks) (fun b o hb e => hsb.extBut b o hb e) f.1 f.2.1 f.2.2.2.1 f.2.2.2.2.1 f.2.2.2.2.2, q⟩⟩
end
end L2
end
section
namespace L2
open PySem PySem.Spec PyProof.Rows
noncomputable def scr (ns : List Int) : PyData := .dict [(.none, .list (ns.map PyData.int))]
theorem scr_inj {ns ms : List Int} (h : scr ns = scr ms) : ns = ms := by
  have h' : (ns.map PyData.int) = ms.map PyData.int := by
    injection h with h1
    injection h1 with h2 _
    injection h2 with _ h3
    injection h3
  induction ns generalizing ms with
  | nil => cases ms with
    | nil => rfl
    | cons _ _ => cases h'
  | cons n r ih => cases ms with
    | nil => cases h'
    | cons m r' =>
      rw [List.map_cons, List.map_cons] at h'
      injection h' with h1 h2
      injection h1 with h3
      subst h3
      rw [ih (by unfold scr; rw [h2]) h2]
noncomputable def ScL (K : PySem.W.Frag) (H : Hp) (a : Addr) (xs : List V) : Prop :=
  (∃ o, H a = some (.frz o (.lst xs))) ∨
    ∃ (o : Obj) (its : Array Value) (n : Nat), K.lookup a = some o ∧ o.cls = .type "list" ∧ o.dict = none ∧ o.data = .seq its n ∧ its.size ≤ sizeLine ∧ Vals xs its.toList
theorem ScL.sq {K : PySem.W.Frag} {H : Hp} {a : Addr} {vs : List V} (h : ScL K H a vs) : SqL K H a vs := h.imp .inr id
noncomputable def keyOf : PyData → Option Key
  | .int n => some (.inl n)
  | .str x => some (.inr x)
  | _ => none
noncomputable def excD (C : Addr) : PyData := .dict [(.list [], .int (C : Nat))]
noncomputable def holeD (a : Addr) : PyData := .dict [(.bool false, .int (a : Nat))]
noncomputable def mdD (kvs : List (PyData × PyData)) : PyData := .dict ((.tuple [], .none) :: kvs)
noncomputable def insD (C : Addr) (fs : List (PyData × PyData)) : PyData := .dict ((.tuple [], .int (C : Nat)) :: fs)
noncomputable def keyD : Key → PyData
  | .inl n => .int n
  | .inr x => .str x
noncomputable def setD (ks : List (List Key)) : PyData := .dict [(.bool true, .list (ks.map fun k => .tuple (k.map keyD)))]
theorem keyD_inj {a b : Key} (h : keyD a = keyD b) : a = b := by
  cases a <;> cases b <;> simp [keyD] at h <;> rw [h]
theorem setD_inj {ks ls : List (List Key)} (h : setD ks = setD ls) : ks = ls := by
  unfold setD at h
  simp only [PyData.dict.injEq, List.cons.injEq, Prod.mk.injEq, PyData.list.injEq, true_and, and_true] at h
  refine List.map_inj_right (f := fun k : List Key => PyData.tuple (k.map keyD)) (fun a b z => ?_) |>.mp h
  simp only [PyData.tuple.injEq] at z
  exact List.map_inj_right (f := keyD) (fun a b y => keyD_inj y) |>.mp z
noncomputable def MutO : HO → Prop
  | .lst _ => True
  | .dK _ => True
  | .dT _ => True
  | .ins _ _ _ => True
  | _ => False
noncomputable def xcP (a C : Addr) : Heap → Prop := fun h => ∃ oe, h.get? a = some oe ∧ oe.cls = .ref C
mutual
noncomputable def Rep (K : PySem.W.Frag) (A : Addr → Prop) (H : Hp) : PyData → V → Prop
  | .none, v => v = .non
  | .bool b, v => v = .bl b
  | .int i, v => v = .int i
  | .str x, v => v = .str x
  | .list xs, v => ∃ a vs, v = .ref a ∧ ¬ A a ∧ H a = some (.lst vs) ∧ Reps K A H xs vs
  | .tuple xs, v => ∃ a vs, v = .ref a ∧ H a = some (.tup vs) ∧ Reps K A H xs vs
  | .dict kvs, v => (∃ a ns, v = .ref a ∧ PyData.dict kvs = scr ns ∧ ScL K H a (ns.map V.int)) ∨ (∃ a us o, v = .ref a ∧ H a = some (.frz o (.dK us)) ∧ RepsK K A H kvs us) ∨ (∃ a C o, v = .ref a ∧ PyData.dict kvs = excD C ∧ H a = some (.frz o (.ext (xcP a C)))) ∨
      (∃ a, v = .ref a ∧ PyData.dict kvs = holeD a) ∨ (∃ a us, v = .ref a ∧ kvs.head? = some (.tuple [], .none) ∧ ¬ A a ∧ H a = some (.dK us) ∧ RepsT K A H kvs us) ∨
      (∃ a C dx us, v = .ref a ∧ kvs.head? = some (.tuple [], .int ((C : Nat) : Int)) ∧ ¬ A a ∧ H a = some (.ins C dx us) ∧ RepsT K A H kvs (us.map fun p => (.inr p.1, p.2))) ∨
      (∃ a ks, v = .ref a ∧ PyData.dict kvs = setD ks ∧ ¬ A a ∧ H a = some (.dT (ks.map fun k => (k, .bl true))))
noncomputable def Reps (K : PySem.W.Frag) (A : Addr → Prop) (H : Hp) : List PyData → List V → Prop
  | [], vs => vs = []
  | x :: xs, vs => ∃ v r, vs = v :: r ∧ Rep K A H x v ∧ Reps K A H xs r
noncomputable def RepsK (K : PySem.W.Frag) (A : Addr → Prop) (H : Hp) : List (PyData × PyData) → List (Key × V) → Prop
  | [], us => us = []
  | p :: r, us => ∃ κ v us', us = (κ, v) :: us' ∧ keyOf p.1 = some κ ∧ RepP K A H p v ∧ RepsK K A H r us'
noncomputable def RepsT (K : PySem.W.Frag) (A : Addr → Prop) (H : Hp) : List (PyData × PyData) → List (Key × V) → Prop
  | [], _ => False
  | _ :: r, us => RepsK K A H r us
noncomputable def RepP (K : PySem.W.Frag) (A : Addr → Prop) (H : Hp) : PyData × PyData → V → Prop
  | (_, x), v => Rep K A H x v
end
variable {K : PySem.W.Frag} {A A' : Addr → Prop} {H H' : Hp}
structure Kp (A A' : Addr → Prop) (H H' : Hp) : Prop where
  l : ∀ a u, ¬ A a → MutO u → H a = some u → ¬ A' a ∧ H' a = some u
  t : ∀ a vs, H a = some (.tup vs) → H' a = some (.tup vs)
  f : ∀ a o u, H a = some (.frz o u) → H' a = some (.frz o u)
mutual
theorem Rep.kp (k : Kp A A' H H') : ∀ (d : PyData) (v : V), Rep K A H d v → Rep K A' H' d v
  | .none, _, h => h
  | .bool _, _, h => h
  | .int _, _, h => h
  | .str _, _, h => h
  | .list xs, _, h => by
    obtain ⟨a, vs, h1, h2, h3, h4⟩ := h
    exact ⟨a, vs, h1, (k.l a (.lst vs) h2 trivial h3).1, (k.l a (.lst vs) h2 trivial h3).2, Reps.kp k xs vs h4⟩
  | .tuple xs, _, h => by
    obtain ⟨a, vs, h1, h3, h4⟩ := h
    exact ⟨a, vs, h1, k.t a vs h3, Reps.kp k xs vs h4⟩
  | .dict kvs, _, h => by
    rcases h with ⟨a, ns, h1, h2, h3⟩ | ⟨a, us, o, h1, h3, h4⟩ | ⟨a, C, o, h1, h2, h3⟩ | ⟨a, h1, h2⟩ | ⟨a, us, h1, h2, h3, h4, h5⟩ | ⟨a, C, dx, us, h1, h2, h3, h4, h5⟩ | ⟨a, ks, h1, h2, h3, h4⟩
    · exact .inl ⟨a, ns, h1, h2, h3.imp (fun ⟨o, z⟩ => ⟨o, k.f _ _ _ z⟩) id⟩
    · exact .inr (.inl ⟨a, us, o, h1, k.f _ _ _ h3, RepsK.kp k kvs us h4⟩)
    · exact .inr (.inr (.inl ⟨a, C, o, h1, h2, k.f _ _ _ h3⟩))
    · exact .inr (.inr (.inr (.inl ⟨a, h1, h2⟩)))
    · exact .inr (.inr (.inr (.inr (.inl ⟨a, us, h1, h2, (k.l a (.dK us) h3 trivial h4).1, (k.l a (.dK us) h3 trivial h4).2, RepsT.kp k kvs us h5⟩))))
    · exact .inr (.inr (.inr (.inr (.inr (.inl ⟨a, C, dx, us, h1, h2, (k.l a (.ins C dx us) h3 trivial h4).1, (k.l a (.ins C dx us) h3 trivial h4).2, RepsT.kp k kvs _ h5⟩)))))
    · exact .inr (.inr (.inr (.inr (.inr (.inr ⟨a, ks, h1, h2, (k.l a (.dT _) h3 trivial h4).1, (k.l a (.dT _) h3 trivial h4).2⟩)))))
theorem Reps.kp (k : Kp A A' H H') : ∀ (ds : List PyData) (vs : List V), Reps K A H ds vs → Reps K A' H' ds vs
  | [], _, h => h
  | x :: xs, _, h => by
    obtain ⟨v, r, h1, h2, h3⟩ := h
    exact ⟨v, r, h1, Rep.kp k x v h2, Reps.kp k xs r h3⟩
theorem RepsK.kp (k : Kp A A' H H') : ∀ (ds : List (PyData × PyData)) (us : List (Key × V)), RepsK K A H ds us → RepsK K A' H' ds us
  | [], _, h => h
  | p :: r, _, h => by
    obtain ⟨κ, v, us', h1, h2, h3, h4⟩ := h
    exact ⟨κ, v, us', h1, h2, RepP.kp k p v h3, RepsK.kp k r us' h4⟩
theorem RepsT.kp (k : Kp A A' H H') : ∀ (ds : List (PyData × PyData)) (us : List (Key × V)), RepsT K A H ds us → RepsT K A' H' ds us
  | [], _, h => h
  | _ :: r, us, h => RepsK.kp k r us h
theorem RepP.kp (k : Kp A A' H H') : ∀ (p : PyData × PyData) (v : V), RepP K A H p v → RepP K A' H' p v
  | (_, x), v, h => Rep.kp k x v h
end
theorem Kp.mono (e : Same H H') : Kp A A H H' := ⟨fun a _ h _ q => ⟨h, e a _ q⟩, fun a _ q => e a _ q, fun a _ _ q => e a _ q⟩
theorem Kp.avoid (e : ∀ a, A' a → A a) : Kp A A' H H := ⟨fun a _ h _ q => ⟨fun z => h (e a z), q⟩, fun a _ q => q, fun a _ _ q => q⟩
theorem Kp.upd {a : Addr} {o u : HO} (hA : A a) (ha : H a = some u) (hm : MutO u) : Kp A A H (L2.upd H a o) :=
  ⟨fun b _ h _ q => ⟨h, by rw [upd_ne (fun z : b = a => h (z ▸ hA))]; exact q⟩,
    fun b _ q => by rw [upd_ne (fun z : b = a => by rw [z, ha] at q; cases q; exact hm)]; exact q, fun b _ _ q => by rw [upd_ne (fun z : b = a => by rw [z, ha] at q; cases q; exact hm)]; exact q⟩
theorem Kp.fresh {a : Addr} (hn : H a = none) : Kp A (fun b => A b ∨ b = a) H H :=
  ⟨fun b _ h _ q => ⟨fun z => z.elim h fun y => (by rw [y, hn] at q; cases q), q⟩, fun a _ q => q, fun a _ _ q => q⟩
theorem Rep.mono (e : Same H H') : ∀ (d : PyData) (v : V), Rep K A H d v → Rep K A H' d v := Rep.kp (.mono e)
theorem Reps.mono (e : Same H H') : ∀ (d : List PyData) (v : List V), Reps K A H d v → Reps K A H' d v := Reps.kp (.mono e)
theorem Rep.avoid (e : ∀ a, A' a → A a) : ∀ (d : PyData) (v : V), Rep K A H d v → Rep K A' H d v := Rep.kp (.avoid e)
theorem Reps.avoid (e : ∀ a, A' a → A a) : ∀ (d : List PyData) (v : List V), Reps K A H d v → Reps K A' H d v := Reps.kp (.avoid e)
theorem Reps.upd {a : Addr} {o u : HO} (hA : A a) (ha : H a = some u) (hm : MutO u := by trivial) : ∀ (d : List PyData) (v : List V), Reps K A H d v → Reps K A (L2.upd H a o) d v := Reps.kp (.upd hA ha hm)
theorem Rep.fresh {a : Addr} (hn : H a = none) : ∀ (d : PyData) (v : V), Rep K A H d v → Rep K (fun b => A b ∨ b = a) H d v := Rep.kp (.fresh hn)
theorem Reps.fresh {a : Addr} (hn : H a = none) : ∀ (d : List PyData) (v : List V), Reps K A H d v → Reps K (fun b => A b ∨ b = a) H d v := Reps.kp (.fresh hn)
theorem Rep.up {d : PyData} {v : V} (h : Rep K A H d v) (e : Same H H') : Rep K A H' d v := Rep.mono e d v h
theorem Reps.up {d : List PyData} {v : List V} (h : Reps K A H d v) (e : Same H H') : Reps K A H' d v := Reps.mono e d v h
theorem Rep.av {d : PyData} {v : V} (h : Rep K A H d v) (e : ∀ a, A' a → A a) : Rep K A' H d v := Rep.avoid e d v h
theorem Reps.av {d : List PyData} {v : List V} (h : Reps K A H d v) (e : ∀ a, A' a → A a) : Reps K A' H d v := Reps.avoid e d v h
theorem Reps.length : ∀ {ds : List PyData} {vs : List V}, Reps K A H ds vs → ds.length = vs.length
  | [], _, h => by cases h; rfl
  | x :: xs, _, h => by
    obtain ⟨v, r, rfl, h2, h3⟩ := h
    rw [List.length_cons, List.length_cons, Reps.length h3]
theorem Reps.get : ∀ {ds : List PyData} {vs : List V} {i : Nat} {v : V}, Reps K A H ds vs → vs[i]? = some v → ∃ d, ds[i]? = some d ∧ Rep K A H d v
  | [], _, _, _, h, e => by cases h; cases e
  | x :: xs, _, i, v, h, e => by
    obtain ⟨w, r, rfl, h2, h3⟩ := h
    cases i with
    | zero => cases e; exact ⟨x, rfl, h2⟩
    | succ i => exact Reps.get (i := i) h3 (by simpa using e)
theorem Reps.at : ∀ {ds : List PyData} {vs : List V} {i : Nat} {d : PyData}, Reps K A H ds vs → ds[i]? = some d → ∃ v, vs[i]? = some v ∧ Rep K A H d v
  | [], _, _, _, h, e => by cases e
  | x :: xs, _, i, d, h, e => by
    obtain ⟨w, r, rfl, h2, h3⟩ := h
    cases i with
    | zero => cases e; exact ⟨w, rfl, h2⟩
    | succ i => exact Reps.at (i := i) h3 (by simpa using e)
theorem Reps.append : ∀ {ds es : List PyData} {vs ws : List V}, Reps K A H ds vs → Reps K A H es ws → Reps K A H (ds ++ es) (vs ++ ws)
  | [], _, _, _, h, h' => by cases h; exact h'
  | x :: xs, _, _, _, h, h' => by
    obtain ⟨v, r, rfl, h2, h3⟩ := h
    exact ⟨v, _, rfl, h2, Reps.append h3 h'⟩
theorem Reps.one {d : PyData} {v : V} (h : Rep K A H d v) : Reps K A H [d] [v] := ⟨v, [], rfl, h, rfl⟩
noncomputable def iD (ns : List Int) : List PyData := ns.map .int
theorem Reps.iD : ∀ (ns : List Int), Reps K A H (L2.iD ns) (ns.map V.int)
  | [] => rfl
  | n :: r => ⟨_, _, rfl, rfl, Reps.iD r⟩
theorem Reps.iD_eq : ∀ {ns : List Int} {vs : List V}, Reps K A H (L2.iD ns) vs → vs = ns.map V.int
  | [], _, h => h
  | n :: r, _, h => by
    obtain ⟨v, s, rfl, h2, h3⟩ := h
    rw [Reps.iD_eq h3, h2]; rfl
section
variable {X : Cx} {pins : List (Addr × Obj)} {σ : St} {s : Shared}
mutual
theorem rep_reads (I : Inv X pins σ H s) : ∀ (d : PyData) (v : V) (u : Value), d.canLay0 = true → Rep X.K A H d v → RelV v u → ∃ as, Reads s.heap u d as
  | .none, _, _, _, h, r => by cases h; cases r; exact ⟨_, .none⟩
  | .bool _, _, _, _, h, r => by cases h; cases r; exact ⟨_, .bool _⟩
  | .int _, _, _, _, h, r => by cases h; obtain ⟨t, rfl⟩ := r; exact ⟨_, .int _ _⟩
  | .str _, _, _, _, h, r => by cases h; obtain ⟨t, rfl⟩ := r; exact ⟨_, .str _ _⟩
  | .list xs, _, _, c, h, r => by
    obtain ⟨a, vs, rfl, _, h3, h4⟩ := h
    cases r
    obtain ⟨its, rv, ⟨o, n, e, hc, hd, hs⟩, _⟩ := I.list (SqL.of h3)
    obtain ⟨as, q⟩ := reps_reads I xs vs its c h4 rv
    exact ⟨_, .list e hc hs (by simpa using q)⟩
  | .tuple xs, _, _, c, h, r => by
    obtain ⟨a, vs, rfl, h3, h4⟩ := h
    cases r
    obtain ⟨its, rv, ⟨o, e, hc, n, hs⟩, _⟩ := I.tuple (SqT.of h3)
    obtain ⟨as, q⟩ := reps_reads I xs vs its c h4 rv
    exact ⟨_, .tuple e hc hs (by simpa using q)⟩
  | .dict _, _, _, c, _, _ => nomatch c
theorem reps_reads (I : Inv X pins σ H s) : ∀ (ds : List PyData) (vs : List V) (us : List Value), PyData.canLayAll0 ds = true → Reps X.K A H ds vs → Vals vs us → ∃ as, ReadsAll s.heap us ds as
  | [], _, _, _, h, r => by cases h; cases r; exact ⟨_, .nil⟩
  | x :: xs, _, _, c, h, r => by
    have c' : x.canLay0 = true ∧ PyData.canLayAll0 xs = true := by simpa [PyData.canLayAll0] using c
    obtain ⟨v, w, rfl, h2, h3⟩ := h
    cases r with
    | cons r1 r2 =>
      obtain ⟨as, q⟩ := rep_reads I x v _ c'.1 h2 r1
      obtain ⟨bs, q'⟩ := reps_reads I xs w _ c'.2 h3 r2
      exact ⟨_, .cons q q'⟩
end
end
inductive OT where
  | sh (d : PyData)
  | l (xs : List OT)
  | t (xs : List OT)
  | d (kvs : List (PyData × OT))
  /-- a dict whose keys are tuples, each with True -/
  | e (ks : List (List Key))
  /-- an instance of the class at C, its attributes -/
  | o (C : Addr) (fs : List (Str × OT))
inductive Cont where
  | l (xs : List PyData)
  | d (kvs : List (PyData × PyData))
  | n (t : OT)
inductive Ent where
  | no
  | sh (d : PyData)
  /-- a thing that no one else holds: it may be written; where it stands, if that is asked -/
  | own (oa : Option Addr) (c : Cont)
noncomputable abbrev Ent.ow (xs : List PyData) : Ent := .own none (.l xs)
noncomputable abbrev Dn := List Ent
mutual
noncomputable def RepO (K : PySem.W.Frag) (A : Addr → Prop) (H : Hp) : OT → V → List Addr → Prop
  | .sh d, v, as => as = [] ∧ Rep K A H d v
  | .l xs, v, as => ∃ a vs bs, v = .ref a ∧ as = a :: bs ∧ H a = some (.lst vs) ∧ RepOs K A H xs vs bs
  | .t xs, v, as => ∃ a vs, v = .ref a ∧ H a = some (.tup vs) ∧ RepOs K A H xs vs as
  | .d kvs, v, as => ∃ a us bs, v = .ref a ∧ as = a :: bs ∧ H a = some (.dK us) ∧ RepOK K A H kvs us bs
  | .e ks, v, as => ∃ a, v = .ref a ∧ as = [a] ∧ H a = some (.dT (ks.map fun k => (k, .bl true)))
  | .o C fs, v, as => ∃ a dx us bs, v = .ref a ∧ as = a :: bs ∧ H a = some (.ins C dx us) ∧ RepOF K A H fs us bs
noncomputable def RepOs (K : PySem.W.Frag) (A : Addr → Prop) (H : Hp) : List OT → List V → List Addr → Prop
  | [], vs, as => vs = [] ∧ as = []
  | x :: xs, vs, as => ∃ v r bs cs, vs = v :: r ∧ as = bs ++ cs ∧ RepO K A H x v bs ∧ RepOs K A H xs r cs
noncomputable def RepOK (K : PySem.W.Frag) (A : Addr → Prop) (H : Hp) : List (PyData × OT) → List (Key × V) → List Addr → Prop
  | [], us, as => us = [] ∧ as = []
  | p :: r, us, as => ∃ κ v us' bs cs, us = (κ, v) :: us' ∧ as = bs ++ cs ∧ keyOf p.1 = some κ ∧ RepOP K A H p v bs ∧ RepOK K A H r us' cs
noncomputable def RepOP (K : PySem.W.Frag) (A : Addr → Prop) (H : Hp) : PyData × OT → V → List Addr → Prop
  | (_, x), v, as => RepO K A H x v as
noncomputable def RepOF (K : PySem.W.Frag) (A : Addr → Prop) (H : Hp) : List (Str × OT) → List (Str × V) → List Addr → Prop
  | [], us, as => us = [] ∧ as = []
  | p :: r, us, as => ∃ v us' bs cs, us = (p.1, v) :: us' ∧ as = bs ++ cs ∧ RepOG K A H p v bs ∧ RepOF K A H r us' cs
noncomputable def RepOG (K : PySem.W.Frag) (A : Addr → Prop) (H : Hp) : Str × OT → V → List Addr → Prop
  | (_, x), v, as => RepO K A H x v as
end
mutual
theorem RepO.kp (k : Kp A A' H H') : ∀ (t : OT) (v : V) (as : List Addr), (∀ a ∈ as, ∀ o, H a = some o → H' a = some o) → RepO K A H t v as → RepO K A' H' t v as
  | .sh d, v, as, _, h => ⟨h.1, Rep.kp k d v h.2⟩
  | .l xs, _, _, q, h => by
    obtain ⟨a, vs, bs, h1, rfl, h3, h4⟩ := h
    exact ⟨a, vs, bs, h1, rfl, q a List.mem_cons_self _ h3, RepOs.kp k xs vs bs (fun b hb => q b (List.mem_cons_of_mem _ hb)) h4⟩
  | .t xs, _, _, q, h => by
    obtain ⟨a, vs, h1, h3, h4⟩ := h
    exact ⟨a, vs, h1, k.t a vs h3, RepOs.kp k xs vs _ q h4⟩
  | .d kvs, _, _, q, h => by
    obtain ⟨a, us, bs, h1, rfl, h3, h4⟩ := h
    exact ⟨a, us, bs, h1, rfl, q a List.mem_cons_self _ h3, RepOK.kp k kvs us bs (fun b hb => q b (List.mem_cons_of_mem _ hb)) h4⟩
  | .e ks, _, _, q, h => by
    obtain ⟨a, h1, rfl, h3⟩ := h
    exact ⟨a, h1, rfl, q a List.mem_cons_self _ h3⟩
  | .o C fs, _, _, q, h => by
    obtain ⟨a, dx, us, bs, h1, rfl, h3, h4⟩ := h
    exact ⟨a, dx, us, bs, h1, rfl, q a List.mem_cons_self _ h3, RepOF.kp k fs us bs (fun b hb => q b (List.mem_cons_of_mem _ hb)) h4⟩
theorem RepOs.kp (k : Kp A A' H H') : ∀ (ts : List OT) (vs : List V) (as : List Addr), (∀ a ∈ as, ∀ o, H a = some o → H' a = some o) → RepOs K A H ts vs as → RepOs K A' H' ts vs as
  | [], _, _, _, h => h
  | x :: xs, _, _, q, h => by
    obtain ⟨v, r, bs, cs, h1, rfl, h2, h3⟩ := h
    exact ⟨v, r, bs, cs, h1, rfl, RepO.kp k x v bs (fun a ha => q a (List.mem_append_left _ ha)) h2, RepOs.kp k xs r cs (fun a ha => q a (List.mem_append_right _ ha)) h3⟩
theorem RepOK.kp (k : Kp A A' H H') : ∀ (ts : List (PyData × OT)) (us : List (Key × V)) (as : List Addr), (∀ a ∈ as, ∀ o, H a = some o → H' a = some o) → RepOK K A H ts us as → RepOK K A' H' ts us as
  | [], _, _, _, h => h
  | p :: r, _, _, q, h => by
    obtain ⟨κ, v, us', bs, cs, h1, rfl, h2, h3, h4⟩ := h
    exact ⟨κ, v, us', bs, cs, h1, rfl, h2, RepOP.kp k p v bs (fun a ha => q a (List.mem_append_left _ ha)) h3, RepOK.kp k r us' cs (fun a ha => q a (List.mem_append_right _ ha)) h4⟩
theorem RepOP.kp (k : Kp A A' H H') : ∀ (p : PyData × OT) (v : V) (as : List Addr), (∀ a ∈ as, ∀ o, H a = some o → H' a = some o) → RepOP K A H p v as → RepOP K A' H' p v as
  | (_, x), v, as, q, h => RepO.kp k x v as q h
theorem RepOF.kp (k : Kp A A' H H') : ∀ (ts : List (Str × OT)) (us : List (Str × V)) (as : List Addr), (∀ a ∈ as, ∀ o, H a = some o → H' a = some o) → RepOF K A H ts us as → RepOF K A' H' ts us as
  | [], _, _, _, h => h
  | p :: r, _, _, q, h => by
    obtain ⟨v, us', bs, cs, h1, rfl, h3, h4⟩ := h
    exact ⟨v, us', bs, cs, h1, rfl, RepOG.kp k p v bs (fun a ha => q a (List.mem_append_left _ ha)) h3, RepOF.kp k r us' cs (fun a ha => q a (List.mem_append_right _ ha)) h4⟩
theorem RepOG.kp (k : Kp A A' H H') : ∀ (p : Str × OT) (v : V) (as : List Addr), (∀ a ∈ as, ∀ o, H a = some o → H' a = some o) → RepOG K A H p v as → RepOG K A' H' p v as
  | (_, x), v, as, q, h => RepO.kp k x v as q h
end
mutual
theorem RepO.muts : ∀ (t : OT) (v : V) (as : List Addr), RepO K A H t v as → ∀ a ∈ as, ∃ o, H a = some o ∧ MutO o
  | .sh d, v, as, h, a, ha => by rw [h.1] at ha; cases ha
  | .l xs, _, _, h, a, ha => by
    obtain ⟨b, vs, bs, h1, rfl, h3, h4⟩ := h
    rcases List.mem_cons.mp ha with rfl | ha
    · exact ⟨_, h3, trivial⟩
    · exact RepOs.muts xs vs bs h4 a ha
  | .t xs, _, _, h, a, ha => by
    obtain ⟨b, vs, h1, h3, h4⟩ := h
    exact RepOs.muts xs vs _ h4 a ha
  | .d kvs, _, _, h, a, ha => by
    obtain ⟨b, us, bs, h1, rfl, h3, h4⟩ := h
    rcases List.mem_cons.mp ha with rfl | ha
    · exact ⟨_, h3, trivial⟩
    · exact RepOK.muts kvs us bs h4 a ha
  | .e ks, _, _, h, a, ha => by
    obtain ⟨b, h1, rfl, h3⟩ := h
    rw [List.mem_singleton.mp ha]; exact ⟨_, h3, trivial⟩
  | .o C fs, _, _, h, a, ha => by
    obtain ⟨b, dx, us, bs, h1, rfl, h3, h4⟩ := h
    rcases List.mem_cons.mp ha with rfl | ha
    · exact ⟨_, h3, trivial⟩
    · exact RepOF.muts fs us bs h4 a ha
theorem RepOs.muts : ∀ (ts : List OT) (vs : List V) (as : List Addr), RepOs K A H ts vs as → ∀ a ∈ as, ∃ o, H a = some o ∧ MutO o
  | [], _, _, h, a, ha => by rw [h.2] at ha; cases ha
  | x :: xs, _, _, h, a, ha => by
    obtain ⟨v, r, bs, cs, h1, rfl, h2, h3⟩ := h
    rcases List.mem_append.mp ha with ha | ha
    · exact RepO.muts x v bs h2 a ha
    · exact RepOs.muts xs r cs h3 a ha
theorem RepOK.muts : ∀ (ts : List (PyData × OT)) (us : List (Key × V)) (as : List Addr), RepOK K A H ts us as → ∀ a ∈ as, ∃ o, H a = some o ∧ MutO o
  | [], _, _, h, a, ha => by rw [h.2] at ha; cases ha
  | p :: r, _, _, h, a, ha => by
    obtain ⟨κ, v, us', bs, cs, h1, rfl, h2, h3, h4⟩ := h
    rcases List.mem_append.mp ha with ha | ha
    · exact RepOP.muts p v bs h3 a ha
    · exact RepOK.muts r us' cs h4 a ha
theorem RepOP.muts : ∀ (p : PyData × OT) (v : V) (as : List Addr), RepOP K A H p v as → ∀ a ∈ as, ∃ o, H a = some o ∧ MutO o
  | (_, x), v, as, h, a, ha => RepO.muts x v as h a ha
theorem RepOF.muts : ∀ (ts : List (Str × OT)) (us : List (Str × V)) (as : List Addr), RepOF K A H ts us as → ∀ a ∈ as, ∃ o, H a = some o ∧ MutO o
  | [], _, _, h, a, ha => by rw [h.2] at ha; cases ha
  | p :: r, _, _, h, a, ha => by
    obtain ⟨v, us', bs, cs, h1, rfl, h3, h4⟩ := h
    rcases List.mem_append.mp ha with ha | ha
    · exact RepOG.muts p v bs h3 a ha
    · exact RepOF.muts r us' cs h4 a ha
theorem RepOG.muts : ∀ (p : Str × OT) (v : V) (as : List Addr), RepOG K A H p v as → ∀ a ∈ as, ∃ o, H a = some o ∧ MutO o
  | (_, x), v, as, h, a, ha => RepO.muts x v as h a ha
end
mutual
noncomputable def OT.dat : OT → Option PyData
  | .sh z => some z
  | .l xs => (OT.dats xs).map .list
  | .t xs => (OT.dats xs).map .tuple
  | .d kvs => (OT.datK kvs).map mdD
  | .e ks => some (setD ks)
  | .o C fs => (OT.datF fs).map (insD C)
noncomputable def OT.dats : List OT → Option (List PyData)
  | [] => some []
  | x :: xs => match OT.dat x, OT.dats xs with
    | some z, some zs => some (z :: zs)
    | _, _ => none
noncomputable def OT.datK : List (PyData × OT) → Option (List (PyData × PyData))
  | [] => some []
  | p :: r => match OT.datP p, OT.datK r with
    | some z, some zs => some ((p.1, z) :: zs)
    | _, _ => none
noncomputable def OT.datP : PyData × OT → Option PyData
  | (_, x) => OT.dat x
noncomputable def OT.datF : List (Str × OT) → Option (List (PyData × PyData))
  | [] => some []
  | p :: r => match OT.datG p, OT.datF r with
    | some z, some zs => some ((.str p.1, z) :: zs)
    | _, _ => none
noncomputable def OT.datG : Str × OT → Option PyData
  | (_, x) => OT.dat x
end
mutual
theorem RepO.rep : ∀ (t : OT) (d : PyData) (v : V) (as : List Addr), t.dat = some d → RepO K A H t v as → (∀ a ∈ as, ¬ A a) → Rep K A H d v
  | .sh _, d, v, as, e, h, _ => by cases e; exact h.2
  | .l xs, d, v, as, e, h, na => by
    rw [OT.dat] at e
    obtain ⟨ds, e1, rfl⟩ := Option.map_eq_some_iff.mp e
    obtain ⟨a, vs, bs, rfl, rfl, h3, h4⟩ := h
    exact ⟨a, vs, rfl, na a List.mem_cons_self, h3, RepOs.rep xs ds vs bs e1 h4 fun b hb => na b (List.mem_cons_of_mem _ hb)⟩
  | .t xs, d, v, as, e, h, na => by
    rw [OT.dat] at e
    obtain ⟨ds, e1, rfl⟩ := Option.map_eq_some_iff.mp e
    obtain ⟨a, vs, rfl, h3, h4⟩ := h
    exact ⟨a, vs, rfl, h3, RepOs.rep xs ds vs as e1 h4 na⟩
  | .d kvs, d, v, as, e, h, na => by
    rw [OT.dat] at e
    obtain ⟨ds, e1, rfl⟩ := Option.map_eq_some_iff.mp e
    obtain ⟨a, us, bs, rfl, rfl, h3, h4⟩ := h
    exact .inr (.inr (.inr (.inr (.inl ⟨a, us, rfl, rfl, na a List.mem_cons_self, h3, RepOK.rep kvs ds us bs e1 h4 fun b hb => na b (List.mem_cons_of_mem _ hb)⟩))))
  | .e ks, d, v, as, e, h, na => by
    cases e
    obtain ⟨a, rfl, rfl, h3⟩ := h
    exact .inr (.inr (.inr (.inr (.inr (.inr ⟨a, ks, rfl, rfl, na a List.mem_cons_self, h3⟩)))))
  | .o C fs, d, v, as, e, h, na => by
    rw [OT.dat] at e
    obtain ⟨ds, e1, rfl⟩ := Option.map_eq_some_iff.mp e
    obtain ⟨a, dx, us, bs, rfl, rfl, h3, h4⟩ := h
    exact .inr (.inr (.inr (.inr (.inr (.inl ⟨a, C, dx, us, rfl, rfl, na a List.mem_cons_self, h3, RepOF.rep fs ds us bs e1 h4 fun b hb => na b (List.mem_cons_of_mem _ hb)⟩)))))
theorem RepOs.rep : ∀ (ts : List OT) (ds : List PyData) (vs : List V) (as : List Addr), OT.dats ts = some ds → RepOs K A H ts vs as → (∀ a ∈ as, ¬ A a) → Reps K A H ds vs
  | [], _, _, _, e, h, _ => by cases e; exact h.1
  | x :: xs, ds, vs, as, e, h, na => by
    obtain ⟨v, r, bs, cs, rfl, rfl, h2, h3⟩ := h
    rw [OT.dats] at e
    cases e1 : OT.dat x with
    | none => rw [e1] at e; cases e
    | some d =>
      cases e2 : OT.dats xs with
      | none => rw [e1, e2] at e; cases e
      | some es =>
        rw [e1, e2] at e
        cases e
        exact ⟨v, r, rfl, RepO.rep x d v bs e1 h2 fun a ha => na a (List.mem_append_left _ ha), RepOs.rep xs es r cs e2 h3 fun a ha => na a (List.mem_append_right _ ha)⟩
theorem RepOK.rep : ∀ (ts : List (PyData × OT)) (ds : List (PyData × PyData)) (us : List (Key × V)) (as : List Addr), OT.datK ts = some ds → RepOK K A H ts us as → (∀ a ∈ as, ¬ A a) → RepsK K A H ds us
  | [], _, _, _, e, h, _ => by cases e; exact h.1
  | p :: r, ds, vs, as, e, h, na => by
    obtain ⟨κ, v, us', bs, cs, rfl, rfl, h1, h2, h3⟩ := h
    rw [OT.datK] at e
    cases e1 : OT.datP p with
    | none => rw [e1] at e; cases e
    | some d =>
      cases e2 : OT.datK r with
      | none => rw [e1, e2] at e; cases e
      | some es =>
        rw [e1, e2] at e
        cases e
        exact ⟨κ, v, us', rfl, h1, RepOP.rep p d v bs e1 h2 fun a ha => na a (List.mem_append_left _ ha), RepOK.rep r es us' cs e2 h3 fun a ha => na a (List.mem_append_right _ ha)⟩
theorem RepOP.rep : ∀ (p : PyData × OT) (d : PyData) (v : V) (as : List Addr), OT.datP p = some d → RepOP K A H p v as → (∀ a ∈ as, ¬ A a) → Rep K A H d v
  | (_, x), d, v, as, e, h, na => RepO.rep x d v as e h na
theorem RepOF.rep : ∀ (ts : List (Str × OT)) (ds : List (PyData × PyData)) (us : List (Str × V)) (as : List Addr), OT.datF ts = some ds → RepOF K A H ts us as → (∀ a ∈ as, ¬ A a) → RepsK K A H ds (us.map fun p => (.inr p.1, p.2))
  | [], _, _, _, e, h, _ => by cases e; rw [h.1]; rfl
  | p :: r, ds, vs, as, e, h, na => by
    obtain ⟨v, us', bs, cs, rfl, rfl, h2, h3⟩ := h
    rw [OT.datF] at e
    cases e1 : OT.datG p with
    | none => rw [e1] at e; cases e
    | some d =>
      cases e2 : OT.datF r with
      | none => rw [e1, e2] at e; cases e
      | some es =>
        rw [e1, e2] at e
        cases e
        exact ⟨.inr p.1, v, _, rfl, rfl, RepOG.rep p d v bs e1 h2 fun a ha => na a (List.mem_append_left _ ha), RepOF.rep r es us' cs e2 h3 fun a ha => na a (List.mem_append_right _ ha)⟩
theorem RepOG.rep : ∀ (p : Str × OT) (d : PyData) (v : V) (as : List Addr), OT.datG p = some d → RepOG K A H p v as → (∀ a ∈ as, ¬ A a) → Rep K A H d v
  | (_, x), d, v, as, e, h, na => RepO.rep x d v as e h na
end
noncomputable def Cont.dat : Cont → Option PyData
  | .l xs => some (.list xs)
  | .d _ => none
  | .n t => t.dat
noncomputable def RepC (K : PySem.W.Frag) (A : Addr → Prop) (H : Hp) : Cont → V → List Addr → Prop
  | .l xs, v, as => ∃ a vs, v = .ref a ∧ as = [a] ∧ H a = some (.lst vs) ∧ Reps K A H xs vs
  | .d kvs, v, as => ∃ a us, v = .ref a ∧ as = [a] ∧ H a = some (.dK us) ∧ RepsK K A H kvs us
  | .n t, v, as => RepO K A H t v as
theorem RepC.muts {c : Cont} {v : V} {as : List Addr} (h : RepC K A H c v as) : ∀ a ∈ as, ∃ o, H a = some o ∧ MutO o := by
  intro b hb
  cases c with
  | l xs => obtain ⟨a, vs, _, rfl, h1, _⟩ := h; rw [List.mem_singleton.mp hb]; exact ⟨_, h1, trivial⟩
  | d kvs => obtain ⟨a, vs, _, rfl, h1, _⟩ := h; rw [List.mem_singleton.mp hb]; exact ⟨_, h1, trivial⟩
  | n t => exact RepO.muts t v as h b hb
theorem RepC.kp (k : Kp A A' H H') {c : Cont} {v : V} {as : List Addr} (q : ∀ a ∈ as, ∀ o, H a = some o → H' a = some o) (h : RepC K A H c v as) : RepC K A' H' c v as := by
  cases c with
  | l xs => obtain ⟨a, vs, e, rfl, h1, r⟩ := h; exact ⟨a, vs, e, rfl, q a List.mem_cons_self _ h1, Reps.kp k _ _ r⟩
  | d kvs => obtain ⟨a, vs, e, rfl, h1, r⟩ := h; exact ⟨a, vs, e, rfl, q a List.mem_cons_self _ h1, RepsK.kp k _ _ r⟩
  | n t => exact RepO.kp k t v as q h
theorem RepC.up {c : Cont} {v : V} {as : List Addr} (h : RepC K A H c v as) (e : Same H H') : RepC K A H' c v as := h.kp (.mono e) fun a _ o z => e a o z
theorem RepC.av {c : Cont} {v : V} {as : List Addr} (h : RepC K A H c v as) (e : ∀ a, A' a → A a) : RepC K A' H c v as := h.kp (.avoid e) fun _ _ _ z => z
theorem RepC.rep {c : Cont} {d : PyData} {v : V} {as : List Addr} (e : c.dat = some d) (h : RepC K A H c v as) (na : ∀ a ∈ as, ¬ A a) : Rep K A H d v := by
  cases c with
  | l xs => cases e; obtain ⟨a, vs, rfl, rfl, ha, r⟩ := h; exact ⟨a, vs, rfl, na a List.mem_cons_self, ha, r⟩
  | d kvs => cases e
  | n t => exact RepO.rep t d v as e h na
noncomputable def Av (own : Nat → List Addr) (B : Addr → Prop) : Addr → Prop := fun a => B a ∨ ∃ i, a ∈ own i
structure EnvO (K : PySem.W.Frag) (Hb : Hp) (own : Nat → List Addr) (B : Addr → Prop) (H : Hp) (σ : St) (δ : Dn) : Prop where
  base : Same Hb H
  len : σ.length = δ.length
  bb : ∀ a, B a → Hb a ≠ none
  ofr : ∀ i a, a ∈ own i → Hb a = none
  oex : ∀ (i : Nat) (a : Addr), a ∈ own i → ∃ oa c, δ[i]? = some (Ent.own oa c)
  ond : ∀ i, (own i).Nodup
  inj : ∀ i j a, a ∈ own i → a ∈ own j → i = j
  sh : ∀ (i : Nat) (d : PyData), δ[i]? = some (Ent.sh d) → ∃ v, σ[i]? = some (some v) ∧ Rep K (Av own B) H d v
  ow : ∀ (i : Nat) (oa : Option Addr) (c : Cont), δ[i]? = some (Ent.own oa c) → ∃ v, σ[i]? = some (some v) ∧ (∀ b, oa = some b → v = .ref b) ∧ RepC K (Av own B) H c v (own i)
section
variable {Hb : Hp} {own : Nat → List Addr} {B : Addr → Prop} {σ : St} {δ : Dn}
theorem EnvO.owl (E : EnvO K Hb own B H σ δ) {i : Nat} {oa : Option Addr} {xs : List PyData} (h : δ[i]? = some (Ent.own oa (.l xs))) : ∃ a vs, a ∈ own i ∧ σ[i]? = some (some (.ref a)) ∧ H a = some (.lst vs) ∧ Reps K (Av own B) H xs vs := by
  obtain ⟨v, h1, _, a, vs, rfl, h2, h3, h4⟩ := E.ow i oa _ h
  exact ⟨a, vs, by rw [h2]; simp, h1, h3, h4⟩
theorem EnvO.mono (E : EnvO K Hb own B H σ δ) (e : Same H H') : EnvO K Hb own B H' σ δ :=
  ⟨E.base.trans e, E.len, E.bb, E.ofr, E.oex, E.ond, E.inj, fun i d h => let ⟨v, h1, h2⟩ := E.sh i d h; ⟨v, h1, h2.up e⟩,
    fun i oa c h => let ⟨v, h1, h2, h3⟩ := E.ow i oa c h; ⟨v, h1, h2, h3.up e⟩⟩
theorem EnvO.muts (E : EnvO K Hb own B H σ δ) : ∀ i a, a ∈ own i → ∃ o, H a = some o ∧ MutO o := fun i a h => by
  obtain ⟨oa, c, q⟩ := E.oex i a h
  obtain ⟨v, _, _, h4⟩ := E.ow i oa c q
  exact h4.muts a h
theorem EnvO.alive (E : EnvO K Hb own B H σ δ) {a : Addr} (h : Av own B a) : H a ≠ none := by
  intro z
  rcases h with h | ⟨i, h⟩
  · exact E.bb a h (E.base.free z)
  · obtain ⟨o, e, _⟩ := E.muts i a h
    rw [z] at e; cases e
theorem EnvO.new (E : EnvO K Hb own B H σ δ) {a : Addr} (h : H a = none) : ¬ Av own B a := fun z => E.alive z h
noncomputable def unown (own : Nat → List Addr) (i : Nat) : Nat → List Addr := fun j => if j = i then [] else own j
theorem unown_some {own : Nat → List Addr} {i j : Nat} {a : Addr} (h : a ∈ unown own i j) : j ≠ i ∧ a ∈ own j := by
  unfold unown at h
  by_cases e : j = i
  · rw [if_pos e] at h; cases h
  · rw [if_neg e] at h; exact ⟨e, h⟩
theorem unown_ne {own : Nat → List Addr} {i j : Nat} (h : j ≠ i) : unown own i j = own j := if_neg h
theorem unown_nd {own : Nat → List Addr} (h : ∀ i, (own i).Nodup) (i : Nat) : ∀ j, (unown own i j).Nodup := fun j => by
  unfold unown
  split
  · exact List.nodup_nil
  · exact h j
theorem unown_av {own : Nat → List Addr} {B : Addr → Prop} {i : Nat} : ∀ a, Av (unown own i) B a → Av own B a := fun a h => by
  rcases h with h | ⟨j, h⟩
  · exact .inl h
  · exact .inr ⟨j, (unown_some h).2⟩
theorem EnvO.setSh (E : EnvO K Hb own B H σ δ) {i : Nat} {v : V} {d : PyData} (r : Rep K (Av own B) H d v) : EnvO K Hb (unown own i) B H (σ.set i (some v)) (δ.set i (.sh d)) := by
  refine ⟨E.base, by rw [List.length_set, List.length_set]; exact E.len, E.bb, fun j a h => E.ofr j a (unown_some h).2, fun j a h => ?_, unown_nd E.ond i, fun j k a h h' => E.inj j k a (unown_some h).2 (unown_some h').2, fun j e h => ?_, fun j oa c h => ?_⟩
  · obtain ⟨oa, c, q⟩ := E.oex j a (unown_some h).2
    exact ⟨oa, c, by rw [List.getElem?_set_ne (Ne.symm (unown_some h).1)]; exact q⟩
  · by_cases ji : j = i
    · subst ji
      by_cases hl : j < δ.length
      · rw [List.getElem?_set_self hl] at h
        cases h
        exact ⟨v, by rw [List.getElem?_set_self (by rw [E.len]; exact hl)], r.av unown_av⟩
      · rw [List.getElem?_eq_none (by rw [List.length_set]; omega)] at h
        cases h
    · rw [List.getElem?_set_ne (Ne.symm ji)] at h
      obtain ⟨w, h1, h2⟩ := E.sh j e h
      exact ⟨w, by rw [List.getElem?_set_ne (Ne.symm ji)]; exact h1, h2.av unown_av⟩
  · by_cases ji : j = i
    · subst ji
      by_cases hl : j < δ.length
      · rw [List.getElem?_set_self hl] at h
        cases h
      · rw [List.getElem?_eq_none (by rw [List.length_set]; omega)] at h
        cases h
    · rw [List.getElem?_set_ne (Ne.symm ji)] at h
      obtain ⟨v, h1, h2, h3⟩ := E.ow j oa c h
      exact ⟨v, by rw [List.getElem?_set_ne (Ne.symm ji)]; exact h1, h2, by rw [unown_ne ji]; exact h3.av unown_av⟩
noncomputable def hold (own : Nat → List Addr) (i : Nat) (as : List Addr) : Nat → List Addr := fun j => if j = i then as else own j
theorem EnvO.setOwC {H0 : Hp} (E : EnvO K Hb own B H0 σ δ) (e : Same H0 H) {i : Nat} {v : V} {as : List Addr} {c : Cont} (hi : i < δ.length) (hn : ∀ a ∈ as, H0 a = none) (hnd : as.Nodup)
    (r : RepC K (fun b => Av own B b ∨ b ∈ as) H c v as) : EnvO K Hb (hold own i as) B H (σ.set i (some v)) (δ.set i (.own none c)) := by
  have av : ∀ b, Av (hold own i as) B b → Av own B b ∨ b ∈ as := fun b h => by
    rcases h with h | ⟨j, h⟩
    · exact .inl (.inl h)
    · unfold hold at h
      by_cases e : j = i
      · rw [if_pos e] at h; exact .inr h
      · rw [if_neg e] at h; exact .inl (.inr ⟨j, h⟩)
  have tk : ∀ j b, b ∈ hold own i as j → (j = i ∧ b ∈ as) ∨ (j ≠ i ∧ b ∈ own j) := fun j b h => by
    unfold hold at h
    by_cases e : j = i
    · rw [if_pos e] at h; exact .inl ⟨e, h⟩
    · rw [if_neg e] at h; exact .inr ⟨e, h⟩
  have nw : ∀ b ∈ as, ¬ Av own B b := fun b hb => E.new (hn b hb)
  have kf : Kp (Av own B) (fun b => Av own B b ∨ b ∈ as) H0 H0 := ⟨fun b _ h _ q => ⟨fun z => z.elim h fun y => (by rw [hn b y] at q; cases q), q⟩, fun a _ q => q, fun a _ _ q => q⟩
  refine ⟨E.base.trans e, by rw [List.length_set, List.length_set]; exact E.len, E.bb, fun j b h => ?_, fun j b h => ?_, fun j => ?_, fun j k b h h' => ?_, fun j d h => ?_, fun j oa' c' h => ?_⟩
  · rcases tk j b h with ⟨_, h⟩ | ⟨_, h⟩
    · exact E.base.free (hn b h)
    · exact E.ofr j b h
  · rcases tk j b h with ⟨rfl, _⟩ | ⟨ne, h⟩
    · exact ⟨none, c, by rw [List.getElem?_set_self hi]⟩
    · obtain ⟨oa, ys, q⟩ := E.oex j b h
      exact ⟨oa, ys, by rw [List.getElem?_set_ne (Ne.symm ne)]; exact q⟩
  · unfold hold
    split
    · exact hnd
    · exact E.ond j
  · rcases tk j b h with ⟨rfl, hb⟩ | ⟨ne, hj⟩
    · rcases tk k _ h' with ⟨rfl, _⟩ | ⟨ne', h'⟩
      · rfl
      · exact absurd (.inr ⟨k, h'⟩) (nw b hb)
    · rcases tk k _ h' with ⟨rfl, z⟩ | ⟨ne', h'⟩
      · exact absurd (.inr ⟨j, hj⟩) (nw b z)
      · exact E.inj j k b hj h'
  · by_cases ji : j = i
    · subst ji
      rw [List.getElem?_set_self hi] at h
      cases h
    · rw [List.getElem?_set_ne (Ne.symm ji)] at h
      obtain ⟨w, h1, h2⟩ := E.sh j d h
      exact ⟨w, by rw [List.getElem?_set_ne (Ne.symm ji)]; exact h1, ((Rep.kp kf _ _ h2).up e).av av⟩
  · by_cases ji : j = i
    · subst ji
      rw [List.getElem?_set_self hi] at h
      cases h
      exact ⟨v, by rw [List.getElem?_set_self (by rw [E.len]; exact hi)], fun _ z => (nomatch z), by unfold hold; rw [if_pos rfl]; exact r.av av⟩
    · rw [List.getElem?_set_ne (Ne.symm ji)] at h
      obtain ⟨w, h1, h2, h3⟩ := E.ow j oa' c' h
      exact ⟨w, by rw [List.getElem?_set_ne (Ne.symm ji)]; exact h1, h2, by unfold hold; rw [if_neg ji]; exact ((h3.kp kf fun _ _ _ z => z).up e).av av⟩
theorem EnvO.setOw {H0 : Hp} (E : EnvO K Hb own B H0 σ δ) (e : Same H0 H) {i : Nat} {a : Addr} {xs : List PyData} {vs : List V} (hi : i < δ.length) (hn : H0 a = none) (ha : H a = some (.lst vs))
    (r : Reps K (fun b => Av own B b ∨ b = a) H xs vs) : EnvO K Hb (hold own i [a]) B H (σ.set i (some (.ref a))) (δ.set i (.ow xs)) :=
  E.setOwC e (c := .l xs) hi (fun b hb => by rw [List.mem_singleton.mp hb]; exact hn) (by simp) ⟨a, vs, rfl, rfl, ha, r.av fun b h => h.imp id fun z => List.mem_singleton.mp z⟩
theorem EnvO.writeN (E : EnvO K Hb own B H σ δ) {i : Nat} {a : Addr} {oa : Option Addr} {c c' : Cont} {v : V} {o : HO} (hi : δ[i]? = some (.own oa c)) (hv : σ[i]? = some (some v)) (ho : a ∈ own i) (r : RepC K (Av own B) (L2.upd H a o) c' v (own i)) :
    EnvO K Hb own B (L2.upd H a o) σ (δ.set i (.own oa c')) := by
  obtain ⟨v', h1, h1', h4⟩ := E.ow i oa c hi
  rw [hv] at h1; cases h1
  have hA : Av own B a := .inr ⟨i, ho⟩
  obtain ⟨u, hu, hm⟩ := E.muts i a ho
  have hl : i < δ.length := (List.getElem?_eq_some_iff.mp hi).1
  have kp : Kp (Av own B) (Av own B) H (L2.upd H a o) := .upd hA hu hm
  refine ⟨fun b o q => ?_, by rw [List.length_set]; exact E.len, E.bb, E.ofr, fun j b h => ?_, E.ond, E.inj, fun j d h => ?_, fun j oa2 c2 h => ?_⟩
  · have ne : b ≠ a := fun z => by rw [z, E.ofr i a ho] at q; cases q
    rw [upd_ne ne]; exact E.base b o q
  · by_cases ji : j = i
    · subst ji; exact ⟨oa, c', by rw [List.getElem?_set_self hl]⟩
    · obtain ⟨oa2, c2, q⟩ := E.oex j b h
      exact ⟨oa2, c2, by rw [List.getElem?_set_ne (Ne.symm ji)]; exact q⟩
  · by_cases ji : j = i
    · subst ji
      rw [List.getElem?_set_self hl] at h
      cases h
    · rw [List.getElem?_set_ne (Ne.symm ji)] at h
      obtain ⟨w, k1, k2⟩ := E.sh j d h
      exact ⟨w, k1, Rep.kp kp d w k2⟩
  · by_cases ji : j = i
    · subst ji
      rw [List.getElem?_set_self hl] at h
      cases h
      exact ⟨v, hv, h1', r⟩
    · rw [List.getElem?_set_ne (Ne.symm ji)] at h
      obtain ⟨w, k1, k2, k4⟩ := E.ow j oa2 c2 h
      refine ⟨w, k1, k2, k4.kp kp fun b hb o q => ?_⟩
      have ne : b ≠ a := fun z => ji (E.inj j i a (z ▸ hb) ho)
      rw [upd_ne ne]; exact q
theorem EnvO.write (E : EnvO K Hb own B H σ δ) {i : Nat} {a : Addr} {oa : Option Addr} {xs ys : List PyData} {ws : List V} (hi : δ[i]? = some (.own oa (.l xs))) (ho : a ∈ own i) (r : Reps K (Av own B) H ys ws) :
    EnvO K Hb own B (L2.upd H a (.lst ws)) σ (δ.set i (.own oa (.l ys))) := by
  obtain ⟨v, h1, _, b, vs, rfl, h2, h3, h4⟩ := E.ow i oa _ hi
  have hb : a = b := by rw [h2] at ho; exact List.mem_singleton.mp ho
  subst hb
  exact E.writeN hi h1 ho ⟨a, ws, rfl, h2, upd_same, Reps.upd (A := Av own B) (.inr ⟨i, ho⟩) h3 trivial _ _ r⟩
theorem EnvO.forget (E : EnvO K Hb own B H σ δ) {i : Nat} : EnvO K Hb (unown own i) B H (σ.set i none) (δ.set i .no) := by
  refine ⟨E.base, by rw [List.length_set, List.length_set]; exact E.len, E.bb, fun j a h => E.ofr j a (unown_some h).2, fun j a h => ?_, unown_nd E.ond i, fun j k a h h' => E.inj j k a (unown_some h).2 (unown_some h').2, fun j e h => ?_, fun j oa c h => ?_⟩
  · obtain ⟨oa, xs, q⟩ := E.oex j a (unown_some h).2
    exact ⟨oa, xs, by rw [List.getElem?_set_ne (Ne.symm (unown_some h).1)]; exact q⟩
  · by_cases ji : j = i
    · subst ji
      by_cases hl : j < δ.length
      · rw [List.getElem?_set_self hl] at h; cases h
      · rw [List.getElem?_eq_none (by rw [List.length_set]; omega)] at h; cases h
    · rw [List.getElem?_set_ne (Ne.symm ji)] at h
      obtain ⟨w, h1, h2⟩ := E.sh j e h
      exact ⟨w, by rw [List.getElem?_set_ne (Ne.symm ji)]; exact h1, h2.av unown_av⟩
  · by_cases ji : j = i
    · subst ji
      by_cases hl : j < δ.length
      · rw [List.getElem?_set_self hl] at h; cases h
      · rw [List.getElem?_eq_none (by rw [List.length_set]; omega)] at h; cases h
    · rw [List.getElem?_set_ne (Ne.symm ji)] at h
      obtain ⟨v, h1, h2, h3⟩ := E.ow j oa c h
      exact ⟨v, by rw [List.getElem?_set_ne (Ne.symm ji)]; exact h1, h2, by rw [unown_ne ji]; exact h3.av unown_av⟩
noncomputable def keepB (own : Nat → List Addr) (H : Hp) : Hp := fun b => open Classical in if ∃ i, b ∈ own i then none else H b
theorem keepB_some {own : Nat → List Addr} {b : Addr} {o : HO} (h : keepB own H b = some o) : H b = some o ∧ ∀ i, b ∉ own i := by
  unfold keepB at h
  by_cases e : ∃ i, b ∈ own i
  · rw [if_pos e] at h; cases h
  · rw [if_neg e] at h; exact ⟨h, fun i z => e ⟨i, z⟩⟩
theorem keepB_of {own : Nat → List Addr} {b : Addr} {o : HO} (h : H b = some o) (n : ∀ i, b ∉ own i) : keepB own H b = some o := by
  unfold keepB
  rw [if_neg (fun ⟨i, z⟩ => n i z)]; exact h
theorem EnvO.rebase (E : EnvO K Hb own B H σ δ) : EnvO K (keepB own H) own B H σ δ := by
  refine ⟨fun b o h => (keepB_some h).1, E.len, fun a hB z => ?_, fun i a h => ?_, E.oex, E.ond, E.inj, E.sh, E.ow⟩
  · obtain ⟨o, q⟩ := Option.ne_none_iff_exists'.mp (E.bb a hB)
    have := keepB_of (own := own) (E.base a o q) fun i hi => by rw [E.ofr i a hi] at q; cases q
    rw [z] at this; cases this
  · unfold keepB
    rw [if_pos ⟨i, h⟩]
theorem EnvO.unbase {own' : Nat → List Addr} {σ' : St} {δ' : Dn} {H1 : Hp} (E : EnvO K Hb own B H σ δ) (E' : EnvO K (keepB own H) own' B H1 σ' δ') (hf : ∀ i a, a ∈ own' i → Hb a = none) : EnvO K Hb own' B H1 σ' δ' := by
  refine ⟨fun b o q => E'.base b o (keepB_of (E.base b o q) fun i hi => by rw [E.ofr i b hi] at q; cases q), E'.len, E.bb, hf, E'.oex, E'.ond, E'.inj, E'.sh, E'.ow⟩
theorem EnvO.unbase' {own' : Nat → List Addr} {σ' : St} {δ' : Dn} {H1 : Hp} (E : EnvO K Hb own B H σ δ) (E' : EnvO K (keepB own H) own' B H1 σ' δ') : EnvO K Hb own' B H1 σ' δ' :=
  E.unbase E' fun i a h => by
    have := E'.ofr i a h
    cases q : Hb a with
    | none => rfl
    | some o =>
      rw [keepB_of (E.base a o q) fun j hj => by rw [E.ofr j a hj] at q; cases q] at this
      cases this
end
end L2
end
section
namespace L2
open PySem PySem.Spec PyProof.Rows
noncomputable def tD (K : PySem.W.Frag) (δ : Dn) (d : PyData) : TE := fun σ H Q => ∃ Hb own B, EnvO K Hb own B H σ δ ∧ ∀ v H', Same H H' → Rep K (Av own B) H' d v → Q v H'
noncomputable def tF (K : PySem.W.Frag) (δ : Dn) (xs : List PyData) : TE := fun σ H Q => ∃ Hb own B, EnvO K Hb own B H σ δ ∧
  ∀ a vs H', Same H H' → H a = none → H' a = some (.lst vs) → Reps K (fun b => Av own B b ∨ b = a) H' xs vs → Q (.ref a) H'
noncomputable def tT (K : PySem.W.Frag) (δ : Dn) (b : Bool) : TT := fun σ H Q => ∃ Hb own B, EnvO K Hb own B H σ δ ∧ ∀ H', Same H H' → Q b H'
noncomputable def tL (K : PySem.W.Frag) (δ : Dn) (ds : List PyData) : TA := fun σ H Q => ∃ Hb own B, EnvO K Hb own B H σ δ ∧ ∀ vs H', Same H H' → Reps K (Av own B) H' ds vs → Q vs H'
noncomputable def EvD (X : Cx) (δ : Dn) (e : Expr) (d : PyData) : Prop := PE X e (tD X.K δ d)
noncomputable def EvF (X : Cx) (δ : Dn) (e : Expr) (xs : List PyData) : Prop := PE X e (tF X.K δ xs)
noncomputable def EtD (X : Cx) (δ : Dn) (e : Expr) (b : Bool) : Prop := PT X e (tT X.K δ b)
noncomputable def EwD (X : Cx) (δ : Dn) (e : Expr) (b : Bool) : Prop := PW X e (tT X.K δ b)
noncomputable def EaD (X : Cx) (δ : Dn) (es : List Expr) (ds : List PyData) : Prop := PA X es (tL X.K δ ds)
section
variable {X : Cx} {δ : Dn} {a b c e : Expr} {d da db : PyData} {pos : Pos} {xs ys : List PyData}
theorem ev_of {t : TE} (h : PE X e t) (ht : ∀ Hb own B σ H Q, EnvO X.K Hb own B H σ δ → (∀ v H', Same H H' → Rep X.K (Av own B) H' d v → Q v H') → t σ H Q) : EvD X δ e d :=
  fun pins s σ H Q I hh1 => Zz.a5 hh1 fun Hb own B E q => h pins s σ H Q I (ht Hb own B σ H Q E q)
theorem ef_of {t : TE} (h : PE X e t) (ht : ∀ Hb own B σ H Q, EnvO X.K Hb own B H σ δ → (∀ a vs H', Same H H' → H a = none → H' a = some (.lst vs) → Reps X.K (fun b => Av own B b ∨ b = a) H' xs vs → Q (.ref a) H') → t σ H Q) : EvF X δ e xs :=
  fun pins s σ H Q I hh2 => Zz.a5 hh2 fun Hb own B E q => h pins s σ H Q I (ht Hb own B σ H Q E q)
theorem et_of {t : TT} {k : Bool} (h : PT X e t) (ht : ∀ Hb own B σ H Q, EnvO X.K Hb own B H σ δ → (∀ H', Same H H' → Q k H') → t σ H Q) : EtD X δ e k :=
  fun pins s σ H Q I hh3 => Zz.a5 hh3 fun Hb own B E q => h pins s σ H Q I (ht Hb own B σ H Q E q)
theorem ev_f (h : EvF X δ e xs) : EvD X δ e (.list xs) := ev_of h fun Hb own B σ H Q E q => ⟨Hb, own, B, E, fun a vs H' s1 hn ha r => q _ _ s1 ⟨a, vs, rfl, E.new hn, ha, r.av fun _ z => .inl z⟩⟩
theorem ev_eq {d' : PyData} (h : EvD X δ e d) (q : d = d') : EvD X δ e d' := q ▸ h
theorem et_eq {k k' : Bool} (h : EtD X δ e k) (q : k = k') : EtD X δ e k' := q ▸ h
theorem ev_var (i : Nat) {x : Str} (hδ : δ[i]? = some (.sh d)) (hN : X.N[i]? = some x := by rfl) (hv : Vis X.env.scope x := by first | exact Or.inl rfl | exact Or.inr (Or.inl rfl) | exact Or.inr (Or.inr rfl)) (hd : (x == ("__debug__" : Str)) = false := by decide)
    (hcd : (x == ("__classdict__" : Str)) = false := by decide) : EvD X δ (.Name x pos) d :=
  ev_of (pe_var hN hv hd hcd) fun Hb own B σ H Q E q => let ⟨v, h1, h2⟩ := E.sh i d hδ; ⟨v, h1, q v H (Same.refl H) h2⟩
theorem ev_int {i j} : EvD X δ (.Constant (.int i) j pos) (.int i) := ev_of pe_int fun Hb own B σ H Q E q => q _ H (Same.refl H) rfl
theorem ev_bl {k j} : EvD X δ (.Constant (.bool k) j pos) (.bool k) := ev_of pe_bl fun Hb own B σ H Q E q => q _ H (Same.refl H) rfl
theorem ev_non {j} : EvD X δ (.Constant .none j pos) .none := ev_of pe_non fun Hb own B σ H Q E q => q _ H (Same.refl H) rfl
theorem ev_gint {x : Str} {u : Value} {i : Int} (hg : Gl X x) (hm : X.mg x = some u) (hu : ∃ t, u = .int i t) (hd : (x == ("__debug__" : Str)) = false := by decide) : EvD X δ (.Name x pos) (.int i) :=
  ev_of (pe_glob hg hm (v := .int i) hu hd) fun Hb own B σ H Q E q => q _ H (Same.refl H) rfl
theorem ev_bin {op : Operator} {r : R2} (ho : OpR X (binaryOp op) r) (ha : EvD X δ a da) (hb : EvD X δ b db)
    (hr : ∀ A x y H Q, Rep X.K A H da x → Rep X.K A H db y → (∀ v H', Same H H' → Rep X.K A H' d v → Q v H') → r x y H Q) : EvD X δ (.BinOp a op b pos) d :=
  ev_of (pe_op ho ha hb) fun Hb own B σ H Q E q => ⟨Hb, own, B, E, fun x H1 s1 rx => ⟨Hb, own, B, E.mono s1, fun y H2 s2 ry => hr _ x y H2 Q (rx.up s2) ry fun v H' s3 rv => q v H' ((s1.trans s2).trans s3) rv⟩⟩
theorem ev_i2 {op : Operator} {C : Int → Int → Prop} {g : Int → Int → Int} {i j : Int} (ho : OpR X (binaryOp op) (rI C fun i j => .int (g i j))) (ha : EvD X δ a (.int i)) (hb : EvD X δ b (.int j)) (hc : C i j) : EvD X δ (.BinOp a op b pos) (.int (g i j)) :=
  ev_bin ho ha hb fun A x y H Q rx ry q => ⟨i, j, rx, ry, hc, q _ H (Same.refl H) rfl⟩
theorem ev_i0 {op : Operator} {g : Int → Int → Int} {i j : Int} (ho : OpR X (binaryOp op) (rI0 fun i j => .int (g i j))) (ha : EvD X δ a (.int i)) (hb : EvD X δ b (.int j)) : EvD X δ (.BinOp a op b pos) (.int (g i j)) :=
  ev_bin ho ha hb fun A x y H Q rx ry q => ⟨i, j, rx, ry, q _ H (Same.refl H) rfl⟩
theorem ev_add {i j : Int} (ha : EvD X δ a (.int i)) (hb : EvD X δ b (.int j)) : EvD X δ (.BinOp a .Add b pos) (.int (i + j)) := ev_i0 op_add ha hb
theorem ev_sub {i j : Int} (ha : EvD X δ a (.int i)) (hb : EvD X δ b (.int j)) : EvD X δ (.BinOp a .Sub b pos) (.int (i - j)) := ev_i0 op_sub ha hb
theorem ev_mul {i j : Int} (ha : EvD X δ a (.int i)) (hb : EvD X δ b (.int j)) (hc : CMul i j) : EvD X δ (.BinOp a .Mult b pos) (.int (i * j)) := ev_i2 op_mul ha hb hc
theorem ev_mod {i j : Int} (ha : EvD X δ a (.int i)) (hb : EvD X δ b (.int j)) (hc : 0 < j) : EvD X δ (.BinOp a .Mod b pos) (.int (i % j)) := ev_i2 op_mod ha hb hc
theorem ev_fdiv {i j : Int} (ha : EvD X δ a (.int i)) (hb : EvD X δ b (.int j)) (hc : CDiv i j) : EvD X δ (.BinOp a .FloorDiv b pos) (.int (i / j)) := ev_i2 op_fdiv ha hb hc
theorem ev_cmp {op : CmpOp} {r : R2} (ho : OpR X (compareOp op) r) (ha : EvD X δ a da) (hb : EvD X δ b db) (hm : behindInMarks op b = false)
    (hr : ∀ A x y H Q, Rep X.K A H da x → Rep X.K A H db y → (∀ v H', Same H H' → Rep X.K A H' d v → Q v H') → r x y H Q) : EvD X δ (.Compare a [op] [b] pos) d :=
  ev_of (pe_cmpR ho ha hb hm) fun Hb own B σ H Q E q => ⟨Hb, own, B, E, fun x H1 s1 rx => ⟨Hb, own, B, E.mono s1, fun y H2 s2 ry => hr _ x y H2 Q (rx.up s2) ry fun v H' s3 rv => q v H' ((s1.trans s2).trans s3) rv⟩⟩
theorem et_cmp {op : CmpOp} {r : R2} {k : Bool} (ho : OpR X (compareOp op) r) (ha : EvD X δ a da) (hb : EvD X δ b db) (hm : behindInMarks op b = false)
    (hr : ∀ A x y H Q, Rep X.K A H da x → Rep X.K A H db y → (∀ v H', Same H H' → Rep X.K A H' (.bool k) v → Q v H') → r x y H Q) : EtD X δ (.Compare a [op] [b] pos) k :=
  et_of (pt_cmpR ho ha hb hm) fun Hb own B σ H Q E q => ⟨Hb, own, B, E, fun x H1 s1 rx => ⟨Hb, own, B, E.mono s1, fun y H2 s2 ry => hr _ x y H2 _ (rx.up s2) ry fun v H' s3 rv => ⟨k, rv, q H' ((s1.trans s2).trans s3)⟩⟩⟩
theorem cmp_i {g : Int → Int → Bool} {i j : Int} {A : Addr → Prop} {x y : V} {H : Hp} {Q : VK} (rx : Rep X.K A H (.int i) x) (ry : Rep X.K A H (.int j) y) (q : ∀ v H', Same H H' → Rep X.K A H' (.bool (g i j)) v → Q v H') : rI0 (fun i j => .bl (g i j)) x y H Q :=
  ⟨i, j, rx, ry, q _ H (Same.refl H) rfl⟩
theorem ev_gt {i j : Int} (ha : EvD X δ a (.int i)) (hb : EvD X δ b (.int j)) : EvD X δ (.Compare a [.Gt] [b] pos) (.bool (decide (j < i))) := ev_cmp op_gt ha hb (nomark _) fun _ _ _ _ _ rx ry q => cmp_i (g := fun i j => decide (j < i)) rx ry q
theorem et_lt {i j : Int} (ha : EvD X δ a (.int i)) (hb : EvD X δ b (.int j)) : EtD X δ (.Compare a [.Lt] [b] pos) (decide (i < j)) := et_cmp op_lt ha hb (nomark _) fun _ _ _ _ _ rx ry q => cmp_i rx ry q
theorem et_gt {i j : Int} (ha : EvD X δ a (.int i)) (hb : EvD X δ b (.int j)) : EtD X δ (.Compare a [.Gt] [b] pos) (decide (j < i)) := et_cmp op_gt ha hb (nomark _) fun _ _ _ _ _ rx ry q => cmp_i (g := fun i j => decide (j < i)) rx ry q
theorem et_ge {i j : Int} (ha : EvD X δ a (.int i)) (hb : EvD X δ b (.int j)) : EtD X δ (.Compare a [.GtE] [b] pos) (decide (j ≤ i)) := et_cmp op_ge ha hb (nomark _) fun _ _ _ _ _ rx ry q => cmp_i (g := fun i j => decide (j ≤ i)) rx ry q
noncomputable def rEqD (K : PySem.W.Frag) (u : Nat) (neg : Bool) : R2 := fun x y H Q => ∃ A da db, Rep K A H da x ∧ Rep K A H db y ∧ da.canLay0 = true ∧ db.canLay0 = true ∧ u + min da.depth db.depth < cLine ∧ Q (.bl (if neg then !PyData.eqv da db else PyData.eqv da db)) H
theorem op_eqD : OpR X (compareOp .Eq) (rEqD X.K X.A.units false) := by
  intro pins s σ H x y v u Q I rx ry h
  obtain ⟨A, da, db, h1, h2, c1, c2, hu, q⟩ := h
  obtain ⟨as, r1⟩ := rep_reads I da x v c1 h1 rx
  obtain ⟨bs, r2⟩ := rep_reads I db y u c2 h2 ry
  exact PySem.SeqAt.compareEq_reads r1 r2 c1 c2 hu (fin_bl I q rfl)
theorem et_val {k : Bool} (h : EvD X δ e (.bool k)) (he : ∀ whole, isTrue e X.env whole = (do let v ← whole; standAt e.pos; holding [v] (truthy v)) := by intro _; rfl) : EtD X δ e k :=
  et_of (pt_val h he) fun Hb own B σ H Q E q => ⟨Hb, own, B, E, fun v H' s1 r => ⟨k, r, q H' s1⟩⟩
theorem et_not {k : Bool} (h : EtD X δ e k) : EtD X δ (.UnaryOp .Not e pos) (!k) :=
  et_of (pt_not h) fun Hb own B σ H Q E q => ⟨Hb, own, B, E, fun H' s1 => q H' s1⟩
theorem et_w {k : Bool} (h : EwD X δ e k) : EtD X δ e k := fun pins s σ H Q I q => h _ pins s σ H Q I q
theorem ew_of {t : TT} {k : Bool} (h : PW X e t) (ht : ∀ Hb own B σ H Q, EnvO X.K Hb own B H σ δ → (∀ H', Same H H' → Q k H') → t σ H Q) : EwD X δ e k :=
  fun wh pins s σ H Q I hh4 => Zz.a5 hh4 fun Hb own B E q => h wh pins s σ H Q I (ht Hb own B σ H Q E q)
theorem ew_and1 {k : Bool} (h : EtD X δ a k) : EwD X δ (.BoolOp .And [a] pos) k := pw_and1 h
theorem ew_or1 {k : Bool} (h : EtD X δ a k) : EwD X δ (.BoolOp .Or [a] pos) k := pw_or1 h
theorem ew_and {k m : Bool} {rest : List Expr} (h : EtD X δ a k) (h2 : k = true → EwD X δ (.BoolOp .And (b :: rest) pos) m) : EwD X δ (.BoolOp .And (a :: b :: rest) pos) (k && m) := by
  cases k with
  | true => exact ew_of (pw_and h (h2 rfl)) fun Hb own B σ H Q E q => ⟨Hb, own, B, E, fun H' s1 => iteT (⟨Hb, own, B, E.mono s1, fun H2 s2 => q H2 (s1.trans s2)⟩)⟩
  | false =>
    refine ew_of (pw_and h (tB' := fun _ _ _ => False) fun _ _ _ _ _ _ _ z => z.elim) fun Hb own B σ H Q E q => ⟨Hb, own, B, E, fun H' s1 => iteF (q H' s1)⟩
theorem ew_or {k m : Bool} {rest : List Expr} (h : EtD X δ a k) (h2 : k = false → EwD X δ (.BoolOp .Or (b :: rest) pos) m) : EwD X δ (.BoolOp .Or (a :: b :: rest) pos) (k || m) := by
  cases k with
  | false => exact ew_of (pw_or h (h2 rfl)) fun Hb own B σ H Q E q => ⟨Hb, own, B, E, fun H' s1 => iteF (⟨Hb, own, B, E.mono s1, fun H2 s2 => q H2 (s1.trans s2)⟩)⟩
  | true =>
    refine ew_of (pw_or h (tB' := fun _ _ _ => False) fun _ _ _ _ _ _ _ z => z.elim) fun Hb own B σ H Q E q => ⟨Hb, own, B, E, fun H' s1 => iteT (q H' s1)⟩
theorem et_and {k m : Bool} (h : EtD X δ a k) (h2 : k = true → EtD X δ b m) : EtD X δ (.BoolOp .And [a, b] pos) (k && m) := et_w (ew_and h fun z => ew_and1 (h2 z))
theorem et_or {k m : Bool} (h : EtD X δ a k) (h2 : k = false → EtD X δ b m) : EtD X δ (.BoolOp .Or [a, b] pos) (k || m) := et_w (ew_or h fun z => ew_or1 (h2 z))
theorem et_and3 {k m n : Bool} (h : EtD X δ a k) (h2 : k = true → EtD X δ b m) (h3 : k = true → m = true → EtD X δ c n) : EtD X δ (.BoolOp .And [a, b, c] pos) (k && (m && n)) :=
  et_w (ew_and h fun z => ew_and (h2 z) fun y => ew_and1 (h3 z y))
theorem ev_and {k m : Bool} {rest : List Expr} (h : EvD X δ a (.bool k)) (h2 : k = true → EvD X δ (.BoolOp .And (b :: rest) pos) (.bool m)) : EvD X δ (.BoolOp .And (a :: b :: rest) pos) (.bool (k && m)) := by
  cases k with
  | true => exact ev_of (pe_and h (h2 rfl)) fun Hb own B σ H Q E q => ⟨Hb, own, B, E, fun v H' s1 r => ⟨true, r, iteT (⟨Hb, own, B, E.mono s1, fun w H2 s2 r2 => q w H2 (s1.trans s2) r2⟩)⟩⟩
  | false => exact ev_of (pe_and h (tb := fun _ _ _ => False) fun _ _ _ _ _ _ z => z.elim) fun Hb own B σ H Q E q => ⟨Hb, own, B, E, fun v H' s1 r => ⟨false, r, iteF (q _ H' s1 rfl)⟩⟩
theorem ev_one {op} (h : EvD X δ a d) : EvD X δ (.BoolOp op [a] pos) d := pe_one h
theorem ea_nil : EaD X δ [] [] := fun pos pins s σ H Q I hh5 => Zz.a5 hh5 fun Hb own B E q => pa_nil pos pins s σ H Q I (q [] H (Same.refl H) rfl)
theorem ea_cons {es : List Expr} {ds : List PyData} (h : EvD X δ e d) (hr : EaD X δ es ds) (hs : starEach (e :: es) X.env = (false, eval e X.env) :: starEach es X.env := by rfl) : EaD X δ (e :: es) (d :: ds) :=
  fun pos pins s σ H Q I hh6 => Zz.a5 hh6 fun Hb own B E q => pa_cons h hr hs pos pins s σ H Q I ⟨Hb, own, B, E, fun v H1 s1 r1 => ⟨Hb, own, B, E.mono s1, fun vs H2 s2 r2 => q _ H2 (s1.trans s2) ⟨v, vs, rfl, r1.up s2, r2⟩⟩⟩
theorem ef_list {es : List Expr} {ds : List PyData} (h : EaD X δ es ds) (hl : ds.length ≤ 1000 := by exact Nat.le_of_ble_eq_true rfl) : EvF X δ (.List es pos) ds :=
  ef_of (pe_lst h) fun Hb own B σ H Q E q => ⟨Hb, own, B, E, fun vs H1 s1 r => ⟨by rw [← r.length]; exact Nat.le_of_lt (small1000 hl), fun p hp => by
    have e1 : Same H1 (upd H1 p (.lst vs)) := fun b u z => by rw [upd_ne (ne_of_none z hp)]; exact z
    exact q p vs _ (s1.trans e1) (s1.free hp) upd_same ((Reps.fresh hp _ _ r).up e1)⟩⟩
theorem ev_tup {es : List Expr} {ds : List PyData} {k} (h : EaD X δ es ds) (hl : ds.length ≤ 1000 := by exact Nat.le_of_ble_eq_true rfl) : EvD X δ (.Tuple es k pos) (.tuple ds) :=
  ev_of (pe_tup h) fun Hb own B σ H Q E q => ⟨Hb, own, B, E, fun vs H1 s1 r => ⟨by rw [← r.length]; exact Nat.le_of_lt (small1000 hl), fun p hp => by
    have e1 : Same H1 (upd H1 p (.tup vs)) := fun b u z => by rw [upd_ne (ne_of_none z hp)]; exact z
    exact q _ _ (s1.trans e1) ⟨p, vs, rfl, upd_same, r.up e1⟩⟩⟩
end
end L2
end
section
namespace L2
open PySem PySem.Spec PyProof.Rows
section
variable {X : Cx} {δ : Dn} {a b c e : Expr} {d da db : PyData} {pos : Pos} {xs ys : List PyData}
theorem op_neD : OpR X (compareOp .NotEq) (rEqD X.K X.A.units true) := by
  intro pins s σ H x y v u Q I rx ry h
  obtain ⟨A, da, db, h1, h2, c1, c2, hu, q⟩ := h
  obtain ⟨as, r1⟩ := rep_reads I da x v c1 h1 rx
  obtain ⟨bs, r2⟩ := rep_reads I db y u c2 h2 ry
  exact PySem.SeqAt.compareNe_reads r1 r2 c1 c2 hu (fin_bl I q rfl)
noncomputable def rInD (K : PySem.W.Frag) (u : Nat) (neg : Bool) : R2 := fun x y H Q => ∃ A d xs, Rep K A H d x ∧ Rep K A H (.list xs) y ∧ d.canLay0 = true ∧ PyData.canLayAll0 xs = true ∧ u + 1 + min (PyData.depthAll xs) d.depth < cLine ∧
  Q (.bl (if neg then !xs.any fun y => PyData.eqv y d else xs.any fun y => PyData.eqv y d)) H
theorem op_inD : OpR X (compareOp .In) (rInD X.K X.A.units false) := by
  intro pins s σ H x y v u Q I rx ry h
  obtain ⟨A, d, xs, h1, h2, c1, c2, hu, q⟩ := h
  obtain ⟨as, r1⟩ := rep_reads I d x v c1 h1 rx
  obtain ⟨bs, r2⟩ := rep_reads I (.list xs) y u c2 h2 ry
  exact PySem.SeqAt.in_list_reads r2 r1 c2 c1 hu (fin_bl I q rfl)
theorem op_notInD : OpR X (compareOp .NotIn) (rInD X.K X.A.units true) := by
  intro pins s σ H x y v u Q I rx ry h
  obtain ⟨A, d, xs, h1, h2, c1, c2, hu, q⟩ := h
  obtain ⟨as, r1⟩ := rep_reads I d x v c1 h1 rx
  obtain ⟨bs, r2⟩ := rep_reads I (.list xs) y u c2 h2 ry
  exact PySem.SeqAt.notIn_list_reads r2 r1 c2 c1 hu (fin_bl I q rfl)
structure Sm (d : PyData) : Prop where
  lay : d.canLay0 = true
  dep : d.depth ≤ 20
theorem room20 {k : Nat} {A : Around} (hr : Room k A) {a b : Nat} (h : a ≤ 20) : A.units + min a b < cLine := by
  have := hr.units
  have := Nat.min_le_left a b
  omega
theorem room20' {k : Nat} {A : Around} (hr : Room k A) {a b : Nat} (h : b ≤ 20) : A.units + 1 + min a b < cLine := by
  have := hr.units
  have := Nat.min_le_right a b
  omega
variable {k : Nat}
theorem ev_eqD (hr : Room k X.A) (ha : EvD X δ a da) (hb : EvD X δ b db) (sa : Sm da) (sb : db.canLay0 = true) : EvD X δ (.Compare a [.Eq] [b] pos) (.bool (PyData.eqv da db)) :=
  ev_cmp op_eqD ha hb (nomark _) fun A x y H Q rx ry q => ⟨A, da, db, rx, ry, sa.lay, sb, room20 hr sa.dep, q _ H (Same.refl H) rfl⟩
theorem et_eqD (hr : Room k X.A) (ha : EvD X δ a da) (hb : EvD X δ b db) (sa : Sm da) (sb : db.canLay0 = true) : EtD X δ (.Compare a [.Eq] [b] pos) (PyData.eqv da db) :=
  et_cmp op_eqD ha hb (nomark _) fun A x y H Q rx ry q => ⟨A, da, db, rx, ry, sa.lay, sb, room20 hr sa.dep, q _ H (Same.refl H) rfl⟩
theorem et_neD (hr : Room k X.A) (ha : EvD X δ a da) (hb : EvD X δ b db) (sa : Sm da) (sb : db.canLay0 = true) : EtD X δ (.Compare a [.NotEq] [b] pos) (!PyData.eqv da db) :=
  et_cmp op_neD ha hb (nomark _) fun A x y H Q rx ry q => ⟨A, da, db, rx, ry, sa.lay, sb, room20 hr sa.dep, q _ H (Same.refl H) rfl⟩
theorem et_inD (hr : Room k X.A) (ha : EvD X δ a d) (hb : EvD X δ b (.list xs)) (sa : Sm d) (sb : PyData.canLayAll0 xs = true) (hm : behindInMarks .In b = false := by with_unfolding_all rfl) : EtD X δ (.Compare a [.In] [b] pos) (xs.any fun y => PyData.eqv y d) :=
  et_cmp op_inD ha hb hm fun A x y H Q rx ry q => ⟨A, d, xs, rx, ry, sa.lay, sb, room20' hr sa.dep, q _ H (Same.refl H) rfl⟩
theorem et_notInD (hr : Room k X.A) (ha : EvD X δ a d) (hb : EvD X δ b (.list xs)) (sa : Sm d) (sb : PyData.canLayAll0 xs = true) (hm : behindInMarks .NotIn b = false := by with_unfolding_all rfl) : EtD X δ (.Compare a [.NotIn] [b] pos) (!xs.any fun y => PyData.eqv y d) :=
  et_cmp op_notInD ha hb hm fun A x y H Q rx ry q => ⟨A, d, xs, rx, ry, sa.lay, sb, room20' hr sa.dep, q _ H (Same.refl H) rfl⟩
noncomputable def isN : PyData → Bool
  | .none => true
  | _ => false
theorem rep_isN {K : PySem.W.Frag} {A : Addr → Prop} {H : Hp} {d : PyData} {x : V} (h : Rep K A H d x) : decide (x = .non) = isN d := by
  cases d with
  | none => cases h; rfl
  | bool _ => cases h; rfl
  | int _ => cases h; rfl
  | str _ => cases h; rfl
  | list _ => obtain ⟨_, _, rfl, _⟩ := h; rfl
  | tuple _ => obtain ⟨_, _, rfl, _⟩ := h; rfl
  | dict _ => rcases h with ⟨_, _, rfl, _⟩ | ⟨_, _, _, rfl, _⟩ | ⟨_, _, _, rfl, _⟩ | ⟨_, rfl, _⟩ | ⟨_, _, rfl, _⟩ | ⟨_, _, _, _, rfl, _⟩ | ⟨_, _, rfl, _⟩ <;> rfl
theorem atI_of {α : Type} {vs : List α} {i : Int} {v : α} (h0 : 0 ≤ i) (h : vs[i.toNat]? = some v) : atI vs i = some v := by
  have e : i = ((i.toNat : Nat) : Int) := by omega
  rw [e]; exact atI_nat h
theorem ev_ix {i : Int} (ha : EvD X δ a (.list xs)) (hb : EvD X δ b (.int i)) (h0 : 0 ≤ i) (hd : xs[i.toNat]? = some d) (hs : PlainIx b := by exact fun _ _ => rfl) : EvD X δ (.Subscript a b pos) d :=
  ev_of (pe_ix ix_list ha hb hs) fun Hb own B σ H Q E q => ⟨Hb, own, B, E, fun x H1 s1 rx => ⟨Hb, own, B, E.mono s1, fun y H2 s2 ry => by
    obtain ⟨p, vs, rfl, _, h3, h4⟩ := rx.up s2
    obtain ⟨v, hv, rv⟩ := h4.at hd
    exact ⟨p, vs, i, v, rfl, ry, SqL.of h3, atI_of h0 hv, q v H2 (s1.trans s2) rv⟩⟩⟩
theorem rep_scr {K : PySem.W.Frag} {A : Addr → Prop} {H : Hp} {ns : List Int} {x : V} (h : Rep K A H (scr ns) x) : ∃ p, x = .ref p ∧ SqL K H p (ns.map V.int) := by
  rcases h with ⟨p, ms, rfl, e, h3⟩ | ⟨a, us, _, _, _, κ, _, _, _, z, _⟩ | ⟨_, _, _, _, z, _⟩ | ⟨_, _, z⟩ | ⟨_, _, _, z, _⟩ | ⟨_, _, _, _, _, z, _⟩ | ⟨_, _, _, z, _⟩
  · have e' : ns = ms := scr_inj e
    subst e'
    exact ⟨p, rfl, h3.sq⟩
  · cases z
  · cases z
  · cases z
  · cases z
  · cases z
  · cases z
noncomputable def EoD (X : Cx) (δ : Dn) (e : Option Expr) (o : Option Int) : Prop := PO X e (fun σ H Q => ∃ Hb own B, EnvO X.K Hb own B H σ δ ∧ ∀ H', Same H H' → Q o H')
theorem eo_some {i : Int} (h : EvD X δ e (.int i)) : EoD X δ (some e) (some i) := fun pins s σ H Q I hh7 => Zz.a5 hh7 fun Hb own B E q => po_some h pins s σ H Q I ⟨Hb, own, B, E, fun v H' s1 r => ⟨i, r, q H' s1⟩⟩
noncomputable def cutL {α : Type} (xs : List α) (lo hi : Option Int) : List α := (xs.drop (HT.sIx xs.length 0 lo)).take (HT.sIx xs.length xs.length hi - HT.sIx xs.length 0 lo)
theorem same_new {H : Hp} {p : Addr} (h : H p = none) (o : HO) : Same H (upd H p o) := fun b u q => by rw [upd_ne (ne_of_none q h)]; exact q
theorem ef_sliceS {lo hi : Option Expr} {l u : Option Int} {p2 : Pos} {ns : List Int} (ha : EvD X δ a (scr ns)) (hl : EoD X δ lo l) (hu : EoD X δ hi u) : EvF X δ (.Subscript a (.Slice lo hi none p2) pos) (iD (cutL ns l u)) :=
  ef_of (pe_slice sl_list ha hl hu) fun Hb own B σ H Q E q => ⟨Hb, own, B, E, fun x H1 s1 rx => ⟨Hb, own, B, E.mono s1, fun H2 s2 => ⟨Hb, own, B, E.mono (s1.trans s2), fun H3 s3 => by
    obtain ⟨p, rfl, h3⟩ := rep_scr ((rx.up s2).up s3)
    refine ⟨p, _, rfl, h3, fun r hr => ?_⟩
    have e1 := same_new hr (.lst (cutV (ns.map V.int) l u))
    have e2 : cutV (ns.map V.int) l u = (cutL ns l u).map V.int := by
      unfold cutV cutL
      rw [List.length_map, List.map_take, List.map_drop]
    refine q r _ _ (((s1.trans s2).trans s3).trans e1) (((s1.trans s2).trans s3).free hr) upd_same ?_
    rw [e2]
    exact Reps.iD _⟩⟩⟩
theorem ef_cat (ha : EvD X δ a (.list xs)) (hb : EvD X δ b (.list ys)) (hl : xs.length + ys.length ≤ 1000) : EvF X δ (.BinOp a .Add b pos) (xs ++ ys) :=
  ef_of (pe_op op_cat ha hb) fun Hb own B σ H Q E q => ⟨Hb, own, B, E, fun x H1 s1 rx => ⟨Hb, own, B, E.mono s1, fun y H2 s2 ry => by
    obtain ⟨p, vs, rfl, _, h3, h4⟩ := rx.up s2
    obtain ⟨p', vs', rfl, _, h3', h4'⟩ := ry
    refine ⟨p, p', vs, vs', rfl, rfl, h3, h3', by rw [← h4.length, ← h4'.length]; exact Nat.le_of_lt (small1000 hl), fun r hr => ?_⟩
    have e1 := same_new hr (.lst (vs ++ vs'))
    exact q r _ _ ((s1.trans s2).trans e1) ((s1.trans s2).free hr) upd_same ((Reps.fresh hr _ _ (h4.append h4')).up e1)⟩⟩
theorem ev_callB {id : String} {x : Str} {p : Pos} {es : List Expr} {ds : List PyData} {r : List V → Hp → VK → Prop} (hc : CallR X (.builtin id) r) (hg : Gl X x) (hm : X.mg x = none) (hv : bootBuiltins x = some (.builtin id)) (ha : EaD X δ (e :: es) ds)
    (hr : ∀ A vs H Q, Reps X.K A H ds vs → (∀ v H', Same H H' → Rep X.K A H' d v → Q v H') → r vs H Q) (hn : x ≠ "__name__" := by decide) (hdb : (x == ("__debug__" : Str)) = false := by decide)
    (he : starEach (e :: es) X.env = (false, eval e X.env) :: starEach es X.env := by rfl) (hpl : (backTo pos (starEach es X.env)).any (·.1) = false := by rfl) : EvD X δ (.Call (.Name x p) (e :: es) [] pos) d :=
  ev_of (pe_callB hc hg hm hv ha hn hdb he hpl) fun Hb own B σ H Q E q => ⟨Hb, own, B, E, fun vs H1 s1 rv => hr _ vs H1 Q rv fun v H' s2 r2 => q v H' (s1.trans s2) r2⟩
theorem ev_len {p : Pos} (hg : Gl X "len") (hm : X.mg "len" = none) (ha : EvD X δ e (.list xs)) (he : starEach [e] X.env = [(false, eval e X.env)] := by rfl) : EvD X δ (.Call (.Name "len" p) [e] [] pos) (.int xs.length) :=
  ev_callB call_len_seq hg hm PySem.boot_len (ea_cons ha ea_nil (by rw [he]; rfl)) (fun A vs H Q rv q => by
    obtain ⟨v, r, rfl, ⟨a, us, rfl, _, h3, h4⟩, e2⟩ := rv
    cases e2
    exact ⟨a, us, rfl, .inl (SqL.of h3), q _ H (Same.refl H) (by rw [← h4.length]; rfl)⟩) (he := by rw [he]; rfl)
theorem ef_listOf {p : Pos} (hg : Gl X "list") (hm : X.mg "list" = none) (ha : EvD X δ e (.list xs)) (he : starEach [e] X.env = [(false, eval e X.env)] := by rfl) : EvF X δ (.Call (.Name "list" p) [e] [] pos) xs :=
  ef_of (pe_callTy call_list_of hg hm (by first | exact PySem.boot_list | rfl) (ea_cons ha ea_nil (by rw [he]; rfl)) (he := by rw [he]; rfl)) fun Hb own B σ H Q E q => ⟨Hb, own, B, E, fun vs H1 s1 rv => by
    obtain ⟨v, r, rfl, ⟨a, us, rfl, _, h3, h4⟩, e2⟩ := rv
    cases e2
    refine ⟨a, us, rfl, .inl (SqL.of h3), fun l hl => ?_⟩
    have e1 := same_new hl (.lst us)
    exact q l _ _ (s1.trans e1) (s1.free hl) upd_same ((Reps.fresh hl _ _ h4).up e1)⟩
theorem ev_max {p : Pos} {i j : Int} (hc : X.calm = true) (hg : Gl X "max") (hm : X.mg "max" = none) (ha : EvD X δ a (.int i)) (hb : EvD X δ b (.int j)) (hs : starEach [a, b] X.env = [(false, eval a X.env), (false, eval b X.env)] := by rfl) (hs2 : starEach [b] X.env = [(false, eval b X.env)] := by rfl) :
    EvD X δ (.Call (.Name "max" p) [a, b] [] pos) (.int (if j > i then j else i)) :=
  ev_callB (call_max2 hc) hg hm (by first | exact PySem.boot_max | rfl) (ea_cons ha (ea_cons hb ea_nil (by rw [hs2]; rfl)) (by rw [hs, hs2])) (fun A vs H Q rv q => by
    obtain ⟨v, r, rfl, h1, w, r', rfl, h2, e2⟩ := rv
    cases e2; cases h1; cases h2
    exact ⟨i, j, rfl, q _ H (Same.refl H) rfl⟩) (he := by rw [hs, hs2]) (hpl := by rw [hs2]; rfl)
theorem bl_at {bs : List Bool} {its : List Value} (r : Vals (bs.map V.bl) its) {i : Nat} {v : Value} (h : its[i]? = some v) : v = .bool (bs.getD i false) := by
  induction bs generalizing its i with
  | nil => cases r; cases h
  | cons b bs ih =>
    cases r with
    | cons r1 r2 =>
      cases i with
      | zero => cases h; exact r1
      | succ i => exact ih r2 (by simpa using h)
theorem range_all {bs : List Bool} : ((List.range bs.length).all fun i => bs.getD i false) = bs.all id := by
  rw [Bool.eq_iff_iff, List.all_eq_true, List.all_eq_true]
  constructor
  · intro h x hx
    obtain ⟨i, hi, rfl⟩ := List.mem_iff_getElem.mp hx
    have := h i (List.mem_range.mpr hi)
    rw [List.getD_eq_getElem?_getD, List.getElem?_eq_getElem hi] at this
    exact this
  · intro h i hi
    have hi : i < bs.length := List.mem_range.mp hi
    rw [List.getD_eq_getElem?_getD, List.getElem?_eq_getElem hi]
    exact h _ (List.getElem_mem hi)
theorem walk_bools {pins : List (Addr × Obj)} {σ : St} {H : Hp} {s : Shared} {p : Addr} {bs : List Bool} (I : Inv X pins σ H s) (hc : X.calm = true) (hp : SqL X.K H p (bs.map V.bl)) {Q : Value → Shared → Prop} {E : Value → Shared → Prop} {R : Nat → (Nat → Bool) → Bool}
    (hQ : ∀ h' tk, (∀ b o, s.heap.get? b = some o → h'.get? b = some o) → Q (.bool (R bs.length fun i => bs.getD i false)) { s with heap := h', toks := tk }) :
    wpAny (model X.prog X.w) X.A.in1 (pyIter (.ref p)) (fun it s₂ => ∃ I fp wr n P St tr, it = .ref I ∧ Walks X.prog X.w X.A.in1 I fp wr n P St ∧ St 0 s₂.heap ∧ TruthOf X.prog X.w X.A.in1 P tr ∧
      ∀ h' tk, (∀ b o, b ∉ wr → s₂.heap.get? b = some o → h'.get? b = some o) → Q (.bool (R n tr)) { s₂ with heap := h', toks := tk }) E s := by
  obtain ⟨its, rv, pl, _⟩ := I.list hp
  have hl := rv.length
  rw [List.length_map] at hl
  refine wpAny_pyIter_list pl.isList ?_
  obtain ⟨o, n, ho, _⟩ := id pl
  have hlt := Heap.lt_size ho
  refine ⟨s.heap.objs.size, _, _, its.toArray.size, _, _, fun i => bs.getD i false, rfl, Walks.list (by first | exact I.ok.hd hc | (show X.A.handled = none; exact I.ok.hd hc)) s.heap.objs.size p (Nat.ne_of_lt hlt) its.toArray, ⟨⟨_, Heap.get?_push_size _ rfl, rfl, rfl⟩, pl.isList.push _⟩, fun i v s Q E hv hq => ?_, fun h' tk hk => ?_⟩
  · have hv' : its[i]? = some v := by simpa using hv
    rw [bl_at rv hv']
    exact wpAny_truthy_bool hq
  · have e : its.toArray.size = bs.length := by simp [hl]
    rw [e]
    exact hQ h' tk fun b o e => hk b o (fun z => by
      have : b = s.heap.objs.size := by simpa using z
      exact absurd (Heap.lt_size e) (by rw [this]; exact Nat.lt_irrefl _)) (Heap.get?_push_of_some _ e)
theorem call_allB (hc : X.calm = true) : CallR X (.builtin "all") (fun xs H Q => ∃ (p : Addr) (bs : List Bool), xs = [.ref p] ∧ SqL X.K H p (bs.map V.bl) ∧ Q (.bl (bs.all id)) H) := by
  intro pins s σ H xs us Q I rv h
  obtain ⟨p, bs, rfl, hp, q⟩ := h
  obtain ⟨u, rfl, ru⟩ := rv.one
  cases ru
  refine PySem.call_all_walk (walk_bools (R := fun n tr => (List.range n).all tr) I hc hp fun h' tk hk => ?_)
  rw [range_all]
  exact ⟨.bl _, H, I.kept hk, rfl, q⟩
noncomputable def bD (bs : List Bool) : List PyData := bs.map .bool
theorem Reps.bD_eq {K : PySem.W.Frag} {A : Addr → Prop} {H : Hp} : ∀ {bs : List Bool} {vs : List V}, Reps K A H (bD bs) vs → vs = bs.map V.bl
  | [], _, h => h
  | n :: r, _, h => by
    obtain ⟨v, s, rfl, h2, h3⟩ := h
    rw [Reps.bD_eq h3, h2]; rfl
theorem ev_all {p : Pos} {bs : List Bool} (hc : X.calm = true) (hg : Gl X "all") (hm : X.mg "all" = none) (ha : EvD X δ e (.list (bD bs))) (he : starEach [e] X.env = [(false, eval e X.env)] := by rfl) : EvD X δ (.Call (.Name "all" p) [e] [] pos) (.bool (bs.all id)) :=
  ev_callB (call_allB hc) hg hm (by rfl) (ea_cons ha ea_nil (by rw [he]; rfl)) (fun A vs H Q rv q => by
    obtain ⟨v, r, rfl, ⟨a, us, rfl, _, h3, h4⟩, e2⟩ := rv
    cases e2
    rw [h4.bD_eq] at h3
    exact ⟨a, bs, rfl, SqL.of h3, q _ H (Same.refl H) rfl⟩) (he := by rw [he]; rfl)
end
end L2
end
section
namespace L2
open PySem PySem.Spec PyProof.Rows
structure Walk (K : PySem.W.Frag) (A : Addr → Prop) (J : It) (Hk : Hp) (ds : List PyData) : Prop where
  go : ∀ (i : Nat) (H : Hp), Same Hk H → i < ds.length → J.go i H
  yld : ∀ (i : Nat) (H : Hp) (x : V) (H' : Hp), Same Hk H → i < ds.length → J.yld i H x H' → H' = H ∧ ∃ d, ds[i]? = some d ∧ Rep K A Hk d x
  stop : ∀ (i : Nat) (H : Hp), Same Hk H → ds.length ≤ i → J.stop i H
theorem Kp.keep {own : Nat → List Addr} {B : Addr → Prop} {H : Hp} (ho : ∀ i a, a ∈ own i → ∃ o, H a = some o ∧ MutO o) : Kp (Av own B) (Av own B) H (keepB own H) :=
  ⟨fun a _ h _ q => ⟨h, keepB_of q fun i hi => h (.inr ⟨i, hi⟩)⟩,
    fun a _ q => keepB_of q fun i hi => by obtain ⟨o, z, m⟩ := ho i a hi; rw [q] at z; cases z; exact m,
    fun a _ _ q => keepB_of q fun i hi => by obtain ⟨o, z, m⟩ := ho i a hi; rw [q] at z; cases z; exact m⟩
theorem Reps.keep {K : PySem.W.Frag} {own : Nat → List Addr} {B : Addr → Prop} {H : Hp} (ho : ∀ i a, a ∈ own i → ∃ o, H a = some o ∧ MutO o) (ds : List PyData) (vs : List V) (h : Reps K (Av own B) H ds vs) : Reps K (Av own B) (keepB own H) ds vs := Reps.kp (.keep ho) ds vs h
theorem EnvO.lists {K : PySem.W.Frag} {Hb : Hp} {own : Nat → List Addr} {B : Addr → Prop} {H : Hp} {σ : St} {δ : Dn} (E : EnvO K Hb own B H σ δ) : ∀ i a, a ∈ own i → ∃ o, H a = some o ∧ MutO o := E.muts
noncomputable def tI (K : PySem.W.Frag) (δ : Dn) (ds : List PyData) : TI := fun σ H R => ∃ Hb own B, EnvO K Hb own B H σ δ ∧ ∀ J H1, Same H H1 → Walk K (Av own B) J (keepB own H1) ds → R J H1
noncomputable def EiD (X : Cx) (δ : Dn) (tg iter : Expr) (ds : List PyData) : Prop := PI X tg iter (tI X.K δ ds)
section
variable {X : Cx} {δ : Dn} {a b c e tg : Expr} {d da db : PyData} {pos : Pos} {xs ys : List PyData}
theorem ei_list (h : EvD X δ e (.list xs)) : EiD X δ tg e xs := fun pins s σ H R I hh8 => Zz.a5 hh8 fun Hb own B E q => pi_list h pins s σ H R I ⟨Hb, own, B, E, fun v H1 s1 r => by
  obtain ⟨p, vs, rfl, h2, h3, h4⟩ := r
  have kp : keepB own H1 p = some (.lst vs) := keepB_of h3 fun i hi => h2 (.inr ⟨i, hi⟩)
  have rk := Reps.keep (E.mono s1).lists _ _ h4
  have hl := h4.length
  refine ⟨p, rfl, ⟨vs, SqL.of h3⟩, q _ H1 s1 ⟨fun i H s hi => ?_, fun i H x H' s hi hy => ?_, fun i H s hi => ⟨vs, SqL.of (s _ _ kp), by omega⟩⟩⟩
  · exact ⟨vs, vs[i]'(by omega), SqL.of (s _ _ kp), List.getElem?_eq_getElem _⟩
  · obtain ⟨rfl, hy⟩ := hy
    have hx := hy vs (SqL.of (s _ _ kp))
    obtain ⟨d, hd, rd⟩ := rk.get hx
    exact ⟨rfl, d, hd, rd⟩⟩
noncomputable def rgD (lo : Int) (n : Nat) : List PyData := (List.range n).map fun (i : Nat) => .int (lo + i)
theorem walk_rng {K : PySem.W.Frag} {A : Addr → Prop} {Hk : Hp} (lo : Int) (n : Nat) : Walk K A (Itr lo n) Hk (rgD lo n) := by
  have hl : (rgD lo n).length = n := by simp [rgD]
  refine ⟨fun i H s hi => by rw [hl] at hi; exact hi, fun i H x H' s hi hy => ?_, fun i H s hi => by rw [hl] at hi; exact hi⟩
  obtain ⟨rfl, rfl⟩ := hy
  rw [hl] at hi
  exact ⟨rfl, .int (lo + i), by simp [rgD, hi], rfl⟩
theorem ei_range1 {p : Pos} {n : Int} (hg : Gl X "range") (hm : X.mg "range" = none) (ha : EvD X δ a (.int n)) (h1 : -(2 ^ 62) ≤ n) (h2 : n < 2 ^ 62) (hs : starEach [a] X.env = [(false, eval a X.env)] := by rfl) : EiD X δ tg (.Call (.Name "range" p) [a] [] pos) (rgD 0 n.toNat) :=
  fun pins s σ H R I hh9 => Zz.a5 hh9 fun Hb own B E q => pi_range1 hg hm (ea_cons ha ea_nil (by rw [hs]; rfl)) hs pins s σ H R I ⟨Hb, own, B, E, fun vs H1 s1 r => by
    obtain ⟨v, r', rfl, h3, e2⟩ := r
    cases e2; cases h3
    exact ⟨n, rfl, h1, h2, q _ H1 s1 (walk_rng 0 n.toNat)⟩⟩
theorem EnvO.guard {K : PySem.W.Frag} {Hb : Hp} {own : Nat → List Addr} {B : Addr → Prop} {H H' : Hp} {σ : St} {δ : Dn} (E : EnvO K Hb own B H σ δ) {D : Addr} {vs : List V} (hn : H D = none) (e : Same H H') (hD : H' D = some (.lst vs)) :
    EnvO K (keepB own H') own (fun b => B b ∨ b = D) H' σ δ := by
  have hno : ∀ i, D ∉ own i := fun i hi => E.new hn (.inr ⟨i, hi⟩)
  have av : ∀ a, Av own (fun b => B b ∨ b = D) a → Av own B a ∨ a = D := fun a h => by
    rcases h with (h | h) | h
    · exact .inl (.inl h)
    · exact .inr h
    · exact .inl (.inr h)
  have E' := (E.mono e).rebase
  refine ⟨E'.base, E'.len, fun a h => ?_, E'.ofr, E'.oex, E'.ond, E'.inj, fun i d h => ?_, fun i oa c h => ?_⟩
  · rcases h with h | h
    · exact E'.bb a h
    · rw [h, keepB_of hD hno]; exact fun z => by cases z
  · obtain ⟨v, h1, h2⟩ := E.sh i d h
    exact ⟨v, h1, ((Rep.fresh hn _ _ h2).up e).av av⟩
  · obtain ⟨v, h1, h2, h4⟩ := E.ow i oa c h
    exact ⟨v, h1, h2, ((h4.kp (.fresh hn) fun _ _ _ z => z).up e).av av⟩
noncomputable def EfD (X : Cx) (δ : Dn) (ifs : List Expr) (k : Bool) : Prop := PIfs X ifs (tT X.K δ k)
theorem efs_nil : EfD X δ [] true := fun pins s σ H Q I hh10 => Zz.a5 hh10 fun Hb own B E q => pifs_nil pins s σ H Q I (q H (Same.refl H))
theorem efs_one {k : Bool} (h : EtD X δ c k) : EfD X δ [c] k := fun pins s σ H Q I q => pifs_one h pins s σ H Q I q
theorem filter_take {α : Type} {p : α → Bool} {ds : List α} {i : Nat} {d : α} (h : ds[i]? = some d) : (ds.take (i + 1)).filter p = (ds.take i).filter p ++ (if p d then [d] else []) := by
  rw [List.take_add_one, h, List.filter_append]
  cases hp : p d <;> simp [hp]
theorem wk_blank {σ : St} {i : Nat} {v : V} : Wk (σ.set i none) ((σ.set i none).set i (some v)) := by
  refine ⟨by rw [List.length_set], fun j w h => ?_⟩
  by_cases ji : j = i
  · subst ji
    rw [List.getElem?_set] at h
    split at h
    · split at h
      · simp at h
      · cases h
    · exact absurd rfl (by assumption)
  · rw [List.getElem?_set_ne (Ne.symm ji)]; exact h
noncomputable def tTs {α : Type} (K : PySem.W.Frag) (δ : Dn) (i : Nat) (emb : α → PyData) (ts : List α) (p : α → Bool) : TT := fun σ H Q => ∃ t, t ∈ ts ∧ tT K ((δ.set i .no).set i (.sh (emb t))) (p t) σ H Q
noncomputable def tEs {α : Type} (K : PySem.W.Frag) (δ : Dn) (i : Nat) (emb : α → PyData) (ts : List α) (p : α → Bool) (f : α → PyData) : TE := fun σ H Q => ∃ t, t ∈ ts ∧ p t = true ∧ tD K ((δ.set i .no).set i (.sh (emb t))) (f t) σ H Q
theorem tcomp_of {K : PySem.W.Frag} {Hb : Hp} {own : Nat → List Addr} {B : Addr → Prop} {σ : St} {H : Hp} {Q : VK} {i : Nat} {α : Type} {emb : α → PyData} {ts : List α} {p : α → Bool} {f : α → PyData} (hz : ts.length ≤ 1000) (hno : ∀ oa c, δ[i]? ≠ some (.own oa c)) (E : EnvO K Hb own B H σ δ)
    (q : ∀ a vs H', Same H H' → H a = none → H' a = some (.lst vs) → Reps K (fun b => Av own B b ∨ b = a) H' ((ts.filter p).map f) vs → Q (.ref a) H') : tComp (tI K δ (ts.map emb)) [i] (gName i) (tTs K δ i emb ts p) (tEs K δ i emb ts p f) σ H Q := by
  have hdl : (ts.map emb).length = ts.length := List.length_map _
  refine ⟨Hb, own, B, E, fun J H1 s1 w D hD => ?_⟩
  have E1 := E.mono s1
  have ho : own i = [] := List.eq_nil_iff_forall_not_mem.mpr fun a z => by
    obtain ⟨oa, ys, hj⟩ := E.oex i a z
    exact absurd hj (hno oa ys)
  have hu : unown own i = own := by
    funext j
    unfold unown
    by_cases ji : j = i
    · rw [if_pos ji, ji, ho]
    · rw [if_neg ji]
  refine ⟨fun n m H' => m = ts.length - n ∧ n ≤ ts.length ∧ Same H1 H' ∧ ∃ vs, H' D = some (.lst vs) ∧ Reps K (fun b => Av own B b ∨ b = D) H' (((ts.take n).filter p).map f) vs,
    ⟨ts.length, rfl, Nat.zero_le _, same_new hD _, [], upd_same, rfl⟩, ?_⟩
  rintro n m H2 ⟨rfl, hn, s2, vs, e2, r2⟩
  have sk : Same (keepB own H1) H2 := fun b o z => s2 b o (keepB_some z).1
  by_cases hlt : n < ts.length
  · refine .inr ⟨w.go n H2 sk (by rw [hdl]; exact hlt), fun x H' hy => ?_⟩
    obtain ⟨eH, d, hd, rd⟩ := w.yld n H2 x H' sk (by rw [hdl]; exact hlt) hy
    subst H'
    obtain ⟨t, ht, rfl⟩ : ∃ t, ts[n]? = some t ∧ d = emb t := by
      rw [List.getElem?_map] at hd
      cases z : ts[n]? with
      | none => rw [z] at hd; cases hd
      | some t => rw [z] at hd; cases hd; exact ⟨t, rfl, rfl⟩
    have hm : t ∈ ts := List.mem_of_getElem? ht
    have G := E1.guard hD s2 e2
    have av : ∀ a, Av own (fun b => B b ∨ b = D) a → Av own B a ∨ a = D := fun a h => by
      rcases h with (h | h) | h
      · exact .inl (.inl h)
      · exact .inr h
      · exact .inl (.inr h)
    have va : ∀ a, Av own B a ∨ a = D → Av own (fun b => B b ∨ b = D) a := fun a h => by
      rcases h with (h | h) | h
      · exact .inl (.inl h)
      · exact .inr h
      · exact .inl (.inr h)
    have rdG : Rep K (Av own fun b => B b ∨ b = D) H2 (emb t) x := by
      have hk : keepB own H1 D = none := by
        cases z : keepB own H1 D with
        | none => rfl
        | some o => rw [(keepB_some z).1] at hD; cases hD
      exact ((Rep.fresh hk _ _ rd).up sk).av av
    have F := (G.forget (i := i)).setSh (i := i) (v := x) (d := emb t) (rdG.av unown_av)
    rw [hu, hu] at F
    refine ⟨wk_blank, t, hm, _, _, _, F, fun H3 s3 => ?_⟩
    have F3 := F.mono s3
    cases hp : p t with
    | true =>
      refine iteT ⟨t, hm, hp, _, _, _, F3, fun v H4 s4 rv => ?_⟩
      have e4 : H4 D = some (.lst vs) := s4 _ _ (s3 _ _ e2)
      have hvl : vs.length < sizeLine := by
        have h1 := r2.length
        rw [List.length_map] at h1
        have h2 := List.length_filter_le p (ts.take n)
        rw [List.length_take] at h2
        exact small1000 (by omega)
      refine ⟨vs, e4, hvl, ts.length - (n + 1), by omega, rfl, hlt, ?_, vs ++ [v], upd_same, ?_⟩
      · intro b o z
        rw [upd_ne (ne_of_none z hD)]
        exact s4 _ _ (s3 _ _ (s2 _ _ z))
      · rw [filter_take ht, hp, List.map_append]
        have hAD : (fun b => Av own B b ∨ b = D) D := .inr rfl
        refine Reps.upd hAD e4 trivial _ _ ((r2.up (s3.trans s4)).append ?_)
        refine Reps.one (rv.av fun a h => ?_)
        exact va a h
    | false =>
      refine iteF ⟨ts.length - (n + 1), by omega, rfl, hlt, s2.trans s3, vs, s3 _ _ e2, ?_⟩
      rw [filter_take ht, hp]
      simpa using r2.up s3
  · have en : n = ts.length := by omega
    subst en
    refine .inl ⟨w.stop _ H2 sk (Nat.le_of_eq hdl), ?_⟩
    rw [List.take_length] at r2
    exact q D vs H2 (s1.trans s2) (s1.free hD) e2 r2
section
variable {iter elt : Expr} {ifs : List Expr} {scope : Scope} {x : Str} {px : Pos} {α : Type}
theorem ef_comp (i : Nat) (emb : α → PyData) (ts : List α) (p : α → Bool) (f : α → PyData) (hc : X.calm = true) (S : CompScope X scope [i]) (hN : X.N.Nodup) (hi : EiD X δ (.Name x px) iter (ts.map emb)) (hz : ts.length ≤ 1000)
    (ht : ∀ C s2 H2 fp t, t ∈ ts → EfD (compX X scope C s2 H2 fp) ((δ.set i .no).set i (.sh (emb t))) ifs (p t))
    (he : ∀ C s2 H2 fp t, t ∈ ts → p t = true → EvD (compX X scope C s2 H2 fp) ((δ.set i .no).set i (.sh (emb t))) elt (f t))
    (hno : ∀ oa c, δ[i]? ≠ some (.own oa c) := by intro _ _ z; cases z)
    (hx : X.N[i]? = some x := by rfl) (hl : Loc (relabel scope X.env) x := by first | exact Or.inl rfl | exact Or.inr rfl)
    (hf : decide (scope.names.lookup x = some .cell) = true ∨ (relabel scope X.env).names.lookup x = some .local := by first | exact Or.inr rfl | exact Or.inl rfl)
    (hs : ∀ x, foldedSetIterable iter X.env x = pure x := by intro _; rfl) : EvF X δ (.ListComp elt [⟨.Name x px, iter, ifs, 0⟩] scope pos) ((ts.filter p).map f) :=
  ef_of (pe_lcomp (is := [i]) (g := gName i) (tt := tTs X.K δ i emb ts p) (te := tEs X.K δ i emb ts p f) hc S hi (fun C s2 H2 fp => ⟨pg_name (X := compX X scope C s2 H2 fp) hN hx hl hf,
    fun pins s σ H Q I ⟨t, h, q⟩ => ht C s2 H2 fp t h pins s σ H Q I q, fun pins s σ H Q I ⟨t, h, hp, q⟩ => he C s2 H2 fp t h hp pins s σ H Q I q⟩) hs) fun Hb own B σ H Q E q => tcomp_of hz hno E q
end
theorem EnvO.share {K : PySem.W.Frag} {Hb : Hp} {own : Nat → List Addr} {B : Addr → Prop} {H : Hp} {σ : St} (E : EnvO K Hb own B H σ δ) {i : Nat} {oa : Option Addr} {c : Cont} {d : PyData} (hδ : δ[i]? = some (.own oa c)) (hd : c.dat = some d := by rfl) : EnvO K Hb (unown own i) B H σ (δ.set i (.sh d)) := by
  obtain ⟨v, h2, _, h4⟩ := E.ow i oa _ hδ
  have na : ∀ a ∈ own i, ¬ Av (unown own i) B a := fun a h1 z => by
    rcases z with z | ⟨j, z⟩
    · exact E.bb a z (E.ofr i a h1)
    · exact (unown_some z).1 (E.inj j i a (unown_some z).2 h1)
  refine ⟨E.base, by rw [List.length_set]; exact E.len, E.bb, fun j a h => E.ofr j a (unown_some h).2, fun j a h => ?_, unown_nd E.ond i, fun j k a h h' => E.inj j k a (unown_some h).2 (unown_some h').2, fun j e h => ?_, fun j oa2 c2 h => ?_⟩
  · obtain ⟨oa2, ys, q⟩ := E.oex j a (unown_some h).2
    exact ⟨oa2, ys, by rw [List.getElem?_set_ne (Ne.symm (unown_some h).1)]; exact q⟩
  · by_cases ji : j = i
    · subst ji
      rw [List.getElem?_set_self (List.getElem?_eq_some_iff.mp hδ).1] at h
      cases h
      exact ⟨v, h2, (h4.av unown_av).rep hd na⟩
    · rw [List.getElem?_set_ne (Ne.symm ji)] at h
      obtain ⟨w, k1, k2⟩ := E.sh j e h
      exact ⟨w, k1, k2.av unown_av⟩
  · by_cases ji : j = i
    · subst ji
      rw [List.getElem?_set_self (List.getElem?_eq_some_iff.mp hδ).1] at h
      cases h
    · rw [List.getElem?_set_ne (Ne.symm ji)] at h
      obtain ⟨w, k1, k2, k4⟩ := E.ow j oa2 c2 h
      exact ⟨w, k1, k2, by rw [unown_ne ji]; exact k4.av unown_av⟩
noncomputable def scalD : PyData → Bool
  | .none => true
  | .bool _ => true
  | .int _ => true
  | .str _ => true
  | _ => false
theorem rep_scal {K : PySem.W.Frag} {A A' : Addr → Prop} {H : Hp} {d : PyData} {v : V} (hs : scalD d = true) (h : Rep K A H d v) : Rep K A' H d v := by
  cases d <;> first | exact h | cases hs
theorem reps_scal {K : PySem.W.Frag} {A A' : Addr → Prop} {H : Hp} : ∀ {ds : List PyData} {vs : List V}, ds.all scalD = true → Reps K A H ds vs → Reps K A' H ds vs
  | [], _, _, h => h
  | x :: xs, _, hs, h => by
    rw [List.all_cons, Bool.and_eq_true] at hs
    obtain ⟨v, r, h1, h2, h3⟩ := h
    exact ⟨v, r, h1, rep_scal hs.1 h2, reps_scal hs.2 h3⟩
theorem et_share (i : Nat) {k : Bool} {oa : Option Addr} (hδ : δ[i]? = some (.own oa (.l xs))) (h : EtD X (δ.set i (.sh (.list xs))) e k) : EtD X δ e k :=
  et_of h fun Hb own B σ H Q E q => ⟨Hb, _, B, E.share hδ, q⟩
theorem ef_share (i : Nat) {oa : Option Addr} (hδ : δ[i]? = some (.own oa (.l xs))) (h : EvF X (δ.set i (.sh (.list xs))) e ys) (hs : ys.all scalD = true) : EvF X δ e ys :=
  ef_of h fun Hb own B σ H Q E q => ⟨Hb, _, B, E.share hδ, fun a vs H' s1 hn ha r => q a vs H' s1 hn ha (reps_scal hs r)⟩
theorem et_shareN (i : Nat) {k : Bool} {oa : Option Addr} {t : OT} {f : PyData} (hδ : δ[i]? = some (.own oa (.n t))) (hd : t.dat = some f) (h : EtD X (δ.set i (.sh f)) e k) : EtD X δ e k :=
  et_of h fun Hb own B σ H Q E q => ⟨Hb, _, B, E.share hδ hd, q⟩
theorem ef_shareN (i : Nat) {oa : Option Addr} {t : OT} {f : PyData} (hδ : δ[i]? = some (.own oa (.n t))) (hd : t.dat = some f) (h : EvF X (δ.set i (.sh f)) e ys) (hs : ys.all scalD = true) : EvF X δ e ys :=
  ef_of h fun Hb own B σ H Q E q => ⟨Hb, _, B, E.share hδ hd, fun a vs H' s1 hn ha r => q a vs H' s1 hn ha (reps_scal hs r)⟩
end
end L2
end
section
namespace L2
open PySem PySem.Spec PyProof.Rows
inductive Out where
  | nx (δ : Dn)
  | rt (d : PyData)
  /-- a new list is handed back -/
  | rf (xs : List PyData)
  /-- handed back, what is owned still known -/
  | rw (δ : Dn) (d : PyData)
  /-- a new thing with parts of its own is handed back -/
  | rn (t : OT)
  /-- .. what is owned still known -/
  | rz (δ : Dn) (t : OT)
  | bk (δ : Dn)
  | ct (δ : Dn)
noncomputable def Post (K : PySem.W.Frag) (Hb : Hp) (B : Addr → Prop) (D : Ends) : Out → Prop
  | .nx δ => ∀ own σ H, EnvO K Hb own B H σ δ → D.nx σ H
  | .bk δ => ∀ own σ H, EnvO K Hb own B H σ δ → D.bk σ H
  | .ct δ => ∀ own σ H, EnvO K Hb own B H σ δ → D.ct σ H
  | .rt d => ∀ v H, Same Hb H → Rep K B H d v → D.rt v H
  | .rf xs => ∀ a vs H, Same Hb H → Hb a = none → H a = some (.lst vs) → Reps K (fun b => B b ∨ b = a) H xs vs → D.rt (.ref a) H
  | .rw δ d => ∀ own σ H v, EnvO K Hb own B H σ δ → Rep K (Av own B) H d v → D.rt v H
  | .rn t => ∀ v as H, Same Hb H → (∀ a ∈ as, Hb a = none) → as.Nodup → RepO K (fun b => B b ∨ b ∈ as) H t v as → D.rt v H
  | .rz δ t => ∀ own σ H v as, EnvO K Hb own B H σ δ → EnvO K (keepB own H) own (fun b => B b ∨ b ∈ as) H σ δ → (∀ a ∈ as, Hb a = none ∧ ¬ Av own B a) → as.Nodup → RepO K (fun b => Av own B b ∨ b ∈ as) H t v as → D.rt v H
noncomputable def tS (K : PySem.W.Frag) (δ : Dn) (o : Out) : TS := fun D σ H => ∃ Hb own B, EnvO K Hb own B H σ δ ∧ Post K Hb B D o
noncomputable def SR (X : Cx) (δ : Dn) (st : List Stmt) (o : Out) : Prop := PSs X st (tS X.K δ o)
noncomputable def S1 (X : Cx) (δ : Dn) (st : Stmt) (o : Out) : Prop := PS X st (tS X.K δ o)
theorem Post.rebase {K : PySem.W.Frag} {Hb : Hp} {own : Nat → List Addr} {B : Addr → Prop} {H : Hp} {σ : St} {δ : Dn} {D : Ends} {o : Out} (E : EnvO K Hb own B H σ δ) (P : Post K Hb B D o) : Post K (keepB own H) B D o := by
  have sb : Same Hb (keepB own H) := fun b u q => keepB_of (E.base b u q) fun i hi => by rw [E.ofr i b hi] at q; cases q
  cases o with
  | nx δ' => exact fun own' σ' H' E' => P own' σ' H' (E.unbase' E')
  | bk δ' => exact fun own' σ' H' E' => P own' σ' H' (E.unbase' E')
  | ct δ' => exact fun own' σ' H' E' => P own' σ' H' (E.unbase' E')
  | rt d => exact fun v H' s r => P v H' (sb.trans s) r
  | rf xs => exact fun a vs H' s hn ha r => P a vs H' (sb.trans s) (sb.free hn) ha r
  | rw δ' d => exact fun own' σ' H' v E' r => P own' σ' H' v (E.unbase' E') r
  | rn t => exact fun v as H' s hn nd r => P v as H' (sb.trans s) (fun a ha => sb.free (hn a ha)) nd r
  | rz δ' t => exact fun own' σ' H' v as E' G hn nd r => P own' σ' H' v as (E.unbase' E') G (fun a ha => ⟨sb.free (hn a ha).1, (hn a ha).2⟩) nd r
section
variable {X : Cx} {δ δ1 : Dn} {a b c e tg : Expr} {d da db : PyData} {pos : Pos} {xs ys : List PyData} {st : Stmt} {rest body els : List Stmt} {o : Out} {x y : Str} {i j : Nat}
theorem sr_nil : SR X δ [] (.nx δ) := fun pins s σ H D I hh11 => Zz.a5 hh11 fun Hb own B E P => pss_nil pins s σ H D I (P own σ H E)
theorem sr_cons (h1 : S1 X δ st (.nx δ1)) (h2 : SR X δ1 rest o) : SR X δ (st :: rest) o :=
  fun pins s σ H D I hh12 => Zz.a5 hh12 fun Hb own B E P => pss_cons h1 h2 pins s σ H D I ⟨Hb, own, B, E, fun own' σ' H' E' => ⟨Hb, own', B, E', P⟩⟩
theorem sr_one (h1 : S1 X δ st o) : SR X δ [st] o := pss_one h1
theorem sr_rt (h1 : S1 X δ st (.rt d)) : SR X δ (st :: rest) (.rt d) := fun pins s σ H D I hh13 => Zz.a5 hh13 fun Hb own B E P => pss_cons h1 (pss_never (sts := rest)) pins s σ H D I ⟨Hb, own, B, E, P⟩
theorem sr_rf (h1 : S1 X δ st (.rf xs)) : SR X δ (st :: rest) (.rf xs) := fun pins s σ H D I hh14 => Zz.a5 hh14 fun Hb own B E P => pss_cons h1 (pss_never (sts := rest)) pins s σ H D I ⟨Hb, own, B, E, P⟩
theorem sr_eq {o' : Out} (h : SR X δ body o) (q : o = o') : SR X δ body o' := q ▸ h
theorem s1_eq {o' : Out} (h : S1 X δ st o) (q : o = o') : S1 X δ st o' := q ▸ h
theorem s1_if {k : Bool} (hc : EtD X δ c k) (h1 : k = true → SR X δ body o) (h2 : k = false → SR X δ els o) : S1 X δ (.If c body els pos) o := by
  cases k with
  | true => exact fun pins s σ H D I hh15 => Zz.a5 hh15 fun Hb own B E P => ps_if hc (h1 rfl) (pss_never (sts := els)) pins s σ H D I ⟨Hb, own, B, E, fun H' s1 => iteT ⟨Hb, own, B, E.mono s1, P⟩⟩
  | false => exact fun pins s σ H D I hh16 => Zz.a5 hh16 fun Hb own B E P => ps_if hc (pss_never (sts := body)) (h2 rfl) pins s σ H D I ⟨Hb, own, B, E, fun H' s1 => iteF ⟨Hb, own, B, E.mono s1, P⟩⟩
theorem sr_if_out {k : Bool} (hc : EtD X δ c k) (h1 : k = true → SR X δ body o) (h2 : k = false → SR X δ rest o) (hn : ∀ δ', o ≠ .nx δ' := by intro _ z; cases z) : SR X δ (.If c body [] pos :: rest) o := by
  cases k with
  | true =>
    intro pins s σ H D I ⟨Hb, own, B, E, P⟩
    refine pss_cons (s1_if (els := []) hc (fun _ => h1 rfl) (fun z => nomatch z)) (pss_never (sts := rest)) pins s σ H D I ⟨Hb, own, B, E, ?_⟩
    cases o with
    | nx δ' => exact absurd rfl (hn δ')
    | _ => exact P
  | false => exact sr_cons (s1_if (els := []) hc (fun z => nomatch z) fun _ => sr_nil) (h2 rfl)
theorem s1_set (i : Nat) {px : Pos} (hN : X.N.Nodup) (he : EvD X δ e d) (hi : X.N[i]? = some x := by rfl) (hx : Loc X.env.scope x := by first | exact Or.inl rfl | exact Or.inr rfl) (hs : swapsWith e (some (.Name x px)) pos.line X.env = pure false := by rfl) (hf : X.fn x = true ∨ X.env.scope.names.lookup x = some .local := by first | exact .inl rfl | exact .inr rfl | assumption) :
    S1 X δ (.Assign [.Name x px] e pos) (.nx (δ.set i (.sh d))) :=
  fun pins s σ H D I hh17 => Zz.a5 hh17 fun Hb own B E P => ps_set hN hi hx he hs hf pins s σ H D I ⟨Hb, own, B, E, fun v H' s1 r => P _ _ _ ((E.mono s1).setSh r)⟩
theorem s1_setF (i : Nat) {px : Pos} (hN : X.N.Nodup) (he : EvF X δ e xs) (hl : i < δ.length := by exact Nat.le_of_ble_eq_true rfl) (hi : X.N[i]? = some x := by rfl) (hx : Loc X.env.scope x := by first | exact Or.inl rfl | exact Or.inr rfl) (hs : swapsWith e (some (.Name x px)) pos.line X.env = pure false := by rfl) (hf : X.fn x = true ∨ X.env.scope.names.lookup x = some .local := by first | exact .inl rfl | exact .inr rfl | assumption) :
    S1 X δ (.Assign [.Name x px] e pos) (.nx (δ.set i (.ow xs))) :=
  fun pins s σ H D I hh18 => Zz.a5 hh18 fun Hb own B E P => ps_set hN hi hx he hs hf pins s σ H D I ⟨Hb, own, B, E, fun a vs H' s1 hn ha r => P _ _ _ (E.setOw s1 hl hn ha r)⟩
theorem s1_setC {α : Type} (j i : Nat) (emb : α → PyData) (ts : List α) (p : α → Bool) (f : α → PyData) {iter elt : Expr} {ifs : List Expr} {scope : Scope} {px py cpos : Pos} (hc : X.calm = true) (S : CompScope X scope [i]) (hN : X.N.Nodup) (hi : EiD X δ (.Name x px) iter (ts.map emb)) (hz : ts.length ≤ 1000)
    (ht : ∀ C s2 H2 fp t, t ∈ ts → EfD (compX X scope C s2 H2 fp) ((δ.set i .no).set i (.sh (emb t))) ifs (p t))
    (he : ∀ C s2 H2 fp t, t ∈ ts → p t = true → EvD (compX X scope C s2 H2 fp) ((δ.set i .no).set i (.sh (emb t))) elt (f t))
    (hno : ∀ oa c, δ[i]? ≠ some (.own oa c) := by intro _ _ z; cases z) (hjl : j < δ.length := by exact Nat.le_of_ble_eq_true rfl)
    (hx : X.N[i]? = some x := by rfl) (hl : Loc (relabel scope X.env) x := by first | exact Or.inl rfl | exact Or.inr rfl)
    (hf : decide (scope.names.lookup x = some .cell) = true ∨ (relabel scope X.env).names.lookup x = some .local := by first | exact Or.inr rfl | exact Or.inl rfl)
    (hj : X.N[j]? = some y := by rfl) (hy : X.env.scope.names.lookup y = some .local := by rfl)
    (hsw : swapsWith (.ListComp elt [⟨.Name x px, iter, ifs, 0⟩] scope cpos) (some (.Name y py)) pos.line X.env = pure true := by rfl)
    (hs : ∀ x, foldedSetIterable iter X.env x = pure x := by intro _; rfl) : S1 X δ (.Assign [.Name y py] (.ListComp elt [⟨.Name x px, iter, ifs, 0⟩] scope cpos) pos) (.nx (δ.set j (.ow ((ts.filter p).map f)))) :=
  fun pins s σ H D I hh19 => Zz.a5 hh19 fun Hb own B E P => ps_setComp (is := [i]) (g := gName i) (tt := tTs X.K δ i emb ts p) (te := tEs X.K δ i emb ts p f) hc S hi (fun C s2 H2 fp => ⟨pg_name (X := compX X scope C s2 H2 fp) hN hx hl hf,
    fun pins s σ H Q I ⟨t, h, q⟩ => ht C s2 H2 fp t h pins s σ H Q I q, fun pins s σ H Q I ⟨t, h, hp, q⟩ => he C s2 H2 fp t h hp pins s σ H Q I q⟩) hN hj hy hsw hs pins s σ H D I
    (tcomp_of hz hno E fun a vs H' s1 hn ha r => P _ _ _ (E.setOw s1 hjl hn ha r))
theorem s1_ret (he : EvD X δ e d) : S1 X δ (.Return (some e) pos) (.rt d) :=
  fun pins s σ H D I hh20 => Zz.a5 hh20 fun Hb own B E P => ps_ret he pins s σ H D I ⟨Hb, own, B, E, fun v H' s1 r => P v H' (E.base.trans s1) (r.av fun _ h => .inl h)⟩
theorem s1_retW (he : EvD X δ e d) : S1 X δ (.Return (some e) pos) (.rw δ d) :=
  fun pins s σ H D I hh21 => Zz.a5 hh21 fun Hb own B E P => ps_ret he pins s σ H D I ⟨Hb, own, B, E, fun v H' s1 r => P own σ H' v (E.mono s1) r⟩
theorem sr_rw (h1 : S1 X δ st (.rw δ1 d)) : SR X δ (st :: rest) (.rw δ1 d) := fun pins s σ H D I hh22 => Zz.a5 hh22 fun Hb own B E P => pss_cons h1 (pss_never (sts := rest)) pins s σ H D I ⟨Hb, own, B, E, P⟩
theorem sr_rz {t : OT} (h1 : S1 X δ st (.rz δ1 t)) : SR X δ (st :: rest) (.rz δ1 t) := fun pins s σ H D I hh23 => Zz.a5 hh23 fun Hb own B E P => pss_cons h1 (pss_never (sts := rest)) pins s σ H D I ⟨Hb, own, B, E, P⟩
theorem sr_rn {t : OT} (h1 : S1 X δ st (.rn t)) : SR X δ (st :: rest) (.rn t) := fun pins s σ H D I hh24 => Zz.a5 hh24 fun Hb own B E P => pss_cons h1 (pss_never (sts := rest)) pins s σ H D I ⟨Hb, own, B, E, P⟩
theorem s1_retF (he : EvF X δ e xs) : S1 X δ (.Return (some e) pos) (.rf xs) :=
  fun pins s σ H D I hh25 => Zz.a5 hh25 fun Hb own B E P => ps_ret he pins s σ H D I ⟨Hb, own, B, E, fun a vs H' s1 hn ha r => P a vs H' (E.base.trans s1) (E.base.free hn) ha (r.av fun b h => h.imp .inl id)⟩
theorem s1_retO (i : Nat) {px : Pos} {oa : Option Addr} (hδ : δ[i]? = some (.own oa (.l xs))) (hN : X.N[i]? = some x := by rfl) (hv : Vis X.env.scope x := by first | exact Or.inl rfl | exact Or.inr (Or.inl rfl) | exact Or.inr (Or.inr rfl)) (hd : (x == ("__debug__" : Str)) = false := by decide)
    (hcd : (x == ("__classdict__" : Str)) = false := by decide) : S1 X δ (.Return (some (.Name x px)) pos) (.rf xs) :=
  fun pins s σ H D I hh26 => Zz.a5 hh26 fun Hb own B E P => ps_ret (pe_var hN hv hd hcd) pins s σ H D I (by
    obtain ⟨a, vs, h1, h2, h3, h4⟩ := E.owl hδ
    exact ⟨_, h2, P a vs H E.base (E.ofr i a h1) h3 (h4.av fun b h => h.elim (fun z => .inl z) fun z => .inr ⟨i, by rw [z]; exact h1⟩)⟩)
theorem sr_share (i : Nat) {oa : Option Addr} (hδ : δ[i]? = some (.own oa (.l xs))) (h : SR X (δ.set i (.sh (.list xs))) body o) : SR X δ body o := fun pins s σ H D I hh27 => Zz.a5 hh27 fun Hb own B E P => h pins s σ H D I ⟨Hb, _, B, E.share hδ, P⟩
theorem s1_append (i : Nat) {px apos cpos : Pos} {oa : Option Addr} (hδ : δ[i]? = some (.own oa (.l xs))) (he : EvD X δ e d) (hz : xs.length < 1000) (hN : X.N[i]? = some x := by rfl) (hv : Vis X.env.scope x := by first | exact Or.inl rfl | exact Or.inr (Or.inl rfl) | exact Or.inr (Or.inr rfl)) (hd : (x == ("__debug__" : Str)) = false := by decide)
    (hcd : (x == ("__classdict__" : Str)) = false := by decide) (hst : starEach [e] X.env = [(false, eval e X.env)] := by rfl)
    (hb : ∀ {te : TE} {t : TA}, PE X (.Name x px) te → PA X [e] t → PE X (.Call (.Attribute (.Name x px) "append" apos) [e] [] cpos) (tBM X.K "list" rAppend te t) := by exact fun h1 h2 => pe_bm PySem.F.plainAttrs_list PySem.F.slot_list_append PySem.F.type_list_append mt_append h1 h2)
    (hsw : swapsWith (.Call (.Attribute (.Name x px) "append" apos) [e] [] cpos) none pos.line X.env = pure false := by rfl) :
    S1 X δ (.Expr (.Call (.Attribute (.Name x px) "append" apos) [e] [] cpos) pos) (.nx (δ.set i (.own oa (.l (xs ++ [d]))))) :=
  fun pins s σ H D I hh28 => Zz.a5 hh28 fun Hb own B E P => ps_expr (hb (pe_var hN hv hd hcd) (ea_cons he ea_nil (by rw [hst]; rfl))) hsw pins s σ H D I (by
    obtain ⟨a, vs, h1, h2, h3, h4⟩ := E.owl hδ
    refine ⟨_, h2, .inl ⟨rfl, vs, SqL.of h3⟩, Hb, own, B, E, fun us H' s1 r => ?_⟩
    obtain ⟨v, r', rfl, rv, e2⟩ := r
    cases e2
    exact ⟨a, vs, v, rfl, rfl, s1 _ _ h3, by rw [← h4.length]; exact small1000 (Nat.le_of_lt hz), P _ _ _ ((E.mono s1).write hδ h1 ((h4.up s1).append (Reps.one rv)))⟩)
theorem s1_pair (i j : Nat) {p1 p2 p3 : Pos} {k} (hc : X.calm = true) (hN : X.N.Nodup) (he : EvD X δ e (.tuple [da, db])) (hi : X.N[i]? = some x := by rfl) (hj : X.N[j]? = some y := by rfl) (hx : Loc X.env.scope x := by first | exact Or.inl rfl | exact Or.inr rfl) (hy : Loc X.env.scope y := by first | exact Or.inl rfl | exact Or.inr rfl)
    (hf : X.fn x = true ∨ X.env.scope.names.lookup x = some .local := by first | exact .inl rfl | exact .inr rfl) (hf' : X.fn y = true ∨ X.env.scope.names.lookup y = some .local := by first | exact .inl rfl | exact .inr rfl)
    (hs : swapsWithSole [.Tuple [.Name x p1, .Name y p2] k p3] e pos.line X.env = pure false := by rfl) (hw : swappedStores [.Tuple [.Name x p1, .Name y p2] k p3] e X.env = pure none := by rfl) :
    S1 X δ (.Assign [.Tuple [.Name x p1, .Name y p2] k p3] e pos) (.nx ((δ.set i (.sh da)).set j (.sh db))) :=
  fun pins s σ H D I hh29 => Zz.a5 hh29 fun Hb own B E P => ps_asg he (pg_tup (n := 2) hc (pgs_cons (pg_name hN hi hx hf) (pgs_cons (pg_name hN hj hy hf') pgs_nil))) hs hw rfl pins s σ H D I ⟨Hb, own, B, E, fun v H' s1 r => by
    obtain ⟨p, vs, rfl, h3, u, r1, rfl, ru, w, r2, rfl, rw', e2⟩ := r
    cases e2
    exact ⟨p, _, rfl, SqT.of h3, rfl, u, _, rfl, w, _, rfl, rfl, P _ _ _ ((((E.mono s1).setSh ru)).setSh (rw'.av unown_av))⟩⟩
theorem Kp.young {A A' : Addr → Prop} {Hk : Hp} (av : ∀ a, A' a → A a ∨ Hk a = none) : Kp A A' Hk Hk :=
  ⟨fun a _ h _ q => ⟨fun z => (av a z).elim h fun y => (by rw [y] at q; cases q), q⟩, fun _ _ q => q, fun _ _ _ q => q⟩
theorem Rep.young {K : PySem.W.Frag} {A A' : Addr → Prop} {Hk H : Hp} {d : PyData} {v : V} (av : ∀ a, A' a → A a ∨ Hk a = none) (h : Rep K A Hk d v) (e : Same Hk H) : Rep K A' H d v := (Rep.kp (.young av) d v h).up e
noncomputable def loopO (F : PyData → Dn → Out) : List PyData → Dn → Out
  | [], δ => .nx δ
  | d :: r, δ => match F d δ with
    | .nx δ' => loopO F r δ'
    | .ct δ' => loopO F r δ'
    | .bk δ' => .nx δ'
    | o => o
theorem loopO_cons (F : PyData → Dn → Out) (d : PyData) (r : List PyData) (δ : Dn) : loopO F (d :: r) δ = match F d δ with
    | .nx δ' => loopO F r δ'
    | .ct δ' => loopO F r δ'
    | .bk δ' => .nx δ'
    | o => o := rfl
theorem drop_cons {α : Type} {l : List α} {n : Nat} {d : α} (h : l[n]? = some d) : l.drop n = d :: l.drop (n + 1) := by
  obtain ⟨h1, rfl⟩ := List.getElem?_eq_some_iff.mp h
  exact List.drop_eq_getElem_cons h1
theorem s1_for (i : Nat) (F : PyData → Dn → Out) (J : Nat → Dn → Prop) {ds : List PyData} {iter : Expr} {px : Pos} (hp : PassesOwn (model X.prog X.w) X.A X.env X.xe) (hc : X.calm = true) (hN : X.N.Nodup) (hi : EiD X δ (.Name x px) iter ds) (h0 : J 0 δ)
    (turn : ∀ (n : Nat) d δ, ds[n]? = some d → J n δ → SR X (δ.set i (.sh d)) body (F d δ)) (keep : ∀ (n : Nat) d δ δ', ds[n]? = some d → J n δ → (F d δ = .nx δ' ∨ F d δ = .ct δ') → J (n + 1) δ')
    (hx : X.N[i]? = some x := by rfl) (hl : Loc X.env.scope x := by first | exact Or.inl rfl | exact Or.inr rfl) (hf : X.fn x = true ∨ X.env.scope.names.lookup x = some .local := by first | exact .inl rfl | exact .inr rfl)
    (hs : ∀ x, foldedSetIterable iter X.env x = pure x := by intro _; rfl) : S1 X δ (.For (.Name x px) iter body [] pos) (loopO F ds δ) := by
  have hB : PSs X body (fun D σ H => ∃ (n : Nat) (d : PyData) (δ' : Dn), ds[n]? = some d ∧ J n δ' ∧ tS X.K (δ'.set i (.sh d)) (F d δ') D σ H) := fun pins s σ H D I ⟨n, d, δ', hd, hJ, q⟩ => turn n d δ' hd hJ pins s σ H D I q
  intro pins s σ H D I ⟨Hb, own, B, E, P⟩
  refine ps_for hp hc hi (pg_name hN hx hl hf) hB hs pins s σ H D I ⟨Hb, own, B, E, fun Jt H1 s1 w => ?_⟩
  have E1 := E.mono s1
  have R1 := E1.rebase
  have P1 := Post.rebase E1 P
  refine ⟨fun n m σ' H' => m = ds.length - n ∧ n ≤ ds.length ∧ ∃ own' δ', EnvO X.K (keepB own H1) own' B H' σ' δ' ∧ J n δ' ∧ loopO F (ds.drop n) δ' = loopO F ds δ, ⟨ds.length, rfl, Nat.zero_le _, own, δ, R1, h0, rfl⟩, ?_⟩
  rintro n m σ2 H2 ⟨rfl, hn, own2, δ2, E2, hJ, hO⟩
  by_cases hlt : n < ds.length
  · refine .inr ⟨w.go n H2 E2.base hlt, ?_⟩
    have hd0 : ds[n]? = some ds[n] := List.getElem?_eq_getElem hlt
    have hm : ds[n] ∈ ds := List.getElem_mem hlt
    rw [drop_cons hd0] at hO
    refine ⟨fun σ' H' => ∃ own' δ', EnvO X.K (keepB own H1) own' B H' σ' δ' ∧ (F ds[n] δ2 = .nx δ' ∨ F ds[n] δ2 = .ct δ'), fun σ' H' ⟨own', δ', E', hF⟩ => ⟨ds.length - (n + 1), by omega, rfl, hlt, own', δ', E', keep _ _ _ _ hd0 hJ hF, ?ka⟩, fun v H' hy => ?kb⟩
    case ka =>
      rw [loopO_cons] at hO
      rcases hF with hF | hF <;> (rw [hF] at hO; exact hO)
    case kb =>
      obtain ⟨eH, d, hd, rd⟩ := w.yld n H2 v H' E2.base hlt hy
      rw [hd0] at hd
      cases hd
      subst H'
      have av : ∀ a, Av own2 B a → Av own B a ∨ keepB own H1 a = none := fun a h => by
        rcases h with h | ⟨j, h⟩
        · exact .inl (.inl h)
        · exact .inr (E2.ofr j a h)
      have rd2 : Rep X.K (Av own2 B) H2 ds[n] v := Rep.young (Hk := keepB own H1) (fun a h => av a h) rd E2.base
      refine ⟨n, ds[n], δ2, hd0, hJ, _, _, _, E2.setSh rd2, ?_⟩
      cases hF : F ds[n] δ2 with
      | nx δ' => exact fun own' σ' H' E' => ⟨own', δ', E', .inl rfl⟩
      | ct δ' => exact fun own' σ' H' E' => ⟨own', δ', E', .inr rfl⟩
      | bk δ' =>
        have : loopO F ds δ = .nx δ' := by rw [← hO]; unfold loopO; rw [hF]
        rw [this] at P1
        exact fun own' σ' H' E' => P1 own' σ' H' E'
      | rt d =>
        have : loopO F ds δ = .rt d := by rw [← hO]; unfold loopO; rw [hF]
        rw [this] at P1
        exact P1
      | rf ys =>
        have : loopO F ds δ = .rf ys := by rw [← hO]; unfold loopO; rw [hF]
        rw [this] at P1
        exact P1
      | rw δ' ys =>
        have : loopO F ds δ = .rw δ' ys := by rw [← hO]; unfold loopO; rw [hF]
        rw [this] at P1
        exact P1
      | rn t =>
        have : loopO F ds δ = .rn t := by rw [← hO]; unfold loopO; rw [hF]
        rw [this] at P1
        exact P1
      | rz δ' t =>
        have : loopO F ds δ = .rz δ' t := by rw [← hO]; unfold loopO; rw [hF]
        rw [this] at P1
        exact P1
  · have en : n = ds.length := by omega
    subst en
    rw [List.drop_length] at hO
    refine .inl ⟨w.stop _ H2 E2.base (Nat.le_refl _), ?_⟩
    rw [← hO] at P1
    exact P1 own2 σ2 H2 E2
theorem sr_skip (hc : EtD X δ c false) (h : SR X δ rest o) : SR X δ (.If c body [] pos :: rest) o := sr_cons (s1_if (els := []) hc (fun z => nomatch z) fun _ => sr_nil) h
end
end L2
end
section
namespace L2
open PySem PySem.Spec PyProof.Rows
noncomputable def spP (K : PySem.W.Frag) (R : List PyData → PyData → Prop) : Sp := fun vs H Q _ => ∃ B ds d, (∀ a, B a → H a ≠ none) ∧ Reps K B H ds vs ∧ R ds d ∧ ∀ v H', Same H H' → Rep K B H' d v → Q v H'
noncomputable def spL (K : PySem.W.Frag) (R : List PyData → List PyData → Prop) : Sp := fun vs H Q _ => ∃ B ds xs, (∀ a, B a → H a ≠ none) ∧ Reps K B H ds vs ∧ R ds xs ∧
  ∀ a us H', Same H H' → H a = none → H' a = some (.lst us) → Reps K (fun b => B b ∨ b = a) H' xs us → Q (.ref a) H'
structure Fn (P : Program) (w : World) (K : PySem.W.Frag) (mg : Str → Option Value) (base : Heap) (name : Str) (k : Nat) (ps : List Str) (sp : Sp) : Prop where
  ex : ∃ f fd, FnOk P w K mg base CX0 k f fd ps sp ∧ mg name = some (.ref f) ∧ PySem.W.keepIn K (.ref f) = true ∧ Binds K fd ps []
section
variable {X : Cx} {δ : Dn} {e : Expr} {es : List Expr} {d : PyData} {ds xs : List PyData} {p pos : Pos} {name : Str} {k j : Nat} {ps : List Str}
theorem ev_call {R : List PyData → PyData → Prop} (G : Fn X.prog X.w X.K X.mg X.base name j ps (spP X.K R)) (hr : Room k X.A) (hjk : j ≤ k) (hg : Gl X name) (ha : EaD X δ (e :: es) ds) (hR : R ds d) (hdb : (name == ("__debug__" : Str)) = false := by decide)
    (he : starEach (e :: es) X.env = (false, eval e X.env) :: starEach es X.env := by rfl) (hpl : (backTo pos (starEach es X.env)).any (·.1) = false := by rfl) : EvD X δ (.Call (.Name name p) (e :: es) [] pos) d := by
  obtain ⟨f, fd, h1, h2, h3, h4⟩ := G.ex
  refine ev_of (pe_call h1 (hr.mono hjk) hg h2 h3 h4 .nil pass0 ha hdb he hpl) fun Hb own B σ H Q E q => ⟨Hb, own, B, E, fun vs H1 s1 rv => ?_⟩
  show spP X.K R (vs ++ []) H1 Q E0
  rw [List.append_nil]
  exact ⟨Av own B, ds, d, fun a z => (E.mono s1).alive z, rv, hR, fun v H' s2 r => q v H' (s1.trans s2) r⟩
theorem ef_call {R : List PyData → List PyData → Prop} (G : Fn X.prog X.w X.K X.mg X.base name j ps (spL X.K R)) (hr : Room k X.A) (hjk : j ≤ k) (hg : Gl X name) (ha : EaD X δ (e :: es) ds) (hR : R ds xs) (hdb : (name == ("__debug__" : Str)) = false := by decide)
    (he : starEach (e :: es) X.env = (false, eval e X.env) :: starEach es X.env := by rfl) (hpl : (backTo pos (starEach es X.env)).any (·.1) = false := by rfl) : EvF X δ (.Call (.Name name p) (e :: es) [] pos) xs := by
  obtain ⟨f, fd, h1, h2, h3, h4⟩ := G.ex
  refine ef_of (pe_call h1 (hr.mono hjk) hg h2 h3 h4 .nil pass0 ha hdb he hpl) fun Hb own B σ H Q E q => ⟨Hb, own, B, E, fun vs H1 s1 rv => ?_⟩
  show spL X.K R (vs ++ []) H1 Q E0
  rw [List.append_nil]
  exact ⟨Av own B, ds, xs, fun a z => (E.mono s1).alive z, rv, hR, fun a us H' s2 hn ha r => q a us H' (s1.trans s2) (s1.free hn) ha r⟩
end
noncomputable def startD (N : List Str) (ds : List PyData) : Dn := ds.map .sh ++ List.replicate (N.length - ds.length) .no
theorem env_start {K : PySem.W.Frag} {H : Hp} {B : Addr → Prop} {N : List Str} {ds : List PyData} {vs : List V} (hB : ∀ a, B a → H a ≠ none) (r : Reps K B H ds vs) : EnvO K H (fun _ => []) B H (start N vs) (startD N ds) := by
  have hl := r.length
  have av : ∀ a, Av (fun _ => []) B a → B a := fun a h => h.elim id fun ⟨_, z⟩ => (nomatch z)
  refine ⟨Same.refl H, by simp [start, startD, hl], hB, fun _ _ z => (nomatch z), fun _ _ z => (nomatch z), fun _ => List.nodup_nil, fun _ _ _ z => (nomatch z), fun i d h => ?_, fun i oa c h => ?_⟩
  · unfold startD at h
    by_cases hi : i < ds.length
    · rw [List.getElem?_append_left (by simpa using hi), List.getElem?_map] at h
      cases q : ds[i]? with
      | none => rw [q] at h; cases h
      | some d' =>
        rw [q] at h
        cases h
        obtain ⟨v, hv, rv⟩ := r.at q
        refine ⟨v, ?_, rv.av av⟩
        unfold start
        rw [List.getElem?_append_left (by rw [List.length_map, ← hl]; exact hi), List.getElem?_map, hv]
        rfl
    · rw [List.getElem?_append_right (by simpa using hi), List.getElem?_replicate] at h
      split at h <;> cases h
  · unfold startD at h
    by_cases hi : i < ds.length
    · rw [List.getElem?_append_left (by simpa using hi), List.getElem?_map] at h
      cases q : ds[i]? with
      | none => rw [q] at h; cases h
      | some d' => rw [q] at h; cases h
    · rw [List.getElem?_append_right (by simpa using hi), List.getElem?_replicate] at h
      split at h <;> cases h
noncomputable abbrev bx (P : Program) (w : World) (K : PySem.W.Frag) (mg : Str → Option Value) (base : Heap) (N : List Str) (qual : Str) (st : Stmt) (f : Addr) (cdv : Value) (A : Around) (outer : List Env) (s : Shared) (H : Hp) (E : XK) : Cx :=
  (cxOf CX0 P w K mg base N qual (defScope st) f cdv A outer s H E).nox
section
variable {P : Program} {w : World} {K : PySem.W.Frag} {mg : Str → Option Value} {base : Heap} {x qual : Str} {st : Stmt} {f : Addr} {fd : FuncData} {N ps : List Str} {k : Nat}
theorem fn_P {R : List PyData → PyData → Prop} (F : Fun K x qual st f fd) (S : FnScope N ps (defScope st)) (hm : mg x = some (.ref f)) (hb : Binds K fd ps []) (hl : ∀ ds d, R ds d → ds.length = ps.length)
    (body : ∀ cdv A outer s H E, Room k (bx P w K mg base N qual st f cdv A outer s H E).A → ∀ ds d, R ds d → SR (bx P w K mg base N qual st f cdv A outer s H E) (startD N ds) (defBody st) (.rt d) ∨ (SR (bx P w K mg base N qual st f cdv A outer s H E) (startD N ds) (defBody st) (.rf (match d with | .list xs => xs | _ => [])) ∧ ∃ xs, d = .list xs)) :
    Fn P w K mg base x (k + 1) ps (spP K R) := by
  refine ⟨f, fd, F.ok S (fun vs H Q E h => ?_) (fun cdv A outer s H vs Q E hr h => ?_), hm, F.kp, hb⟩
  · obtain ⟨B, ds, d, _, r, hR, _⟩ := h
    rw [← r.length]; exact hl ds d hR
  · obtain ⟨B, ds, d, hB, r, hR, q⟩ := h
    rcases body cdv A outer s H E hr ds d hR with h | ⟨h, xs, rfl⟩
    · exact ⟨_, h, H, _, B, env_start hB r, fun v H' s1 rv => q v H' s1 rv⟩
    · exact ⟨_, h, H, _, B, env_start hB r, fun a vs H' s1 hn ha rv => q _ H' s1 ⟨a, vs, rfl, fun z => hB a z hn, ha, rv.av fun _ z => .inl z⟩⟩
theorem fn_L {R : List PyData → List PyData → Prop} (F : Fun K x qual st f fd) (S : FnScope N ps (defScope st)) (hm : mg x = some (.ref f)) (hb : Binds K fd ps []) (hl : ∀ ds d, R ds d → ds.length = ps.length)
    (body : ∀ cdv A outer s H E, Room k (bx P w K mg base N qual st f cdv A outer s H E).A → ∀ ds xs, R ds xs → SR (bx P w K mg base N qual st f cdv A outer s H E) (startD N ds) (defBody st) (.rf xs)) :
    Fn P w K mg base x (k + 1) ps (spL K R) := by
  refine ⟨f, fd, F.ok S (fun vs H Q E h => ?_) (fun cdv A outer s H vs Q E hr h => ?_), hm, F.kp, hb⟩
  · obtain ⟨B, ds, d, _, r, hR, _⟩ := h
    rw [← r.length]; exact hl ds d hR
  · obtain ⟨B, ds, xs, hB, r, hR, q⟩ := h
    exact ⟨_, body cdv A outer s H E hr ds xs hR, H, _, B, env_start hB r, fun a vs H' s1 hn ha rv => q a vs H' s1 hn ha rv⟩
end
noncomputable def spLaw (K : PySem.W.Frag) : Sp := fun vs H Q _ => ∃ (a : Addr) (ns : List Int), vs = [.ref a] ∧ ScL K H a (ns.map V.int) ∧ ns.length ≤ 63 ∧ ∀ H', Q (.bl true) H'
structure Blt (mg : Str → Option Value) : Prop where
  len : mg "len" = none
  list : mg "list" = none
  range : mg "range" = none
  any : mg "any" = none
  all : mg "all" = none
  isinstance : mg "isinstance" = none
  int : mg "int" = none
  bool : mg "bool" = none
  max : mg "max" = none
  min : mg "min" = none
  sorted : mg "sorted" = none
  tuple : mg "tuple" = none
  set : mg "set" = none
  enumerate : mg "enumerate" = none
  sum : mg "sum" = none
  str : mg "str" = none
  dict : mg "dict" = none
  ValueError : mg "ValueError" = none
end L2
end
section
namespace L2
open PySem PySem.Spec PyProof.Rows
noncomputable def tyD : PyData → Value
  | .none => .type "NoneType"
  | .bool _ => .type "bool"
  | .int _ => .type "int"
  | .str _ => .type "str"
  | .list _ => .type "list"
  | .tuple _ => .type "tuple"
  | .dict _ => .type "list"
theorem rep_ty {K : PySem.W.Frag} {A : Addr → Prop} {H : Hp} {d : PyData} {v : V} (hd : d.canLay0 = true) (h : Rep K A H d v) : TyOf K H v (tyD d) := by
  cases d with
  | none => cases h; exact .non
  | bool _ => cases h; exact .bl _
  | int _ => cases h; exact .int _
  | str _ => cases h; exact .str _
  | list _ => obtain ⟨_, _, rfl, _, h, _⟩ := h; exact .lst h
  | tuple _ => obtain ⟨_, _, rfl, h, _⟩ := h; exact .tup h
  | dict _ => exact nomatch hd
section
variable {X : Cx} {δ : Dn} {a b c e tg : Expr} {d da db : PyData} {pos : Pos} {xs ys : List PyData} {k : Nat}
theorem call_isi : CallR X (.builtin "isinstance") (fun xs H Q => ∃ (x : V) (T : String) (t : Value) (k : Bool), xs = [x, .ty T] ∧ TyOf X.K H x t ∧ PySem.W.kitOne X.K t (.type T) = some k ∧ Q (.bl k) H) := by
  intro pins s σ H xs us Q I rv h
  obtain ⟨x, T, t, k, rfl, ty, e, q⟩ := h
  obtain ⟨u, v, rfl, ru, rv'⟩ := rv.two
  cases rv'
  exact isinst_ok I ru ty e fun tk => ⟨.bl k, H, I.tok tk, rfl, q⟩
theorem ev_isi {p p' : Pos} {T : Str} {T' : String} {k : Bool} (hg : Gl X "isinstance") (hm : X.mg "isinstance" = none) (ha : EvD X δ a d) (hd : d.canLay0 = true) (hgT : Gl X T) (hmT : X.mg T = none) (hvT : bootBuiltins T = some (.type T')) (hk : PySem.W.kitOne X.K (tyD d) (.type T') = some k)
    (hn : T ≠ "__name__" := by decide) (hdT : (T == ("__debug__" : Str)) = false := by decide) (hs : starEach [a, .Name T p'] X.env = [(false, eval a X.env), (false, eval (.Name T p') X.env)] := by rfl) (hs2 : starEach [.Name T p'] X.env = [(false, eval (.Name T p') X.env)] := by rfl) :
    EvD X δ (.Call (.Name "isinstance" p) [a, .Name T p'] [] pos) (.bool k) :=
  ev_of (pe_callB call_isi hg hm rfl (pa_cons ha (pa_cons (pe_bltn (v := .ty T') hgT hmT hvT rfl hn hdT) pa_nil (by rw [hs2]; rfl)) (by rw [hs, hs2])) (he := by rw [hs, hs2]) (hpl := by rw [hs2]; rfl)) fun Hb own B σ H Q E q =>
    ⟨Hb, own, B, E, fun v H' s1 r => ⟨v, T', tyD d, k, rfl, rep_ty hd r, hk, q _ H' s1 rfl⟩⟩
theorem call_range1 : CallR X (.type "range") (fun xs H Q => ∃ (n : Int), xs = [.int n] ∧ ∀ p, H p = none → Q (.ref p) (upd H p (.rng 0 n))) := by
  intro pins s σ H xs us Q I rv h
  obtain ⟨n, rfl, q⟩ := h
  obtain ⟨u, rfl, t, rfl⟩ := rv.one
  refine call_range_1 ⟨.ref s.heap.objs.size, _, I.laid (o := .rng 0 n) (fun _ _ q => Heap.get?_push_of_some _ q) (Nat.le_refl _) ⟨_, _, _, Heap.get?_push_size _ rfl⟩, rfl, q _ I.fresh⟩
noncomputable def rgI (lo : Int) (n : Nat) : List Int := (List.range n).map fun (i : Nat) => lo + i
theorem rgD_eq (lo : Int) (n : Nat) : rgD lo n = (rgI lo n).map .int := by simp [rgD, rgI]
theorem rgI_len (lo : Int) (n : Nat) : (rgI lo n).length = n := by simp [rgI]
theorem mem_rgI {lo : Int} {n : Nat} {i : Int} : i ∈ rgI lo n ↔ lo ≤ i ∧ i < lo + n := by
  simp only [rgI, List.mem_map, List.mem_range]
  constructor
  · rintro ⟨j, hj, rfl⟩; omega
  · rintro ⟨h1, h2⟩; exact ⟨(i - lo).toNat, by omega, by omega⟩
theorem call_list_rng (hc : X.calm = true) : CallR X (.type "list") (fun xs H Q => ∃ (p : Addr) (lo hi : Int), xs = [.ref p] ∧ H p = some (.rng lo hi) ∧ (-(2 ^ 62) ≤ lo ∧ lo < 2 ^ 62 ∧ -(2 ^ 62) ≤ hi ∧ hi < 2 ^ 62) ∧ (hi - lo).toNat ≤ 1000 ∧ ∀ l, H l = none → Q (.ref l) (upd H l (.lst ((rgI lo (hi - lo).toNat).map V.int)))) := by
  intro pins s σ H xs us Q I rv h
  obtain ⟨p, lo, hi, rfl, hH, ⟨b1, b2, b3, b4⟩, hz, q⟩ := h
  obtain ⟨u, rfl, ru⟩ := rv.one
  cases ru
  obtain ⟨t, u', v, e⟩ := I.hok p _ hH
  refine call_list_range (n := (hi - lo).toNat) (I.ok.hd hc) (by exact e) (small_one b1 b2 b3 b4) (by rw [rangeSize_one]; split <;> omega) (Nat.le_trans hz (by decide)) fun h' tk acc c' hk hS hacc => ?_
  have hvals : Vals ((rgI lo (hi - lo).toNat).map V.int) acc.toList := by
    have key : ∀ (n : Nat) (l : List Value) (lo : Int), l.length = n → (∀ (i : Nat) v, l[i]? = some v → ∃ t, v = .int (lo + i) t) → Vals ((rgI lo n).map V.int) l := by
      intro n
      induction n with
      | zero => intro l lo hl _; cases l with
        | nil => exact .nil
        | cons _ _ => cases hl
      | succ n ih =>
        intro l lo hl hv
        cases l with
        | nil => cases hl
        | cons v r =>
          have e1 : rgI lo (n + 1) = lo :: rgI (lo + 1) n := by
            simp only [rgI, List.range_succ_eq_map, List.map_cons, List.map_map]
            congr 1
            · simp
            · apply List.map_congr_left; intro a _; simp only [Function.comp]; omega
          rw [e1]
          obtain ⟨t, ht⟩ := hv 0 v rfl
          refine .cons ⟨t, by rw [ht]; simp⟩ (ih r (lo + 1) (by simpa using hl) fun i w hw => ?_)
          obtain ⟨t', ht'⟩ := hv (i + 1) w (by simpa using hw)
          exact ⟨t', by rw [ht']; congr 1; omega⟩
    refine key _ _ _ (by simpa using hacc.1) fun i v hv => ?_
    obtain ⟨t, ht⟩ := hacc.2 i v (by simpa using hv)
    exact ⟨t, by rw [ht, Int.mul_one]⟩
  refine ⟨.ref s.heap.objs.size, _, I.laid (o := .lst ((rgI lo (hi - lo).toNat).map V.int)) hk (Nat.le_refl _) ⟨?_, acc.toList, c', hvals, by simpa using hS⟩, rfl, q _ I.fresh⟩
  rw [List.length_map, rgI_len]; exact Nat.le_of_lt (small1000 hz)
theorem ef_listRange1 {p p' pos' : Pos} {n : Int} (hc : X.calm = true) (hg : Gl X "list") (hm : X.mg "list" = none) (hg' : Gl X "range") (hm' : X.mg "range" = none) (ha : EvD X δ a (.int n)) (h0 : -(2 ^ 62) ≤ n) (hz : n ≤ 1000) (hs : starEach [a] X.env = [(false, eval a X.env)] := by rfl)
    (hs2 : starEach [.Call (.Name "range" p') [a] [] pos'] X.env = [(false, eval (.Call (.Name "range" p') [a] [] pos') X.env)] := by rfl) :
    EvF X δ (.Call (.Name "list" p) [.Call (.Name "range" p') [a] [] pos'] [] pos) ((rgI 0 n.toNat).map .int) :=
  ef_of (pe_callTy (call_list_rng hc) hg hm (by rfl) (pa_cons (pe_callTy call_range1 hg' hm' (by rfl) (ea_cons ha ea_nil (by rw [hs]; rfl)) (he := by rw [hs]; rfl)) pa_nil (by rw [hs2]; rfl)) (he := by rw [hs2]; rfl)) fun Hb own B σ H Q E q =>
    ⟨Hb, own, B, E, fun vs H1 s1 rv => by
      obtain ⟨v, r, rfl, h1, e2⟩ := rv
      cases e2; cases h1
      refine ⟨n, rfl, fun r hr => ⟨r, 0, n, rfl, upd_same, ⟨by decide, by decide, h0, by omega⟩, by omega, fun l hl => ?_⟩⟩
      have e1 := same_new hr (.rng 0 n)
      have e2 := same_new hl (.lst ((rgI 0 (n - 0).toNat).map V.int))
      have hH : H l = none := s1.free (e1.free hl)
      refine q l _ _ ((s1.trans e1).trans e2) hH upd_same ?_
      rw [Int.sub_zero]
      exact Reps.iD _⟩
theorem sm_int (i : Int) : Sm (.int i) := ⟨rfl, by show 0 ≤ 20; decide⟩
theorem layAll {xs : List PyData} (h : ∀ x ∈ xs, x.canLay0 = true) : PyData.canLayAll0 xs = true := by
  induction xs with
  | nil => rfl
  | cons x r ih =>
    rw [PyData.canLayAll0, h x List.mem_cons_self, ih fun y hy => h y (List.mem_cons_of_mem _ hy)]; rfl
theorem depAll {xs : List PyData} {n : Nat} (h : ∀ x ∈ xs, x.depth ≤ n) : PyData.depthAll xs ≤ n := by
  induction xs with
  | nil => exact Nat.zero_le _
  | cons x r ih =>
    rw [PyData.depthAll]
    exact Nat.max_le.mpr ⟨h x List.mem_cons_self, ih fun y hy => h y (List.mem_cons_of_mem _ hy)⟩
theorem lay_iD (ns : List Int) : PyData.canLayAll0 (iD ns) = true := layAll fun x hx => by obtain ⟨i, _, rfl⟩ := List.mem_map.mp hx; rfl
theorem dep_iD (ns : List Int) : PyData.depthAll (iD ns) ≤ 0 := depAll fun x hx => by obtain ⟨i, _, rfl⟩ := List.mem_map.mp hx; exact Nat.le_refl _
theorem sm_iD (ns : List Int) : Sm (.list (iD ns)) := ⟨lay_iD ns, by show PyData.depthAll (iD ns) + 1 ≤ 20; have := dep_iD ns; omega⟩
noncomputable def rowD (r : List Int) : PyData := .list (iD r)
noncomputable def rwD (rs : List (List Int)) : List PyData := rs.map rowD
theorem eqv_int (i j : Int) : PyData.eqv (.int i) (.int j) = decide (i = j) := by
  show (i == j) = decide (i = j)
  by_cases h : i = j
  · subst h; simp
  · simp [h]
theorem eqvAll_iD : ∀ (a b : List Int), PyData.eqvAll (iD a) (iD b) = decide (a = b)
  | [], [] => rfl
  | [], _ :: _ => rfl
  | _ :: _, [] => rfl
  | x :: a, y :: b => by
    show (PyData.eqv (.int x) (.int y) && PyData.eqvAll (iD a) (iD b)) = _
    rw [eqv_int, eqvAll_iD a b]
    by_cases h : x = y <;> by_cases h' : a = b <;> simp [h, h']
theorem eqv_iD (a b : List Int) : PyData.eqv (.list (iD a)) (.list (iD b)) = decide (a = b) := eqvAll_iD a b
theorem any_iD (ns : List Int) (i : Int) : ((iD ns).any fun y => PyData.eqv y (.int i)) = decide (i ∈ ns) := by
  induction ns with
  | nil => rfl
  | cons n r ih =>
    show (PyData.eqv (.int n) (.int i) || (iD r).any fun y => PyData.eqv y (.int i)) = _
    rw [ih, eqv_int]
    by_cases h : n = i
    · subst h; simp
    · have h' : ¬ i = n := fun z => h z.symm
      simp [h, h']
theorem iD_len (ns : List Int) : (iD ns).length = ns.length := List.length_map _
theorem iD_get {ns : List Int} {i : Nat} {n : Int} (h : ns[i]? = some n) : (iD ns)[i]? = some (.int n) := by unfold iD; rw [List.getElem?_map, h]; rfl
theorem et_eqI {i j : Int} (hr : Room k X.A) (ha : EvD X δ a (.int i)) (hb : EvD X δ b (.int j)) : EtD X δ (.Compare a [.Eq] [b] pos) (decide (i = j)) := et_eq (et_eqD hr ha hb (sm_int i) rfl) (eqv_int i j)
theorem et_neI {i j : Int} (hr : Room k X.A) (ha : EvD X δ a (.int i)) (hb : EvD X δ b (.int j)) : EtD X δ (.Compare a [.NotEq] [b] pos) (!decide (i = j)) := et_eq (et_neD hr ha hb (sm_int i) rfl) (congrArg not (eqv_int i j))
theorem ev_eqI {i j : Int} (hr : Room k X.A) (ha : EvD X δ a (.int i)) (hb : EvD X δ b (.int j)) : EvD X δ (.Compare a [.Eq] [b] pos) (.bool (decide (i = j))) := ev_eq (ev_eqD hr ha hb (sm_int i) rfl) (congrArg PyData.bool (eqv_int i j))
theorem et_inI {i : Int} {ns : List Int} (hr : Room k X.A) (ha : EvD X δ a (.int i)) (hb : EvD X δ b (.list (iD ns))) (hm : behindInMarks .In b = false := by with_unfolding_all rfl) : EtD X δ (.Compare a [.In] [b] pos) (decide (i ∈ ns)) :=
  et_eq (et_inD hr ha hb (sm_int i) (lay_iD ns) hm) (any_iD ns i)
theorem et_notInI {i : Int} {ns : List Int} (hr : Room k X.A) (ha : EvD X δ a (.int i)) (hb : EvD X δ b (.list (iD ns))) (hm : behindInMarks .NotIn b = false := by with_unfolding_all rfl) : EtD X δ (.Compare a [.NotIn] [b] pos) (!decide (i ∈ ns)) :=
  et_eq (et_notInD hr ha hb (sm_int i) (lay_iD ns) hm) (congrArg not (any_iD ns i))
theorem ei_rangeI {p : Pos} {n : Int} (hg : Gl X "range") (hm : X.mg "range" = none) (ha : EvD X δ a (.int n)) (h1 : -(2 ^ 62) ≤ n) (h2 : n < 2 ^ 62) (hs : starEach [a] X.env = [(false, eval a X.env)] := by rfl) : EiD X δ tg (.Call (.Name "range" p) [a] [] pos) ((rgI 0 n.toNat).map .int) :=
  rgD_eq 0 n.toNat ▸ ei_range1 hg hm ha h1 h2 hs
end
end L2
namespace L2
open PySem PySem.Spec PyProof.Rows
noncomputable def csOk (sc : Scope) (N : List Str) (scope : Scope) (is : List Nat) : Bool :=
  (scope.kind == .function) && decide (scope.names.map (·.1)).Nodup
    && scope.names.all (fun p => !(p.2 == .free) || (sc.names.lookup p.1 == some .cell) || (sc.names.lookup p.1 == some .free))
    && N.zipIdx.all fun p => !((scope.names.lookup p.1 == some .local) || (scope.names.lookup p.1 == some .cell)) || is.contains p.2
theorem cs_mk {X : Cx} {scope : Scope} {is : List Nat} (sc : Scope) (N : List Str) (hsc : X.env.scope = sc) (hN : X.N = N) (h : csOk sc N scope is = true) : CompScope X scope is := by
  unfold csOk at h
  rw [Bool.and_eq_true, Bool.and_eq_true, Bool.and_eq_true] at h
  obtain ⟨⟨⟨h1, h2⟩, h3⟩, h4⟩ := h
  refine ⟨by simpa using h1, of_decide_eq_true h2, fun p hp hf => ?_, fun p hp ho => ?_⟩
  · have := List.all_eq_true.mp h3 p hp
    rw [hsc]
    rw [hf] at this
    simpa using this
  · rw [hN] at hp
    have := List.all_eq_true.mp h4 p hp
    rcases ho with z | z
    · rw [z] at this; simpa using this
    · rw [z] at this; simpa using this
end L2
namespace L2
open PySem PySem.Spec PyProof.Rows
theorem ei_rangeN {X : Cx} {δ : Dn} {a tg : Expr} {p pos : Pos} {n : Nat} (hg : Gl X "range") (hm : X.mg "range" = none) (ha : EvD X δ a (.int n)) (h2 : n ≤ 1000) (hs : starEach [a] X.env = [(false, eval a X.env)] := by rfl) : EiD X δ tg (.Call (.Name "range" p) [a] [] pos) ((rgI 0 n).map .int) :=
  ei_rangeI (n := (n : Int)) hg hm ha (by omega) (by omega) hs
end L2
namespace L2
open PySem PySem.Spec PyProof.Rows
inductive Wkn : Dn → Dn → Prop where
  | nil : Wkn [] []
  | keep {e : Ent} {δ δ' : Dn} : Wkn δ δ' → Wkn (e :: δ) (e :: δ')
  | lose {e : Ent} {δ δ' : Dn} : Wkn δ δ' → Wkn (e :: δ) (.no :: δ')
  | share {oa : Option Addr} {xs : List PyData} {δ δ' : Dn} : Wkn δ δ' → Wkn (.own oa (.l xs) :: δ) (.sh (.list xs) :: δ')
  | shareN {oa : Option Addr} {c : Cont} {d : PyData} {δ δ' : Dn} (h : c.dat = some d) : Wkn δ δ' → Wkn (.own oa c :: δ) (.sh d :: δ')
  | hide {oa : Option Addr} {c : Cont} {δ δ' : Dn} : Wkn δ δ' → Wkn (.own oa c :: δ) (.own none c :: δ')
theorem Wkn.len {δ δ' : Dn} (w : Wkn δ δ') : δ'.length = δ.length := by induction w <;> simp_all
theorem Wkn.at {δ δ' : Dn} (w : Wkn δ δ') : ∀ (i : Nat) (e : Ent), δ'[i]? = some e → e = .no ∨ δ[i]? = some e ∨ (∃ oa c d, e = .sh d ∧ c.dat = some d ∧ δ[i]? = some (.own oa c)) ∨ ∃ oa c, e = .own none c ∧ δ[i]? = some (.own oa c) := by
  induction w with
  | nil => intro i e h; cases h
  | keep w ih =>
    intro i e h
    cases i with
    | zero => exact .inr (.inl h)
    | succ i => exact ih i e (by simpa using h)
  | lose w ih =>
    intro i e h
    cases i with
    | zero => cases h; exact .inl rfl
    | succ i => exact ih i e (by simpa using h)
  | share w ih =>
    intro i e h
    cases i with
    | zero => cases h; exact .inr (.inr (.inl ⟨_, _, _, rfl, rfl, rfl⟩))
    | succ i => exact ih i e (by simpa using h)
  | shareN hd w ih =>
    intro i e h
    cases i with
    | zero => cases h; exact .inr (.inr (.inl ⟨_, _, _, rfl, hd, rfl⟩))
    | succ i => exact ih i e (by simpa using h)
  | hide w ih =>
    intro i e h
    cases i with
    | zero => cases h; exact .inr (.inr (.inr ⟨_, _, rfl, rfl⟩))
    | succ i => exact ih i e (by simpa using h)
noncomputable def ownAt (own : Nat → List Addr) (δ : Dn) : Nat → List Addr := fun i => match δ[i]? with
  | some (.own _ _) => own i
  | _ => []
theorem ownAt_some {own : Nat → List Addr} {δ : Dn} {i : Nat} {a : Addr} (h : a ∈ ownAt own δ i) : a ∈ own i ∧ ∃ oa c, δ[i]? = some (.own oa c) := by
  unfold ownAt at h
  split at h
  · rename_i oa c q; exact ⟨h, oa, c, q⟩
  · cases h
theorem EnvO.weaken {K : PySem.W.Frag} {Hb : Hp} {own : Nat → List Addr} {B : Addr → Prop} {H : Hp} {σ : St} {δ δ' : Dn} (E : EnvO K Hb own B H σ δ) (w : Wkn δ δ') : EnvO K Hb (ownAt own δ') B H σ δ' := by
  have av : ∀ a, Av (ownAt own δ') B a → Av own B a := fun a h => h.imp id fun ⟨i, z⟩ => ⟨i, (ownAt_some z).1⟩
  have nd : ∀ i, (ownAt own δ' i).Nodup := fun i => by
    unfold ownAt
    split
    · exact E.ond i
    · exact List.nodup_nil
  refine ⟨E.base, by rw [w.len]; exact E.len, E.bb, fun i a h => E.ofr i a (ownAt_some h).1, fun i a h => (ownAt_some h).2, nd, fun i j a h h' => E.inj i j a (ownAt_some h).1 (ownAt_some h').1, fun i d h => ?_, fun i oa c h => ?_⟩
  · rcases w.at i _ h with z | z | ⟨oa, c, d', z, hd, q⟩ | ⟨oa, c, z, q⟩
    · cases z
    · obtain ⟨v, h1, h2⟩ := E.sh i d z
      exact ⟨v, h1, h2.av av⟩
    · cases z
      obtain ⟨v, h2, _, h4⟩ := E.ow i oa _ q
      refine ⟨v, h2, (h4.av av).rep hd fun a h1 z => ?_⟩
      rcases z with z | ⟨j, z⟩
      · exact E.bb a z (E.ofr i a h1)
      · obtain ⟨z1, oa2, ys, z2⟩ := ownAt_some z
        have : j = i := E.inj j i a z1 h1
        subst this
        rw [h] at z2; cases z2
    · cases z
  · rcases w.at i _ h with z | z | ⟨_, _, _, z, _⟩ | ⟨oa2, c2, z, q⟩
    · cases z
    · obtain ⟨v, h1, h2, h4⟩ := E.ow i oa c z
      exact ⟨v, h1, h2, by unfold ownAt; rw [h]; exact h4.av av⟩
    · cases z
    · cases z
      obtain ⟨v, h1, h2, h4⟩ := E.ow i oa2 _ q
      exact ⟨v, h1, fun _ z => (nomatch z), by unfold ownAt; rw [h]; exact h4.av av⟩
section
variable {X : Cx} {δ δ1 δ2 : Dn} {st : Stmt} {body : List Stmt} {o : Out}
theorem sr_back (w : Wkn δ1 δ2) (h : SR X δ body (.nx δ1)) : SR X δ body (.nx δ2) := fun pins s σ H D I hh30 => Zz.a5 hh30 fun Hb own B E P => h pins s σ H D I ⟨Hb, own, B, E, fun own' σ' H' E' => P _ _ _ (E'.weaken w)⟩
variable {iter elt e : Expr} {ifs : List Expr} {scope : Scope} {x y : Str} {px py pos cpos : Pos} {α : Type}
theorem ef_map (i : Nat) (emb : α → PyData) (ts : List α) (f : α → PyData) (hc : X.calm = true) (S : CompScope X scope [i]) (hN : X.N.Nodup) (hi : EiD X δ (.Name x px) iter (ts.map emb)) (hz : ts.length ≤ 1000)
    (he : ∀ C s2 H2 fp t, t ∈ ts → EvD (compX X scope C s2 H2 fp) ((δ.set i .no).set i (.sh (emb t))) elt (f t))
    (hno : ∀ oa c, δ[i]? ≠ some (.own oa c) := by intro _ _ z; cases z)
    (hx : X.N[i]? = some x := by rfl) (hl : Loc (relabel scope X.env) x := by first | exact Or.inl rfl | exact Or.inr rfl)
    (hf : decide (scope.names.lookup x = some .cell) = true ∨ (relabel scope X.env).names.lookup x = some .local := by first | exact Or.inr rfl | exact Or.inl rfl)
    (hs : ∀ x, foldedSetIterable iter X.env x = pure x := by intro _; rfl) : EvF X δ (.ListComp elt [⟨.Name x px, iter, [], 0⟩] scope pos) (ts.map f) := by
  have := ef_comp (pos := pos) (ifs := []) i emb ts (fun _ => true) f hc S hN hi hz (fun _ _ _ _ _ _ => efs_nil) (fun C s2 H2 fp t h _ => he C s2 H2 fp t h) hno hx hl hf hs
  rw [List.filter_eq_self.mpr (by intros; rfl)] at this
  exact this
theorem s1_setM (j i : Nat) (emb : α → PyData) (ts : List α) (f : α → PyData) (hc : X.calm = true) (S : CompScope X scope [i]) (hN : X.N.Nodup) (hi : EiD X δ (.Name x px) iter (ts.map emb)) (hz : ts.length ≤ 1000)
    (he : ∀ C s2 H2 fp t, t ∈ ts → EvD (compX X scope C s2 H2 fp) ((δ.set i .no).set i (.sh (emb t))) elt (f t))
    (hno : ∀ oa c, δ[i]? ≠ some (.own oa c) := by intro _ _ z; cases z) (hjl : j < δ.length := by exact Nat.le_of_ble_eq_true rfl)
    (hx : X.N[i]? = some x := by rfl) (hl : Loc (relabel scope X.env) x := by first | exact Or.inl rfl | exact Or.inr rfl)
    (hf : decide (scope.names.lookup x = some .cell) = true ∨ (relabel scope X.env).names.lookup x = some .local := by first | exact Or.inr rfl | exact Or.inl rfl)
    (hj : X.N[j]? = some y := by rfl) (hy : X.env.scope.names.lookup y = some .local := by rfl)
    (hsw : swapsWith (.ListComp elt [⟨.Name x px, iter, [], 0⟩] scope cpos) (some (.Name y py)) pos.line X.env = pure true := by rfl)
    (hs : ∀ x, foldedSetIterable iter X.env x = pure x := by intro _; rfl) : S1 X δ (.Assign [.Name y py] (.ListComp elt [⟨.Name x px, iter, [], 0⟩] scope cpos) pos) (.nx (δ.set j (.ow (ts.map f)))) := by
  have := s1_setC (pos := pos) (cpos := cpos) (py := py) (ifs := []) j i emb ts (fun _ => true) f hc S hN hi hz (fun _ _ _ _ _ _ => efs_nil) (fun C s2 H2 fp t h _ => he C s2 H2 fp t h) hno hjl hx hl hf hj hy hsw hs
  rw [List.filter_eq_self.mpr (by intros; rfl)] at this
  exact this
theorem ei_ints {tg : Expr} {ns : List Int} (h : EvD X δ e (.list (iD ns))) : EiD X δ tg e (ns.map .int) := ei_list h
theorem ei_rows {tg : Expr} {rs : List (List Int)} (h : EvD X δ e (.list (rwD rs))) : EiD X δ tg e (rs.map rowD) := ei_list h
end
end L2
namespace L2
open PySem PySem.Spec PyProof.Rows
theorem fn_law {P : Program} {w : World} {K : PySem.W.Frag} {mg : Str → Option Value} {base : Heap} {x qual : Str} {st : Stmt} {f : Addr} {fd : FuncData} {N : List Str} {k : Nat} (F : Fun K x qual st f fd) (S : FnScope N ["script"] (defScope st))
    (body : ∀ cdv A outer s H E, Room k (bx P w K mg base N qual st f cdv A outer s H E).A → ∀ ns : List Int, ns.length ≤ 63 → SR (bx P w K mg base N qual st f cdv A outer s H E) (startD N [scr ns]) (defBody st) (.rt (.bool true))) :
    FnOk P w K mg base CX0 (k + 1) f fd ["script"] (spLaw K) := by
  refine F.ok S (fun vs H Q E h => ?_) (fun cdv A outer s H vs Q E hr h => ?_)
  · obtain ⟨a, ns, rfl, _⟩ := h; rfl
  · obtain ⟨a, ns, rfl, hS, hl, q⟩ := h
    refine ⟨_, body cdv A outer s H E hr ns hl, H, _, fun _ => False, env_start (fun _ z => z.elim) ⟨.ref a, [], rfl, .inl ⟨a, ns, rfl, rfl, hS⟩, rfl⟩, fun v H' s1 rv => ?_⟩
    cases rv
    exact q H'
theorem scl_of {K : PySem.W.Frag} {H : Hp} {a : Addr} {xs : List V} (hO : Only H) (h : SqL K H a xs) : ScL K H a xs := by
  rcases h with (h | ⟨o, h⟩) | h
  · rcases hO a with z | ⟨o, ys, z⟩
    · rw [z] at h; cases h
    · rw [z] at h; cases h
  · exact .inl ⟨o, h⟩
  · exact .inr h
theorem law_walk {l : PySem.W.OpenLaw} {k : Nat} {q : Program} {loose : List Str} {XP : (Str → Option Value) → Heap → Prop} {YP : World → Heap → Prop} {d : DefRec} {K : Params → PySem.W.Frag} (hn : l.most = some 63) (hdf : d.params.defaults = []) (hr : Room k callerA)
    (hY : ∀ (w : World) (h : Heap), YP w h → (K w.params).In h)
    (F : ∀ (w : World) (mg : Str → Option Value) (fa : Addr) (h : Heap), (K w.params).In h → h.Ns mainGlobals mg → mg d.name = some (.ref fa) →
      ∃ fd : FuncData, (∀ (s : Shared) (u : Value), BindsTo s fd ⟨[u], []⟩ [("script", u)]) ∧ ∀ base : Heap, (K w.params).In base → base.Ns mainGlobals mg → FnOk l.prog w (K w.params) mg base CX0 k fa fd ["script"] (spLaw (K w.params))) :
    PySem.W.WalkO q loose XP YP l.row.toRowW d [] (fun f vs => PySem.call f vs) :=
  L2.walk_of (n := 63) (k := k) (x := "script") (CX := fun _ => CX0) (sp := fun w => spLaw (K w.params)) hn (by decide) hdf hr hY F (fun _ _ a ns hl hO hS => ⟨a, ns, rfl, scl_of hO hS, hl, fun _ => rfl⟩) fun _ _ _ _ _ z => z
end L2
end
section
namespace L2
open PySem PySem.Spec PyProof.Rows
section
variable {X : Cx} {δ : Dn} {a b c e tg : Expr} {d da db : PyData} {pos : Pos} {xs ys : List PyData} {k : Nat}
end
end L2
namespace L2
open PySem PySem.Spec PyProof.Rows
noncomputable def After (X : Cx) (rest : List Stmt) (o : Out) : Out → Prop
  | .nx δ => SR X δ rest o
  | .rt d => o = .rt d
  | .rf xs => o = .rf xs
  | .rw δ d => o = .rw δ d
  | .rn t => o = .rn t
  | .rz δ t => o = .rz δ t
  | .bk _ => False
  | .ct _ => False
theorem sr_after {X : Cx} {δ : Dn} {st : Stmt} {rest : List Stmt} {o o1 : Out} (h1 : S1 X δ st o1) (h2 : After X rest o o1) : SR X δ (st :: rest) o := by
  cases o1 with
  | nx δ1 => exact sr_cons h1 h2
  | rt d => cases (show o = .rt d from h2); exact sr_rt h1
  | rf xs => cases (show o = .rf xs from h2); exact sr_rf h1
  | rw δ1 d => cases (show o = .rw δ1 d from h2); exact sr_rw h1
  | rn t => cases (show o = .rn t from h2); exact sr_rn h1
  | rz δ1 t => cases (show o = .rz δ1 t from h2); exact sr_rz h1
  | bk _ => exact h2.elim
  | ct _ => exact h2.elim
end L2
end
section
namespace L2
open PySem PySem.Spec PyProof.Rows
noncomputable def getK (kvs : List (PyData × PyData)) (κ : Key) : Option PyData := (kvs.find? fun p => decide (keyOf p.1 = some κ)).map (·.2)
section
variable {K : PySem.W.Frag} {A : Addr → Prop} {H : Hp}
theorem repP_eq {p : PyData × PyData} {v : V} : RepP K A H p v ↔ Rep K A H p.2 v := by obtain ⟨a, b⟩ := p; exact Iff.rfl
theorem repsK_get {κ : Key} : ∀ {kvs : List (PyData × PyData)} {us : List (Key × V)}, RepsK K A H kvs us → (getK kvs κ = none ∧ valV us κ = none) ∨ ∃ d v, getK kvs κ = some d ∧ valV us κ = some v ∧ Rep K A H d v
  | [], _, h => by cases h; exact .inl ⟨rfl, rfl⟩
  | p :: r, _, h => by
    obtain ⟨κ', v, us', rfl, hk, hv, hr⟩ := h
    by_cases e : κ' = κ
    · subst e
      refine .inr ⟨p.2, v, ?_, valV_pos rfl, repP_eq.mp hv⟩
      unfold getK
      rw [List.find?_cons]
      simp [hk]
    · have ih := repsK_get (κ := κ) hr
      have e1 : getK (p :: r) κ = getK r κ := by
        unfold getK
        rw [List.find?_cons]
        have : decide (keyOf p.1 = some κ) = false := decide_eq_false (by rw [hk]; intro z; exact e (Option.some.inj z))
        rw [this]
      have e2 : valV ((κ', v) :: us') κ = valV us' κ := valV_neg e
      rw [e1, e2]
      exact ih
theorem rep_key {kd : PyData} {κ : Key} {y : V} (hk : keyOf kd = some κ) (h : Rep K A H kd y) : y = kV κ := by
  cases kd with
  | int n => cases hk; exact h
  | str x => cases hk; exact h
  | _ => cases hk
theorem key_rep {kd : PyData} {κ : Key} (hk : keyOf kd = some κ) : Rep K A H kd (kV κ) := by
  cases kd with
  | int n => cases hk; rfl
  | str x => cases hk; rfl
  | _ => cases hk
end
section
variable {X : Cx} {pins : List (Addr × Obj)} {σ : St} {H : Hp} {s : Shared}
end
section
variable {X : Cx} {δ : Dn} {a b c e tg : Expr} {d da db : PyData} {pos : Pos} {xs ys : List PyData} {k : Nat} {kvs : List (PyData × PyData)} {x : Str} {κ : Key} {kd : PyData}
theorem is_kV {P : Program} {w : World} {κ : Key} {u : Value} (h : (mixKind P w).is κ u = true) : RelV (kV κ) u := by
  rcases keyIs_shape h with ⟨i, t, rfl, rfl⟩ | ⟨x, t, rfl, rfl⟩
  · exact ⟨t, rfl⟩
  · exact ⟨t, rfl⟩
end
end L2
end
section
namespace L2
open PySem PySem.Spec PyProof.Rows
section
variable {X : Cx} {δ : Dn} {a b c e tg : Expr} {d da db : PyData} {pos : Pos} {xs ys : List PyData} {k : Nat} {x y : Str}
theorem ef_rep {n : Int} (ha : EvD X δ a (.list xs)) (hb : EvD X δ b (.int n)) (h0 : 0 ≤ n) (hz : xs.length * n.toNat ≤ 1000) (h1 : n ≤ 1000) : EvF X δ (.BinOp a .Mult b pos) (List.replicate n.toNat xs).flatten :=
  ef_of (pe_op op_rep ha hb) fun Hb own B σ H Q E q => ⟨Hb, own, B, E, fun x H1 s1 rx => ⟨Hb, own, B, E.mono s1, fun y H2 s2 ry => by
    obtain ⟨p, vs, rfl, _, h3, h4⟩ := rx.up s2
    cases ry
    refine ⟨p, n, vs, rfl, rfl, h3, by omega, by omega, by rw [← h4.length]; exact Nat.le_of_lt (small1000 hz), fun r hr => ?_⟩
    have e1 := same_new hr (.lst (List.replicate n.toNat vs).flatten)
    refine q r _ _ ((s1.trans s2).trans e1) ((s1.trans s2).free hr) upd_same ((Reps.fresh hr _ _ ?_).up e1)
    generalize n.toNat = m
    induction m with
    | zero => rfl
    | succ m ih => rw [List.replicate_succ, List.replicate_succ, List.flatten_cons, List.flatten_cons]; exact h4.append ih⟩⟩
noncomputable def insI (n : Int) : List Int → List Int
  | [] => [n]
  | m :: r => if n ≤ m then n :: m :: r else m :: insI n r
noncomputable def sortI : List Int → List Int
  | [] => []
  | n :: r => insI n (sortI r)
theorem insI_perm (n : Int) : ∀ l, (insI n l).Perm (n :: l)
  | [] => .refl _
  | m :: r => by
    unfold insI
    split
    · exact .refl _
    · exact ((insI_perm n r).cons m).trans (.swap n m r)
theorem sortI_perm : ∀ l, (sortI l).Perm l
  | [] => .refl _
  | n :: r => (insI_perm n _).trans ((sortI_perm r).cons n)
theorem insI_sorted (n : Int) : ∀ l : List Int, l.Pairwise (· ≤ ·) → (insI n l).Pairwise (· ≤ ·)
  | [], _ => List.pairwise_singleton _ _
  | m :: r, h => by
    rw [List.pairwise_cons] at h
    unfold insI
    split
    · rename_i hle
      refine List.pairwise_cons.mpr ⟨fun x hx => ?_, List.pairwise_cons.mpr h⟩
      rcases List.mem_cons.mp hx with rfl | hx
      · exact hle
      · exact Int.le_trans hle (h.1 x hx)
    · rename_i hle
      refine List.pairwise_cons.mpr ⟨fun x hx => ?_, insI_sorted n r h.2⟩
      rcases List.mem_cons.mp ((insI_perm n r).mem_iff.mp hx) with rfl | hx
      · omega
      · exact h.1 x hx
theorem sortI_sorted : ∀ l, (sortI l).Pairwise (· ≤ ·)
  | [] => .nil
  | n :: r => insI_sorted n _ (sortI_sorted r)
theorem sorted_one : ∀ {a b : List Int}, a.Perm b → a.Pairwise (· ≤ ·) → b.Pairwise (· ≤ ·) → a = b
  | [], b, p, _, _ => (p.nil_eq).symm ▸ rfl
  | x :: a, [], p, _, _ => by have := p.length_eq; cases this
  | x :: a, y :: b, p, ha, hb => by
    rw [List.pairwise_cons] at ha hb
    have hxy : x = y := by
      have h1 : x ∈ y :: b := p.mem_iff.mp List.mem_cons_self
      have h2 : y ∈ x :: a := p.mem_iff.mpr List.mem_cons_self
      rcases List.mem_cons.mp h1 with h1 | h1
      · exact h1
      · rcases List.mem_cons.mp h2 with h2 | h2
        · exact h2.symm
        · have := ha.1 y h2; have := hb.1 x h1; omega
    subst hxy
    rw [sorted_one (List.Perm.cons_inv p) ha.2 hb.2]
theorem valsI_are : ∀ {ns : List Int} {us : List Value}, Vals (ns.map V.int) us → IntsAre us ns
  | [], _, h => by cases h; exact .nil
  | n :: r, _, h => by
    cases h with
    | cons h1 h2 => obtain ⟨t, rfl⟩ := h1; exact .cons n t (valsI_are h2)
theorem ints_vals : ∀ {ns : List Int} {us : List Value}, IntsAre us ns → Vals (ns.map V.int) us
  | _, _, .nil => .nil
  | _, _, .cons n t h => .cons ⟨t, rfl⟩ (ints_vals h)
theorem call_sortedI : CallR X (.builtin "sorted") (fun xs H Q => ∃ (p : Addr) (ns : List Int), xs = [.ref p] ∧ SqL X.K H p (ns.map V.int) ∧ ns.length < 64 ∧ ∀ l, H l = none → Q (.ref l) (upd H l (.lst ((sortI ns).map V.int)))) := by
  intro pins s σ H xs us Q I rv h
  obtain ⟨p, ns, rfl, hp, hz, q⟩ := h
  obtain ⟨u, rfl, ru⟩ := rv.one
  cases ru
  obtain ⟨its, r, pl, _⟩ := I.list hp
  have hl := r.length
  rw [List.length_map] at hl
  refine sorted_ints (vs := its) pl.isList (valsI_are r) (by omega) fun out ns' a1 a2 a3 => ?_
  have e : ns' = sortI ns := sorted_one (a2.trans (sortI_perm ns).symm) a3 (sortI_sorted ns)
  subst e
  obtain ⟨ep, he⟩ := sortedAll_at s.heap its out
  have hk : ∀ b o, s.heap.get? b = some o → (sortedAll s.heap its out).get? b = some o := fun b o => sortedAll_old
  refine ⟨.ref (s.heap.objs.size + 1), _, I.laid (a := s.heap.objs.size + 1) (o := .lst ((sortI ns).map V.int)) (t' := s.toks) hk (Nat.le_succ _) ⟨?_, out.toList, ep, ints_vals a1, by simpa [seqObj] using he⟩, rfl, q _ (I.hok.fresh (Nat.le_succ _))⟩
  rw [List.length_map, (sortI_perm ns).length_eq]
  exact Nat.le_of_lt (small1000 (by omega))
theorem ef_sorted {p : Pos} {ns : List Int} (hg : Gl X "sorted") (hm : X.mg "sorted" = none) (ha : EvD X δ e (.list (iD ns))) (hz : ns.length < 64) (he : starEach [e] X.env = [(false, eval e X.env)] := by rfl) : EvF X δ (.Call (.Name "sorted" p) [e] [] pos) (iD (sortI ns)) :=
  ef_of (pe_callB call_sortedI hg hm (by rfl) (ea_cons ha ea_nil (by rw [he]; rfl)) (he := by rw [he]; rfl)) fun Hb own B σ H Q E q => ⟨Hb, own, B, E, fun vs H1 s1 rv => by
    obtain ⟨v, r, rfl, ⟨a, us, rfl, _, h3, h4⟩, e2⟩ := rv
    cases e2
    rw [h4.iD_eq] at h3
    refine ⟨a, ns, rfl, SqL.of h3, hz, fun l hl => ?_⟩
    have e1 := same_new hl (.lst ((sortI ns).map V.int))
    exact q l _ _ (s1.trans e1) (s1.free hl) upd_same (Reps.iD _)⟩
inductive Res (S : Type) where
  | nx (s : S)
  | br (s : S)
  | out (o : Out)
noncomputable def loopR {S α : Type} (F : α → S → Res S) : List α → S → Res S
  | [], s => .nx s
  | t :: r, s => match F t s with
    | .nx s' => loopR F r s'
    | .br s' => .br s'
    | .out o => .out o
noncomputable def TurnOk {S : Type} (X : Cx) (emb : S → Dn) (δ : Dn) (body : List Stmt) : Res S → Prop
  | .nx s => ∃ δ', SR X δ body (.nx δ') ∧ Wkn δ' (emb s)
  | .br s => ∃ δ', SR X δ body (.bk δ') ∧ Wkn δ' (emb s)
  | .out o => SR X δ body o ∧ (∀ δ', o ≠ .nx δ') ∧ (∀ δ', o ≠ .bk δ') ∧ ∀ δ', o ≠ .ct δ'
noncomputable def Res.fin {S : Type} (emb : S → Dn) : Res S → Out
  | .nx s => .nx (emb s)
  | .br s => .nx (emb s)
  | .out o => o
theorem s1_forR {S α : Type} {body : List Stmt} (i : Nat) (emb : S → Dn) (it : α → PyData) (ts : List α) (F : α → S → Res S) (J : Nat → S → Prop) {iter : Expr} {px : Pos} {s0 : S} (hp : PassesOwn (model X.prog X.w) X.A X.env X.xe) (hc : X.calm = true) (hN : X.N.Nodup) (hi : EiD X (emb s0) (.Name x px) iter (ts.map it)) (h0 : J 0 s0)
    (turn : ∀ (n : Nat) t s, ts[n]? = some t → J n s → TurnOk X emb ((emb s).set i (.sh (it t))) body (F t s)) (keep : ∀ (n : Nat) t s s', ts[n]? = some t → J n s → F t s = .nx s' → J (n + 1) s')
    (hx : X.N[i]? = some x := by rfl) (hl : Loc X.env.scope x := by first | exact Or.inl rfl | exact Or.inr rfl) (hf : X.fn x = true ∨ X.env.scope.names.lookup x = some .local := by first | exact .inl rfl | exact .inr rfl)
    (hs : ∀ x, foldedSetIterable iter X.env x = pure x := by intro _; rfl) : S1 X (emb s0) (.For (.Name x px) iter body [] pos) ((loopR F ts s0).fin emb) := by
  have hB : PSs X body (fun D σ H => ∃ (δ : Dn) (o : Out), SR X δ body o ∧ tS X.K δ o D σ H) := fun pins s σ H D I ⟨δ, o, h, q⟩ => h pins s σ H D I q
  intro pins s σ H D I ⟨Hb, own, B, E, P⟩
  refine ps_for hp hc hi (pg_name hN hx hl hf) hB hs pins s σ H D I ⟨Hb, own, B, E, fun Jt H1 s1 w => ?_⟩
  have E1 := E.mono s1
  have R1 := E1.rebase
  have P1 := Post.rebase E1 P
  have hdl : (ts.map it).length = ts.length := List.length_map _
  refine ⟨fun n m σ' H' => m = ts.length - n ∧ n ≤ ts.length ∧ ∃ own' s', EnvO X.K (keepB own H1) own' B H' σ' (emb s') ∧ J n s' ∧ loopR F (ts.drop n) s' = loopR F ts s0, ⟨ts.length, rfl, Nat.zero_le _, own, s0, R1, h0, rfl⟩, ?_⟩
  rintro n m σ2 H2 ⟨rfl, hn, own2, s2, E2, hJ, hO⟩
  by_cases hlt : n < ts.length
  · refine .inr ⟨w.go n H2 E2.base (by rw [hdl]; exact hlt), ?_⟩
    have ht0 : ts[n]? = some ts[n] := List.getElem?_eq_getElem hlt
    have hd0 : (ts.map it)[n]? = some (it ts[n]) := by rw [List.getElem?_map, ht0]; rfl
    rw [drop_cons ht0] at hO
    have T := turn n ts[n] s2 ht0 hJ
    refine ⟨fun σ' H' => ∃ own' s', EnvO X.K (keepB own H1) own' B H' σ' (emb s') ∧ F ts[n] s2 = .nx s', fun σ' H' ⟨own', s', E', hF⟩ => ⟨ts.length - (n + 1), by omega, rfl, hlt, own', s', E', keep _ _ _ _ ht0 hJ hF, ?ka⟩, fun v H' hy => ?kb⟩
    case ka =>
      rw [← hO]
      show _ = match F ts[n] s2 with
        | .nx s' => loopR F (ts.drop (n + 1)) s'
        | .br s' => .br s'
        | .out o => .out o
      rw [hF]
    case kb =>
      obtain ⟨eH, d, hd, rd⟩ := w.yld n H2 v H' E2.base (by rw [hdl]; exact hlt) hy
      rw [hd0] at hd
      cases hd
      subst H'
      have av : ∀ a, Av own2 B a → Av own B a ∨ keepB own H1 a = none := fun a h => by
        rcases h with h | ⟨j, h⟩
        · exact .inl (.inl h)
        · exact .inr (E2.ofr j a h)
      have rd2 : Rep X.K (Av own2 B) H2 (it ts[n]) v := Rep.young (Hk := keepB own H1) (fun a h => av a h) rd E2.base
      have ES := E2.setSh (i := i) rd2
      have hO' : loopR F ts s0 = match F ts[n] s2 with
        | .nx s' => loopR F (ts.drop (n + 1)) s'
        | .br s' => .br s'
        | .out o => .out o := hO.symm
      cases hF : F ts[n] s2 with
      | nx s' =>
        rw [hF] at T
        obtain ⟨δ', hS, hw⟩ := T
        exact ⟨_, _, hS, _, _, _, ES, fun own' σ' H' E' => ⟨_, s', E'.weaken hw, rfl⟩⟩
      | br s' =>
        rw [hF] at T hO'
        obtain ⟨δ', hS, hw⟩ := T
        rw [hO'] at P1
        exact ⟨_, _, hS, _, _, _, ES, fun own' σ' H' E' => P1 _ _ _ (E'.weaken hw)⟩
      | out o =>
        rw [hF] at T hO'
        obtain ⟨hS, z1, z2, z3⟩ := T
        rw [hO'] at P1
        refine ⟨_, _, hS, _, _, _, ES, ?_⟩
        cases o with
        | nx δ' => exact absurd rfl (z1 δ')
        | bk δ' => exact absurd rfl (z2 δ')
        | ct δ' => exact absurd rfl (z3 δ')
        | rt d => exact P1
        | rf ys => exact P1
        | rw δ' ys => exact P1
        | rn t => exact P1
        | rz δ' t => exact P1
  · have en : n = ts.length := by omega
    subst en
    rw [List.drop_length] at hO
    refine .inl ⟨w.stop _ H2 E2.base (Nat.le_of_eq hdl), ?_⟩
    rw [← hO] at P1
    exact P1 own2 σ2 H2 E2
theorem loopR_fold {S α : Type} (f : α → S → S) : ∀ (ts : List α) (s : S), loopR (fun t s => .nx (f t s)) ts s = .nx (ts.foldl (fun s t => f t s) s)
  | [], _ => rfl
  | t :: r, s => loopR_fold f r (f t s)
end
end L2
end
section
namespace L2
open PySem PySem.Spec PyProof.Rows
inductive AE where
  | d (d : PyData)
  /-- the own thing of name i -/
  | sl (i : Nat) (oa : Option Addr) (c : Cont)
  /-- a new list -/
  | f (xs : List PyData)
noncomputable def AE.ent (a : Addr) : AE → Ent
  | .d x => .sh x
  | .sl _ _ c => .own (some a) c
  | .f x => .own (some a) (.l x)
noncomputable def AE.entB (a : Addr) (c' : Cont) : AE → Ent
  | .sl _ _ _ => .own (some a) c'
  | _ => .no
noncomputable def mkA : (Nat → Addr) → List AE → List Ent
  | _, [] => []
  | ad, x :: r => x.ent (ad 0) :: mkA (fun n => ad (n + 1)) r
noncomputable def mkB : (Nat → Addr) → (Nat → Cont) → List AE → List Ent
  | _, _, [] => []
  | ad, cs, x :: r => x.entB (ad 0) (cs 0) :: mkB (fun n => ad (n + 1)) (fun n => cs (n + 1)) r
noncomputable def updS : Dn → (Nat → Cont) → List AE → Dn
  | δ, _, [] => δ
  | δ, cs, .sl i oa _ :: r => updS (δ.set i (.own oa (cs 0))) (fun n => cs (n + 1)) r
  | δ, cs, .d _ :: r => updS δ (fun n => cs (n + 1)) r
  | δ, cs, .f _ :: r => updS δ (fun n => cs (n + 1)) r
noncomputable def slots : List AE → List Nat
  | [] => []
  | .sl i _ _ :: r => i :: slots r
  | .d _ :: r => slots r
  | .f _ :: r => slots r
noncomputable def SlOk (δ : Dn) : List AE → Prop
  | [] => True
  | .sl i oa c :: r => δ[i]? = some (.own oa c) ∧ SlOk δ r
  | .d _ :: r => SlOk δ r
  | .f _ :: r => SlOk δ r
theorem mem_slots : ∀ {l : List AE} {j i : Nat} {oa : Option Addr} {c : Cont}, l[j]? = some (.sl i oa c) → i ∈ slots l
  | [], _, _, _, _, h => by cases h
  | x :: r, 0, i, oa, c, h => by cases h; exact List.mem_cons_self
  | x :: r, j + 1, i, oa, c, h => by
    have := mem_slots (l := r) (j := j) (by simpa using h)
    cases x <;> first | exact this | exact List.mem_cons_of_mem _ this
theorem slOk_at {δ : Dn} : ∀ {l : List AE} {j i : Nat} {oa : Option Addr} {c : Cont}, SlOk δ l → l[j]? = some (.sl i oa c) → δ[i]? = some (.own oa c)
  | [], _, _, _, _, _, h => by cases h
  | x :: r, 0, i, oa, c, s, h => by cases h; exact s.1
  | x :: r, j + 1, i, oa, c, s, h => by
    have h' : r[j]? = some (.sl i oa c) := by simpa using h
    cases x with
    | sl _ _ _ => exact slOk_at s.2 h'
    | d _ => exact slOk_at (l := r) s h'
    | f _ => exact slOk_at (l := r) s h'
theorem mkA_len (ad : Nat → Addr) : ∀ l, (mkA ad l).length = l.length := by
  intro l
  induction l generalizing ad with
  | nil => rfl
  | cons x r ih => rw [mkA, List.length_cons, List.length_cons, ih]
theorem mkB_at : ∀ {l : List AE} {ad : Nat → Addr} {cs : Nat → Cont} {j : Nat} {x : AE}, l[j]? = some x → (mkB ad cs l)[j]? = some (x.entB (ad j) (cs j))
  | [], _, _, _, _, h => by cases h
  | y :: r, ad, cs, 0, x, h => by cases h; rfl
  | y :: r, ad, cs, j + 1, x, h => by rw [mkB, List.getElem?_cons_succ]; exact mkB_at (ad := fun n => ad (n + 1)) (cs := fun n => cs (n + 1)) (by simpa using h)
theorem updS_len : ∀ (l : List AE) (δ : Dn) (cs : Nat → Cont), (updS δ cs l).length = δ.length
  | [], _, _ => rfl
  | x :: r, δ, cs => by
    cases x with
    | sl i oa c => rw [updS, updS_len, List.length_set]
    | d _ => rw [updS, updS_len]
    | f _ => rw [updS, updS_len]
theorem updS_at : ∀ (l : List AE) (δ : Dn) (cs : Nat → Cont) (i : Nat) (e : Ent), (slots l).Nodup → (updS δ cs l)[i]? = some e → (i ∉ slots l ∧ δ[i]? = some e) ∨ ∃ j oa c, l[j]? = some (.sl i oa c) ∧ e = .own oa (cs j)
  | [], _, _, _, _, _, h => .inl ⟨by simp [slots], h⟩
  | x :: r, δ, cs, i, e, nd, h => by
    cases x with
    | sl k oa c =>
      rw [slots, List.nodup_cons] at nd
      rw [updS] at h
      rcases updS_at r _ _ i e nd.2 h with ⟨h1, h2⟩ | ⟨j, oa', c', h1, h2⟩
      · by_cases ki : k = i
        · subst ki
          have hk : k < δ.length := by
            have := (List.getElem?_eq_some_iff.mp h2).1
            rwa [List.length_set] at this
          rw [List.getElem?_set_self hk] at h2
          exact .inr ⟨0, oa, c, rfl, (Option.some.inj h2).symm⟩
        · rw [List.getElem?_set_ne ki] at h2
          exact .inl ⟨by rw [slots]; exact fun z => (List.mem_cons.mp z).elim (fun y => ki y.symm) h1, h2⟩
      · exact .inr ⟨j + 1, oa', c', by simpa using h1, h2⟩
    | d _ =>
      rw [updS] at h
      rcases updS_at r _ _ i e nd h with ⟨h1, h2⟩ | ⟨j, oa', c', h1, h2⟩
      · exact .inl ⟨h1, h2⟩
      · exact .inr ⟨j + 1, oa', c', by simpa using h1, h2⟩
    | f _ =>
      rw [updS] at h
      rcases updS_at r _ _ i e nd h with ⟨h1, h2⟩ | ⟨j, oa', c', h1, h2⟩
      · exact .inl ⟨h1, h2⟩
      · exact .inr ⟨j + 1, oa', c', by simpa using h1, h2⟩
theorem updS_own : ∀ (l : List AE) (δ : Dn) (cs : Nat → Cont) (i : Nat), (∃ oa c, δ[i]? = some (.own oa c)) → ∃ oa c, (updS δ cs l)[i]? = some (.own oa c)
  | [], _, _, _, h => h
  | x :: r, δ, cs, i, h => by
    cases x with
    | sl k oa c =>
      rw [updS]
      refine updS_own r _ _ i ?_
      by_cases ki : k = i
      · subst ki
        obtain ⟨oa', c', h⟩ := h
        exact ⟨oa, cs 0, by rw [List.getElem?_set_self (List.getElem?_eq_some_iff.mp h).1]⟩
      · rw [List.getElem?_set_ne ki]; exact h
    | d _ => rw [updS]; exact updS_own r _ _ i h
    | f _ => rw [updS]; exact updS_own r _ _ i h
noncomputable def consO (o : List Addr) (own : Nat → List Addr) : Nat → List Addr
  | 0 => o
  | j + 1 => own j
noncomputable def consA (a : Addr) (ad : Nat → Addr) : Nat → Addr
  | 0 => a
  | j + 1 => ad j
theorem consO_nd {o : List Addr} {own : Nat → List Addr} (h : o.Nodup) (h' : ∀ j, (own j).Nodup) : ∀ j, (consO o own j).Nodup
  | 0 => h
  | j + 1 => h' j
structure Callee (K : PySem.W.Frag) (own : Nat → List Addr) (B : Addr → Prop) (σ : St) (H H' : Hp) (l : List AE) (vs : List V) (ad : Nat → Addr) (own0 : Nat → List Addr) (B0 : Addr → Prop) : Prop where
  env : EnvO K (keepB own0 H') own0 B0 H' (vs.map some) (mkA ad l)
  av : ∀ a, Av own B a → Av own0 B0 a
  va : ∀ a, Av own0 B0 a → Av own B a ∨ H a = none
  src : ∀ j a, a ∈ own0 j → (∃ i oa c, l[j]? = some (.sl i oa c) ∧ a ∈ own i) ∨ H a = none
  dst : ∀ j i oa c, l[j]? = some (.sl i oa c) → own0 j = own i ∧ σ[i]? = some (some (.ref (ad j)))
section
variable {K : PySem.W.Frag} {Hb : Hp} {own : Nat → List Addr} {B : Addr → Prop} {H H1 H2 : Hp} {σ : St} {δ : Dn}
theorem callee_nil (E : EnvO K Hb own B H σ δ) : Callee K own B σ H H [] [] (fun _ => 0) (fun _ => []) (Av own B) := by
  refine ⟨⟨fun b o h => (keepB_some h).1, rfl, fun a h z => ?_, fun _ _ z => (nomatch z), fun _ _ z => (nomatch z), fun _ => List.nodup_nil, fun _ _ _ z => (nomatch z), fun i d z => (by cases z), fun i oa c z => (by cases z)⟩, fun a h => .inl h, fun a h => .inl (h.elim id fun ⟨_, z⟩ => nomatch z), fun _ _ z => (nomatch z), fun j i oa c z => (by cases z)⟩
  cases q : H a with
  | none => exact E.alive h q
  | some o => rw [keepB_of (own := fun _ => []) q fun i hi => nomatch hi] at z; cases z
theorem callee_d {l : List AE} {vs : List V} {ad : Nat → Addr} {own0 : Nat → List Addr} {B0 : Addr → Prop} {d : PyData} {v : V} (s1 : Same H H1) (s2 : Same H1 H2) (C : Callee K own B σ H1 H2 l vs ad own0 B0) (r : Rep K (Av own B) H1 d v) :
    Callee K own B σ H H2 (.d d :: l) (v :: vs) (consA 0 ad) (consO [] own0) B0 := by
  have ho : ∀ j a, a ∈ consO [] own0 j → ∃ k, j = k + 1 ∧ a ∈ own0 k := fun j a h => by
    cases j with
    | zero => cases h
    | succ k => exact ⟨k, rfl, h⟩
  have av1 : ∀ a, Av (consO [] own0) B0 a → Av own0 B0 a := fun a h => h.imp id fun ⟨j, z⟩ => let ⟨k, _, q⟩ := ho j a z; ⟨k, q⟩
  have av2 : ∀ a, Av own0 B0 a → Av (consO [] own0) B0 a := fun a h => h.imp id fun ⟨j, z⟩ => ⟨j + 1, z⟩
  have kb : keepB (consO [] own0) H2 = keepB own0 H2 := by
    funext b
    cases q : keepB own0 H2 b with
    | some o => obtain ⟨q1, q2⟩ := keepB_some q; exact keepB_of q1 fun j hj => let ⟨k, _, y⟩ := ho j b hj; q2 k y
    | none =>
      cases q' : keepB (consO [] own0) H2 b with
      | none => rfl
      | some o =>
        obtain ⟨q1, q2⟩ := keepB_some q'
        rw [keepB_of (own := own0) q1 fun j hj => q2 (j + 1) hj] at q
        cases q
  have E := C.env
  refine ⟨⟨by rw [kb]; exact E.base, by simp [mkA_len]; simpa [mkA_len] using E.len, by rw [kb]; exact E.bb, fun j a h => ?_, fun j a h => ?_, consO_nd List.nodup_nil E.ond, fun i j a h h' => ?_, fun i e h => ?_, fun i oa c h => ?_⟩, fun a h => av2 a (C.av a h), fun a h => ?_, fun j a h => ?_, fun j i oa c h => ?_⟩
  · obtain ⟨k, rfl, q⟩ := ho j a h; rw [kb]; exact E.ofr k a q
  · obtain ⟨k, rfl, q⟩ := ho j a h; exact E.oex k a q
  · obtain ⟨k, rfl, q⟩ := ho i a h; obtain ⟨k', rfl, q'⟩ := ho j a h'; rw [E.inj k k' a q q']
  · cases i with
    | zero =>
      cases h
      refine ⟨v, rfl, Rep.young (Hk := H1) (fun a h => C.va a (av1 a h)) r s2⟩
    | succ i =>
      obtain ⟨w, h1, h2⟩ := E.sh i e h
      exact ⟨w, h1, h2.av av1⟩
  · cases i with
    | zero => cases h
    | succ i =>
      obtain ⟨w, h1, h2, h4⟩ := E.ow i oa c h
      exact ⟨w, h1, h2, h4.av av1⟩
  · exact (C.va a (av1 a h)).imp id fun z => s1.free z
  · obtain ⟨k, rfl, q⟩ := ho j a h
    exact (C.src k a q).imp (fun ⟨i, oa, c, z⟩ => ⟨i, oa, c, by simpa using z⟩) fun z => s1.free z
  · cases j with
    | zero => cases h
    | succ j => exact C.dst j i oa c (by simpa using h)
theorem callee_own {l : List AE} {vs : List V} {ad : Nat → Addr} {own0 : Nat → List Addr} {B0 B' : Addr → Prop} {x : AE} {a : Addr} {as : List Addr} {c : Cont} (s1 : Same H H1) (s2 : Same H1 H2) (C : Callee K own B' σ H1 H2 l vs ad own0 B0) (hx : x.ent a = .own (some a) c) (hB : ∀ b, B b → B' b) (hB' : ∀ b, B' b → B b ∨ b ∈ as)
    (hA : ∀ b ∈ as, Av own B' b) (hn : ∀ b ∈ as, ∀ j, b ∉ own0 j) (hnd : as.Nodup) (r : RepC K (Av own B') H1 c (.ref a) as) (hsrc : (∃ i oa c, x = .sl i oa c ∧ own i = as) ∨ ∀ b ∈ as, H b = none) (hdst : ∀ i oa c, x = .sl i oa c → own i = as ∧ σ[i]? = some (some (.ref a))) :
    Callee K own B σ H H2 (x :: l) (.ref a :: vs) (consA a ad) (consO as own0) (fun b => B0 b ∧ b ∉ as) := by
  have E := C.env
  have ho : ∀ j b, b ∈ consO as own0 j → (j = 0 ∧ b ∈ as) ∨ ∃ k, j = k + 1 ∧ b ∈ own0 k := fun j b h => by
    cases j with
    | zero => exact .inl ⟨rfl, h⟩
    | succ k => exact .inr ⟨k, rfl, h⟩
  have hB0a : ∀ b ∈ as, B0 b := fun b hb => (C.av b (hA b hb)).elim id fun ⟨j, z⟩ => absurd z (hn b hb j)
  have av1 : ∀ b, Av (consO as own0) (fun b => B0 b ∧ b ∉ as) b → Av own0 B0 b := fun b h => by
    rcases h with h | ⟨j, z⟩
    · exact .inl h.1
    · rcases ho j b z with ⟨_, hb⟩ | ⟨k, _, q⟩
      · exact .inl (hB0a b hb)
      · exact .inr ⟨k, q⟩
  have av2 : ∀ b, Av own0 B0 b → Av (consO as own0) (fun b => B0 b ∧ b ∉ as) b := fun b h => by
    rcases h with h | ⟨j, z⟩
    · by_cases e : b ∈ as
      · exact .inr ⟨0, e⟩
      · exact .inl ⟨h, e⟩
    · exact .inr ⟨j + 1, z⟩
  refine ⟨⟨fun b o h => (keepB_some h).1, by simp [mkA_len]; simpa [mkA_len] using E.len, fun b h z => ?_, fun j b h => ?_, fun j b h => ?_, consO_nd hnd E.ond, fun i j b h h' => ?_, fun i e h => ?_, fun i oa c' h => ?_⟩, fun b h => av2 b (C.av b (h.imp (hB b) id)), fun b h => ?_, fun j b h => ?_, fun j i oa c h => ?_⟩
  · have h1 := E.bb b h.1
    cases q : keepB own0 H2 b with
    | none => exact h1 q
    | some o' =>
      obtain ⟨q1, q2⟩ := keepB_some q
      rw [keepB_of q1 fun j hj => (ho j b hj).elim (fun y => h.2 y.2) fun ⟨k, _, y⟩ => q2 k y] at z
      cases z
  · unfold keepB
    rw [if_pos ⟨j, h⟩]
  · rcases ho j b h with ⟨rfl, _⟩ | ⟨k, rfl, q⟩
    · exact ⟨some a, c, by show some (x.ent a) = _; rw [hx]⟩
    · exact E.oex k b q
  · rcases ho i b h with ⟨rfl, hb⟩ | ⟨k, rfl, q⟩ <;> rcases ho j _ h' with ⟨rfl, z⟩ | ⟨k', rfl, q'⟩
    · rfl
    · exact absurd q' (hn b hb k')
    · exact absurd q (hn b z k)
    · rw [E.inj k k' b q q']
  · cases i with
    | zero =>
      have h' : some (x.ent a) = some (Ent.sh e) := h
      rw [hx] at h'
      cases h'
    | succ i =>
      obtain ⟨w, h1, h2⟩ := E.sh i e h
      exact ⟨w, h1, h2.av av1⟩
  · cases i with
    | zero =>
      have h' : some (x.ent a) = some (Ent.own oa c') := h
      rw [hx] at h'
      cases h'
      exact ⟨.ref a, rfl, fun b z => by cases z; rfl, (r.kp (Kp.young fun b h => C.va b (av1 b h)) fun _ _ _ z => z).up s2⟩
    | succ i =>
      obtain ⟨w, h1, h2, h4⟩ := E.ow i oa c' h
      exact ⟨w, h1, h2, h4.av av1⟩
  · rcases C.va b (av1 b h) with (z | z) | z
    · rcases hB' b z with z | z
      · exact .inl (.inl z)
      · rcases hsrc with ⟨i, oa, c, _, q⟩ | q
        · exact .inl (.inr ⟨i, by rw [q]; exact z⟩)
        · exact .inr (q b z)
    · exact .inl (.inr z)
    · exact .inr (s1.free z)
  · rcases ho j b h with ⟨rfl, hb⟩ | ⟨k, rfl, q⟩
    · rcases hsrc with ⟨i, oa, c, z, q⟩ | q
      · exact .inl ⟨i, oa, c, by rw [z]; rfl, by rw [q]; exact hb⟩
      · exact .inr (q b hb)
    · exact (C.src k b q).imp (fun ⟨i, oa, c, z⟩ => ⟨i, oa, c, by simpa using z⟩) fun z => s1.free z
  · cases j with
    | zero =>
      have h' : some x = some (AE.sl i oa c) := h
      cases h'
      exact ⟨(hdst _ _ _ rfl).1.symm, (hdst _ _ _ rfl).2⟩
    | succ j => exact C.dst j i oa c (by simpa using h)
theorem slots_inj : ∀ {l : List AE} {j j' i : Nat} {oa oa' : Option Addr} {c c' : Cont}, (slots l).Nodup → l[j]? = some (.sl i oa c) → l[j']? = some (.sl i oa' c') → j = j'
  | [], _, _, _, _, _, _, _, _, h, _ => by cases h
  | x :: r, 0, 0, _, _, _, _, _, _, _, _ => rfl
  | x :: r, 0, j' + 1, i, oa, oa', c, c', nd, h, h' => by
    cases h
    rw [slots, List.nodup_cons] at nd
    exact absurd (mem_slots (l := r) (j := j') (by simpa using h')) nd.1
  | x :: r, j + 1, 0, i, oa, oa', c, c', nd, h, h' => by
    cases h'
    rw [slots, List.nodup_cons] at nd
    exact absurd (mem_slots (l := r) (j := j) (by simpa using h)) nd.1
  | x :: r, j + 1, j' + 1, i, oa, oa', c, c', nd, h, h' => by
    have nd' : (slots r).Nodup := by
      cases x with
      | sl _ _ _ => rw [slots, List.nodup_cons] at nd; exact nd.2
      | d _ => exact nd
      | f _ => exact nd
    rw [slots_inj (l := r) (j := j) (j' := j') nd' (by simpa using h) (by simpa using h')]
noncomputable def ownB (own own' : Nat → List Addr) (l : List AE) : Nat → List Addr := fun i => open Classical in if h : ∃ j, ∃ oa c, l[j]? = some (AE.sl i oa c) then own' h.choose else own i
theorem ownB_sl {own own' : Nat → List Addr} {l : List AE} {i j : Nat} {oa : Option Addr} {c : Cont} (nd : (slots l).Nodup) (h : l[j]? = some (AE.sl i oa c)) : ownB own own' l i = own' j := by
  unfold ownB
  have e : ∃ j, ∃ oa c, l[j]? = some (AE.sl i oa c) := ⟨j, oa, c, h⟩
  rw [dif_pos e]
  obtain ⟨oa', c', h'⟩ := e.choose_spec
  rw [slots_inj nd h' h]
theorem ownB_no {own own' : Nat → List Addr} {l : List AE} {i : Nat} (h : i ∉ slots l) : ownB own own' l i = own i := by
  unfold ownB
  rw [dif_neg fun ⟨j, oa, c, z⟩ => h (mem_slots z)]
theorem slots_ex : ∀ {l : List AE} {i : Nat}, i ∈ slots l → ∃ (j : Nat) (oa : Option Addr) (c : Cont), l[j]? = some (AE.sl i oa c)
  | [], _, h => by cases h
  | x :: r, i, h => by
    cases x with
    | sl k oa c =>
      rcases List.mem_cons.mp h with rfl | h
      · exact ⟨0, oa, c, rfl⟩
      · obtain ⟨j, oa', c', q⟩ := slots_ex (l := r) h
        exact ⟨j + 1, oa', c', by simpa using q⟩
    | d _ =>
      obtain ⟨j, oa', c', q⟩ := slots_ex (l := r) h
      exact ⟨j + 1, oa', c', by simpa using q⟩
    | f _ =>
      obtain ⟨j, oa', c', q⟩ := slots_ex (l := r) h
      exact ⟨j + 1, oa', c', by simpa using q⟩
theorem ownB_cases {own own' : Nat → List Addr} {l : List AE} (nd : (slots l).Nodup) (i : Nat) : (i ∉ slots l ∧ ownB own own' l i = own i) ∨ ∃ j oa c, l[j]? = some (AE.sl i oa c) ∧ ownB own own' l i = own' j := by
  by_cases h : i ∈ slots l
  · obtain ⟨j, oa, c, q⟩ := slots_ex h
    exact .inr ⟨j, oa, c, q, ownB_sl nd q⟩
  · exact .inl ⟨h, ownB_no h⟩
theorem callee_back {l : List AE} {vs : List V} {ad : Nat → Addr} {own0 own' : Nat → List Addr} {B0 : Addr → Prop} {cs : Nat → Cont} {σ' : St} {H' : Hp} (E : EnvO K Hb own B H σ δ) (s1 : Same H H1) (C : Callee K own B σ H H1 l vs ad own0 B0) (hs : SlOk δ l) (nd : (slots l).Nodup)
    (E' : EnvO K (keepB own0 H1) own' B0 H' σ' (mkB ad cs l)) : EnvO K Hb (ownB own own' l) B H' σ (updS δ cs l) ∧ (∀ a, Av (ownB own own' l) B a → Av own' B0 a) := by
  have E1 := E.mono s1
  have kept : ∀ i a, i ∉ slots l → a ∈ own i → ∀ j, a ∉ own0 j := fun i a hi ha j z => by
    rcases C.src j a z with ⟨i', oa, c, q1, q2⟩ | q
    · have := E.inj i i' a ha q2
      subst this
      exact hi (mem_slots q1)
    · exact E.alive (.inr ⟨i, ha⟩) q
  have keptB : ∀ i a, i ∉ slots l → a ∈ own i → B0 a := fun i a hi ha => (C.av a (.inr ⟨i, ha⟩)).elim id fun ⟨j, z⟩ => absurd z (kept i a hi ha j)
  have BB : ∀ a, B a → B0 a := fun a h => (C.av a (.inl h)).elim id fun ⟨j, z⟩ => by
    rcases C.src j a z with ⟨i, oa, c, _, q2⟩ | q
    · exact absurd (E.ofr i a q2) (E.bb a h)
    · exact absurd q (E.alive (.inl h))
  have av : ∀ a, Av (ownB own own' l) B a → Av own' B0 a := fun a h => by
    rcases h with h | ⟨i, h⟩
    · exact .inl (BB a h)
    · rcases ownB_cases (own := own) (own' := own') nd i with ⟨hi, e⟩ | ⟨j, oa, c, hj, e⟩
      · rw [e] at h; exact .inl (keptB i a hi h)
      · rw [e] at h; exact .inr ⟨j, h⟩
  have no0 : ∀ b, ¬ Av own B b → H b ≠ none → ∀ j, b ∉ own0 j := fun b h hn j z => by
    rcases C.src j b z with ⟨i, oa, c, _, q⟩ | q
    · exact h (.inr ⟨i, q⟩)
    · exact hn q
  have stay : ∀ b u, H b = some u → (∀ j, b ∉ own0 j) → H' b = some u := fun b u q n => E'.base b u (keepB_of (s1 b u q) n)
  have nmut : ∀ b u, H b = some u → ¬ MutO u → ∀ j, b ∉ own0 j := fun b u q nm j z => by
    obtain ⟨o, q', m⟩ := C.env.muts j b z
    rw [s1 b u q] at q'
    cases q'
    exact nm m
  have got : ∀ j a, a ∈ own' j → H1 a = none ∨ ∃ k, a ∈ own0 k := fun j a h => by
    cases q : H1 a with
    | none => exact .inl rfl
    | some o =>
      refine .inr (Classical.byContradiction fun n => ?_)
      have := E'.ofr j a h
      rw [keepB_of q fun k hk => n ⟨k, hk⟩] at this
      cases this
  have gotH : ∀ j a, a ∈ own' j → (∃ i, a ∈ own i) ∨ H a = none := fun j a h => by
    rcases got j a h with z | ⟨k, z⟩
    · exact .inr (s1.free z)
    · exact (C.src k a z).imp (fun ⟨i, _, _, _, q⟩ => ⟨i, q⟩) id
  have nav : ∀ b u, H b = some u → ¬ Av own B b → ¬ Av (ownB own own' l) B b := fun b u q n z => by
    rcases z with z | ⟨i, z⟩
    · exact n (.inl z)
    · rcases ownB_cases (own := own) (own' := own') nd i with ⟨_, e⟩ | ⟨j, oa, c, hj, e⟩
      · rw [e] at z; exact n (.inr ⟨i, z⟩)
      · rw [e] at z
        rcases gotH j b z with y | y
        · exact n (.inr y)
        · rw [q] at y; cases y
  have kp : Kp (Av own B) (Av (ownB own own' l) B) H H' := ⟨fun b vs h _ q => ⟨nav b _ q h, stay b _ q (no0 b h (by rw [q]; intro z; cases z))⟩, fun b vs q => stay b _ q (nmut b _ q fun z => z), fun b o u q => stay b _ q (nmut b _ q fun z => z)⟩
  refine ⟨⟨fun b u q => ?_, by rw [updS_len]; exact E.len, E.bb, fun i a h => ?_, fun i a h => ?_, fun i => ?_, fun i i' a h h' => ?_, fun i d h => ?_, fun i oa c h => ?_⟩, av⟩
  · refine stay b u (E.base b u q) fun j z => ?_
    rcases C.src j b z with ⟨i, oa, c, _, q'⟩ | q'
    · rw [E.ofr i b q'] at q; cases q
    · rw [E.base b u q] at q'; cases q'
  · rcases ownB_cases (own := own) (own' := own') nd i with ⟨_, e⟩ | ⟨j, oa, c, hj, e⟩
    · rw [e] at h; exact E.ofr i a h
    · rw [e] at h
      rcases gotH j a h with ⟨k, z⟩ | z
      · exact E.ofr k a z
      · exact E.base.free z
  · rcases ownB_cases (own := own) (own' := own') nd i with ⟨_, e⟩ | ⟨j, oa, c, hj, e⟩
    · rw [e] at h; exact updS_own l δ cs i (E.oex i a h)
    · exact updS_own l δ cs i ⟨oa, c, slOk_at hs hj⟩
  · rcases ownB_cases (own := own) (own' := own') nd i with ⟨_, e⟩ | ⟨j, oa, c, hj, e⟩
    · rw [e]; exact E.ond i
    · rw [e]; exact E'.ond j
  · rcases ownB_cases (own := own) (own' := own') nd i with ⟨hi, e⟩ | ⟨j, oa, c, hj, e⟩ <;> rcases ownB_cases (own := own) (own' := own') nd i' with ⟨hi', e'⟩ | ⟨j', oa', c', hj', e'⟩ <;> rw [e] at h <;> rw [e'] at h'
    · exact E.inj i i' a h h'
    · rcases got j' a h' with z | ⟨k, z⟩
      · exact absurd z (E1.alive (.inr ⟨i, h⟩))
      · exact absurd z (kept i a hi h k)
    · rcases got j a h with z | ⟨k, z⟩
      · exact absurd z (E1.alive (.inr ⟨i', h'⟩))
      · exact absurd z (kept i' a hi' h' k)
    · have := E'.inj j j' a h h'
      subst this
      rw [hj] at hj'
      cases hj'
      rfl
  · rcases updS_at l δ cs i _ nd h with ⟨_, h2⟩ | ⟨_, _, _, _, z⟩
    · obtain ⟨v, k1, k2⟩ := E.sh i d h2
      exact ⟨v, k1, Rep.kp kp d v k2⟩
    · cases z
  · rcases updS_at l δ cs i _ nd h with ⟨h1, h2⟩ | ⟨j, oa', c', h1, z⟩
    · obtain ⟨v, k1, k2, k4⟩ := E.ow i oa c h2
      refine ⟨v, k1, k2, ?_⟩
      rw [ownB_no h1]
      exact k4.kp kp fun b hb o q => stay b o q (kept i b h1 hb)
    · cases z
      obtain ⟨v, k1, k2, k4⟩ := E'.ow j (some (ad j)) (cs j) (mkB_at (x := .sl i oa c') h1)
      have := k2 _ rfl
      subst this
      obtain ⟨v0, m1, m2, _⟩ := E.ow i oa c' (slOk_at hs h1)
      have m3 := (C.dst j i oa c' h1).2
      rw [m3] at m1
      cases m1
      exact ⟨_, m3, m2, by rw [ownB_sl nd h1]; exact k4.av av⟩
end
section
variable {X : Cx} {δ : Dn} {a b c e : Expr} {es : List Expr} {d : PyData} {pos p : Pos} {xs : List PyData} {k j : Nat} {x : Str} {l : List AE}
noncomputable def Cont.isRef : Cont → Bool
  | .n (.sh _) => false
  | _ => true
theorem RepC.ref {K : PySem.W.Frag} {A : Addr → Prop} {H : Hp} {c : Cont} {v : V} {as : List Addr} (hc : c.isRef = true) (h : RepC K A H c v as) : ∃ a, v = .ref a := by
  cases c with
  | l xs => obtain ⟨a, _, e, _⟩ := h; exact ⟨a, e⟩
  | d xs => obtain ⟨a, _, e, _⟩ := h; exact ⟨a, e⟩
  | n t =>
    cases t with
    | sh d => cases hc
    | l xs => obtain ⟨a, _, _, e, _⟩ := h; exact ⟨a, e⟩
    | t xs => obtain ⟨a, _, e, _⟩ := h; exact ⟨a, e⟩
    | d xs => obtain ⟨a, _, _, e, _⟩ := h; exact ⟨a, e⟩
    | e ks => obtain ⟨a, e, _⟩ := h; exact ⟨a, e⟩
    | o C fs => obtain ⟨a, _, _, _, e, _⟩ := h; exact ⟨a, e⟩
noncomputable def tM (K : PySem.W.Frag) (δ δ' : Dn) (d : PyData) : TE := fun σ H Q => ∃ Hb own B, EnvO K Hb own B H σ δ ∧ ∀ own' v H', EnvO K Hb own' B H' σ δ' → Rep K (Av own' B) H' d v → Q v H'
noncomputable def EvM (X : Cx) (δ : Dn) (e : Expr) (d : PyData) (δ' : Dn) : Prop := PE X e (tM X.K δ δ' d)
noncomputable def tTM (K : PySem.W.Frag) (δ δ' : Dn) (b : Bool) : TT := fun σ H Q => ∃ Hb own B, EnvO K Hb own B H σ δ ∧ ∀ own' H', EnvO K Hb own' B H' σ δ' → Q b H'
noncomputable def EtM (X : Cx) (δ : Dn) (e : Expr) (b : Bool) (δ' : Dn) : Prop := PT X e (tTM X.K δ δ' b)
noncomputable def spM (K : PySem.W.Frag) (R : List Ent → List Ent → PyData → Prop) : Sp := fun vs H Q _ => ∃ B own as as' d, EnvO K (keepB own H) own B H (vs.map some) as ∧ R as as' d ∧ ∀ own' σ' v H', EnvO K (keepB own H) own' B H' σ' as' → Rep K (Av own' B) H' d v → Q v H'
variable {δ' δ1 δ2 : Dn} {o : Out} {body els : List Stmt}
theorem s1_ifM {m : Bool} (hc : EtM X δ c m δ1) (h1 : m = true → SR X δ1 body o) (h2 : m = false → SR X δ1 els o) : S1 X δ (.If c body els pos) o := by
  cases m with
  | true => exact fun pins s σ H D I hh31 => Zz.a5 hh31 fun Hb own B E P => ps_if hc (h1 rfl) (pss_never (sts := els)) pins s σ H D I ⟨Hb, own, B, E, fun own' H' E' => iteT ⟨Hb, own', B, E', P⟩⟩
  | false => exact fun pins s σ H D I hh32 => Zz.a5 hh32 fun Hb own B E P => ps_if hc (pss_never (sts := body)) (h2 rfl) pins s σ H D I ⟨Hb, own, B, E, fun own' H' E' => iteF ⟨Hb, own', B, E', P⟩⟩
end
section
variable {K : PySem.W.Frag} {Hb : Hp} {own : Nat → List Addr} {B : Addr → Prop} {H : Hp} {σ : St} {δ : Dn}
theorem EnvO.pad (E : EnvO K Hb own B H σ δ) (n : Nat) : EnvO K Hb own B H (σ ++ List.replicate n none) (δ ++ List.replicate n Ent.no) := by
  have lt : ∀ (i : Nat) (e : Ent), δ[i]? = some e → i < δ.length := fun i e h => (List.getElem?_eq_some_iff.mp h).1
  have back : ∀ (i : Nat) (e : Ent), (δ ++ List.replicate n Ent.no)[i]? = some e → δ[i]? = some e ∨ e = Ent.no := fun i e h => by
    by_cases hi : i < δ.length
    · rw [List.getElem?_append_left hi] at h; exact .inl h
    · rw [List.getElem?_append_right (by omega), List.getElem?_replicate] at h
      split at h
      · exact .inr (Option.some.inj h).symm
      · cases h
  refine ⟨E.base, by simp [E.len], E.bb, E.ofr, fun i a h => ?_, E.ond, E.inj, fun i d h => ?_, fun i oa c h => ?_⟩
  · obtain ⟨oa, c, q⟩ := E.oex i a h
    exact ⟨oa, c, by rw [List.getElem?_append_left (lt _ _ q)]; exact q⟩
  · rcases back i _ h with h | h
    · obtain ⟨v, h1, h2⟩ := E.sh i d h
      exact ⟨v, by rw [List.getElem?_append_left (by rw [E.len]; exact lt _ _ h)]; exact h1, h2⟩
    · cases h
  · rcases back i _ h with h | h
    · obtain ⟨v, h1, h2, h3⟩ := E.ow i oa c h
      exact ⟨v, by rw [List.getElem?_append_left (by rw [E.len]; exact lt _ _ h)]; exact h1, h2, h3⟩
    · cases h
theorem EnvO.unpad {n : Nat} (E : EnvO K Hb own B H σ (δ ++ List.replicate n Ent.no)) : EnvO K Hb own B H (σ.take δ.length) δ := by
  have hl := E.len
  rw [List.length_append, List.length_replicate] at hl
  have lt : ∀ (i : Nat) (e : Ent), δ[i]? = some e → i < δ.length := fun i e h => (List.getElem?_eq_some_iff.mp h).1
  have fw : ∀ (i : Nat) (e : Ent), δ[i]? = some e → (δ ++ List.replicate n Ent.no)[i]? = some e := fun i e h => by rw [List.getElem?_append_left (lt i e h)]; exact h
  refine ⟨E.base, by rw [List.length_take]; omega, E.bb, E.ofr, fun i a h => ?_, E.ond, E.inj, fun i d h => ?_, fun i oa c h => ?_⟩
  · obtain ⟨oa, c, q⟩ := E.oex i a h
    refine ⟨oa, c, ?_⟩
    by_cases hi : i < δ.length
    · rw [List.getElem?_append_left hi] at q; exact q
    · rw [List.getElem?_append_right (by omega), List.getElem?_replicate] at q
      split at q <;> cases q
  · obtain ⟨v, h1, h2⟩ := E.sh i d (fw _ _ h)
    exact ⟨v, by rw [List.getElem?_take_of_lt (lt _ _ h)]; exact h1, h2⟩
  · obtain ⟨v, h1, h2, h3⟩ := E.ow i oa c (fw _ _ h)
    exact ⟨v, by rw [List.getElem?_take_of_lt (lt _ _ h)]; exact h1, h2, h3⟩
end
noncomputable def startE (N : List Str) (as : List Ent) : Dn := as ++ List.replicate (N.length - as.length) Ent.no
inductive BodyM (X : Cx) (N : List Str) (δ : Dn) (body : List Stmt) (as' : List Ent) : PyData → Prop where
  | nx {δ' : Dn} (h : SR X δ body (.nx δ')) (w : Wkn δ' (startE N as')) : BodyM X N δ body as' .none
  | rw {δ' : Dn} {d : PyData} (h : SR X δ body (.rw δ' d)) (w : Wkn δ' (startE N as')) (hs : scalD d = true) : BodyM X N δ body as' d
section
variable {P : Program} {w : World} {K : PySem.W.Frag} {mg : Str → Option Value} {base : Heap} {x qual : Str} {st : Stmt} {f : Addr} {fd : FuncData} {N ps : List Str} {k : Nat}
theorem fn_M {R : List Ent → List Ent → PyData → Prop} (F : Fun K x qual st f fd) (S : FnScope N ps (defScope st)) (hm : mg x = some (.ref f)) (hb : Binds K fd ps []) (hl : ∀ as as' d, R as as' d → as.length = ps.length)
    (body : ∀ cdv A outer s H E, Room k (bx P w K mg base N qual st f cdv A outer s H E).A → ∀ as as' d, R as as' d → BodyM (bx P w K mg base N qual st f cdv A outer s H E) N (startE N as) (defBody st) as' d) :
    Fn P w K mg base x (k + 1) ps (spM K R) := by
  refine ⟨f, fd, F.ok S (fun vs H Q E h => ?_) (fun cdv A outer s H vs Q E hr h => ?_), hm, F.kp, hb⟩
  · obtain ⟨B, own, as, as', d, E0, hR, _⟩ := h
    have := E0.len
    rw [List.length_map] at this
    rw [this]; exact hl as as' d hR
  · obtain ⟨B, own, as, as', d, E0, hR, q⟩ := h
    have hlen := E0.len
    rw [List.length_map] at hlen
    have Es : EnvO K (keepB own H) own B H (start N vs) (startE N as) := by
      unfold start startE
      rw [hlen]
      exact E0.pad _
    have hst : (startE N as').length = N.length → True := fun _ => trivial
    cases body cdv A outer s H E hr as as' d hR with
    | nx h w => exact ⟨_, h, keepB own H, own, B, Es, fun own' σ' H' E' => q _ _ _ _ ((E'.weaken w).unpad) rfl⟩
    | rw h w hs => exact ⟨_, h, keepB own H, own, B, Es, fun own' σ' H' v E' r => q _ _ _ _ ((E'.weaken w).unpad) (rep_scal hs r)⟩
end
end L2
end
section
namespace L2
open PySem PySem.Spec PyProof.Rows
section
variable {X : Cx} {δ : Dn} {iter elt e : Expr} {ifs : List Expr} {scope : Scope} {x y : Str} {px py pt pos : Pos} {kt : Nat} {α : Type} {k : Nat}
end
end L2
end
section
namespace L2
open PySem PySem.Spec PyProof.Rows
noncomputable def tX (K : PySem.W.Frag) (δ : Dn) (S : List Nat) (t : OT) : TE := fun σ H Q => ∃ Hb own B, EnvO K Hb own B H σ δ ∧ ∀ v as H', Same H H' → (∀ a ∈ as, H a = none ∨ ∃ i ∈ S, a ∈ own i) → as.Nodup → RepO K (fun b => Av own B b ∨ b ∈ as) H' t v as → Q v H'
noncomputable def ExD (X : Cx) (δ : Dn) (e : Expr) (t : OT) (S : List Nat) : Prop := PE X e (tX X.K δ S t)
noncomputable def tXs (K : PySem.W.Frag) (δ : Dn) (S : List Nat) (ts : List OT) : TA := fun σ H Q => ∃ Hb own B, EnvO K Hb own B H σ δ ∧ ∀ vs as H', Same H H' → (∀ a ∈ as, H a = none ∨ ∃ i ∈ S, a ∈ own i) → as.Nodup → RepOs K (fun b => Av own B b ∨ b ∈ as) H' ts vs as → Q vs H'
noncomputable def ExA (X : Cx) (δ : Dn) (es : List Expr) (ts : List OT) (S : List Nat) : Prop := PA X es (tXs X.K δ S ts)
theorem EnvO.guardP {K : PySem.W.Frag} {Hb : Hp} {own : Nat → List Addr} {B : Addr → Prop} {H H' : Hp} {σ : St} {δ : Dn} (E : EnvO K Hb own B H σ δ) {D : Addr → Prop} (hn : ∀ a, D a → H a = none) (e : Same H H') (hD : ∀ a, D a → H' a ≠ none) :
    EnvO K (keepB own H') own (fun b => B b ∨ D b) H' σ δ := by
  have hno : ∀ a, D a → ∀ i, a ∉ own i := fun a ha i hi => E.new (hn a ha) (.inr ⟨i, hi⟩)
  have av : ∀ a, Av own (fun b => B b ∨ D b) a → Av own B a ∨ H a = none := fun a h => by
    rcases h with (h | h) | h
    · exact .inl (.inl h)
    · exact .inr (hn a h)
    · exact .inl (.inr h)
  have E' := (E.mono e).rebase
  refine ⟨E'.base, E'.len, fun a h => ?_, E'.ofr, E'.oex, E'.ond, E'.inj, fun i d h => ?_, fun i oa c h => ?_⟩
  · rcases h with h | h
    · exact E'.bb a h
    · obtain ⟨o, q⟩ := Option.ne_none_iff_exists'.mp (hD a h)
      rw [keepB_of q (hno a h)]; exact fun z => by cases z
  · obtain ⟨v, h1, h2⟩ := E.sh i d h
    exact ⟨v, h1, Rep.young av h2 e⟩
  · obtain ⟨v, h1, h2, h4⟩ := E.ow i oa c h
    exact ⟨v, h1, h2, (h4.kp (.young av) fun _ _ _ z => z).up e⟩
section
variable {X : Cx} {δ : Dn} {a b c e : Expr} {es : List Expr} {d : PyData} {pos p : Pos} {xs ys : List PyData} {k j : Nat} {x : Str} {t : OT} {ts : List OT} {S S' : List Nat}
theorem reps_sh {K : PySem.W.Frag} {A : Addr → Prop} {H : Hp} : ∀ {ds : List PyData} {vs : List V}, Reps K A H ds vs → RepOs K A H (ds.map .sh) vs []
  | [], _, h => ⟨h, rfl⟩
  | x :: xs, _, h => by
    obtain ⟨v, r, rfl, h2, h3⟩ := h
    exact ⟨v, r, [], [], rfl, rfl, ⟨rfl, h2⟩, reps_sh h3⟩
theorem repOs_sh {K : PySem.W.Frag} {A : Addr → Prop} {H : Hp} : ∀ {ds : List PyData} {vs : List V} {as : List Addr}, RepOs K A H (ds.map .sh) vs as → as = [] ∧ Reps K A H ds vs
  | [], _, _, h => ⟨h.2, h.1⟩
  | x :: xs, _, _, h => by
    obtain ⟨v, r, bs, cs, rfl, rfl, h2, h3⟩ := h
    obtain ⟨e1, h4⟩ := repOs_sh h3
    exact ⟨by rw [e1, h2.1]; rfl, v, r, rfl, h2.2, h4⟩
theorem ex_d (h : EvD X δ e d) : ExD X δ e (.sh d) [] := fun pins s σ H Q I hh33 => Zz.a5 hh33 fun Hb own B E q => h pins s σ H Q I ⟨Hb, own, B, E, fun v H' s1 r => q v [] H' s1 (fun a z => (nomatch z)) List.nodup_nil ⟨rfl, r.av fun b z => z.elim id fun y => (nomatch y)⟩⟩
theorem ex_f (h : EvF X δ e xs) : ExD X δ e (.l (xs.map .sh)) [] := fun pins s σ H Q I hh34 => Zz.a5 hh34 fun Hb own B E q => h pins s σ H Q I ⟨Hb, own, B, E, fun a vs H' s1 hn ha r => q (.ref a) [a] H' s1 (fun b z => .inl (by rw [List.mem_singleton.mp z]; exact hn)) (by simp) ⟨a, vs, [], rfl, rfl, ha, reps_sh (r.av fun b z => z.imp id fun y => List.mem_singleton.mp y)⟩⟩
theorem exa_nil : ExA X δ [] [] [] := fun cpos pins s σ H Q I hh35 => Zz.a5 hh35 fun Hb own B E q => pa_nil cpos pins s σ H Q I (q [] [] H (Same.refl H) (fun a z => (nomatch z)) List.nodup_nil ⟨rfl, rfl⟩)
theorem exa_cons (he : ExD X δ e t S) (ht : ExA X δ es ts S') (hS : ∀ i ∈ S, i ∉ S' := by simp) (hs : starEach (e :: es) X.env = (false, eval e X.env) :: starEach es X.env := by rfl) : ExA X δ (e :: es) (t :: ts) (S ++ S') :=
  fun cpos pins s σ H Q I hh36 => Zz.a5 hh36 fun Hb own B E q => pa_cons he ht hs cpos pins s σ H Q I ⟨Hb, own, B, E, fun v as H1 s1 h1 nd1 r1 => by
    have E1 := E.guardP (D := fun b => b ∈ as ∧ H b = none) (fun a ha => ha.2) s1 fun a ha z => by
      obtain ⟨o, y, _⟩ := RepO.muts t v as r1 a ha.1
      rw [z] at y; cases y
    refine ⟨_, own, _, E1, fun vs bs H2 s2 h2 nd2 r2 => ?_⟩
    have al1 : ∀ a ∈ as, H1 a ≠ none := fun a ha z => by
      obtain ⟨o, y, _⟩ := RepO.muts t v as r1 a ha
      rw [z] at y; cases y
    have av1 : ∀ a ∈ as, Av own (fun b => B b ∨ (b ∈ as ∧ H b = none)) a := fun a ha => by
      rcases h1 a ha with z | ⟨i, _, z⟩
      · exact .inl (.inr ⟨ha, z⟩)
      · exact .inr ⟨i, z⟩
    have dj : ∀ a ∈ as, a ∉ bs := fun a ha hb => by
      rcases h2 a hb with z | ⟨i, hi, z⟩
      · exact al1 a ha z
      · rcases h1 a ha with y | ⟨i', hi', y⟩
        · exact E.alive (.inr ⟨i, z⟩) y
        · have := E.inj i i' a z y
          subst this
          exact hS i hi' hi
    refine q _ (as ++ bs) H2 (s1.trans s2) (fun a ha => ?_) (List.nodup_append.mpr ⟨nd1, nd2, fun a ha b hb z => dj a ha (z ▸ hb)⟩) ⟨v, vs, as, bs, rfl, rfl, ?_, ?_⟩
    · rcases List.mem_append.mp ha with ha | ha
      · rcases h1 a ha with z | ⟨i, hi, z⟩
        · exact .inl z
        · exact .inr ⟨i, List.mem_append_left _ hi, z⟩
      · rcases h2 a ha with z | ⟨i, hi, z⟩
        · exact .inl (s1.free z)
        · exact .inr ⟨i, List.mem_append_right _ hi, z⟩
    · refine RepO.kp (.mono s2) _ _ _ (fun a _ o z => s2 a o z) (RepO.kp (.young fun b h => ?_) _ _ _ (fun _ _ _ z => z) r1)
      rcases h with h | h
      · exact .inl (.inl h)
      · rcases List.mem_append.mp h with h | h
        · exact .inl (.inr h)
        · rcases h2 b h with z | ⟨i, _, z⟩
          · exact .inr z
          · exact .inl (.inl (.inr ⟨i, z⟩))
    · refine RepOs.kp (.avoid fun b h => ?_) _ _ _ (fun _ _ _ z => z) r2
      rcases h with h | h
      · exact .inl (h.imp .inl id)
      · rcases List.mem_append.mp h with h | h
        · exact .inl (av1 b h)
        · exact .inr h⟩
theorem repOs_len {K : PySem.W.Frag} {A : Addr → Prop} {H : Hp} : ∀ {ts : List OT} {vs : List V} {as : List Addr}, RepOs K A H ts vs as → ts.length = vs.length
  | [], _, _, h => by rw [h.1]; rfl
  | x :: xs, _, _, h => by
    obtain ⟨v, r, bs, cs, rfl, rfl, h2, h3⟩ := h
    rw [List.length_cons, List.length_cons, repOs_len h3]
theorem ex_list (h : ExA X δ es ts S) (hl : ts.length ≤ 1000 := by exact Nat.le_of_ble_eq_true rfl) : ExD X δ (.List es pos) (.l ts) S :=
  fun pins s σ H Q I hh37 => Zz.a5 hh37 fun Hb own B E q => pe_lst h pins s σ H Q I ⟨Hb, own, B, E, fun vs as H1 s1 h1 nd r => ⟨by rw [← repOs_len r]; exact Nat.le_of_lt (small1000 hl), fun p hp => by
    have e1 : Same H1 (upd H1 p (.lst vs)) := fun b u z => by rw [upd_ne (ne_of_none z hp)]; exact z
    have np : p ∉ as := fun z => by
      obtain ⟨o, y, _⟩ := RepOs.muts ts vs as r p z
      rw [hp] at y; cases y
    refine q _ (p :: as) _ (s1.trans e1) (fun a ha => ?_) (List.nodup_cons.mpr ⟨np, nd⟩) ⟨p, vs, as, rfl, rfl, upd_same, RepOs.kp (.mono e1) _ _ _ (fun a _ o z => e1 a o z) (RepOs.kp (.young fun b h => ?_) _ _ _ (fun _ _ _ z => z) r)⟩
    · rcases List.mem_cons.mp ha with rfl | ha
      · exact .inl (s1.free hp)
      · exact h1 a ha
    · rcases h with h | h
      · exact .inl (.inl h)
      · rcases List.mem_cons.mp h with rfl | h
        · exact .inr hp
        · exact .inl (.inr h)⟩⟩
theorem s1_setX (i : Nat) {px : Pos} (hN : X.N.Nodup) (he : ExD X δ e t []) (hl : i < δ.length := by exact Nat.le_of_ble_eq_true rfl) (hi : X.N[i]? = some x := by rfl) (hx : Loc X.env.scope x := by first | exact Or.inl rfl | exact Or.inr rfl) (hs : swapsWith e (some (.Name x px)) pos.line X.env = pure false := by rfl) (hf : X.fn x = true ∨ X.env.scope.names.lookup x = some .local := by first | exact .inl rfl | exact .inr rfl | assumption) :
    S1 X δ (.Assign [.Name x px] e pos) (.nx (δ.set i (.own none (.n t)))) :=
  fun pins s σ H D I hh38 => Zz.a5 hh38 fun Hb own B E P => ps_set hN hi hx he hs hf pins s σ H D I ⟨Hb, own, B, E, fun v as H' s1 h1 nd r => P _ _ _ (E.setOwC (c := .n t) s1 hl (fun a ha => (h1 a ha).elim id fun ⟨_, z, _⟩ => (nomatch z)) nd r)⟩
end
section
variable {P : Program} {w : World} {K : PySem.W.Frag} {mg : Str → Option Value} {base : Heap} {x qual : Str} {st : Stmt} {f : Addr} {fd : FuncData} {N ps : List Str} {k : Nat}
end
section
variable {K : PySem.W.Frag} {A : Addr → Prop} {H : Hp}
theorem RepOs.append : ∀ {ds es : List OT} {vs ws : List V} {as bs : List Addr}, RepOs K A H ds vs as → RepOs K A H es ws bs → RepOs K A H (ds ++ es) (vs ++ ws) (as ++ bs)
  | [], _, _, _, _, _, h, h' => by obtain ⟨rfl, rfl⟩ := h; exact h'
  | x :: xs, _, _, _, _, _, h, h' => by
    obtain ⟨v, r, bs, cs, rfl, rfl, h2, h3⟩ := h
    exact ⟨v, _, bs, _, rfl, List.append_assoc _ _ _, h2, RepOs.append h3 h'⟩
end
section
variable {X : Cx} {δ : Dn} {a b c e : Expr} {d : PyData} {pos : Pos} {x : Str} {ts ys : List OT} {n : Nat}
end
theorem dats_sh : ∀ (xs : List PyData), OT.dats (xs.map .sh) = some xs
  | [] => rfl
  | x :: r => by rw [List.map_cons, OT.dats, dats_sh r]; rfl
theorem dat_lsh (xs : List PyData) : (OT.l (xs.map .sh)).dat = some (.list xs) := by rw [OT.dat, dats_sh]; rfl
section
variable {X : Cx} {δ : Dn} {e : Expr} {t u : OT} {f : PyData} {d : PyData} {pos : Pos}
end
end L2
end
section
namespace L2
open PySem PySem.Spec PyProof.Rows
section
variable {X : Cx} {δ : Dn} {a b c e tg : Expr} {d da db : PyData} {pos : Pos} {xs ys : List PyData} {k : Nat} {x : Str}
end
section
variable {X : Cx} {e st : Expr} {te : TE} {lo hi : Option Expr} {tl th tt : TO} {pos p2 : Pos}
end
section
variable {X : Cx} {δ : Dn} {a b c e tg : Expr} {d da db : PyData} {pos : Pos} {xs ys : List PyData} {k : Nat} {x : Str}
end
end L2
end
section
namespace L2
open PySem PySem.Spec PyProof.Rows
section
variable {X : Cx} {δ δ1 : Dn} {a b c e : Expr} {d da db : PyData} {pos : Pos} {xs ys : List PyData} {i j : Int}
theorem s1_exprD (he : EvD X δ e d) (hs : swapsWith e none pos.line X.env = pure false := by rfl) : S1 X δ (.Expr e pos) (.nx δ) :=
  fun pins s σ H D I hh39 => Zz.a5 hh39 fun Hb own B E P => ps_expr he hs pins s σ H D I ⟨Hb, own, B, E, fun v H' s1 r => P _ _ _ (E.mono s1)⟩
theorem ev_intB {k : Bool} {p : Pos} (hg : Gl X "int") (hm : X.mg "int" = none) (ha : EvD X δ a (.bool k)) (hs : starEach [a] X.env = [(false, eval a X.env)] := by rfl) : EvD X δ (.Call (.Name "int" p) [a] [] pos) (.int (if k then 1 else 0)) :=
  ev_of (pe_callTy call_int1 hg hm (by rfl) (ea_cons ha ea_nil (by rw [hs]; rfl)) (he := by rw [hs]; rfl)) fun Hb own B σ H Q E q => ⟨Hb, own, B, E, fun vs H1 s1 rv => by
    obtain ⟨v, r, rfl, rv1, e2⟩ := rv
    cases e2
    exact .inr ⟨k, by rw [show v = _ from rv1], q _ H1 s1 rfl⟩⟩
end
section
variable {P : Program} {w : World} {K : PySem.W.Frag} {mg : Str → Option Value} {base : Heap} {x qual : Str} {st : Stmt} {f : Addr} {fd : FuncData} {N ps : List Str} {k : Nat}
end
end L2
end
section
namespace L2
open PySem PySem.Spec PyProof.Rows
section
variable {X : Cx} {pins : List (Addr × Obj)} {σ : St} {H H' : Hp} {s s' : Shared} {h h' : Heap} {C e T : Addr} {a0 fl : Value}
section
variable {M : Model} {A : Around} {E : Value → Shared → Prop} {Q : Unit → Shared → Prop}
end
end
end L2
end
section
namespace L2
open PySem PySem.Spec PyProof.Rows
section
variable {X : Cx} {δ δ1 δ' : Dn} {a b c e : Expr} {es : List Expr} {d da db : PyData} {ds xs : List PyData} {p pos : Pos} {st : Stmt} {rest body els : List Stmt} {C : Addr} {name x : Str} {j k : Nat} {ps : List Str}
section
variable {R : List PyData → Rs → Prop}
end
end
section
variable {P : Program} {w : World} {K : PySem.W.Frag} {mg : Str → Option Value} {base : Heap} {x qual : Str} {st : Stmt} {f : Addr} {fd : FuncData} {N ps : List Str} {k : Nat}
end
end L2
end
section
namespace L2
open PySem PySem.Spec PyProof.Rows
section
variable {K : PySem.W.Frag} {Hb H : Hp} {own : Nat → List Addr} {B : Addr → Prop} {σ : St} {δ : Dn}
end
section
variable {X : Cx} {pins : List (Addr × Obj)} {σ : St} {H H' : Hp} {s s' : Shared}
end
section
variable {X : Cx} {δ δ1 δ2 δ' : Dn} {body suite : List Stmt} {b₀ : Stmt} {h₀ : ExceptHandler} {hs : List ExceptHandler} {pos np hpos : Pos} {C D : Addr} {cx n : Str}
end
end L2
end
section
namespace L2
open PySem PySem.Spec PyProof.Rows PySem.W PySem.Builtin PySem.Builtin.ObjectAttr PySem.Builtin.Getset_descriptor PySem.Calls
section
variable {prog : Program} {w : World} {A : Around} {E : Value → Shared → Prop} {s : Shared} {K : Frag} {x C : Addr} {ox : Obj}
end
section
variable {X : Cx} {δ : Dn} {a : Expr} {es : List Expr} {p p' pos : Pos} {C D : Addr} {k : Bool} {x : Str}
end
end L2
end
section
namespace L2
open PySem PySem.Spec PyProof.Rows
section
variable {X : Cx} {δ δ1 : Dn} {a b c e ix : Expr} {d da db : PyData} {pos : Pos} {xs ys : List PyData} {x y : Str} {ts : List OT} {zs : List OT}
theorem s1_extend (i : Nat) {px apos cpos : Pos} {oa : Option Addr} (hδ : δ[i]? = some (.own oa (.l xs))) (he : EvD X δ e (.list ys)) (hz : xs.length + ys.length ≤ 1000) (hN : X.N[i]? = some x := by rfl) (hv : Vis X.env.scope x := by first | exact Or.inl rfl | exact Or.inr (Or.inl rfl) | exact Or.inr (Or.inr rfl)) (hd : (x == ("__debug__" : Str)) = false := by decide)
    (hcd : (x == ("__classdict__" : Str)) = false := by decide) (hst : starEach [e] X.env = [(false, eval e X.env)] := by rfl)
    (hb : ∀ {te : TE} {t : TA}, PE X (.Name x px) te → PA X [e] t → PE X (.Call (.Attribute (.Name x px) "extend" apos) [e] [] cpos) (tBM X.K "list" rExtend te t) := by exact fun h1 h2 => pe_bm PySem.F.plainAttrs_list PySem.F.slot_list_extend PySem.F.type_list_extend mt_extend h1 h2)
    (hsw : swapsWith (.Call (.Attribute (.Name x px) "extend" apos) [e] [] cpos) none pos.line X.env = pure false := by rfl) :
    S1 X δ (.Expr (.Call (.Attribute (.Name x px) "extend" apos) [e] [] cpos) pos) (.nx (δ.set i (.own oa (.l (xs ++ ys))))) :=
  fun pins s σ H D I hh40 => Zz.a5 hh40 fun Hb own B E P => ps_expr (hb (pe_var hN hv hd hcd) (ea_cons he ea_nil (by rw [hst]; rfl))) hsw pins s σ H D I (by
    obtain ⟨a, vs, h1, h2, h3, h4⟩ := E.owl hδ
    refine ⟨_, h2, .inl ⟨rfl, vs, SqL.of h3⟩, Hb, own, B, E, fun us H' s1 r => ?_⟩
    obtain ⟨v, r', rfl, ⟨b, ws, rfl, hb1, hb2, hb3⟩, e2⟩ := r
    cases e2
    exact ⟨a, b, vs, ws, rfl, rfl, s1 _ _ h3, hb2, by rw [← h4.length, ← hb3.length]; exact Nat.le_of_lt (small1000 hz), P _ _ _ ((E.mono s1).write hδ h1 ((h4.up s1).append hb3))⟩)
end
end L2
end
section
namespace L2
open PySem PySem.Spec PyProof.Rows
section
variable {X : Cx} {δ δ1 : Dn} {a b c e ix tg : Expr} {d da db : PyData} {pos : Pos} {xs ys : List PyData} {x y : Str} {ts : List OT}
end
end L2
end
section
namespace L2
open PySem PySem.Spec PyProof.Rows
section
variable {X : Cx} {δ : Dn} {a : Expr} {ta : TA} {p p' pos pos' : Pos}
end
end L2
end
section
namespace L3
open PySem
end L3
end
section
set_option autoImplicit false
namespace L3
open PySem
noncomputable def kof : Value → Int
  | .int k _ => k
  | _ => 0
section
variable {prog : Program} {w : World} {A : Around} {E : Value → Shared → Prop} {s : Shared}
end
end L3
end
section
set_option autoImplicit false
namespace L3
open PySem
namespace F
end F
section
variable {prog : Program} {w : World} {A : Around} {E : Value → Shared → Prop} {s : Shared} {es : Array (Int × Value)} {ep : Nat} {t : SetTable} {a : Addr}
end
end L3
end
section
set_option autoImplicit false
namespace L3
open PySem
section
variable {prog : Program} {w : World} {A : Around} {E : Value → Shared → Prop} {s : Shared} {es : Array (Int × Value)} {ep : Nat} {t : SetTable} {a : Addr}
end
end L3
end
section
set_option autoImplicit false
namespace L3
open PySem
section
variable {prog : Program} {w : World} {A : Around} {E : Value → Shared → Prop} {s : Shared} {es : Array (Int × Value)} {ep : Nat} {t : SetTable} {a : Addr}
end
end L3
end
section
set_option autoImplicit false
namespace L3
open PySem PySem.Spec PyProof.Rows
section
variable {prog : Program} {w : World} {A : Around} {E : Value → Shared → Prop} {s : Shared} {a : Addr}
end
end L3
end
section
set_option autoImplicit false
namespace L3
open PySem PySem.Spec PyProof.Rows
section
variable {prog : Program} {w : World} {A : Around} {E : Value → Shared → Prop} {s : Shared} {a : Addr}
end
end L3
end
section
namespace L2
open PySem PySem.Spec PyProof.Rows L3
section
variable {X : Cx} {δ : Dn} {e : Expr} {pos : Pos}
end
end L2
end
section
set_option autoImplicit false
namespace L3
open PySem PySem.Spec PyProof.Rows
section
variable {prog : Program} {w : World} {A : Around} {E : Value → Shared → Prop} {s : Shared} {a : Addr}
end
end L3
end
section
namespace L2
open PySem PySem.Spec PyProof.Rows L3
section
variable {X : Cx} {δ : Dn} {a b c e tg : Expr} {d da db : PyData} {pos : Pos} {xs ys : List PyData} {k : Nat}
noncomputable def rRemI : V → List V → Hp → VK → Prop := fun x vs H Q => ∃ (l : Addr) (ns : List Int) (k : Int), x = .ref l ∧ vs = [.int k] ∧ H l = some (.lst (ns.map V.int)) ∧ k ∈ ns ∧ Q .non (upd H l (.lst ((ns.erase k).map V.int)))
theorem mt_remI : MtM X "list.remove" rRemI := by
  intro pins s σ H x vs v us Q I rx rv h
  obtain ⟨l, ns, k, rfl, rfl, hH, hk, q⟩ := h
  cases rx
  obtain ⟨u, rfl, t, rfl⟩ := rv.one
  obtain ⟨z, its, n, r, hl, e⟩ := I.lstM hH
  have hI := valsI_are r
  have hle : its.length = ns.length := by have := r.length; simpa using this.symm
  have hat : ∀ (i : Nat) (h : i < its.length), ∃ tk, its[i] = .int (ns[i]'(by omega)) tk := fun i h => by
    obtain ⟨tk, q⟩ := IntsAre.int_at hI i its[i] (List.getElem?_eq_getElem h)
    exact ⟨tk, by rw [q]; simp [List.getD, show i < ns.length by omega]⟩
  have hj : ns.idxOf k < ns.length := List.idxOf_lt_length_of_mem hk
  refine call_meets F.slot_list_remove ⟨_, e, rfl⟩ F.entry_list_remove (F.args_list_remove_2 _ _)
    (MeetsSeq.list_remove l its.toArray n (.int k t) (fun y => kof y == k) (fun y hy => ?_) (ns.idxOf k) (by simp; omega) ?_ (fun m hm hlt => ?_) (by rw [List.size_toArray, hle]; simpa using z)) ⟨e, ?_⟩
  · obtain ⟨i, hi, rfl⟩ := List.mem_iff_getElem.mp (by simpa using hy)
    obtain ⟨tk, q⟩ := hat i hi
    rw [q]
    exact MeetsSeq.EqGives.int _ _ _ _
  · obtain ⟨tk, q⟩ := hat (ns.idxOf k) (by omega)
    simp [q, kof]
  · obtain ⟨tk, q⟩ := hat m (by simpa using hm)
    have hne : ns[m]'(by simp at hm; omega) ≠ k := fun z => by
      have := List.not_of_lt_findIdx (p := (· == k)) (xs := ns) hlt
      simp [z] at this
    simp [q, kof, hne]
  · refine ⟨.non, _, I.lset (its' := its.eraseIdx (ns.idxOf k)) hH e ?_ ?_ ?_, rfl, q⟩
    · apply Array.toList_inj.mp
      simp [Array.toList_eraseIdxIfInBounds]
    · rw [List.erase_eq_eraseIdx_of_idxOf rfl, List.eraseIdx_eq_take_drop_succ, List.eraseIdx_eq_take_drop_succ, List.map_append, List.map_take, List.map_drop]
      exact (r.take _).append (r.drop _)
    · rw [List.length_map]
      have : (ns.erase k).length ≤ ns.length := List.length_erase_le
      have hz : ns.length ≤ sizeLine := by simpa using z
      omega
end
end L2
end
section
namespace L2
open PySem PySem.Spec PyProof.Rows L3
section
variable {X : Cx} {δ : Dn} {a b c e tg : Expr} {d da db : PyData} {pos : Pos} {xs ys : List PyData} {k : Nat}
end
section
variable {X : Cx} {δ : Dn} {a b c e : Expr} {d : PyData} {pos : Pos} {x : Str} {ts ys : List OT} {n : Nat}
end
end L2
end
section
namespace L2
open PySem PySem.Spec PyProof.Rows
section
variable {X : Cx} {δ : Dn} {c : Expr} {pos ip : Pos} {x : Str}
end
end L2
end
section
namespace L2
open PySem PySem.Spec PyProof.Rows
inductive Stp where
  | ix (k : Nat)
  | fl (f : Str)
  | ky (κ : Key)
noncomputable def setKO : List (PyData × OT) → Key → OT → List (PyData × OT)
  | [], _, _ => []
  | p :: r, κ, t => if keyOf p.1 = some κ then (p.1, t) :: r else p :: setKO r κ t
noncomputable def getKO : List (PyData × OT) → Key → Option OT
  | [], _ => none
  | p :: r, κ => if keyOf p.1 = some κ then some p.2 else getKO r κ
noncomputable def setF : List (Str × OT) → Str → OT → List (Str × OT)
  | [], _, _ => []
  | p :: r, f, t => if p.1 = f then (p.1, t) :: r else p :: setF r f t
noncomputable def getF : List (Str × OT) → Str → Option OT
  | [], _ => none
  | p :: r, f => if p.1 = f then some p.2 else getF r f
noncomputable def OT.kid : OT → Stp → Option OT
  | .l xs, .ix k => xs[k]?
  | .t xs, .ix k => xs[k]?
  | .o _ fs, .fl f => getF fs f
  | .d kvs, .ky κ => getKO kvs κ
  | _, _ => none
noncomputable def OT.setKid : OT → Stp → OT → OT
  | .l xs, .ix k, u => .l (xs.set k u)
  | .t xs, .ix k, u => .t (xs.set k u)
  | .o C fs, .fl f, u => .o C (setF fs f u)
  | .d kvs, .ky κ, u => .d (setKO kvs κ u)
  | x, _, _ => x
noncomputable def OT.at : OT → List Stp → Option OT
  | x, [] => some x
  | x, s :: r => match x.kid s with
    | some u => u.at r
    | none => none
noncomputable def OT.put : OT → List Stp → OT → OT
  | _, [], u => u
  | x, s :: r, u => match x.kid s with
    | some w => x.setKid s (w.put r u)
    | none => x
noncomputable def Kid (H : Hp) : V → Stp → V → Prop
  | v, .ix k, u => ∃ a vs, v = .ref a ∧ (H a = some (.lst vs) ∨ H a = some (.tup vs)) ∧ vs[k]? = some u
  | v, .fl f, u => ∃ a C dx fs, v = .ref a ∧ H a = some (.ins C dx fs) ∧ fs.lookup f = some u
  | v, .ky κ, u => ∃ a us, v = .ref a ∧ H a = some (.dK us) ∧ valV us κ = some u
noncomputable def Way (H : Hp) : V → List Stp → V → Prop
  | v, [], u => v = u
  | v, s :: r, u => ∃ w, Kid H v s w ∧ Way H w r u
theorem Kid.inj {H : Hp} {v u u' : V} {s : Stp} (h : Kid H v s u) (h' : Kid H v s u') : u = u' := by
  cases s with
  | ix k =>
    obtain ⟨a, vs, rfl, e, q⟩ := h
    obtain ⟨a', vs', z, e', q'⟩ := h'
    cases z
    have : vs = vs' := by
      rcases e with e | e <;> rcases e' with e' | e' <;> rw [e] at e' <;> cases e' <;> rfl
    subst this
    rw [q] at q'; cases q'; rfl
  | fl f =>
    obtain ⟨a, C, dx, fs, rfl, e, q⟩ := h
    obtain ⟨a', C', dx', fs', z, e', q'⟩ := h'
    cases z
    rw [e] at e'; cases e'
    rw [q] at q'; cases q'; rfl
  | ky κ =>
    obtain ⟨a, us, rfl, e, q⟩ := h
    obtain ⟨a', us', z, e', q'⟩ := h'
    cases z
    rw [e] at e'; cases e'
    rw [q] at q'; cases q'; rfl
theorem Way.inj {H : Hp} : ∀ {p : List Stp} {v u u' : V}, Way H v p u → Way H v p u' → u = u'
  | [], _, _, _, h, h' => h.symm.trans h'
  | s :: r, _, _, _, ⟨w, h1, h2⟩, ⟨w', h1', h2'⟩ => by
    cases Kid.inj h1 h1'
    exact Way.inj h2 h2'
theorem Kid.up {H H' : Hp} {v u : V} {s : Stp} (h : Kid H v s u) (e : Same H H') : Kid H' v s u := by
  cases s with
  | ix k =>
    obtain ⟨a, vs, rfl, q, r⟩ := h
    exact ⟨a, vs, rfl, q.imp (e a _) (e a _), r⟩
  | fl f =>
    obtain ⟨a, C, dx, fs, rfl, q, r⟩ := h
    exact ⟨a, C, dx, fs, rfl, e a _ q, r⟩
  | ky κ =>
    obtain ⟨a, us, rfl, q, r⟩ := h
    exact ⟨a, us, rfl, e a _ q, r⟩
theorem Way.up {H H' : Hp} (e : Same H H') : ∀ {p : List Stp} {v u : V}, Way H v p u → Way H' v p u
  | [], _, _, h => h
  | s :: r, _, _, ⟨w, h1, h2⟩ => ⟨w, h1.up e, Way.up e h2⟩
section
variable {K : PySem.W.Frag} {A : Addr → Prop} {H : Hp}
theorem RepOs.part : ∀ {ts : List OT} {vs : List V} {as : List Addr} {k : Nat} {t : OT}, RepOs K A H ts vs as → ts[k]? = some t →
    ∃ v L bs R, as = L ++ (bs ++ R) ∧ vs[k]? = some v ∧ RepO K A H t v bs ∧
      ∀ (A' : Addr → Prop) (H' : Hp) (u : OT) (cs : List Addr), Kp A A' H H' → (∀ b, b ∈ L ∨ b ∈ R → ∀ o, H b = some o → H' b = some o) → RepO K A' H' u v cs → RepOs K A' H' (ts.set k u) vs (L ++ (cs ++ R))
  | [], _, _, _, _, _, e => by cases e
  | x :: xs, _, _, 0, t, h, e => by
    obtain ⟨v, r, bs, cs, rfl, rfl, h2, h3⟩ := h
    cases e
    refine ⟨v, [], bs, cs, rfl, rfl, h2, fun A' H' u ds kp q hu => ⟨v, r, ds, cs, rfl, rfl, hu, RepOs.kp kp _ _ _ (fun a ha => q a (.inr ha)) h3⟩⟩
  | x :: xs, _, _, k + 1, t, h, e => by
    obtain ⟨v, r, bs, cs, rfl, rfl, h2, h3⟩ := h
    obtain ⟨v', L, ds, R, rfl, h4, h5, h6⟩ := RepOs.part (k := k) h3 (by simpa using e)
    refine ⟨v', bs ++ L, ds, R, by rw [List.append_assoc], by simpa using h4, h5, fun A' H' u es kp q hu => ⟨v, r, bs, L ++ (es ++ R), rfl, by rw [List.append_assoc], RepO.kp kp _ _ _ (fun a ha => q a (.inl (List.mem_append_left _ ha))) h2, h6 A' H' u es kp (fun b hb => q b (hb.imp (List.mem_append_right _) id)) hu⟩⟩
theorem RepOF.part : ∀ {ts : List (Str × OT)} {us : List (Str × V)} {as : List Addr} {f : Str} {t : OT}, RepOF K A H ts us as → getF ts f = some t →
    ∃ v L bs R, as = L ++ (bs ++ R) ∧ us.lookup f = some v ∧ RepO K A H t v bs ∧
      ∀ (A' : Addr → Prop) (H' : Hp) (u : OT) (cs : List Addr), Kp A A' H H' → (∀ b, b ∈ L ∨ b ∈ R → ∀ o, H b = some o → H' b = some o) → RepO K A' H' u v cs → RepOF K A' H' (setF ts f u) us (L ++ (cs ++ R))
  | [], _, _, _, _, _, e => by cases e
  | (g, x) :: xs, _, _, f, t, h, e => by
    obtain ⟨v, r, bs, cs, rfl, rfl, h2, h3⟩ := h
    rw [getF] at e
    by_cases hg : g = f
    · rw [if_pos hg] at e
      cases e
      subst hg
      refine ⟨v, [], bs, cs, rfl, by simp, h2, fun A' H' u ds kp q hu => ?_⟩
      rw [setF, if_pos rfl]
      exact ⟨v, r, ds, cs, rfl, rfl, hu, RepOF.kp kp _ _ _ (fun a ha => q a (.inr ha)) h3⟩
    · rw [if_neg hg] at e
      obtain ⟨v', L, ds, R, rfl, h4, h5, h6⟩ := RepOF.part h3 e
      refine ⟨v', bs ++ L, ds, R, by rw [List.append_assoc], ?_, h5, fun A' H' u es kp q hu => ?_⟩
      · rw [List.lookup_cons]
        have : (f == g) = false := by simpa using fun z => hg z.symm
        rw [this]; exact h4
      · rw [setF, if_neg hg]
        exact ⟨v, r, bs, L ++ (es ++ R), rfl, by rw [List.append_assoc], RepO.kp kp _ _ _ (fun a ha => q a (.inl (List.mem_append_left _ ha))) h2, h6 A' H' u es kp (fun b hb => q b (hb.imp (List.mem_append_right _) id)) hu⟩
theorem RepOK.part : ∀ {ts : List (PyData × OT)} {us : List (Key × V)} {as : List Addr} {κ : Key} {t : OT}, RepOK K A H ts us as → getKO ts κ = some t →
    ∃ v L bs R, as = L ++ (bs ++ R) ∧ valV us κ = some v ∧ RepO K A H t v bs ∧
      ∀ (A' : Addr → Prop) (H' : Hp) (u : OT) (cs : List Addr), Kp A A' H H' → (∀ b, b ∈ L ∨ b ∈ R → ∀ o, H b = some o → H' b = some o) → RepO K A' H' u v cs → RepOK K A' H' (setKO ts κ u) us (L ++ (cs ++ R))
  | [], _, _, _, _, _, e => by cases e
  | (g, x) :: xs, _, _, κ, t, h, e => by
    obtain ⟨κ', v, r, bs, cs, rfl, rfl, hκ, h2, h3⟩ := h
    rw [getKO] at e
    by_cases hg : keyOf g = some κ
    · rw [if_pos hg] at e
      cases e
      have ek : κ' = κ := Option.some.inj (hκ.symm.trans hg)
      subst ek
      refine ⟨v, [], bs, cs, rfl, valV_pos rfl, h2, fun A' H' u ds kp q hu => ?_⟩
      rw [setKO, if_pos hg]
      exact ⟨κ', v, r, ds, cs, rfl, rfl, hκ, hu, RepOK.kp kp _ _ _ (fun a ha => q a (.inr ha)) h3⟩
    · rw [if_neg hg] at e
      obtain ⟨v', L, ds, R, rfl, h4, h5, h6⟩ := RepOK.part h3 e
      refine ⟨v', bs ++ L, ds, R, by rw [List.append_assoc], ?_, h5, fun A' H' u es kp q hu => ?_⟩
      · rw [valV_neg (fun z : κ' = κ => hg (by rw [← z]; exact hκ))]; exact h4
      · rw [setKO, if_neg hg]
        exact ⟨κ', v, r, bs, L ++ (es ++ R), rfl, by rw [List.append_assoc], hκ, RepO.kp kp _ _ _ (fun a ha => q a (.inl (List.mem_append_left _ ha))) h2, h6 A' H' u es kp (fun b hb => q b (hb.imp (List.mem_append_right _) id)) hu⟩
theorem RepO.kidAt {t u : OT} {s : Stp} {v : V} {as : List Addr} (h : RepO K A H t v as) (e : t.kid s = some u) :
    ∃ v' L bs R, as = L ++ (bs ++ R) ∧ Kid H v s v' ∧ RepO K A H u v' bs ∧
      ∀ (A' : Addr → Prop) (H' : Hp) (w : OT) (cs : List Addr), Kp A A' H H' → (∀ b, b ∈ L ∨ b ∈ R → ∀ o, H b = some o → H' b = some o) → RepO K A' H' w v' cs → RepO K A' H' (t.setKid s w) v (L ++ (cs ++ R)) := by
  cases t with
  | sh d => cases s <;> cases e
  | d kvs =>
    cases s with
    | fl f => cases e
    | ix k => cases e
    | ky κ =>
      obtain ⟨a, us, bs, rfl, rfl, h3, h4⟩ := h
      obtain ⟨v', L, ds, R, rfl, h5, h6, h7⟩ := RepOK.part h4 e
      exact ⟨v', a :: L, ds, R, rfl, ⟨a, us, rfl, h3, h5⟩, h6, fun A' H' w cs kp q hw => ⟨a, us, _, rfl, rfl, q a (.inl List.mem_cons_self) _ h3, h7 A' H' w cs kp (fun b hb => q b (hb.imp (List.mem_cons_of_mem _) id)) hw⟩⟩
  | e ks => cases s <;> cases e
  | l xs =>
    cases s with
    | fl f => cases e
    | ky κ => cases e
    | ix k =>
      obtain ⟨a, vs, bs, rfl, rfl, h3, h4⟩ := h
      obtain ⟨v', L, ds, R, rfl, h5, h6, h7⟩ := RepOs.part h4 e
      exact ⟨v', a :: L, ds, R, rfl, ⟨a, vs, rfl, .inl h3, h5⟩, h6, fun A' H' w cs kp q hw => ⟨a, vs, _, rfl, rfl, q a (.inl List.mem_cons_self) _ h3, h7 A' H' w cs kp (fun b hb => q b (hb.imp (List.mem_cons_of_mem _) id)) hw⟩⟩
  | t xs =>
    cases s with
    | fl f => cases e
    | ky κ => cases e
    | ix k =>
      obtain ⟨a, vs, rfl, h3, h4⟩ := h
      obtain ⟨v', L, ds, R, rfl, h5, h6, h7⟩ := RepOs.part h4 e
      exact ⟨v', L, ds, R, rfl, ⟨a, vs, rfl, .inr h3, h5⟩, h6, fun A' H' w cs kp q hw => ⟨a, vs, rfl, kp.t a vs h3, h7 A' H' w cs kp q hw⟩⟩
  | o C fs =>
    cases s with
    | ix k => cases e
    | ky κ => cases e
    | fl f =>
      obtain ⟨a, dx, us, bs, rfl, rfl, h3, h4⟩ := h
      obtain ⟨v', L, ds, R, rfl, h5, h6, h7⟩ := RepOF.part h4 e
      exact ⟨v', a :: L, ds, R, rfl, ⟨a, C, dx, us, rfl, h3, h5⟩, h6, fun A' H' w cs kp q hw => ⟨a, dx, us, _, rfl, rfl, q a (.inl List.mem_cons_self) _ h3, h7 A' H' w cs kp (fun b hb => q b (hb.imp (List.mem_cons_of_mem _) id)) hw⟩⟩
theorem RepO.focus : ∀ {p : List Stp} {t u : OT} {v : V} {as : List Addr}, RepO K A H t v as → t.at p = some u →
    ∃ v' L bs R, as = L ++ (bs ++ R) ∧ Way H v p v' ∧ RepO K A H u v' bs ∧
      ∀ (A' : Addr → Prop) (H' : Hp) (w : OT) (cs : List Addr), Kp A A' H H' → (∀ b, b ∈ L ∨ b ∈ R → ∀ o, H b = some o → H' b = some o) → RepO K A' H' w v' cs → RepO K A' H' (t.put p w) v (L ++ (cs ++ R))
  | [], t, u, v, as, h, e => by
    cases e
    exact ⟨v, [], as, [], by simp, rfl, h, fun A' H' w cs _ _ hw => by rw [List.append_nil]; exact hw⟩
  | s :: r, t, u, v, as, h, e => by
    rw [OT.at] at e
    cases ek : t.kid s with
    | none => rw [ek] at e; cases e
    | some t1 =>
      rw [ek] at e
      obtain ⟨v1, L1, bs1, R1, rfl, k1, k2, k3⟩ := RepO.kidAt h ek
      obtain ⟨v2, L2, bs2, R2, rfl, m1, m2, m3⟩ := RepO.focus (p := r) k2 e
      refine ⟨v2, L1 ++ L2, bs2, R2 ++ R1, by simp only [List.append_assoc], ⟨v1, k1, m1⟩, m2, fun A' H' w cs kp q hw => ?_⟩
      have h1 := m3 A' H' w cs kp (fun b hb => q b (hb.elim (fun z => .inl (List.mem_append_right _ z)) fun z => .inr (List.mem_append_left _ z))) hw
      have h2 := k3 A' H' _ _ kp (fun b hb => q b (hb.elim (fun z => .inl (List.mem_append_left _ z)) fun z => .inr (List.mem_append_right _ z))) h1
      rw [OT.put, ek]
      have : L1 ++ L2 ++ (cs ++ (R2 ++ R1)) = L1 ++ (L2 ++ (cs ++ R2) ++ R1) := by simp only [List.append_assoc]
      rw [this]; exact h2
end
noncomputable def setO (own : Nat → List Addr) (i : Nat) (cs : List Addr) : Nat → List Addr := fun j => if j = i then cs else own j
theorem setO_same {own : Nat → List Addr} {i : Nat} {cs : List Addr} : setO own i cs i = cs := if_pos rfl
theorem setO_ne {own : Nat → List Addr} {i j : Nat} {cs : List Addr} (h : j ≠ i) : setO own i cs j = own j := if_neg h
theorem EnvO.rewr {K : PySem.W.Frag} {Hb : Hp} {own : Nat → List Addr} {B : Addr → Prop} {H H' : Hp} {σ : St} {δ : Dn} {i : Nat} {oa : Option Addr} {c c' : Cont} {v : V} {cs : List Addr} (E : EnvO K Hb own B H σ δ) (hδ : δ[i]? = some (.own oa c)) (h1 : σ[i]? = some (some v))
    (hf : ∀ b o, b ∉ own i → H b = some o → H' b = some o) (nd : cs.Nodup) (hc : ∀ a ∈ cs, a ∈ own i ∨ H a = none) (r : RepC K (Av (setO own i cs) B) H' c' v cs) : EnvO K Hb (setO own i cs) B H' σ (δ.set i (.own oa c')) := by
  have hil : i < δ.length := (List.getElem?_eq_some_iff.mp hδ).1
  have hAv : ∀ a, Av (setO own i cs) B a → H a ≠ none → Av own B a := fun a ha hn => by
    rcases ha with h | ⟨j, h⟩
    · exact .inl h
    · by_cases hj : j = i
      · subst hj
        rw [setO_same] at h
        exact (hc a h).elim (fun z => .inr ⟨j, z⟩) fun z => absurd z hn
      · rw [setO_ne hj] at h
        exact .inr ⟨j, h⟩
  have hmut : ∀ a o, H a = some o → ¬ MutO o → a ∉ own i := fun a o h hm z => by
    obtain ⟨o', h', m'⟩ := E.muts i a z
    rw [h] at h'; cases h'; exact hm m'
  have kp : Kp (Av own B) (Av (setO own i cs) B) H H' := ⟨fun a vs hA _ h => ⟨fun z => hA (hAv a z (by rw [h]; exact fun y => nomatch y)), hf a _ (fun z => hA (.inr ⟨i, z⟩)) h⟩, fun a vs h => hf a _ (hmut a _ h id) h, fun a o u h => hf a _ (hmut a _ h id) h⟩
  refine ⟨fun a o h => hf a o (fun z => by rw [E.ofr i a z] at h; cases h) (E.base a o h), by rw [List.length_set]; exact E.len, E.bb, fun j a h => ?_, fun j a h => ?_, fun j => ?_, fun j k a h h' => ?_, fun j d h => ?_, fun j oa' c'' h => ?_⟩
  · by_cases hj : j = i
    · subst hj
      rw [setO_same] at h
      exact (hc a h).elim (E.ofr j a) fun z => E.base.free z
    · rw [setO_ne hj] at h; exact E.ofr j a h
  · by_cases hj : j = i
    · subst hj
      exact ⟨oa, c', by rw [List.getElem?_set_self hil]⟩
    · rw [setO_ne hj] at h
      obtain ⟨oa', c'', q⟩ := E.oex j a h
      exact ⟨oa', c'', by rw [List.getElem?_set_ne (Ne.symm hj)]; exact q⟩
  · by_cases hj : j = i
    · subst hj; rw [setO_same]; exact nd
    · rw [setO_ne hj]; exact E.ond j
  · have key : ∀ j k, j ≠ i → k = i → a ∈ own j → a ∈ cs → False := fun j k hj hk z y => by
      rcases hc a y with x | x
      · exact hj (E.inj j i a z x)
      · exact E.alive (.inr ⟨j, z⟩) x
    by_cases hj : j = i
    · by_cases hk : k = i
      · rw [hj, hk]
      · subst hj
        rw [setO_same] at h
        rw [setO_ne hk] at h'
        exact (key k j hk rfl h' h).elim
    · by_cases hk : k = i
      · subst hk
        rw [setO_same] at h'
        rw [setO_ne hj] at h
        exact (key j k hj rfl h h').elim
      · rw [setO_ne hj] at h
        rw [setO_ne hk] at h'
        exact E.inj j k a h h'
  · by_cases hj : i = j
    · subst hj
      rw [List.getElem?_set_self hil] at h; cases h
    · rw [List.getElem?_set_ne hj] at h
      obtain ⟨w, q1, q2⟩ := E.sh j d h
      exact ⟨w, q1, Rep.kp kp d w q2⟩
  · by_cases hj : i = j
    · subst hj
      rw [List.getElem?_set_self hil] at h
      cases h
      obtain ⟨v0, q1, q2, _⟩ := E.ow i oa c hδ
      rw [h1] at q1
      cases q1
      exact ⟨v, h1, q2, by rw [setO_same]; exact r⟩
    · rw [List.getElem?_set_ne hj] at h
      obtain ⟨w, q1, q2, q3⟩ := E.ow j oa' c'' h
      refine ⟨w, q1, q2, ?_⟩
      rw [setO_ne (Ne.symm hj)]
      exact q3.kp kp fun a ha o z => hf a o (fun y => hj (E.inj i j a y ha)) z
end L2
end
section
namespace L2
open PySem PySem.Spec PyProof.Rows
theorem Way.snoc {H : Hp} {s : Stp} : ∀ {p : List Stp} {v u w : V}, Way H v p u → Kid H u s w → Way H v (p ++ [s]) w
  | [], _, _, _, h, k => by cases h; exact ⟨_, k, rfl⟩
  | x :: r, _, _, _, ⟨y, h1, h2⟩, k => ⟨y, h1, Way.snoc h2 k⟩
noncomputable def tPl (K : PySem.W.Frag) (δ : Dn) (i : Nat) (p : List Stp) : TE := fun σ H Q => ∃ Hb own B, EnvO K Hb own B H σ δ ∧ ∀ v0 v H', Same H H' → σ[i]? = some (some v0) → Way H' v0 p v → Q v H'
noncomputable def PlD (X : Cx) (δ : Dn) (e : Expr) (i : Nat) (p : List Stp) : Prop := PE X e (tPl X.K δ i p)
structure Seen (K : PySem.W.Frag) (own : Nat → List Addr) (B : Addr → Prop) (H : Hp) (t u : OT) (i : Nat) (p : List Stp) (v0 v : V) (L bs R : List Addr) : Prop where
  eq : own i = L ++ (bs ++ R)
  way : Way H v0 p v
  rep : RepO K (Av own B) H u v bs
  put : ∀ (A' : Addr → Prop) (H' : Hp) (w : OT) (cs : List Addr), Kp (Av own B) A' H H' → (∀ b, b ∈ L ∨ b ∈ R → ∀ o, H b = some o → H' b = some o) → RepO K A' H' w v cs → RepO K A' H' (t.put p w) v0 (L ++ (cs ++ R))
section
variable {K : PySem.W.Frag} {Hb : Hp} {own : Nat → List Addr} {B : Addr → Prop} {H H' : Hp} {σ : St} {δ : Dn} {i : Nat} {oa : Option Addr} {t u : OT} {p : List Stp}
theorem EnvO.seen (E : EnvO K Hb own B H σ δ) (hδ : δ[i]? = some (.own oa (.n t))) (hp : t.at p = some u) : ∃ v0 v L bs R, σ[i]? = some (some v0) ∧ Seen K own B H t u i p v0 v L bs R := by
  obtain ⟨v0, h1, _, h2⟩ := E.ow i oa _ hδ
  obtain ⟨v, L, bs, R, e, w, r, q⟩ := RepO.focus h2 hp
  exact ⟨v0, v, L, bs, R, h1, e, w, r, q⟩
theorem EnvO.seenAt (E : EnvO K Hb own B H σ δ) (hδ : δ[i]? = some (.own oa (.n t))) (hp : t.at p = some u) {v0 v : V} (h0 : σ[i]? = some (some v0)) (hw : Way H v0 p v) : ∃ L bs R, Seen K own B H t u i p v0 v L bs R := by
  obtain ⟨v0', v', L, bs, R, h1, S⟩ := E.seen hδ hp
  rw [h0] at h1; cases h1
  cases Way.inj hw S.way
  exact ⟨L, bs, R, S⟩
theorem Seen.nd {v0 v : V} {L bs R : List Addr} (S : Seen K own B H t u i p v0 v L bs R) (E : EnvO K Hb own B H σ δ) : (∀ a ∈ bs, a ∉ L ∧ a ∉ R) ∧ (L ++ R).Nodup ∧ bs.Nodup := by
  have nd := E.ond i
  rw [S.eq] at nd
  obtain ⟨n1, n2, n3⟩ := List.nodup_append.mp nd
  obtain ⟨n4, n5, n6⟩ := List.nodup_append.mp n2
  refine ⟨fun a ha => ⟨fun z => n3 a z a (List.mem_append_left _ ha) rfl, fun z => n6 a ha a z rfl⟩, List.nodup_append.mpr ⟨n1, n5, fun a ha b hb => n3 a ha b (List.mem_append_right _ hb)⟩, n4⟩
theorem EnvO.putAt (E : EnvO K Hb own B H σ δ) (hδ : δ[i]? = some (.own oa (.n t))) {v0 v : V} {L bs R cs : List Addr} {w : OT} (h0 : σ[i]? = some (some v0)) (S : Seen K own B H t u i p v0 v L bs R)
    (hf : ∀ b o, b ∉ bs → H b = some o → H' b = some o) (nd : cs.Nodup) (hc : ∀ a ∈ cs, a ∈ bs ∨ H a = none) (r : RepO K (Av (setO own i (L ++ (cs ++ R))) B) H' w v cs) :
    EnvO K Hb (setO own i (L ++ (cs ++ R))) B H' σ (δ.set i (.own oa (.n (t.put p w)))) := by
  obtain ⟨d1, d2, d3⟩ := S.nd E
  have alive : ∀ a, a ∈ L ∨ a ∈ R → H a ≠ none := fun a ha => E.alive (.inr ⟨i, by rw [S.eq]; rcases ha with z | z; exact List.mem_append_left _ z; exact List.mem_append_right _ (List.mem_append_right _ z)⟩)
  have hnb : ∀ b, b ∉ own i → b ∉ bs := fun b hb z => hb (by rw [S.eq]; exact List.mem_append_right _ (List.mem_append_left _ z))
  have hcs : ∀ a ∈ cs, a ∉ L ∧ a ∉ R := fun a ha => (hc a ha).elim (d1 a) fun z => ⟨fun y => alive a (.inl y) z, fun y => alive a (.inr y) z⟩
  obtain ⟨dl, dr, dlr⟩ := List.nodup_append.mp d2
  have nd' : (L ++ (cs ++ R)).Nodup := List.nodup_append.mpr ⟨dl, List.nodup_append.mpr ⟨nd, dr, fun a ha b hb z => (hcs a ha).2 (z ▸ hb)⟩, fun a ha b hb z => by
    rcases List.mem_append.mp hb with y | y
    · exact (hcs b y).1 (z ▸ ha)
    · exact dlr a ha b y z⟩
  have hc' : ∀ a ∈ L ++ (cs ++ R), a ∈ own i ∨ H a = none := fun a ha => by
    rw [S.eq]
    rcases List.mem_append.mp ha with z | z
    · exact .inl (List.mem_append_left _ z)
    · rcases List.mem_append.mp z with y | y
      · exact (hc a y).imp (fun x => List.mem_append_right _ (List.mem_append_left _ x)) id
      · exact .inl (List.mem_append_right _ (List.mem_append_right _ y))
  have hf' : ∀ b o, b ∉ own i → H b = some o → H' b = some o := fun b o hb => hf b o (hnb b hb)
  refine E.rewr hδ h0 hf' nd' hc' ?_
  have hmut : ∀ a o, H a = some o → ¬ MutO o → a ∉ bs := fun a o h hm z => by
    obtain ⟨o', h', m'⟩ := E.muts i a (by rw [S.eq]; exact List.mem_append_right _ (List.mem_append_left _ z))
    rw [h] at h'; cases h'; exact hm m'
  have kp : Kp (Av own B) (Av (setO own i (L ++ (cs ++ R))) B) H H' := by
    refine ⟨fun a vs hA _ h => ⟨fun z => ?_, hf a _ (fun z => hA (.inr ⟨i, by rw [S.eq]; exact List.mem_append_right _ (List.mem_append_left _ z)⟩)) h⟩, fun a vs h => hf a _ (hmut a _ h id) h, fun a o u h => hf a _ (hmut a _ h id) h⟩
    rcases z with z | ⟨j, z⟩
    · exact hA (.inl z)
    · by_cases hj : j = i
      · subst hj
        rw [setO_same] at z
        rcases hc' a z with y | y
        · exact hA (.inr ⟨j, y⟩)
        · rw [h] at y; cases y
      · rw [setO_ne hj] at z
        exact hA (.inr ⟨j, z⟩)
  exact S.put _ H' w cs kp (fun b hb o z => hf b o (fun y => hb.elim (d1 b y).1 (d1 b y).2) z) r
theorem EnvO.shareAt (E : EnvO K Hb own B H σ δ) (hδ : δ[i]? = some (.own oa (.n t))) (hp : t.at p = some u) {d : PyData} (hd : u.dat = some d) : ∃ own', EnvO K Hb own' B H σ (δ.set i (.own oa (.n (t.put p (.sh d))))) := by
  obtain ⟨v0, v, L, bs, R, h0, S⟩ := E.seen hδ hp
  obtain ⟨d1, d2, d3⟩ := S.nd E
  refine ⟨_, E.putAt (cs := []) (H' := H) hδ h0 S (fun _ _ _ z => z) List.nodup_nil (fun a z => nomatch z) ⟨rfl, ?_⟩⟩
  have hav : ∀ a, Av (setO own i (L ++ ([] ++ R))) B a → Av own B a := fun a ha => by
    rcases ha with z | ⟨j, z⟩
    · exact .inl z
    · by_cases hj : j = i
      · subst hj
        rw [setO_same] at z
        refine .inr ⟨j, ?_⟩
        rw [S.eq]
        rcases List.mem_append.mp z with y | y
        · exact List.mem_append_left _ y
        · exact List.mem_append_right _ (List.mem_append_right _ (by simpa using y))
      · rw [setO_ne hj] at z; exact .inr ⟨j, z⟩
  have r' : RepO K (Av (setO own i (L ++ ([] ++ R))) B) H u v bs := RepO.kp (.avoid hav) _ _ _ (fun _ _ _ z => z) S.rep
  refine RepO.rep u d v bs hd r' fun a ha z => ?_
  have hai : a ∈ own i := by rw [S.eq]; exact List.mem_append_right _ (List.mem_append_left _ ha)
  rcases z with z | ⟨j, z⟩
  · exact E.bb a z (E.ofr i a hai)
  · by_cases hj : j = i
    · subst hj
      rw [setO_same] at z
      rcases List.mem_append.mp z with y | y
      · exact (d1 a ha).1 y
      · exact (d1 a ha).2 (by simpa using y)
    · rw [setO_ne hj] at z
      exact hj (E.inj j i a z hai)
end
section
variable {X : Cx} {δ : Dn} {a b c e o : Expr} {d : PyData} {pos pos' : Pos} {x f : Str} {i : Nat} {oa : Option Addr} {t u w : OT} {p : List Stp} {C : Addr} {fs : List (Str × OT)} {k : Bool} {ys : List PyData}
theorem pl_var (i : Nat) {px : Pos} (hδ : δ[i]? = some (.own oa (.n t))) (hN : X.N[i]? = some x := by rfl) (hv : Vis X.env.scope x := by first | exact Or.inl rfl | exact Or.inr (Or.inl rfl) | exact Or.inr (Or.inr rfl)) (hd : (x == ("__debug__" : Str)) = false := by decide) (hcd : (x == ("__classdict__" : Str)) = false := by decide) : PlD X δ (.Name x px) i [] :=
  fun pins s σ H Q I hh41 => Zz.a5 hh41 fun Hb own B E q => pe_var hN hv hd hcd pins s σ H Q I (by
    obtain ⟨v, h1, _, _⟩ := E.ow i oa _ hδ
    exact ⟨v, h1, q v v H (Same.refl H) h1 rfl⟩)
theorem pl_fld (h : PlD X δ e i p) (hδ : δ[i]? = some (.own oa (.n t))) (ht : t.at p = some (.o C fs)) (hf : getF fs f = some u) (cl : Cls X.K C) (n : NoAttr X.K C f) (hb : attributeBase e f X.env (eval e X.env) = eval e X.env := by rfl) : PlD X δ (.Attribute e f pos) i (p ++ [.fl f]) :=
  fun pins s σ H Q I hh42 => Zz.a5 hh42 fun Hb own B E q => pe_fld h hb pins s σ H Q I ⟨Hb, own, B, E, fun v0 v H1 s1 h0 hw => by
    obtain ⟨L, bs, R, S⟩ := (E.mono s1).seenAt hδ ht h0 hw
    obtain ⟨a, dx, us, cs, rfl, _, h3, h4⟩ := S.rep
    obtain ⟨v', _, _, _, _, h5, _, _⟩ := RepOF.part h4 hf
    exact ⟨a, C, dx, us, v', rfl, h3, cl, n, h5, q v0 v' H1 s1 h0 (hw.snoc ⟨a, C, dx, us, rfl, h3, h5⟩)⟩⟩
theorem ev_pl (h : PlD X δ e i p) (hδ : δ[i]? = some (.own oa (.n t))) (ht : t.at p = some (.sh d)) : EvD X δ e d :=
  ev_of h fun Hb own B σ H Q E q => ⟨Hb, own, B, E, fun v0 v H1 s1 h0 hw => by
    obtain ⟨L, bs, R, S⟩ := (E.mono s1).seenAt hδ ht h0 hw
    exact q v H1 s1 S.rep.2⟩
theorem ev_shareP (i : Nat) (p : List Stp) (hδ : δ[i]? = some (.own oa (.n t))) (hp : t.at p = some u) {g : PyData} (hg : u.dat = some g) (h : EvD X (δ.set i (.own oa (.n (t.put p (.sh g))))) e d) (hs : scalD d = true := by rfl) : EvD X δ e d :=
  ev_of h fun Hb own B σ H Q E q => let ⟨own', E'⟩ := E.shareAt hδ hp hg; ⟨Hb, own', B, E', fun v H' s1 r => q v H' s1 (rep_scal hs r)⟩
end
end L2
end
section
namespace L2
open PySem PySem.Spec PyProof.Rows
noncomputable def putO (f : Str) (u : OT) : List (Str × OT) → List (Str × OT)
  | [] => [(f, u)]
  | (g, x) :: r => if g = f then (g, u) :: r else (g, x) :: putO f u r
section
variable {K : PySem.W.Frag} {A : Addr → Prop} {H : Hp}
theorem RepOF.len : ∀ {ts : List (Str × OT)} {us : List (Str × V)} {as : List Addr}, RepOF K A H ts us as → us.length = ts.length
  | [], _, _, h => by rw [h.1]; rfl
  | p :: r, _, _, h => by
    obtain ⟨v, us', bs, cs, rfl, _, _, h4⟩ := h
    rw [List.length_cons, List.length_cons, RepOF.len h4]
theorem RepOF.putF {f : Str} : ∀ {ts : List (Str × OT)} {us : List (Str × V)} {as : List Addr}, RepOF K A H ts us as →
    ∃ L bs R, as = L ++ (bs ++ R) ∧ ∀ (A' : Addr → Prop) (H' : Hp) (u : OT) (v : V) (cs : List Addr), Kp A A' H H' → (∀ b, b ∈ L ∨ b ∈ R → ∀ o, H b = some o → H' b = some o) → RepO K A' H' u v cs → RepOF K A' H' (putO f u ts) (L2.putF f v us) (L ++ (cs ++ R))
  | [], _, _, h => by
    obtain ⟨rfl, rfl⟩ := h
    exact ⟨[], [], [], rfl, fun A' H' u v cs _ _ hu => ⟨v, [], cs, [], rfl, by simp, hu, rfl, rfl⟩⟩
  | (g, x) :: r, _, _, h => by
    obtain ⟨v, us', bs, cs, rfl, rfl, h3, h4⟩ := h
    by_cases hg : g = f
    · refine ⟨[], bs, cs, rfl, fun A' H' u w ds kp q hu => ?_⟩
      rw [putO, if_pos hg, L2.putF, if_pos hg]
      exact ⟨w, us', ds, cs, rfl, rfl, hu, RepOF.kp kp _ _ _ (fun a ha => q a (.inr ha)) h4⟩
    · obtain ⟨L, ds, R, rfl, hp⟩ := RepOF.putF (f := f) h4
      refine ⟨bs ++ L, ds, R, by rw [List.append_assoc], fun A' H' u w es kp q hu => ?_⟩
      rw [putO, if_neg hg, L2.putF, if_neg hg]
      exact ⟨v, _, bs, L ++ (es ++ R), rfl, by rw [List.append_assoc], RepO.kp kp _ _ _ (fun a ha => q a (.inl (List.mem_append_left _ ha))) h3, hp A' H' u w es kp (fun b hb => q b (hb.imp (List.mem_append_right _) id)) hu⟩
end
section
variable {K : PySem.W.Frag} {Hb : Hp} {own : Nat → List Addr} {B : Addr → Prop} {H H1 H2 : Hp} {σ : St} {δ : Dn} {i : Nat} {oa : Option Addr} {t u : OT} {p : List Stp} {v0 v : V} {L bs R cs : List Addr}
theorem Seen.avs (S : Seen K own B H t u i p v0 v L bs R) {b : Addr} (h : Av (setO own i (L ++ (cs ++ R))) B b) : Av own B b ∨ b ∈ cs := by
  rcases h with z | ⟨j, z⟩
  · exact .inl (.inl z)
  · by_cases hj : j = i
    · subst hj
      rw [setO_same] at z
      rcases List.mem_append.mp z with y | y
      · exact .inl (.inr ⟨j, by rw [S.eq]; exact List.mem_append_left _ y⟩)
      · rcases List.mem_append.mp y with y | y
        · exact .inr y
        · exact .inl (.inr ⟨j, by rw [S.eq]; exact List.mem_append_right _ (List.mem_append_right _ y)⟩)
    · rw [setO_ne hj] at z
      exact .inl (.inr ⟨j, z⟩)
theorem Seen.mine (S : Seen K own B H t u i p v0 v L bs R) {b : Addr} (h : b ∈ bs) : b ∈ own i := by rw [S.eq]; exact List.mem_append_right _ (List.mem_append_left _ h)
theorem RepO.behind {A A' : Addr → Prop} {w : OT} {y : V} {as : List Addr} {a : Addr} {o o' : HO} (r : RepO K (fun b => A b ∨ b ∈ as) H1 w y as) (s2 : Same H1 H2) (hA : A a) (ha : H1 a = some o) (hm : MutO o) (hna : a ∉ as) (hav : ∀ b, A' b → A b ∨ b ∈ as) : RepO K A' (upd H2 a o') w y as := by
  refine RepO.kp ⟨fun b vs hb _ h => ⟨fun z => hb (hav b z), ?_⟩, fun b vs h => ?_, fun b x z h => ?_⟩ _ _ _ (fun b hb x h => ?_) r
  · rw [upd_ne (fun z : b = a => hb (.inl (z ▸ hA)))]; exact s2 _ _ h
  · rw [upd_ne (fun z : b = a => by rw [z, ha] at h; cases h; exact hm)]; exact s2 _ _ h
  · rw [upd_ne (fun z : b = a => by rw [z, ha] at h; cases h; exact hm)]; exact s2 _ _ h
  · rw [upd_ne (fun z : b = a => hna (z ▸ hb))]; exact s2 _ _ h
end
section
variable {X : Cx} {δ : Dn} {a b c e o value : Expr} {d : PyData} {pos pos' : Pos} {x f : Str} {i : Nat} {oa : Option Addr} {t u w : OT} {p : List Stp} {C : Addr} {fs : List (Str × OT)} {ys : List OT}
theorem s1_fldX (ho : PlD X δ o i p) (hδ : δ[i]? = some (.own oa (.n t))) (ht : t.at p = some (.o C fs)) (hv : ExD X δ value w []) (cl : Cls X.K C) (n : NoAttr X.K C f) (hl : fs.length < 1000 := by exact Nat.lt_of_sub_pos (by decide))
    (hsw : swapsWith value (some (.Attribute o f pos')) pos.line X.env = pure false := by rfl) : S1 X δ (.Assign [.Attribute o f pos'] value pos) (.nx (δ.set i (.own oa (.n (t.put p (.o C (putO f w fs))))))) :=
  fun pins s σ H D I hh43 => Zz.a5 hh43 fun Hb own B E P => ps_fld ho hv hsw pins s σ H D I ⟨Hb, own, B, E, fun y as H1 s1 h1 nd r => ⟨Hb, own, B, E.mono s1, fun v0 v H2 s2 h0 hw => by
    obtain ⟨v0', v', L, bs, R, h0', S⟩ := E.seen hδ ht
    rw [h0] at h0'; cases h0'
    cases Way.inj hw (S.way.up (s1.trans s2))
    obtain ⟨nL, nLR, nbs⟩ := S.nd E
    obtain ⟨q, dx, us, bs0, rfl, hbs, h3, h4⟩ := S.rep
    obtain ⟨L0, m0, R0, rfl, hp⟩ := RepOF.putF (f := f) h4
    have fr : ∀ b ∈ as, H b = none := fun b hb => (h1 b hb).elim id fun ⟨_, z, _⟩ => nomatch z
    have hqb : q ∈ bs := by rw [hbs]; exact List.mem_cons_self
    have hq : q ∈ own i := S.mine hqb
    have hqa : q ∉ as := fun z => by have := fr q z; rw [h3] at this; cases this
    rw [hbs] at nbs
    obtain ⟨k1, k2⟩ := List.nodup_cons.mp nbs
    obtain ⟨k3, k4, k5⟩ := List.nodup_append.mp k2
    obtain ⟨k6, k7, k8⟩ := List.nodup_append.mp k4
    have alive : ∀ b, b ∈ bs → H b ≠ none := fun b hb => E.alive (.inr ⟨i, S.mine hb⟩)
    have inb : ∀ b, b ∈ L0 ∨ b ∈ R0 → b ∈ bs := fun b hb => by
      rw [hbs]
      refine List.mem_cons_of_mem _ ?_
      rcases hb with z | z
      · exact List.mem_append_left _ z
      · exact List.mem_append_right _ (List.mem_append_right _ z)
    have nq : ∀ b, b ∈ L0 ∨ b ∈ R0 → b ≠ q := fun b hb z => k1 (by
      rw [← z]
      rcases hb with y | y
      · exact List.mem_append_left _ y
      · exact List.mem_append_right _ (List.mem_append_right _ y))
    have nas : ∀ b, b ∈ L0 ∨ b ∈ R0 → b ∉ as := fun b hb z => alive b (inb b hb) (fr b z)
    have ndc : (q :: (L0 ++ (as ++ R0))).Nodup := by
      refine List.nodup_cons.mpr ⟨fun z => ?_, List.nodup_append.mpr ⟨k3, List.nodup_append.mpr ⟨nd, k7, fun b hb c' hc z => nas c' (.inr hc) (z ▸ hb)⟩, fun b hb c' hc z => ?_⟩⟩
      · rcases List.mem_append.mp z with z | z
        · exact nq q (.inl z) rfl
        · rcases List.mem_append.mp z with z | z
          · exact hqa z
          · exact nq q (.inr z) rfl
      · rcases List.mem_append.mp hc with y | y
        · exact nas b (.inl hb) (z ▸ y)
        · exact k5 b hb c' (List.mem_append_right _ y) z
    have hf : ∀ b x, b ∉ bs → H b = some x → upd H2 q (.ins C dx (L2.putF f y us)) b = some x := fun b x hb h => by
      rw [upd_ne (fun z : b = q => hb (z ▸ hqb))]; exact (s1.trans s2) _ _ h
    have hc : ∀ b ∈ q :: (L0 ++ (as ++ R0)), b ∈ bs ∨ H b = none := fun b hb => by
      rcases List.mem_cons.mp hb with rfl | hb
      · exact .inl hqb
      · rcases List.mem_append.mp hb with z | z
        · exact .inl (inb b (.inl z))
        · rcases List.mem_append.mp z with z | z
          · exact .inr (fr b z)
          · exact .inl (inb b (.inr z))
    have hav : ∀ b, Av (setO own i (L ++ ((q :: (L0 ++ (as ++ R0))) ++ R))) B b → Av own B b ∨ b ∈ as := fun b hb => by
      rcases S.avs hb with z | z
      · exact .inl z
      · rcases hc b z with y | y
        · exact .inl (.inr ⟨i, S.mine y⟩)
        · rcases List.mem_cons.mp z with rfl | z
          · exact .inl (.inr ⟨i, hq⟩)
          · rcases List.mem_append.mp z with x | x
            · exact .inl (.inr ⟨i, S.mine (inb b (.inl x))⟩)
            · rcases List.mem_append.mp x with x | x
              · exact .inr x
              · exact .inl (.inr ⟨i, S.mine (inb b (.inr x))⟩)
    have hA : Av own B q := .inr ⟨i, hq⟩
    have kp : Kp (Av own B) (Av (setO own i (L ++ ((q :: (L0 ++ (as ++ R0))) ++ R))) B) H (upd H2 q (.ins C dx (L2.putF f y us))) := by
      refine ⟨fun b vs hb _ h => ⟨fun z => ?_, ?_⟩, fun b vs h => ?_, fun b x z h => ?_⟩
      · rcases hav b z with z | z
        · exact hb z
        · rw [fr b z] at h; cases h
      · rw [upd_ne (fun z : b = q => hb (z ▸ hA))]; exact (s1.trans s2) _ _ h
      · rw [upd_ne (fun z : b = q => by rw [z, h3] at h; cases h)]; exact (s1.trans s2) _ _ h
      · rw [upd_ne (fun z : b = q => by rw [z, h3] at h; cases h)]; exact (s1.trans s2) _ _ h
    refine ⟨q, C, dx, us, rfl, (s1.trans s2) _ _ h3, cl, n, by rw [h4.len]; exact hl, P _ _ _ (E.putAt (cs := q :: (L0 ++ (as ++ R0))) hδ h0 S hf ndc hc ⟨q, dx, _, _, rfl, rfl, upd_same, hp _ _ w y as kp (fun b hb x h => ?_) ?_⟩)⟩
    · rw [upd_ne (nq b hb)]; exact (s1.trans s2) _ _ h
    · exact RepO.behind r s2 hA (s1 _ _ h3) trivial hqa hav⟩⟩
theorem s1_fldD (ho : PlD X δ o i p) (hδ : δ[i]? = some (.own oa (.n t))) (ht : t.at p = some (.o C fs)) (hv : EvD X δ value d) (cl : Cls X.K C) (n : NoAttr X.K C f) (hl : fs.length < 1000 := by exact Nat.lt_of_sub_pos (by decide))
    (hsw : swapsWith value (some (.Attribute o f pos')) pos.line X.env = pure false := by rfl) : S1 X δ (.Assign [.Attribute o f pos'] value pos) (.nx (δ.set i (.own oa (.n (t.put p (.o C (putO f (.sh d) fs))))))) := s1_fldX ho hδ ht (ex_d hv) cl n hl hsw
end
end L2
end
section
namespace L2
open PySem PySem.Spec PyProof.Rows
theorem kp_write {A A' : Addr → Prop} {H1 H2 : Hp} {q : Addr} {o o' : HO} (s2 : Same H1 H2) (hA : A q) (hq : H1 q = some o) (hm : MutO o) (hav : ∀ b, A' b → A b) : Kp A A' H1 (upd H2 q o') :=
  ⟨fun b vs hb _ h => ⟨fun z => hb (hav b z), by rw [upd_ne (fun z : b = q => hb (z ▸ hA))]; exact s2 _ _ h⟩,
    fun b vs h => by rw [upd_ne (fun z : b = q => by rw [z, hq] at h; cases h; exact hm)]; exact s2 _ _ h, fun b x z h => by rw [upd_ne (fun z : b = q => by rw [z, hq] at h; cases h; exact hm)]; exact s2 _ _ h⟩
section
variable {K : PySem.W.Frag} {Hb : Hp} {own : Nat → List Addr} {B : Addr → Prop} {H H1 H2 : Hp} {σ : St} {δ : Dn} {i : Nat} {oa : Option Addr} {t u : OT} {p : List Stp} {v0 v : V} {L bs R : List Addr}
theorem Seen.avb (S : Seen K own B H t u i p v0 v L bs R) {b : Addr} (h : Av (setO own i (L ++ (bs ++ R))) B b) : Av own B b := (S.avs h).elim id fun z => .inr ⟨i, S.mine z⟩
theorem EnvO.putOne (E : EnvO K Hb own B H σ δ) (hδ : δ[i]? = some (.own oa (.n t))) (h0 : σ[i]? = some (some v0)) (S : Seen K own B H t u i p v0 v L bs R) {q : Addr} {o' : HO} {w : OT} (s2 : Same H H2) (hq : q ∈ bs)
    (r : RepO K (Av (setO own i (L ++ (bs ++ R))) B) (upd H2 q o') w v bs) : EnvO K Hb (setO own i (L ++ (bs ++ R))) B (upd H2 q o') σ (δ.set i (.own oa (.n (t.put p w)))) :=
  E.putAt hδ h0 S (fun b x hb h => by rw [upd_ne (fun z : b = q => hb (z ▸ hq))]; exact s2 _ _ h) (S.nd E).2.2 (fun a ha => .inl ha) r
end
section
variable {X : Cx} {δ : Dn} {a b c e o value : Expr} {d : PyData} {pos pos' cpos apos : Pos} {x f : Str} {i : Nat} {oa : Option Addr} {t u w : OT} {p : List Stp} {ys : List OT} {ks : List (List Key)} {k : Nat} {m : Bool}
theorem s1_appendP (ho : PlD X δ o i p) (hδ : δ[i]? = some (.own oa (.n t))) (ht : t.at p = some (.l ys)) (he : EvD X δ e d) (hz : ys.length < 1000) (hst : starEach [e] X.env = [(false, eval e X.env)] := by rfl)
    (hb : ∀ {te : TE} {tt : TA}, PE X o te → PA X [e] tt → PE X (.Call (.Attribute o "append" apos) [e] [] cpos) (tBM X.K "list" rAppend te tt) := by exact fun h1 h2 => pe_bm PySem.F.plainAttrs_list PySem.F.slot_list_append PySem.F.type_list_append mt_append h1 h2)
    (hsw : swapsWith (.Call (.Attribute o "append" apos) [e] [] cpos) none pos.line X.env = pure false := by rfl) :
    S1 X δ (.Expr (.Call (.Attribute o "append" apos) [e] [] cpos) pos) (.nx (δ.set i (.own oa (.n (t.put p (.l (ys ++ [.sh d]))))))) :=
  fun pins s σ H D I hh44 => Zz.a5 hh44 fun Hb own B E P => ps_expr (hb ho (ea_cons he ea_nil (by rw [hst]; rfl))) hsw pins s σ H D I ⟨Hb, own, B, E, fun v0 v H1 s1 h0 hw => by
    obtain ⟨L, bs, R, S⟩ := (E.mono s1).seenAt hδ ht h0 hw
    obtain ⟨q, vs, bs0, rfl, hbs, h3, h4⟩ := S.rep
    refine ⟨.inl ⟨rfl, vs, SqL.of h3⟩, Hb, own, B, E.mono s1, fun ws H2 s2 r => ?_⟩
    obtain ⟨y, r', rfl, ru, e2⟩ := r
    cases e2
    have hqb : q ∈ bs := by rw [hbs]; exact List.mem_cons_self
    have hA : Av own B q := .inr ⟨i, S.mine hqb⟩
    have nd := (S.nd (E.mono s1)).2.2
    rw [hbs] at nd
    have k1 := (List.nodup_cons.mp nd).1
    refine ⟨q, vs, y, rfl, rfl, s2 _ _ h3, by rw [← repOs_len h4]; exact small1000 (Nat.le_of_lt hz), P _ _ _ ((E.mono s1).putOne hδ h0 S s2 hqb ⟨q, vs ++ [y], bs0, rfl, hbs, upd_same, ?_⟩)⟩
    have r1 := RepOs.kp (kp_write (o' := .lst (vs ++ [y])) s2 hA h3 trivial fun b => S.avb) _ _ _ (fun b hb x z => by rw [upd_ne fun y : b = q => k1 (y ▸ hb)]; exact s2 _ _ z) h4
    have r2 := Rep.kp (kp_write (o' := .lst (vs ++ [y])) (Same.refl H2) hA (s2 _ _ h3) trivial fun b => S.avb) _ _ ru
    have := RepOs.append (bs := []) r1 (es := [.sh d]) (ws := [y]) ⟨y, [], [], [], rfl, rfl, ⟨rfl, r2⟩, rfl, rfl⟩
    rw [List.append_nil] at this
    exact this⟩
noncomputable def keysOf : List PyData → Option (List Key)
  | [] => some []
  | d :: r => match keyOf d, keysOf r with
    | some κ, some ks => some (κ :: ks)
    | _, _ => none
theorem reps_keys {K : PySem.W.Frag} {A : Addr → Prop} {H : Hp} : ∀ {ds : List PyData} {vs : List V} {κs : List Key}, keysOf ds = some κs → Reps K A H ds vs → vs = κs.map kV
  | [], _, _, e, h => by cases e; exact h
  | d :: r, _, _, e, h => by
    obtain ⟨v, vs', rfl, h1, h2⟩ := h
    rw [keysOf] at e
    cases e1 : keyOf d with
    | none => rw [e1] at e; cases e
    | some κ =>
      cases e2 : keysOf r with
      | none => rw [e1, e2] at e; cases e
      | some ks =>
        rw [e1, e2] at e
        cases e
        rw [List.map_cons, ← reps_keys e2 h2, rep_key e1 h1]
noncomputable def hasE (ks : List (List Key)) (k : List Key) : Bool := ks.any fun x => decide (x = k)
theorem valV_e (ks : List (List Key)) (k : List Key) : (valV (ks.map fun k => (k, V.bl true)) k).isSome = hasE ks k := by
  rw [← valV_any, List.any_map]; rfl
theorem et_inE {ds : List PyData} {κs : List Key} (hr : Room k X.A) (hk : EvD X δ a (.tuple ds)) (hκ : keysOf ds = some κs) (ho : PlD X δ o i p) (hδ : δ[i]? = some (.own oa (.n t))) (ht : t.at p = some (.e ks)) (hm : behindInMarks .In o = false := by with_unfolding_all rfl) : EtD X δ (.Compare a [.In] [o] pos) (hasE ks κs) :=
  et_of (pt_cmp (pc_din (hu_of hr) hk ho) hm) fun Hb own B σ H Q E q => ⟨Hb, own, B, E, fun y H1 s1 ry => ⟨Hb, own, B, E.mono s1, fun v0 v H2 s2 h0 hw => by
    obtain ⟨L, bs, R, S⟩ := ((E.mono s1).mono s2).seenAt hδ ht h0 hw
    obtain ⟨ad, rfl, hbs, h3⟩ := S.rep
    obtain ⟨bd, vs, rfl, h4, h5⟩ := ry
    have ev := reps_keys hκ h5
    subst ev
    exact ⟨ad, _, rfl, DGet.t h3 (s2 _ _ h4), by rw [valV_e]; exact ⟨_, rfl, q H2 (s1.trans s2)⟩⟩⟩⟩
theorem et_notInE {ds : List PyData} {κs : List Key} (hr : Room k X.A) (hk : EvD X δ a (.tuple ds)) (hκ : keysOf ds = some κs) (ho : PlD X δ o i p) (hδ : δ[i]? = some (.own oa (.n t))) (ht : t.at p = some (.e ks)) (hm : behindInMarks .NotIn o = false := by with_unfolding_all rfl) : EtD X δ (.Compare a [.NotIn] [o] pos) (!hasE ks κs) :=
  et_of (pt_cmp (pc_dnotin (hu_of hr) hk ho) hm) fun Hb own B σ H Q E q => ⟨Hb, own, B, E, fun y H1 s1 ry => ⟨Hb, own, B, E.mono s1, fun v0 v H2 s2 h0 hw => by
    obtain ⟨L, bs, R, S⟩ := ((E.mono s1).mono s2).seenAt hδ ht h0 hw
    obtain ⟨ad, rfl, hbs, h3⟩ := S.rep
    obtain ⟨bd, vs, rfl, h4, h5⟩ := ry
    have ev := reps_keys hκ h5
    subst ev
    exact ⟨ad, _, rfl, DGet.t h3 (s2 _ _ h4), by rw [valV_e]; exact ⟨_, rfl, q H2 (s1.trans s2)⟩⟩⟩⟩
theorem s1_putE {ds : List PyData} {κs : List Key} (hr : Room k X.A) (ho : PlD X δ o i p) (hk : EvD X δ a (.tuple ds)) (hκ : keysOf ds = some κs) (hv : EvD X δ value (.bool true)) (hδ : δ[i]? = some (.own oa (.n t))) (ht : t.at p = some (.e ks)) (hn : hasE ks κs = false) (hz : ks.length < 1000)
    (hs : swapsWith value (some (.Subscript o a pos')) pos.line X.env = pure false := by rfl) : S1 X δ (.Assign [.Subscript o a pos'] value pos) (.nx (δ.set i (.own oa (.n (t.put p (.e (ks ++ [κs]))))))) :=
  fun pins s σ H D I hh45 => Zz.a5 hh45 fun Hb own B E P => ps_dput (hu_of hr) ho hk hv hs pins s σ H D I ⟨Hb, own, B, E, fun v1 H1 s1 rv => ⟨Hb, own, B, E.mono s1, fun v0 v H2 s2 h0 hw => ⟨Hb, own, B, (E.mono s1).mono s2, fun y H3 s3 ry => by
    cases rv
    obtain ⟨L, bs, R, S⟩ := ((E.mono s1).mono s2).seenAt hδ ht h0 hw
    obtain ⟨ad, rfl, hbs, h3⟩ := S.rep
    obtain ⟨bd, vs, rfl, h4, h5⟩ := ry
    have ev := reps_keys hκ h5
    subst ev
    have hqb : ad ∈ bs := by rw [hbs]; exact List.mem_singleton.mpr rfl
    have hnone : valV (ks.map fun k => (k, V.bl true)) κs = none := by
      have := valV_e ks κs
      rw [hn] at this
      exact Option.isSome_eq_false_iff.mp this |> Option.isNone_iff_eq_none.mp
    refine ⟨ad, _, rfl, DPut.t (s3 _ _ h3) h4 (by rw [List.length_map]; exact small1000 (Nat.le_of_lt hz)), P _ _ _ (((E.mono s1).mono s2).putOne hδ h0 S s3 hqb ⟨ad, rfl, hbs, ?_⟩)⟩
    rw [putK_new _ hnone, List.map_append, upd_same]
    rfl⟩⟩⟩
end
end L2
end
section
namespace L2
open PySem PySem.Spec PyProof.Rows
section
variable {prog : Program} {w : World} {K : Type} [DecidableEq K] {knd : HeapKind prog w K} {A : Around} {E : Value → Shared → Prop} {s : Shared} {d a : Addr} {k : K} {xs : List (K × Addr × Value)}
noncomputable def outH (xs : List (K × Addr × Value)) (k : K) : List (K × Addr × Value) := xs.filter fun x => decide (x.1 ≠ k)
theorem out_id : ∀ {xs : List (K × Addr × Value)} {k : K}, k ∉ xs.map (·.1) → outH xs k = xs
  | xs, k, h => List.filter_eq_self.mpr fun x hx => decide_eq_true fun z => h (z ▸ List.mem_map_of_mem hx)
theorem erase_out : ∀ {xs : List (K × Addr × Value)} {j : Nat} {k : K} {p : Addr × Value}, xs[j]? = some (k, p) → (xs.map (·.1)).Nodup → xs.eraseIdx j = outH xs k
  | [], _, _, _, h, _ => by cases h
  | x :: xs, 0, k, p, h, n => by
    cases h
    rw [List.map_cons] at n
    have := List.nodup_cons.mp n
    rw [List.eraseIdx_cons_zero]
    unfold outH
    rw [List.filter_cons_of_neg (by simp)]
    exact (out_id this.1).symm
  | x :: xs, j + 1, k, p, h, n => by
    rw [List.map_cons] at n
    have nd := List.nodup_cons.mp n
    have h' : xs[j]? = some (k, p) := by simpa using h
    have ih := erase_out h' nd.2
    have hx : x.1 ≠ k := fun z => nd.1 (by rw [z]; exact List.mem_map.mpr ⟨(k, p), List.mem_of_getElem? h', rfl⟩)
    rw [List.eraseIdx_cons_succ, ih]
    unfold outH
    rw [List.filter_cons_of_pos (by simpa using hx)]
theorem erase_map {α β : Type} (f : α → β) : ∀ (l : List α) (j : Nat), (l.map f).eraseIdx j = (l.eraseIdx j).map f
  | [], _ => rfl
  | x :: l, 0 => rfl
  | x :: l, j + 1 => by rw [List.map_cons, List.eraseIdx_cons_succ, List.eraseIdx_cons_succ, List.map_cons, erase_map f l j]
theorem takeOut_heap {Q : Option DictEntry → Shared → Prop} (hu : knd.room A) (hkey : knd.is s.heap k a) (hm : s.heap.DictOfH knd d xs) (hsz : xs.length ≤ sizeLine)
    (hnone : atKey xs k = none → Q none { s with toks := s.toks + knd.draws k })
    (hsome : ∀ p, atKey xs k = some p → ∀ e : DictEntry, e.val = p.2 → ∀ h', h'.DictOfH knd d (outH xs k) → Heap.SameBut d s.heap h' → Q (some e) { s with heap := h', toks := s.toks + knd.draws k }) :
    wpAny (model prog w) A (Builtin.Dict.takeOut d (.ref a)) Q E s := by
  obtain ⟨o, es, ep, ho, hc, hd, he, his, hn⟩ := hm
  unfold Builtin.Dict.takeOut
  try with_reducible refine wpAny_holding ?_
  refine wpAny_bind (knd.pyHash hu hkey (wpAny_bind (wpAny_dictFind_heap (s := { s with toks := s.toks + knd.draws k }) hu hkey ho hd he his hn ?_ ?_)))
  · exact fun hno => wpAny_pure (hnone (atKey_none_of_get hno))
  · intro j p hj
    refine wpAny_bind (wpAny_dictEntries (s := { s with toks := s.toks + knd.draws k }) ho hd ?_)
    rw [entry_at he j, hj]
    refine wpAny_bind (wpAny_updateDictKeys (hz := by have e := size_of_entries he; omega) (s := { s with toks := s.toks + knd.draws k }) ho hd (wpAny_pure (hsome p (atKey_of_get hn hj) _ rfl _ ⟨_, _, ep + 1, Heap.get?_update_self _ ho (Obj.isFreed_of_dict (Obj.data_mapDictKeys hd _)),
      hc.mapDictKeys _, Obj.data_mapDictKeys hd _, ?_, ?_, ?_⟩ (Heap.SameBut.update ..))))
    · have e1 : (es.eraseIdxIfInBounds j).toList = es.toList.eraseIdx j := by obtain ⟨l⟩ := es; simp
      rw [e1, he, ← erase_out hj hn, erase_map]
    · intro x hx
      exact knd.keeps (his x (List.mem_filter.mp hx).1) ho hd (Heap.SameBut.update ..)
    · exact hn.sublist ((List.filter_sublist (p := fun x : K × Addr × Value => decide (x.1 ≠ k))).map _)
theorem at_ne {p : Addr × Value} (h : atKey xs k = some p) : xs ≠ [] := fun z => by rw [z] at h; cases h
theorem meetsH_pop (rest : List Value) (hrest : rest = [] ∨ ∃ dflt, rest = [dflt]) :
    MeetsIn prog w (Builtin.«dict.pop» ⟨.ref d :: .ref a :: rest, []⟩) (fun A R s => knd.room A.in1 ∧ ∃ k xs p, knd.is s.heap k a ∧ s.heap.DictOfH knd d xs ∧ xs.length ≤ sizeLine ∧ atKey xs k = some p ∧
      ∀ h', h'.DictOfH knd d (outH xs k) → Heap.SameBut d s.heap h' → R (.ok (.ret p.2)) { s with heap := h', toks := s.toks + knd.draws k }) :=
  .of_wp fun A R s ⟨hu, k, xs, p, hkey, hm, hsz, hp, h⟩ => by
    have hm0 := hm
    obtain ⟨o, es, ep, ho, hc, hd, he, his, hn⟩ := hm
    have hne : es.isEmpty = false := by
      have h1 := size_of_entries he
      have h2 : 0 < xs.length := List.length_pos_iff.mpr (at_ne hp)
      rw [← h1] at h2
      unfold Array.isEmpty
      exact decide_eq_false (Nat.ne_of_gt h2)
    unfold Builtin.«dict.pop»
    refine wpAny_bind ?_
    unfold Builtin.Dict.keyAndDefault
    refine wpAny_bind (wpAny_notOrdered_dict hm0.typeIs ?_)
    rcases hrest with rfl | ⟨dflt, rfl⟩
    · show wpAny _ _ (pure (d, Value.ref a, none)) _ _ s
      refine wpAny_pure ?_
      simp only [show (keyPart (Value.ref a)).isSome = false from rfl, Bool.false_eq_true, if_false]
      refine wpAny_bind (wpAny_dictEntries ho hd (wpAny_bind (wpAny_pure ?_)))
      simp only [hne, Bool.false_eq_true, if_false]
      refine wpAny_bind (takeOut_heap hu hkey hm0 hsz (fun z => by rw [hp] at z; cases z) fun p' hp' e he' h' hm' hs' => ?_)
      rw [hp] at hp'
      cases hp'
      simp only [Option.isNone_some, Bool.false_eq_true, if_false]
      exact wpAny_bind (wpAny_letGo (wpAny_pure ⟨e.val, rfl, by rw [he']; exact h h' hm' hs'⟩))
    · show wpAny _ _ (pure (d, Value.ref a, some dflt)) _ _ s
      refine wpAny_pure ?_
      simp only [show (keyPart (Value.ref a)).isSome = false from rfl, Bool.false_eq_true, if_false]
      refine wpAny_bind (wpAny_dictEntries ho hd (wpAny_bind (wpAny_pure ?_)))
      simp only [hne, Bool.false_eq_true, if_false]
      refine wpAny_bind (takeOut_heap hu hkey hm0 hsz (fun z => by rw [hp] at z; cases z) fun p' hp' e he' h' hm' hs' => ?_)
      rw [hp] at hp'
      cases hp'
      simp only [Option.isNone_some, Bool.false_eq_true, if_false]
      exact wpAny_bind (wpAny_letGo (wpAny_pure ⟨e.val, rfl, by rw [he']; exact h h' hm' hs'⟩))
theorem meetsH_popD (hd0 : (d == sysModules) = false) (dflt : Value) :
    MeetsIn prog w (Builtin.«dict.pop» ⟨[.ref d, .ref a, dflt], []⟩) (fun A R s => knd.room A.in1 ∧ ∃ k xs, knd.is s.heap k a ∧ s.heap.DictOfH knd d xs ∧ xs.length ≤ sizeLine ∧ atKey xs k = none ∧ ∀ n, R (.ok (.ret dflt)) { s with toks := s.toks + n }) :=
  .of_wp fun A R s ⟨hu, k, xs, hkey, hm, hsz, hp, h⟩ => by
    have hm0 := hm
    obtain ⟨o, es, ep, ho, hc, hd, he, his, hn⟩ := hm
    unfold Builtin.«dict.pop»
    refine wpAny_bind ?_
    unfold Builtin.Dict.keyAndDefault
    refine wpAny_bind (wpAny_notOrdered_dict hm0.typeIs ?_)
    show wpAny _ _ (pure (d, Value.ref a, some dflt)) _ _ s
    refine wpAny_pure ?_
    simp only [show (keyPart (Value.ref a)).isSome = false from rfl, Bool.false_eq_true, if_false]
    refine wpAny_bind (wpAny_dictEntries ho hd (wpAny_bind (wpAny_pure ?_)))
    cases hne : es.isEmpty with
    | true =>
      simp only [if_true]
      refine wpAny_bind (wpAny_rule (wpAny_bind (wpAny_pure ?_)))
      simp only [Option.isNone_none, if_true]
      exact wpAny_bind (wpAny_missedRemoval_other hd0 (wpAny_bind (wpAny_rule (wpAny_pure ⟨dflt, rfl, h 0⟩))))
    | false =>
      simp only [Bool.false_eq_true, if_false]
      refine wpAny_bind (takeOut_heap hu hkey hm0 hsz (fun _ => ?_) fun p' hp' e he' h' hm' hs' => by rw [hp] at hp'; cases hp')
      simp only [Option.isNone_none, if_true]
      exact wpAny_bind (wpAny_missedRemoval_other hd0 (wpAny_bind (wpAny_rule (wpAny_pure ⟨dflt, rfl, h _⟩))))
end
section
variable {X : Cx} {pins : List (Addr × Obj)} {σ : St} {H : Hp} {s : Shared} {a b : Addr} {kvs : List (List Key × V)} {k : List Key} {A : Around} {E : Value → Shared → Prop}
theorem KT.out {H : Hp} {kvs : List (List Key × V)} {xs : List (List Key × Addr × Value)} (r : KT H kvs xs) (k : List Key) : KT H (dropK kvs k) (outH xs k) := by
  induction r with
  | nil => exact .nil
  | @cons p q ps qs h t ih =>
    unfold dropK outH
    rw [List.filter_cons, List.filter_cons]
    obtain ⟨h1, h2, h3⟩ := h
    by_cases e : p.1 = k
    · rw [if_neg (by simpa using e), if_neg (by rw [← h1]; simpa using e)]; exact ih
    · rw [if_pos (by simpa using e), if_pos (by rw [← h1]; simpa using e)]; exact .cons ⟨h1, h2, h3⟩ ih
theorem d_popT {v : V} {more : List Value} {Q : Value → Shared → Prop} (hu : A.units + 1 < cLine) (I : Inv X pins σ H s) (e : H a = some (.dT kvs)) (eb : H b = some (.tup (k.map kV))) (l : valV kvs k = some v) (hm : more = [] ∨ ∃ x, more = [x])
    (h : ∀ w' s', Inv X pins σ (upd H a (.dT (dropK kvs k))) s' → RelV v w' → Q w' s') : wpAny (model X.prog X.w) A (call (.builtin "dict.pop") (.ref a :: .ref b :: more)) Q E s := by
  obtain ⟨z, hd, xs, rel, dd⟩ := dt_of I.hok e
  obtain ⟨w', hw, rw'⟩ := RelO.some_of (v := v) (o := (atKey xs k).map (·.2)) (by rw [← l]; exact rel.val k)
  obtain ⟨p, hp, rfl⟩ := Option.map_eq_some_iff.mp hw
  have ha : argsOk "dict.pop" ⟨.ref a :: .ref b :: more, []⟩ := by
    rcases hm with q | ⟨x, q⟩
    · subst q; exact PySem.F.args_dict_pop_2 _ _
    · subst q; exact PySem.F.args_dict_pop_3 _ _ _
  refine call_meetsIn PySem.F.slot_dict_pop dd.typeIs PySem.F.entry_dict_pop ha (meetsH_pop (knd := tupleKind (mixKind X.prog X.w)) more hm)
    ⟨tupleKind_room_in1 hu, k, xs, p, key_of I.hok eb, dd, by rw [← Paired.length rel]; exact z, hp, fun h' dd' hs => h p.2 _ ?_ rw'⟩
  obtain ⟨q, es, ep, hq, h2, h3, h4, _, h5⟩ := dd'
  refine d_write I (by rw [e]; exact True.intro) hs ⟨q, hq⟩ ⟨Nat.le_trans (dropK_le kvs k) z, hd, _, (KT.out rel k).keeps fun c ys ec => ?_, q, es, ep, hq, h2, h3, h4, h5⟩
  rw [upd_ne (ne_of ec e (fun z => nomatch z))]
  exact ec
theorem d_popTD {r : Value} {Q : Value → Shared → Prop} (hu : A.units + 1 < cLine) (I : Inv X pins σ H s) (e : H a = some (.dT kvs)) (eb : H b = some (.tup (k.map kV))) (l : valV kvs k = none) (h : ∀ s', Inv X pins σ H s' → Q r s') :
    wpAny (model X.prog X.w) A (call (.builtin "dict.pop") [.ref a, .ref b, r]) Q E s := by
  obtain ⟨z, hd, xs, rel, dd⟩ := dt_of I.hok e
  have hn : (atKey xs k).map (·.2) = none := RelO.none_of (by rw [← l]; exact rel.val k)
  exact call_meetsIn PySem.F.slot_dict_pop dd.typeIs PySem.F.entry_dict_pop (PySem.F.args_dict_pop_3 _ _ _) (meetsH_popD (knd := tupleKind (mixKind X.prog X.w)) hd r)
    ⟨tupleKind_room_in1 hu, k, xs, key_of I.hok eb, dd, by rw [← Paired.length rel]; exact z, Option.map_eq_none_iff.mp hn, fun n => h _ (I.tok _)⟩
end
noncomputable def tPopT1 (td ty : TE) : TE := fun σ H Q => td σ H fun x H1 => ∃ a, x = .ref a ∧ IsD H1 a ∧ ty σ H1 fun y H2 => ∃ kvs k b v, H2 a = some (.dT kvs) ∧ y = .ref b ∧ H2 b = some (.tup (k.map kV)) ∧ valV kvs k = some v ∧ Q v (upd H2 a (.dT (dropK kvs k)))
noncomputable def tPopT2 (td ty tx : TE) : TE := fun σ H Q => td σ H fun x H1 => ∃ a, x = .ref a ∧ IsD H1 a ∧ ty σ H1 fun y H2 => tx σ H2 fun z H3 => ∃ kvs k b, H3 a = some (.dT kvs) ∧ y = .ref b ∧ H3 b = some (.tup (k.map kV)) ∧
  (∀ v, valV kvs k = some v → Q v (upd H3 a (.dT (dropK kvs k)))) ∧ (valV kvs k = none → Q z H3)
section
variable {X : Cx} {o e f : Expr} {apos cpos : Pos} {td ty tx : TE}
theorem pe_popT1 (hu : X.A.units + 1 < cLine) (ho : PE X o td) (he : PE X e ty) (m : M1 X o "pop" apos e cpos) : PE X (.Call (.Attribute o "pop" apos) [e] [] cpos) (tPopT1 td ty) := by
  intro pins s σ H Q I h
  refine wpAny_Call_method m.base m.few m.line PySem.F.plainAttrs_dict PySem.F.slot_dict_pop PySem.F.type_dict_pop (thn (ho pins s σ H _ I h) fun u s1 ⟨x, H1, I1, rx, a, ex, d, q1⟩ => ?_)
  subst ex
  obtain rfl : u = Value.ref a := rx
  obtain ⟨t1, t2, _⟩ := isD_at I1 d
  refine ⟨t1, t2, ?_⟩
  rw [m.trees]
  refine Calls.callWith_builtin rfl (Calls.evalArgs_plain (Calls.spliced_cons (thn (he pins s1 σ H1 _ I1 q1) fun iv s2 ⟨y, H2, I2, ry, kvs, k, b, v, ea, ey, eb, l, q2⟩ => Calls.spliced_nil ?_)))
  subst ey
  obtain rfl : iv = Value.ref b := ry
  exact d_popT hu I2 ea eb l (.inl rfl) fun w' s3 I3 rw' => ⟨v, _, I3, rw', q2⟩
theorem pe_popT2 (hu : X.A.units + 1 < cLine) (ho : PE X o td) (he : PE X e ty) (hf : PE X f tx) (m : M2 X o "pop" apos e f cpos) : PE X (.Call (.Attribute o "pop" apos) [e, f] [] cpos) (tPopT2 td ty tx) := by
  intro pins s σ H Q I h
  refine wpAny_Call_method m.base m.few m.line PySem.F.plainAttrs_dict PySem.F.slot_dict_pop PySem.F.type_dict_pop (thn (ho pins s σ H _ I h) fun u s1 ⟨x, H1, I1, rx, a, ex, d, q1⟩ => ?_)
  subst ex
  obtain rfl : u = Value.ref a := rx
  obtain ⟨t1, t2, _⟩ := isD_at I1 d
  refine ⟨t1, t2, ?_⟩
  rw [m.trees]
  refine Calls.callWith_builtin rfl (Calls.evalArgs_plain (Calls.spliced_cons (thn (he pins s1 σ H1 _ I1 q1) fun iv s2 ⟨y, H2, I2, ry, q2⟩ =>
    Calls.spliced_cons (thn (hf pins s2 σ H2 _ I2 q2) fun fv s3 ⟨z, H3, I3, rz, kvs, k, b, ea, ey, eb, q3, q4⟩ => Calls.spliced_nil ?_))))
  subst ey
  obtain rfl : iv = Value.ref b := ry
  cases l : valV kvs k with
  | some v => exact d_popT hu I3 ea eb l (.inr ⟨_, rfl⟩) fun w' s4 I4 rw' => ⟨v, _, I4, rw', q3 v l⟩
  | none => exact d_popTD hu I3 ea eb l fun s4 I4 => ⟨z, H3, I4, rz, q4 l⟩
end
end L2
end
section
namespace L2
open PySem PySem.Spec PyProof.Rows
noncomputable def dropE (ks : List (List Key)) (k : List Key) : List (List Key) := ks.filter fun x => decide (x ≠ k)
theorem dropK_e (ks : List (List Key)) (k : List Key) : dropK (ks.map fun k => (k, V.bl true)) k = (dropE ks k).map fun k => (k, V.bl true) := by
  unfold dropK dropE
  rw [List.filter_map]; rfl
theorem valV_eT {ks : List (List Key)} {k : List Key} (h : hasE ks k = true) : valV (ks.map fun k => (k, V.bl true)) k = some (.bl true) := by
  rw [← valV_e] at h
  obtain ⟨v, hv⟩ := Option.isSome_iff_exists.mp h
  rw [hv]
  unfold valV at hv
  obtain ⟨p, hp, rfl⟩ := Option.map_eq_some_iff.mp hv
  obtain ⟨x, _, rfl⟩ := List.mem_map.mp (List.mem_of_find?_eq_some hp)
  rfl
theorem dropE_id {ks : List (List Key)} {k : List Key} (h : hasE ks k = false) : dropE ks k = ks := List.filter_eq_self.mpr fun x hx => decide_eq_true fun z => by
  unfold hasE at h
  rw [List.any_eq_false] at h
  exact h x hx (decide_eq_true z)
section
variable {X : Cx} {δ : Dn} {a b c e o value : Expr} {d : PyData} {pos pos' cpos apos : Pos} {i : Nat} {oa : Option Addr} {t : OT} {p : List Stp} {ks : List (List Key)} {k : Nat} {ds : List PyData} {κs : List Key}
theorem s1_popE (hr : Room k X.A) (ho : PlD X δ o i p) (hk : EvD X δ a (.tuple ds)) (hκ : keysOf ds = some κs) (hδ : δ[i]? = some (.own oa (.n t))) (ht : t.at p = some (.e ks)) (hn : hasE ks κs = true) (m : M1 X o "pop" apos a cpos := by exact ⟨rfl, rfl, rfl, rfl⟩)
    (hsw : swapsWith (.Call (.Attribute o "pop" apos) [a] [] cpos) none pos.line X.env = pure false := by rfl) : S1 X δ (.Expr (.Call (.Attribute o "pop" apos) [a] [] cpos) pos) (.nx (δ.set i (.own oa (.n (t.put p (.e (dropE ks κs))))))) :=
  fun pins s σ H D I hh46 => Zz.a5 hh46 fun Hb own B E P => ps_expr (pe_popT1 (hu_of hr) ho hk m) hsw pins s σ H D I ⟨Hb, own, B, E, fun v0 v H1 s1 h0 hw => by
    obtain ⟨L, bs, R, S⟩ := (E.mono s1).seenAt hδ ht h0 hw
    obtain ⟨ad, rfl, hbs, h3⟩ := S.rep
    refine ⟨ad, rfl, .inr ⟨_, .inl h3⟩, Hb, own, B, E.mono s1, fun y H2 s2 ry => ?_⟩
    obtain ⟨bd, vs, rfl, h4, h5⟩ := ry
    have ev := reps_keys hκ h5
    subst ev
    have hqb : ad ∈ bs := by rw [hbs]; exact List.mem_singleton.mpr rfl
    refine ⟨_, κs, bd, _, s2 _ _ h3, rfl, h4, valV_eT hn, P _ _ _ ((E.mono s1).putOne hδ h0 S s2 hqb ⟨ad, rfl, hbs, ?_⟩)⟩
    rw [dropK_e, upd_same]⟩
theorem s1_popDE (hr : Room k X.A) (ho : PlD X δ o i p) (hk : EvD X δ a (.tuple ds)) (hκ : keysOf ds = some κs) (he : EvD X δ e d) (hδ : δ[i]? = some (.own oa (.n t))) (ht : t.at p = some (.e ks)) (m : M2 X o "pop" apos a e cpos := by exact ⟨rfl, rfl, rfl, rfl⟩)
    (hsw : swapsWith (.Call (.Attribute o "pop" apos) [a, e] [] cpos) none pos.line X.env = pure false := by rfl) : S1 X δ (.Expr (.Call (.Attribute o "pop" apos) [a, e] [] cpos) pos) (.nx (δ.set i (.own oa (.n (t.put p (.e (dropE ks κs))))))) :=
  fun pins s σ H D I hh47 => Zz.a5 hh47 fun Hb own B E P => ps_expr (pe_popT2 (hu_of hr) ho hk he m) hsw pins s σ H D I ⟨Hb, own, B, E, fun v0 v H1 s1 h0 hw => by
    obtain ⟨L, bs, R, S⟩ := (E.mono s1).seenAt hδ ht h0 hw
    obtain ⟨ad, rfl, hbs, h3⟩ := S.rep
    refine ⟨ad, rfl, .inr ⟨_, .inl h3⟩, Hb, own, B, E.mono s1, fun y H2 s2 ry => ⟨Hb, own, B, (E.mono s1).mono s2, fun z H3 s3 rz => ?_⟩⟩
    obtain ⟨bd, vs, rfl, h4, h5⟩ := ry
    have ev := reps_keys hκ h5
    subst ev
    have hqb : ad ∈ bs := by rw [hbs]; exact List.mem_singleton.mpr rfl
    refine ⟨_, κs, bd, s3 _ _ (s2 _ _ h3), rfl, s3 _ _ h4, fun x hx => P _ _ _ ((E.mono s1).putOne hδ h0 S (s2.trans s3) hqb ⟨ad, rfl, hbs, ?_⟩), fun hx => ?_⟩
    · rw [dropK_e, upd_same]
    · have hf : hasE ks κs = false := by rw [← valV_e, hx]; rfl
      have Ef := (E.mono s1).putAt (H' := H3) (cs := bs) hδ h0 S (fun b x _ h => (s2.trans s3) _ _ h) (S.nd (E.mono s1)).2.2 (fun a ha => .inl ha) (w := .e (dropE ks κs)) ⟨ad, rfl, hbs, by rw [dropE_id hf]; exact (s2.trans s3) _ _ h3⟩
      exact P _ _ _ Ef⟩
end
end L2
end
section
namespace L2
open PySem PySem.Spec PyProof.Rows
section
variable {X : Cx} {δ : Dn} {e : Expr} {t : OT} {pos : Pos}
end
section
variable {P : Program} {w : World} {K : PySem.W.Frag} {mg : Str → Option Value} {base : Heap} {x qual : Str} {st : Stmt} {f C : Addr} {m : Str} {fd : FuncData} {N ps : List Str} {k : Nat}
end
end L2
end
section
namespace L2
open PySem PySem.Spec PyProof.Rows
noncomputable def own1 (bs : List Addr) : Nat → List Addr := fun j => if j = 0 then bs else []
theorem own1_mem {bs : List Addr} {j : Nat} {a : Addr} (h : a ∈ own1 bs j) : j = 0 ∧ a ∈ bs := by
  unfold own1 at h
  by_cases e : j = 0
  · rw [if_pos e] at h; exact ⟨e, h⟩
  · rw [if_neg e] at h; cases h
noncomputable abbrev selfB (ds : List PyData) (a : Addr) (u : OT) : List Ent := .own (some a) (.n u) :: ds.map fun _ => Ent.no
noncomputable abbrev selfA (ds : List PyData) (a : Addr) (u : OT) : List Ent := .own (some a) (.n u) :: ds.map Ent.sh
section
variable {K : PySem.W.Frag} {Hb : Hp} {own : Nat → List Addr} {B : Addr → Prop} {H H' : Hp} {σ σ' : St} {δ : Dn} {i : Nat} {oa : Option Addr} {t u u' : OT} {p : List Stp} {v0 : V} {a : Addr} {L bs R : List Addr} {ds : List PyData} {vs : List V} {own' : Nat → List Addr}
theorem EnvO.enter (E : EnvO K Hb own B H σ δ) (S : Seen K own B H t u i p v0 (.ref a) L bs R) (rv : Reps K (Av own B) H ds vs) :
    EnvO K (keepB (own1 bs) H) (own1 bs) (fun b => Av own B b ∧ b ∉ bs) H ((V.ref a :: vs).map some) (selfA ds a u) := by
  have av : ∀ b, Av (own1 bs) (fun b => Av own B b ∧ b ∉ bs) b → Av own B b := fun b h => h.elim (·.1) fun ⟨j, z⟩ => .inr ⟨i, S.mine (own1_mem z).2⟩
  refine ⟨fun b o h => (keepB_some h).1, by simp [rv.length], fun b hb z => ?_, fun j b h => ?_, fun j b h => ?_, fun j => ?_, fun j k b h h' => ?_, fun j d h => ?_, fun j oa' c h => ?_⟩
  · obtain ⟨o, q⟩ := Option.ne_none_iff_exists'.mp (E.alive hb.1)
    rw [keepB_of q (fun j hj => hb.2 (own1_mem hj).2)] at z; cases z
  · unfold keepB
    rw [if_pos ⟨j, h⟩]
  · obtain ⟨rfl, _⟩ := own1_mem h
    exact ⟨_, _, rfl⟩
  · unfold own1
    split
    · exact (S.nd E).2.2
    · exact List.nodup_nil
  · rw [(own1_mem h).1, (own1_mem h').1]
  · cases j with
    | zero => cases h
    | succ j =>
      have h' : (ds.map Ent.sh)[j]? = some (Ent.sh d) := by simpa using h
      rw [List.getElem?_map] at h'
      obtain ⟨d', hd, e⟩ := Option.map_eq_some_iff.mp h'
      cases e
      obtain ⟨v, hv, r⟩ := rv.at hd
      exact ⟨v, by simp [hv], r.av av⟩
  · cases j with
    | zero =>
      cases h
      exact ⟨.ref a, rfl, fun b e => by cases e; rfl, RepO.kp (.avoid av) _ _ _ (fun _ _ _ z => z) S.rep⟩
    | succ j =>
      have h' : (ds.map Ent.sh)[j]? = some (Ent.own oa' c) := by simpa using h
      rw [List.getElem?_map] at h'
      obtain ⟨d', hd, e⟩ := Option.map_eq_some_iff.mp h'
      cases e
theorem EnvO.leave (E : EnvO K Hb own B H σ δ) (hδ : δ[i]? = some (.own oa (.n t))) (h0 : σ[i]? = some (some v0)) (S : Seen K own B H t u i p v0 (.ref a) L bs R)
    (E' : EnvO K (keepB (own1 bs) H) own' (fun b => Av own B b ∧ b ∉ bs) H' σ' (selfB ds a u')) :
    EnvO K Hb (setO own i (L ++ (own' 0 ++ R))) B H' σ (δ.set i (.own oa (.n (t.put p u')))) ∧ ∀ b, Av (setO own i (L ++ (own' 0 ++ R))) B b → Av own' (fun b => Av own B b ∧ b ∉ bs) b := by
  obtain ⟨d1, d2, d3⟩ := S.nd E
  have hav : ∀ b, Av (setO own i (L ++ (own' 0 ++ R))) B b → Av own' (fun b => Av own B b ∧ b ∉ bs) b := fun b h => by
    rcases h with z | ⟨j, z⟩
    · exact .inl ⟨.inl z, fun y => E.bb b z (E.ofr i b (S.mine y))⟩
    · by_cases hj : j = i
      · subst hj
        rw [setO_same] at z
        rcases List.mem_append.mp z with y | y
        · exact .inl ⟨.inr ⟨j, by rw [S.eq]; exact List.mem_append_left _ y⟩, fun x => (d1 b x).1 y⟩
        · rcases List.mem_append.mp y with y | y
          · exact .inr ⟨0, y⟩
          · exact .inl ⟨.inr ⟨j, by rw [S.eq]; exact List.mem_append_right _ (List.mem_append_right _ y)⟩, fun x => (d1 b x).2 y⟩
      · rw [setO_ne hj] at z
        exact .inl ⟨.inr ⟨j, z⟩, fun y => hj (E.inj j i b z (S.mine y))⟩
  refine ⟨E.putAt hδ h0 S (fun b o hb h => E'.base b o (keepB_of h fun j hj => hb (own1_mem hj).2)) (E'.ond 0) (fun b hb => ?_) ?_, hav⟩
  · have := E'.ofr 0 b hb
    unfold keepB at this
    by_cases e : ∃ j, b ∈ own1 bs j
    · obtain ⟨j, z⟩ := e
      exact .inl (own1_mem z).2
    · rw [if_neg e] at this; exact .inr this
  · obtain ⟨v, h1, h2, h3⟩ := E'.ow 0 (some a) (.n u') rfl
    cases h2 a rfl
    exact RepO.kp (.avoid hav) _ _ _ (fun _ _ _ z => z) h3
theorem RepOF.none : ∀ {ts : List (Str × OT)} {us : List (Str × V)} {as : List Addr} {A : Addr → Prop} {f : Str}, RepOF K A H ts us as → getF ts f = none → us.lookup f = none
  | [], _, _, _, _, h, _ => by rw [h.1]; rfl
  | (g, x) :: r, _, _, _, f, h, e => by
    obtain ⟨v, us', bs, cs, rfl, _, _, h4⟩ := h
    rw [getF] at e
    by_cases hg : g = f
    · rw [if_pos hg] at e; cases e
    · rw [if_neg hg] at e
      rw [List.lookup_cons]
      have : (f == g) = false := by simpa using fun z => hg z.symm
      rw [this]; exact RepOF.none h4 e
end
section
variable {X : Cx} {δ : Dn} {e o : Expr} {es : List Expr} {d : PyData} {pos apos : Pos} {i : Nat} {oa : Option Addr} {t u' w : OT} {p : List Stp} {C : Addr} {fs : List (Str × OT)} {m : Str} {R : List Ent → List Ent → Rs → Prop} {ds : List PyData} {ps : List Str} {k j : Nat} {pl : Sem Bool}
end
end L2
end
section
namespace L2
open PySem PySem.Spec PyProof.Rows
section
variable {X : Cx} {δ δ' : Dn} {e o : Expr} {es : List Expr} {d : PyData} {pos apos : Pos} {i : Nat} {oa : Option Addr} {t u' w : OT} {p : List Stp} {C : Addr} {fs : List (Str × OT)} {m x : Str} {R : List Ent → List Ent → Rs → Prop} {ds : List PyData} {ps : List Str} {k j : Nat} {pl : Sem Bool}
theorem s1_retWM (he : EvM X δ e d δ') : S1 X δ (.Return (some e) pos) (.rw δ' d) :=
  fun pins s σ H D I hh48 => Zz.a5 hh48 fun Hb own B E P => ps_ret he pins s σ H D I ⟨Hb, own, B, E, fun own' v H' E' r => P own' σ H' v E' r⟩
end
end L2
end
section
namespace L2
open PySem PySem.Spec PyProof.Rows
section
variable {X : Cx} {δ : Dn} {a e o : Expr} {d : PyData} {pos pos' : Pos} {i : Nat} {oa : Option Addr} {t : OT} {p : List Stp} {zs : List PyData}
end
end L2
end
section
namespace L2
open PySem PySem.Spec PyProof.Rows
section
variable {X : Cx} {δ δ' : Dn} {e : Expr} {pos : Pos} {w : OT} {x : Str}
end
end L2
end
section
namespace L2
open PySem PySem.Spec PyProof.Rows
section
variable {K : PySem.W.Frag} {A : Addr → Prop} {H : Hp} {v : V} {C : Addr} {fs kvs : List (PyData × PyData)} {ks : List (List Key)}
theorem rep_ins (h : Rep K A H (insD C fs) v) : ∃ a dx us, v = .ref a ∧ ¬ A a ∧ H a = some (.ins C dx us) ∧ RepsK K A H fs (us.map fun p => (.inr p.1, p.2)) := by
  rcases h with ⟨_, _, _, z, _⟩ | ⟨_, _, _, _, _, κ, _, _, _, z, _⟩ | ⟨_, _, _, _, z, _⟩ | ⟨_, _, z⟩ | ⟨_, _, _, z, _⟩ | ⟨a, C', dx, us, h1, z, h3, h4, h5⟩ | ⟨_, _, _, z, _⟩
  · cases z
  · cases z
  · cases z
  · cases z
  · cases z
  · have e : C = C' := by
      simp only [List.head?_cons, Option.some.injEq, Prod.mk.injEq, PyData.int.injEq, true_and] at z
      exact Int.ofNat.inj z
    subst e
    exact ⟨a, dx, us, h1, h3, h4, h5⟩
  · cases z
theorem rep_md (h : Rep K A H (mdD kvs) v) : ∃ a us, v = .ref a ∧ ¬ A a ∧ H a = some (.dK us) ∧ RepsK K A H kvs us := by
  rcases h with ⟨_, _, _, z, _⟩ | ⟨_, _, _, _, _, κ, _, _, _, z, _⟩ | ⟨_, _, _, _, z, _⟩ | ⟨_, _, z⟩ | ⟨a, us, h1, z, h3, h4, h5⟩ | ⟨_, _, _, _, _, z, _⟩ | ⟨_, _, _, z, _⟩
  · cases z
  · cases z
  · cases z
  · cases z
  · exact ⟨a, us, h1, h3, h4, h5⟩
  · cases z
  · cases z
theorem rep_set (h : Rep K A H (setD ks) v) : ∃ a, v = .ref a ∧ ¬ A a ∧ H a = some (.dT (ks.map fun k => (k, .bl true))) := by
  rcases h with ⟨_, _, _, z, _⟩ | ⟨_, _, _, _, _, κ, _, _, _, z, _⟩ | ⟨_, _, _, _, z, _⟩ | ⟨_, _, z⟩ | ⟨_, _, _, z, _⟩ | ⟨_, _, _, _, _, z, _⟩ | ⟨a, ks', h1, z, h3, h4⟩
  · cases z
  · cases z
  · cases z
  · cases z
  · cases z
  · cases z
  · have := setD_inj z
    subst this
    exact ⟨a, h1, h3, h4⟩
theorem rep_hole {a : Addr} (h : Rep K A H (holeD a) v) : v = .ref a := by
  rcases h with ⟨_, _, _, z, _⟩ | ⟨_, _, _, _, _, κ, _, _, _, z, _⟩ | ⟨_, _, _, _, z, _⟩ | ⟨b, h1, z⟩ | ⟨_, _, _, z, _⟩ | ⟨_, _, _, _, _, z, _⟩ | ⟨_, _, _, z, _⟩
  · cases z
  · cases z
  · cases z
  · have e : a = b := by
      unfold holeD at z
      simp only [PyData.dict.injEq, List.cons.injEq, Prod.mk.injEq, PyData.int.injEq, true_and, and_true] at z
      exact Int.ofNat.inj z
    rw [h1, e]
  · cases z
  · cases z
  · cases z
theorem hole_rep {a : Addr} : Rep K A H (holeD a) (.ref a) := .inr (.inr (.inr (.inl ⟨a, rfl, rfl⟩)))
theorem valV_inr (f : Str) : ∀ us : List (Str × V), valV (us.map fun p => ((Sum.inr p.1 : Key), p.2)) (.inr f) = us.lookup f
  | [] => rfl
  | p :: r => by
    rw [List.map_cons, List.lookup_cons]
    by_cases h : p.1 = f
    · rw [valV_pos (by rw [h])]
      have : (f == p.1) = true := by simpa using h.symm
      rw [this]
    · rw [valV_neg (fun z => h (Sum.inr.inj z)), valV_inr f r]
      have : (f == p.1) = false := by simpa using fun z => h z.symm
      rw [this]
end
section
variable {X : Cx} {δ : Dn} {a b c e o : Expr} {es : List Expr} {d kd : PyData} {pos apos : Pos} {C : Addr} {fs kvs : List (PyData × PyData)} {ks : List (List Key)} {f m : Str} {k j : Nat} {ds xs : List PyData} {κs : List Key} {κ : Key} {ps : List Str} {pl : Sem Bool}
theorem ev_attrD (ho : EvD X δ o (insD C fs)) (hf : getK fs (.inr f) = some d) (cl : Cls X.K C) (n : NoAttr X.K C f) (hb : attributeBase o f X.env (eval o X.env) = eval o X.env := by rfl) : EvD X δ (.Attribute o f pos) d :=
  ev_of (pe_fld ho hb) fun Hb own B σ H Q E q => ⟨Hb, own, B, E, fun v H1 s1 r => by
    obtain ⟨a, dx, us, rfl, _, h3, h4⟩ := rep_ins r
    rcases repsK_get (κ := .inr f) h4 with ⟨h5, _⟩ | ⟨d', v, h5, h6, h7⟩
    · rw [h5] at hf; cases hf
    · rw [h5] at hf; cases hf
      exact ⟨a, C, dx, us, v, rfl, h3, cl, n, by rw [← valV_inr]; exact h6, q v H1 s1 h7⟩⟩
theorem et_inQ (hr : Room k X.A) (hk : EvD X δ a (.tuple ds)) (hκ : keysOf ds = some κs) (ho : EvD X δ o (setD ks)) (hm : behindInMarks .In o = false := by with_unfolding_all rfl) : EtD X δ (.Compare a [.In] [o] pos) (hasE ks κs) :=
  et_of (pt_cmp (pc_din (hu_of hr) hk ho) hm) fun Hb own B σ H Q E q => ⟨Hb, own, B, E, fun y H1 s1 ry => ⟨Hb, own, B, E.mono s1, fun v H2 s2 rv => by
    obtain ⟨ad, rfl, _, h3⟩ := rep_set rv
    obtain ⟨bd, vs, rfl, h4, h5⟩ := ry
    have ev := reps_keys hκ h5
    subst ev
    exact ⟨ad, _, rfl, DGet.t h3 (s2 _ _ h4), by rw [valV_e]; exact ⟨_, rfl, q H2 (s1.trans s2)⟩⟩⟩⟩
theorem ev_mdGet (hr : Room k X.A) (ha : EvD X δ a (mdD kvs)) (hk : EvD X δ b kd) (hκ : keyOf kd = some κ) (hg : getK kvs κ = some d) (hs : NoSl b := by exact fun _ _ => rfl) : EvD X δ (.Subscript a b pos) d :=
  ev_of (pe_dget (hu_of hr) ha hk hs) fun Hb own B σ H Q E q => ⟨Hb, own, B, E, fun x H1 s1 rx => ⟨Hb, own, B, E.mono s1, fun y H2 s2 ry => by
    obtain ⟨p, us, rfl, _, hp, hu⟩ := rep_md (rx.up s2)
    have ey := rep_key hκ ry
    subst ey
    rcases repsK_get (κ := κ) hu with ⟨h1, _⟩ | ⟨d', v, h1, h2, h3⟩
    · rw [h1] at hg; cases hg
    · rw [h1] at hg; cases hg
      exact ⟨p, v, rfl, .inl ⟨us, κ, .inl hp, rfl, h2.symm⟩, q v H2 (s1.trans s2) h3⟩⟩⟩
structure MeD (P : Program) (w : World) (K : PySem.W.Frag) (mg : Str → Option Value) (base : Heap) (C : Addr) (m : Str) (k : Nat) (ps : List Str) (sp : Sp) : Prop where
  ex : ∃ f fd, FnOk P w K mg base CX0 k f fd ps sp ∧ Meth K C m f ∧ Binds K fd ps []
theorem ins_no {K : PySem.W.Frag} {A : Addr → Prop} {H : Hp} {us : List (Str × V)} (h4 : RepsK K A H fs (us.map fun p => (.inr p.1, p.2))) (hno : getK fs (.inr m) = none) : us.lookup m = none := by
  rcases repsK_get (κ := .inr m) h4 with ⟨_, h⟩ | ⟨d', v, h5, _, _⟩
  · rw [← valV_inr]; exact h
  · rw [hno] at h5; cases h5
theorem ev_methD {R : List PyData → PyData → Prop} (G : MeD X.prog X.w X.K X.mg X.base C m j ps (spP X.K R)) (ho : EvD X δ o (insD C fs)) (cl : Cls X.K C) (hr : Room k X.A) (hjk : j ≤ k) (hno : getK fs (.inr m) = none) (ha : EaD X δ (e :: es) ds)
    (hR : R (insD C fs :: ds) d) (hst : starEach (e :: es) X.env = (false, eval e X.env) :: starEach es X.env := by rfl) (hpl : (backTo pos (starEach es X.env)).any (·.1) = false := by rfl)
    (htr : eval (.Call (.Attribute o m apos) (e :: es) [] pos) X.env = (do
      let ov ← eval o X.env
      standAt apos.atName
      let (f, first) ← holding [ov] (getMethod ov m pl)
      callWith pos f first (backTo pos (starEach (e :: es) X.env)) (backToKw pos (keywordEach [] X.env))) := by rfl) : EvD X δ (.Call (.Attribute o m apos) (e :: es) [] pos) d := by
  obtain ⟨f, fd, h1, h2, h4⟩ := G.ex
  refine ev_of (pe_meth (pl := pl) ho cl h2 h1 (hr.mono hjk) h4 .nil pass0 ha hst hpl htr) fun Hb own B σ H Q E q => ⟨Hb, own, B, E, fun v H1 s1 r => ?_⟩
  obtain ⟨a, dx, us, rfl, _, h5, h6⟩ := rep_ins r
  refine ⟨a, dx, us, rfl, h5, ins_no h6 hno, Hb, own, B, E.mono s1, fun vs H2 s2 rv => ?_⟩
  show spP X.K R (V.ref a :: (vs ++ [])) H2 Q E0
  rw [List.append_nil]
  exact ⟨Av own B, insD C fs :: ds, d, fun a z => ((E.mono s1).mono s2).alive z, ⟨_, _, rfl, r.up s2, rv⟩, hR, fun v H' s3 r => q v H' ((s1.trans s2).trans s3) r⟩
theorem ef_methD {R : List PyData → List PyData → Prop} (G : MeD X.prog X.w X.K X.mg X.base C m j ps (spL X.K R)) (ho : EvD X δ o (insD C fs)) (cl : Cls X.K C) (hr : Room k X.A) (hjk : j ≤ k) (hno : getK fs (.inr m) = none) (ha : EaD X δ (e :: es) ds)
    (hR : R (insD C fs :: ds) xs) (hst : starEach (e :: es) X.env = (false, eval e X.env) :: starEach es X.env := by rfl) (hpl : (backTo pos (starEach es X.env)).any (·.1) = false := by rfl)
    (htr : eval (.Call (.Attribute o m apos) (e :: es) [] pos) X.env = (do
      let ov ← eval o X.env
      standAt apos.atName
      let (f, first) ← holding [ov] (getMethod ov m pl)
      callWith pos f first (backTo pos (starEach (e :: es) X.env)) (backToKw pos (keywordEach [] X.env))) := by rfl) : EvF X δ (.Call (.Attribute o m apos) (e :: es) [] pos) xs := by
  obtain ⟨f, fd, h1, h2, h4⟩ := G.ex
  refine ef_of (pe_meth (pl := pl) ho cl h2 h1 (hr.mono hjk) h4 .nil pass0 ha hst hpl htr) fun Hb own B σ H Q E q => ⟨Hb, own, B, E, fun v H1 s1 r => ?_⟩
  obtain ⟨a, dx, us, rfl, _, h5, h6⟩ := rep_ins r
  refine ⟨a, dx, us, rfl, h5, ins_no h6 hno, Hb, own, B, E.mono s1, fun vs H2 s2 rv => ?_⟩
  show spL X.K R (V.ref a :: (vs ++ [])) H2 Q E0
  rw [List.append_nil]
  exact ⟨Av own B, insD C fs :: ds, xs, fun a z => ((E.mono s1).mono s2).alive z, ⟨_, _, rfl, r.up s2, rv⟩, hR, fun a us H' s3 hn ha r => q a us H' ((s1.trans s2).trans s3) ((s1.trans s2).free hn) ha r⟩
theorem ev_methD0 {R : List PyData → PyData → Prop} (G : MeD X.prog X.w X.K X.mg X.base C m j ps (spP X.K R)) (ho : EvD X δ o (insD C fs)) (cl : Cls X.K C) (hr : Room k X.A) (hjk : j ≤ k) (hno : getK fs (.inr m) = none)
    (hR : R [insD C fs] d)
    (htr : eval (.Call (.Attribute o m apos) [] [] pos) X.env = (do
      let ov ← eval o X.env
      standAt apos.atName
      let (f, first) ← holding [ov] (getMethod ov m pl)
      callWith pos f first (backTo pos (starEach [] X.env)) (backToKw pos (keywordEach [] X.env))) := by rfl) : EvD X δ (.Call (.Attribute o m apos) [] [] pos) d := by
  obtain ⟨f, fd, h1, h2, h4⟩ := G.ex
  refine ev_of (pe_meth0 (pl := pl) ho cl h2 h1 (hr.mono hjk) h4 .nil pass0 htr) fun Hb own B σ H Q E q => ⟨Hb, own, B, E, fun v H1 s1 r => ?_⟩
  obtain ⟨a, dx, us, rfl, _, h5, h6⟩ := rep_ins r
  refine ⟨a, dx, us, rfl, h5, ins_no h6 hno, ?_⟩
  show spP X.K R (V.ref a :: ([] ++ [])) H1 Q E0
  exact ⟨Av own B, [insD C fs], d, fun a z => (E.mono s1).alive z, ⟨_, _, rfl, r, rfl⟩, hR, fun v H' s3 r => q v H' (s1.trans s3) r⟩
theorem ef_methD0 {R : List PyData → List PyData → Prop} (G : MeD X.prog X.w X.K X.mg X.base C m j ps (spL X.K R)) (ho : EvD X δ o (insD C fs)) (cl : Cls X.K C) (hr : Room k X.A) (hjk : j ≤ k) (hno : getK fs (.inr m) = none)
    (hR : R [insD C fs] xs)
    (htr : eval (.Call (.Attribute o m apos) [] [] pos) X.env = (do
      let ov ← eval o X.env
      standAt apos.atName
      let (f, first) ← holding [ov] (getMethod ov m pl)
      callWith pos f first (backTo pos (starEach [] X.env)) (backToKw pos (keywordEach [] X.env))) := by rfl) : EvF X δ (.Call (.Attribute o m apos) [] [] pos) xs := by
  obtain ⟨f, fd, h1, h2, h4⟩ := G.ex
  refine ef_of (pe_meth0 (pl := pl) ho cl h2 h1 (hr.mono hjk) h4 .nil pass0 htr) fun Hb own B σ H Q E q => ⟨Hb, own, B, E, fun v H1 s1 r => ?_⟩
  obtain ⟨a, dx, us, rfl, _, h5, h6⟩ := rep_ins r
  refine ⟨a, dx, us, rfl, h5, ins_no h6 hno, ?_⟩
  show spL X.K R (V.ref a :: ([] ++ [])) H1 Q E0
  exact ⟨Av own B, [insD C fs], xs, fun a z => (E.mono s1).alive z, ⟨_, _, rfl, r, rfl⟩, hR, fun a us H' s3 hn ha r => q a us H' (s1.trans s3) (s1.free hn) ha r⟩
end
section
variable {P : Program} {w : World} {K : PySem.W.Frag} {mg : Str → Option Value} {base : Heap} {x qual : Str} {st : Stmt} {f C : Addr} {m : Str} {fd : FuncData} {N ps : List Str} {k : Nat}
theorem me_P {R : List PyData → PyData → Prop} (F : Fun K x qual st f fd) (S : FnScope N ps (defScope st)) (hm : Meth K C m f) (hb : Binds K fd ps []) (hl : ∀ ds d, R ds d → ds.length = ps.length)
    (body : ∀ cdv A outer s H E, Room k (bx P w K mg base N qual st f cdv A outer s H E).A → ∀ ds d, R ds d → SR (bx P w K mg base N qual st f cdv A outer s H E) (startD N ds) (defBody st) (.rt d) ∨ (∃ δ', SR (bx P w K mg base N qual st f cdv A outer s H E) (startD N ds) (defBody st) (.nx δ') ∧ d = .none)) :
    MeD P w K mg base C m (k + 1) ps (spP K R) := by
  refine ⟨f, fd, F.ok S (fun vs H Q E h => ?_) (fun cdv A outer s H vs Q E hr h => ?_), hm, hb⟩
  · obtain ⟨B, ds, d, _, r, hR, _⟩ := h
    rw [← r.length]; exact hl ds d hR
  · obtain ⟨B, ds, d, hB, r, hR, q⟩ := h
    rcases body cdv A outer s H E hr ds d hR with h | ⟨δ', h, rfl⟩
    · exact ⟨_, h, H, _, B, env_start hB r, fun v H' s1 rv => q v H' s1 rv⟩
    · exact ⟨_, h, H, _, B, env_start hB r, fun own' σ' H' E' => q _ H' E'.base rfl⟩
theorem me_L {R : List PyData → List PyData → Prop} (F : Fun K x qual st f fd) (S : FnScope N ps (defScope st)) (hm : Meth K C m f) (hb : Binds K fd ps []) (hl : ∀ ds d, R ds d → ds.length = ps.length)
    (body : ∀ cdv A outer s H E, Room k (bx P w K mg base N qual st f cdv A outer s H E).A → ∀ ds xs, R ds xs → SR (bx P w K mg base N qual st f cdv A outer s H E) (startD N ds) (defBody st) (.rf xs)) :
    MeD P w K mg base C m (k + 1) ps (spL K R) := by
  refine ⟨f, fd, F.ok S (fun vs H Q E h => ?_) (fun cdv A outer s H vs Q E hr h => ?_), hm, hb⟩
  · obtain ⟨B, ds, d, _, r, hR, _⟩ := h
    rw [← r.length]; exact hl ds d hR
  · obtain ⟨B, ds, xs, hB, r, hR, q⟩ := h
    exact ⟨_, body cdv A outer s H E hr ds xs hR, H, _, B, env_start hB r, fun a vs H' s1 hn ha rv => q a vs H' s1 hn ha rv⟩
theorem me_M {R : List Ent → List Ent → PyData → Prop} (F : Fun K x qual st f fd) (S : FnScope N ps (defScope st)) (hb : Binds K fd ps []) (hl : ∀ as as' d, R as as' d → as.length = ps.length)
    (body : ∀ cdv A outer s H E, Room k (bx P w K mg base N qual st f cdv A outer s H E).A → ∀ as as' d, R as as' d → BodyM (bx P w K mg base N qual st f cdv A outer s H E) N (startE N as) (defBody st) as' d) :
    FnOk P w K mg base CX0 (k + 1) f fd ps (spM K R) := by
  refine F.ok S (fun vs H Q E h => ?_) (fun cdv A outer s H vs Q E hr h => ?_)
  · obtain ⟨B, own, as, as', d, E0, hR, _⟩ := h
    have := E0.len
    rw [List.length_map] at this
    rw [this]; exact hl as as' d hR
  · obtain ⟨B, own, as, as', d, E0, hR, q⟩ := h
    have hlen := E0.len
    rw [List.length_map] at hlen
    have Es : EnvO K (keepB own H) own B H (start N vs) (startE N as) := by
      unfold start startE
      rw [hlen]
      exact E0.pad _
    cases body cdv A outer s H E hr as as' d hR with
    | nx h w => exact ⟨_, h, keepB own H, own, B, Es, fun own' σ' H' E' => q _ _ _ _ ((E'.weaken w).unpad) rfl⟩
    | rw h w hs => exact ⟨_, h, keepB own H, own, B, Es, fun own' σ' H' v E' r => q _ _ _ _ ((E'.weaken w).unpad) (rep_scal hs r)⟩
structure MkM (P : Program) (w : World) (K : PySem.W.Frag) (mg : Str → Option Value) (base : Heap) (C : Addr) (k : Nat) (ps : List Str) (R : List Ent → List Ent → PyData → Prop) : Prop where
  ex : ∃ f fd, FnOk P w K mg base CX0 k f fd ps (spM K R) ∧ Mk K C f ∧ Binds K fd ps []
structure MeM (P : Program) (w : World) (K : PySem.W.Frag) (mg : Str → Option Value) (base : Heap) (C : Addr) (m : Str) (k : Nat) (ps : List Str) (R : List Ent → List Ent → PyData → Prop) : Prop where
  ex : ∃ f fd, FnOk P w K mg base CX0 k f fd ps (spM K R) ∧ Meth K C m f ∧ Binds K fd ps []
end
section
variable {X : Cx} {δ : Dn} {e o : Expr} {es : List Expr} {d : PyData} {pos apos p : Pos} {i : Nat} {oa : Option Addr} {t u' w : OT} {q : List Stp} {C : Addr} {fs : List (Str × OT)} {m x : Str} {R : List Ent → List Ent → PyData → Prop} {ds : List PyData} {ps : List Str} {k j : Nat} {pl : Sem Bool}
theorem ev_methM (ho : PlD X δ o i q) (hδ : δ[i]? = some (.own oa (.n t))) (ht : t.at q = some (.o C fs)) (G : MeM X.prog X.w X.K X.mg X.base C m j ps R) (cl : Cls X.K C) (hr : Room k X.A) (hjk : j ≤ k) (hno : getF fs m = none) (ha : EaD X δ (e :: es) ds)
    (hR : ∀ a, R (selfA ds a (.o C fs)) (selfB ds a u') d) (hs : scalD d = true) (hst : starEach (e :: es) X.env = (false, eval e X.env) :: starEach es X.env := by rfl) (hpl : (backTo pos (starEach es X.env)).any (·.1) = false := by rfl)
    (htr : eval (.Call (.Attribute o m apos) (e :: es) [] pos) X.env = (do
      let ov ← eval o X.env
      standAt apos.atName
      let (f, first) ← holding [ov] (getMethod ov m pl)
      callWith pos f first (backTo pos (starEach (e :: es) X.env)) (backToKw pos (keywordEach [] X.env))) := by rfl) : EvM X δ (.Call (.Attribute o m apos) (e :: es) [] pos) d (δ.set i (.own oa (.n (t.put q u')))) := by
  obtain ⟨f, fd, h1, h2, h4⟩ := G.ex
  intro pins s σ H Q I ⟨Hb, own, B, E, qq⟩
  refine pe_meth (pl := pl) ho cl h2 h1 (hr.mono hjk) h4 .nil pass0 ha hst hpl htr pins s σ H Q I ⟨Hb, own, B, E, fun v0 v H1 s1 h0 hw => ?_⟩
  obtain ⟨L, bs, R', S⟩ := (E.mono s1).seenAt hδ ht h0 hw
  obtain ⟨a, dx, us, bs0, rfl, hbs, h5, h6⟩ := S.rep
  refine ⟨a, dx, us, rfl, h5, RepOF.none h6 hno, Hb, own, B, E.mono s1, fun vs H2 s2 rv => ?_⟩
  show spM X.K R (V.ref a :: (vs ++ [])) H2 Q E0
  rw [List.append_nil]
  have E2 := (E.mono s1).mono s2
  obtain ⟨L, bs, R', S⟩ := E2.seenAt hδ ht h0 (hw.up s2)
  refine ⟨_, _, _, _, d, E2.enter S rv, hR a, fun own' σ' v H' E' r => ?_⟩
  exact qq _ v H' (E2.leave hδ h0 S E').1 (rep_scal hs r)
theorem ex_make (G : MkM X.prog X.w X.K X.mg X.base C j ps R) (hr : Room k X.A) (hjk : j + 1 ≤ k) (hg : Gl X x) (hm : X.mg x = some (.ref C)) (ha : EaD X δ (e :: es) ds) (hR : ∀ a, R (selfA ds a (.o C [])) (selfB ds a w) .none) (hdb : (x == ("__debug__" : Str)) = false := by decide)
    (he : starEach (e :: es) X.env = (false, eval e X.env) :: starEach es X.env := by rfl) (hpl : (backTo pos (starEach es X.env)).any (·.1) = false := by rfl) : ExD X δ (.Call (.Name x p) (e :: es) [] pos) w [] := by
  obtain ⟨f, fd, h1, h2, h4⟩ := G.ex
  intro pins s σ H Q I ⟨Hb, own, B, E, qq⟩
  refine pe_make h2 h1 (hr.mono hjk) hg hm h4 .nil pass0 ha hdb he hpl pins s σ H Q I ⟨Hb, own, B, E, fun vs H1 s1 rv => fun y dx hy hdx hne => ?_⟩
  show spM X.K R (V.ref y :: (vs ++ [])) _ _ E0
  rw [List.append_nil]
  have E1 := E.mono s1
  have sm : Same H1 (upd (upd H1 dx (.own y)) y (.ins C dx [])) := fun b o z => by
    rw [upd_ne (ne_of_none z hy), upd_ne (ne_of_none z hdx)]; exact z
  have hH2 : upd (upd H1 dx (.own y)) y (.ins C dx []) y = some (.ins C dx []) := upd_same
  have hdx2 : upd (upd H1 dx (.own y)) y (.ins C dx []) dx = some (.own y) := by rw [upd_ne hne]; exact upd_same
  have hfr : ∀ b, upd (upd H1 dx (.own y)) y (.ins C dx []) b = none → H1 b = none := fun b z => by
    cases q : H1 b with
    | none => rfl
    | some o => rw [sm _ _ q] at z; cases z
  generalize upd (upd H1 dx (.own y)) y (.ins C dx []) = H2 at sm hH2 hdx2 hfr
  have kb : ∀ b o, b ≠ y → H2 b = some o → keepB (own1 [y]) H2 b = some o := fun b o hb z => keepB_of z fun j hj => hb (List.mem_singleton.mp (own1_mem hj).2)
  have av : ∀ b, Av (own1 [y]) (Av own B) b → Av own B b ∨ H1 b = none := fun b h => h.imp id fun ⟨j, z⟩ => by rw [List.mem_singleton.mp (own1_mem z).2]; exact hy
  refine ⟨Av own B, own1 [y], selfA ds y (.o C []), selfB ds y w, .none, ⟨fun b o h => (keepB_some h).1, by simp [rv.length], fun b hb z => ?_, fun j b h => ?_, fun j b h => ?_, fun j => ?_, fun j k b h h' => ?_, fun j d h => ?_, fun j oa' c h => ?_⟩, hR y, fun own' σ' v H' E' r => ?_⟩
  · obtain ⟨o, q⟩ := Option.ne_none_iff_exists'.mp (E1.alive hb)
    rw [kb b o (ne_of_none q hy) (sm _ _ q)] at z; cases z
  · unfold keepB
    rw [if_pos ⟨j, h⟩]
  · obtain ⟨rfl, _⟩ := own1_mem h
    exact ⟨_, _, rfl⟩
  · unfold own1
    split
    · simp
    · exact List.nodup_nil
  · rw [(own1_mem h).1, (own1_mem h').1]
  · cases j with
    | zero => cases h
    | succ j =>
      have h' : (ds.map Ent.sh)[j]? = some (Ent.sh d) := by simpa using h
      rw [List.getElem?_map] at h'
      obtain ⟨d', hd, e⟩ := Option.map_eq_some_iff.mp h'
      cases e
      obtain ⟨v, hv, r⟩ := rv.at hd
      exact ⟨v, by simp [hv], Rep.young av r sm⟩
  · cases j with
    | zero =>
      cases h
      exact ⟨.ref y, rfl, fun b z => by cases z; rfl, ⟨y, dx, [], [], rfl, rfl, hH2, rfl, rfl⟩⟩
    | succ j =>
      have h' : (ds.map Ent.sh)[j]? = some (Ent.own oa' c) := by simpa using h
      rw [List.getElem?_map] at h'
      obtain ⟨d', hd, e⟩ := Option.map_eq_some_iff.mp h'
      cases e
  · refine ⟨r, ?_⟩
    obtain ⟨v', k1, k2, k3⟩ := E'.ow 0 (some y) (.n w) rfl
    have ev := k2 y rfl
    subst ev
    have fr : ∀ b, keepB (own1 [y]) H2 b = none → H b = none := fun b z => by
      cases q : H2 b with
      | none => exact s1.free (hfr b q)
      | some o =>
        by_cases hb : b = y
        · rw [hb]; exact s1.free hy
        · rw [kb b o hb q] at z; cases z
    refine qq _ (own' 0) H' (fun b o z => E'.base b o (kb b o (ne_of_none (s1 _ _ z) hy) (sm _ _ (s1 _ _ z)))) (fun b hb => .inl (fr b (E'.ofr 0 b hb))) (E'.ond 0) (RepC.av (c := .n w) k3 fun b z => z.imp id fun y => ⟨0, y⟩)
end
end L2
end
section
namespace L2
open PySem PySem.Spec PyProof.Rows
section
variable {X : Cx} {δ : Dn} {a b c e o ix : Expr} {d kd : PyData} {pos pos' apos cpos : Pos} {x f : Str} {i k n : Nat} {oa : Option Addr} {t u w : OT} {p : List Stp} {C : Addr} {ys : List OT} {kvs : List (PyData × OT)} {κ : Key}
theorem pl_ix (h : PlD X δ e i p) (hδ : δ[i]? = some (.own oa (.n t))) (ht : t.at p = some (.l ys)) (hk : ys[k]? = some u) (hi : EvD X δ ix (.int k)) (hs : PlainIx ix := by exact fun _ _ => rfl) : PlD X δ (.Subscript e ix pos) i (p ++ [.ix k]) :=
  fun pins s σ H Q I hh49 => Zz.a5 hh49 fun Hb own B E q => pe_ix ix_list h hi hs pins s σ H Q I ⟨Hb, own, B, E, fun v0 v H1 s1 h0 hw => ⟨Hb, own, B, E.mono s1, fun y H2 s2 ry => by
    obtain ⟨L, bs, R, S⟩ := ((E.mono s1).mono s2).seenAt hδ ht h0 (hw.up s2)
    obtain ⟨a, vs, cs, rfl, _, h3, h4⟩ := S.rep
    obtain ⟨v', _, _, _, _, h5, _, _⟩ := RepOs.part h4 hk
    exact ⟨a, vs, (k : Int), v', rfl, ry, SqL.of h3, atI_nat h5, q v0 v' H2 (s1.trans s2) h0 ((hw.up s2).snoc ⟨a, vs, rfl, .inl h3, h5⟩)⟩⟩⟩
theorem pl_key (hr : Room n X.A) (h : PlD X δ e i p) (hδ : δ[i]? = some (.own oa (.n t))) (ht : t.at p = some (.d kvs)) (hk : getKO kvs κ = some u) (hi : EvD X δ ix kd) (hκ : keyOf kd = some κ) (hs : NoSl ix := by exact fun _ _ => rfl) : PlD X δ (.Subscript e ix pos) i (p ++ [.ky κ]) :=
  fun pins s σ H Q I hh50 => Zz.a5 hh50 fun Hb own B E q => pe_dget (hu_of hr) h hi hs pins s σ H Q I ⟨Hb, own, B, E, fun v0 v H1 s1 h0 hw => ⟨Hb, own, B, E.mono s1, fun y H2 s2 ry => by
    obtain ⟨L, bs, R, S⟩ := ((E.mono s1).mono s2).seenAt hδ ht h0 (hw.up s2)
    obtain ⟨a, us, cs, rfl, _, h3, h4⟩ := S.rep
    obtain ⟨v', _, _, _, _, h5, _, _⟩ := RepOK.part h4 hk
    have ey := rep_key hκ ry
    subst ey
    exact ⟨a, v', rfl, .inl ⟨us, κ, .inl h3, rfl, h5.symm⟩, q v0 v' H2 (s1.trans s2) h0 ((hw.up s2).snoc ⟨a, us, rfl, h3, h5⟩)⟩⟩⟩
end
noncomputable def putKO (κ : Key) (kd : PyData) (u : OT) : List (PyData × OT) → List (PyData × OT)
  | [] => [(kd, u)]
  | p :: r => if keyOf p.1 = some κ then (p.1, u) :: r else p :: putKO κ kd u r
theorem putK_cons1 {p : Key × V} {r : List (Key × V)} {κ : Key} {v : V} (h : p.1 = κ) (hn : valV r κ = none) : putK (p :: r) κ v = (p.1, v) :: r := by
  have : (fun kv : Key × V => if kv.1 = κ then (kv.1, v) else kv) p = (p.1, v) := if_pos h
  unfold putK
  rw [List.any_cons, decide_eq_true h, Bool.true_or, if_pos rfl, List.map_cons]
  congr 1
  refine (List.map_congr_left fun q hq => if_neg fun z => ?_).trans (List.map_id' r)
  exact valV_not hn (List.mem_map.mpr ⟨q, hq, z⟩)
theorem putK_cons2 {p : Key × V} {r : List (Key × V)} {κ : Key} {v : V} (h : ¬ p.1 = κ) : putK (p :: r) κ v = p :: putK r κ v := by
  unfold putK
  rw [List.any_cons, decide_eq_false h, Bool.false_or]
  split
  · rw [List.map_cons, if_neg h]
  · rfl
section
variable {K : PySem.W.Frag} {A : Addr → Prop} {H : Hp}
theorem RepOK.len : ∀ {ts : List (PyData × OT)} {us : List (Key × V)} {as : List Addr}, RepOK K A H ts us as → us.length = ts.length
  | [], _, _, h => by rw [h.1]; rfl
  | p :: r, _, _, h => by
    obtain ⟨κ, v, us', bs, cs, rfl, _, _, _, h4⟩ := h
    rw [List.length_cons, List.length_cons, RepOK.len h4]
noncomputable def ndK : List (PyData × OT) → Prop
  | [] => True
  | p :: r => (∀ κ, keyOf p.1 = some κ → getKO r κ = none) ∧ ndK r
theorem RepOK.none : ∀ {ts : List (PyData × OT)} {us : List (Key × V)} {as : List Addr} {κ : Key}, RepOK K A H ts us as → getKO ts κ = none → valV us κ = none
  | [], _, _, _, h, _ => by rw [h.1]; rfl
  | (g, x) :: r, _, _, κ, h, e => by
    obtain ⟨κ', v, us', bs, cs, rfl, _, hκ, _, h4⟩ := h
    rw [getKO] at e
    by_cases hg : keyOf g = some κ
    · rw [if_pos hg] at e; cases e
    · rw [if_neg hg] at e
      rw [valV_neg (fun z : κ' = κ => hg (by rw [← z]; exact hκ))]
      exact RepOK.none h4 e
theorem RepOK.putK {κ : Key} {kd : PyData} (hkd : keyOf kd = some κ) : ∀ {ts : List (PyData × OT)} {us : List (Key × V)} {as : List Addr}, ndK ts → RepOK K A H ts us as →
    ∃ L bs R, as = L ++ (bs ++ R) ∧ ∀ (A' : Addr → Prop) (H' : Hp) (u : OT) (v : V) (cs : List Addr), Kp A A' H H' → (∀ b, b ∈ L ∨ b ∈ R → ∀ o, H b = some o → H' b = some o) → RepO K A' H' u v cs → RepOK K A' H' (putKO κ kd u ts) (L2.putK us κ v) (L ++ (cs ++ R))
  | [], _, _, _, h => by
    obtain ⟨rfl, rfl⟩ := h
    exact ⟨[], [], [], rfl, fun A' H' u v cs _ _ hu => ⟨κ, v, [], cs, [], rfl, by simp, hkd, hu, rfl, rfl⟩⟩
  | (g, x) :: r, _, _, nd, h => by
    obtain ⟨κ', v, us', bs, cs, rfl, rfl, hκ, h3, h4⟩ := h
    by_cases hg : keyOf g = some κ
    · have ek : κ' = κ := Option.some.inj (hκ.symm.trans hg)
      subst ek
      refine ⟨[], bs, cs, rfl, fun A' H' u w ds kp q hu => ?_⟩
      rw [putKO, if_pos hg, putK_cons1 rfl (RepOK.none h4 (nd.1 κ' hg))]
      exact ⟨κ', w, us', ds, cs, rfl, rfl, hκ, hu, RepOK.kp kp _ _ _ (fun a ha => q a (.inr ha)) h4⟩
    · obtain ⟨L, ds, R, rfl, hp⟩ := RepOK.putK hkd nd.2 h4
      refine ⟨bs ++ L, ds, R, by rw [List.append_assoc], fun A' H' u w es kp q hu => ?_⟩
      rw [putKO, if_neg hg, putK_cons2 (fun z : κ' = κ => hg (by rw [← z]; exact hκ))]
      exact ⟨κ', v, _, bs, L ++ (es ++ R), rfl, by rw [List.append_assoc], hκ, RepO.kp kp _ _ _ (fun a ha => q a (.inl (List.mem_append_left _ ha))) h3, hp A' H' u w es kp (fun b hb => q b (hb.imp (List.mem_append_right _) id)) hu⟩
end
section
variable {X : Cx} {δ : Dn} {a b c e o value ix : Expr} {d kd : PyData} {pos pos' apos cpos : Pos} {x f : Str} {i k n : Nat} {oa : Option Addr} {t u w : OT} {p : List Stp} {ys : List OT} {kvs : List (PyData × OT)} {κ : Key} {ns : List Int} {m : Int}
theorem s1_putKX (hr : Room n X.A) (ho : PlD X δ o i p) (hk : EvD X δ ix kd) (hκ : keyOf kd = some κ) (hδ : δ[i]? = some (.own oa (.n t))) (ht : t.at p = some (.d kvs)) (hnd : ndK kvs) (hv : ExD X δ value w []) (hl : kvs.length < 1000)
    (hsw : swapsWith value (some (.Subscript o ix pos')) pos.line X.env = pure false := by rfl) : S1 X δ (.Assign [.Subscript o ix pos'] value pos) (.nx (δ.set i (.own oa (.n (t.put p (.d (putKO κ kd w kvs))))))) :=
  fun pins s σ H D I hh51 => Zz.a5 hh51 fun Hb own B E P => ps_dput (hu_of hr) ho hk hv hsw pins s σ H D I ⟨Hb, own, B, E, fun y as H1 s1 h1 nd r => ⟨Hb, own, B, E.mono s1, fun v0 v H2 s2 h0 hw => ⟨Hb, own, B, (E.mono s1).mono s2, fun yk H3 s3 rk => by
    have ey := rep_key hκ rk
    subst ey
    obtain ⟨v0', v', L, bs, R, h0', S⟩ := E.seen hδ ht
    rw [h0] at h0'; cases h0'
    cases Way.inj hw (S.way.up (s1.trans s2))
    obtain ⟨nL, nLR, nbs⟩ := S.nd E
    obtain ⟨q, us, bs0, rfl, hbs, h3, h4⟩ := S.rep
    obtain ⟨L0, m0, R0, rfl, hp⟩ := RepOK.putK hκ hnd h4
    have fr : ∀ b ∈ as, H b = none := fun b hb => (h1 b hb).elim id fun ⟨_, z, _⟩ => nomatch z
    have hqb : q ∈ bs := by rw [hbs]; exact List.mem_cons_self
    have hq : q ∈ own i := S.mine hqb
    have hqa : q ∉ as := fun z => by have := fr q z; rw [h3] at this; cases this
    have sA : Same H H3 := (s1.trans s2).trans s3
    rw [hbs] at nbs
    obtain ⟨k1, k2⟩ := List.nodup_cons.mp nbs
    obtain ⟨k3, k4, k5⟩ := List.nodup_append.mp k2
    obtain ⟨k6, k7, k8⟩ := List.nodup_append.mp k4
    have alive : ∀ b, b ∈ bs → H b ≠ none := fun b hb => E.alive (.inr ⟨i, S.mine hb⟩)
    have inb : ∀ b, b ∈ L0 ∨ b ∈ R0 → b ∈ bs := fun b hb => by
      rw [hbs]
      refine List.mem_cons_of_mem _ ?_
      rcases hb with z | z
      · exact List.mem_append_left _ z
      · exact List.mem_append_right _ (List.mem_append_right _ z)
    have nq : ∀ b, b ∈ L0 ∨ b ∈ R0 → b ≠ q := fun b hb z => k1 (by
      rw [← z]
      rcases hb with y | y
      · exact List.mem_append_left _ y
      · exact List.mem_append_right _ (List.mem_append_right _ y))
    have nas : ∀ b, b ∈ L0 ∨ b ∈ R0 → b ∉ as := fun b hb z => alive b (inb b hb) (fr b z)
    have ndc : (q :: (L0 ++ (as ++ R0))).Nodup := by
      refine List.nodup_cons.mpr ⟨fun z => ?_, List.nodup_append.mpr ⟨k3, List.nodup_append.mpr ⟨nd, k7, fun b hb c' hc z => nas c' (.inr hc) (z ▸ hb)⟩, fun b hb c' hc z => ?_⟩⟩
      · rcases List.mem_append.mp z with z | z
        · exact nq q (.inl z) rfl
        · rcases List.mem_append.mp z with z | z
          · exact hqa z
          · exact nq q (.inr z) rfl
      · rcases List.mem_append.mp hc with y | y
        · exact nas b (.inl hb) (z ▸ y)
        · exact k5 b hb c' (List.mem_append_right _ y) z
    have hf : ∀ b x, b ∉ bs → H b = some x → upd H3 q (.dK (L2.putK us κ y)) b = some x := fun b x hb h => by
      rw [upd_ne (fun z : b = q => hb (z ▸ hqb))]; exact sA _ _ h
    have hc : ∀ b ∈ q :: (L0 ++ (as ++ R0)), b ∈ bs ∨ H b = none := fun b hb => by
      rcases List.mem_cons.mp hb with rfl | hb
      · exact .inl hqb
      · rcases List.mem_append.mp hb with z | z
        · exact .inl (inb b (.inl z))
        · rcases List.mem_append.mp z with z | z
          · exact .inr (fr b z)
          · exact .inl (inb b (.inr z))
    have hav : ∀ b, Av (setO own i (L ++ ((q :: (L0 ++ (as ++ R0))) ++ R))) B b → Av own B b ∨ b ∈ as := fun b hb => by
      rcases S.avs hb with z | z
      · exact .inl z
      · rcases hc b z with y | y
        · exact .inl (.inr ⟨i, S.mine y⟩)
        · rcases List.mem_cons.mp z with rfl | z
          · exact .inl (.inr ⟨i, hq⟩)
          · rcases List.mem_append.mp z with x | x
            · exact .inl (.inr ⟨i, S.mine (inb b (.inl x))⟩)
            · rcases List.mem_append.mp x with x | x
              · exact .inr x
              · exact .inl (.inr ⟨i, S.mine (inb b (.inr x))⟩)
    have hA : Av own B q := .inr ⟨i, hq⟩
    have kp : Kp (Av own B) (Av (setO own i (L ++ ((q :: (L0 ++ (as ++ R0))) ++ R))) B) H (upd H3 q (.dK (L2.putK us κ y))) := by
      refine ⟨fun b vs hb _ h => ⟨fun z => ?_, ?_⟩, fun b vs h => ?_, fun b x z h => ?_⟩
      · rcases hav b z with z | z
        · exact hb z
        · rw [fr b z] at h; cases h
      · rw [upd_ne (fun z : b = q => hb (z ▸ hA))]; exact sA _ _ h
      · rw [upd_ne (fun z : b = q => by rw [z, h3] at h; cases h)]; exact sA _ _ h
      · rw [upd_ne (fun z : b = q => by rw [z, h3] at h; cases h)]; exact sA _ _ h
    refine ⟨q, _, rfl, DPut.k (sA _ _ h3) (by rw [h4.len]; exact small1000 (Nat.le_of_lt hl)), P _ _ _ (E.putAt (cs := q :: (L0 ++ (as ++ R0))) hδ h0 S hf ndc hc ⟨q, _, _, rfl, rfl, upd_same, hp _ _ w y as kp (fun b hb x h => ?_) ?_⟩)⟩
    · rw [upd_ne (nq b hb)]; exact sA _ _ h
    · exact RepO.behind r (s2.trans s3) hA (s1 _ _ h3) trivial hqa hav⟩⟩⟩
theorem s1_appendX (ho : PlD X δ o i p) (hδ : δ[i]? = some (.own oa (.n t))) (ht : t.at p = some (.l ys)) (he : ExD X δ e w []) (hz : ys.length < 1000) (hst : starEach [e] X.env = [(false, eval e X.env)] := by rfl)
    (hb : ∀ {te : TE} {tt : TA}, PE X o te → PA X [e] tt → PE X (.Call (.Attribute o "append" apos) [e] [] cpos) (tBM X.K "list" rAppend te tt) := by exact fun h1 h2 => pe_bm PySem.F.plainAttrs_list PySem.F.slot_list_append PySem.F.type_list_append mt_append h1 h2)
    (hsw : swapsWith (.Call (.Attribute o "append" apos) [e] [] cpos) none pos.line X.env = pure false := by rfl) :
    S1 X δ (.Expr (.Call (.Attribute o "append" apos) [e] [] cpos) pos) (.nx (δ.set i (.own oa (.n (t.put p (.l (ys ++ [w]))))))) :=
  fun pins s σ H D I hh52 => Zz.a5 hh52 fun Hb own B E P => ps_expr (hb ho (exa_cons he exa_nil (hs := by rw [hst]; rfl))) hsw pins s σ H D I ⟨Hb, own, B, E, fun v0 v H1 s1 h0 hw => by
    have E1 := E.mono s1
    obtain ⟨L, bs, R, S⟩ := E1.seenAt hδ ht h0 hw
    obtain ⟨q, vs, bs0, rfl, hbs, h3, h4⟩ := S.rep
    refine ⟨.inl ⟨rfl, vs, SqL.of h3⟩, Hb, own, B, E1, fun ws as H2 s2 h1 nd r => ?_⟩
    obtain ⟨y, r', as', as2, rfl, rfl, ru, e2, e3⟩ := r
    cases e2; cases e3
    rw [List.append_nil] at h1 nd ru
    have fr : ∀ b ∈ as', H1 b = none := fun b hb => (h1 b hb).elim id fun ⟨_, z, _⟩ => by simp at z
    have hqb : q ∈ bs := by rw [hbs]; exact List.mem_cons_self
    have hA : Av own B q := .inr ⟨i, S.mine hqb⟩
    have nds := (S.nd E1).2.2
    have hqa : q ∉ as' := fun z => by have := fr q z; rw [h3] at this; cases this
    have alive : ∀ b, b ∈ bs → H1 b ≠ none := fun b hb => E1.alive (.inr ⟨i, S.mine hb⟩)
    have ndc : (bs ++ as').Nodup := List.nodup_append.mpr ⟨nds, nd, fun b hb c hc z => alive b hb (z ▸ fr c hc)⟩
    have hc : ∀ b ∈ bs ++ as', b ∈ bs ∨ H1 b = none := fun b hb => (List.mem_append.mp hb).imp id (fr b)
    have hav : ∀ b, Av (setO own i (L ++ ((bs ++ as') ++ R))) B b → Av own B b ∨ b ∈ as' := fun b hb => by
      rcases S.avs hb with z | z
      · exact .inl z
      · rcases List.mem_append.mp z with y | y
        · exact .inl (.inr ⟨i, S.mine y⟩)
        · exact .inr y
    have k1 : q ∉ bs0 := by rw [hbs] at nds; exact (List.nodup_cons.mp nds).1
    have kp : Kp (Av own B) (Av (setO own i (L ++ ((bs ++ as') ++ R))) B) H1 (upd H2 q (.lst (vs ++ [y]))) := by
      refine ⟨fun b vs hb _ h => ⟨fun z => ?_, ?_⟩, fun b vs h => ?_, fun b x z h => ?_⟩
      · rcases hav b z with z | z
        · exact hb z
        · rw [fr b z] at h; cases h
      · rw [upd_ne (fun z : b = q => hb (z ▸ hA))]; exact s2 _ _ h
      · rw [upd_ne (fun z : b = q => by rw [z, h3] at h; cases h)]; exact s2 _ _ h
      · rw [upd_ne (fun z : b = q => by rw [z, h3] at h; cases h)]; exact s2 _ _ h
    refine ⟨q, vs, y, rfl, rfl, s2 _ _ h3, by rw [← repOs_len h4]; exact small1000 (Nat.le_of_lt hz), P _ _ _ (E1.putAt (cs := bs ++ as') hδ h0 S (fun b x hb h => by rw [upd_ne (fun z : b = q => hb (z ▸ hqb))]; exact s2 _ _ h) ndc hc ⟨q, vs ++ [y], bs0 ++ as', rfl, by rw [hbs]; rfl, upd_same, ?_⟩)⟩
    refine RepOs.append (RepOs.kp kp _ _ _ (fun b hb x z => ?_) h4) ⟨y, [], as', [], rfl, by simp, ?_, rfl, rfl⟩
    · rw [upd_ne fun y : b = q => k1 (y ▸ hb)]; exact s2 _ _ z
    · exact RepO.behind ru (Same.refl H2) hA (s2 _ _ h3) trivial hqa hav⟩
theorem s1_remP (ho : PlD X δ o i p) (hδ : δ[i]? = some (.own oa (.n t))) (ht : t.at p = some (.l ((iD ns).map .sh))) (he : EvD X δ e (.int m)) (hk : m ∈ ns) (hst : starEach [e] X.env = [(false, eval e X.env)] := by rfl)
    (hb : ∀ {te : TE} {tt : TA}, PE X o te → PA X [e] tt → PE X (.Call (.Attribute o "remove" apos) [e] [] cpos) (tBM X.K "list" rRemI te tt) := by exact fun h1 h2 => pe_bm PySem.F.plainAttrs_list PySem.F.slot_list_remove PySem.F.type_list_remove mt_remI h1 h2)
    (hsw : swapsWith (.Call (.Attribute o "remove" apos) [e] [] cpos) none pos.line X.env = pure false := by rfl) :
    S1 X δ (.Expr (.Call (.Attribute o "remove" apos) [e] [] cpos) pos) (.nx (δ.set i (.own oa (.n (t.put p (.l ((iD (ns.erase m)).map .sh))))))) :=
  fun pins s σ H D I hh53 => Zz.a5 hh53 fun Hb own B E P => ps_expr (hb ho (ea_cons he ea_nil (by rw [hst]; rfl))) hsw pins s σ H D I ⟨Hb, own, B, E, fun v0 v H1 s1 h0 hw => by
    obtain ⟨L, bs, R, S⟩ := (E.mono s1).seenAt hδ ht h0 hw
    obtain ⟨q, vs, bs0, rfl, hbs, h3, h4⟩ := S.rep
    obtain ⟨rfl, h5⟩ := repOs_sh h4
    have h6 := h5.iD_eq
    subst h6
    refine ⟨.inl ⟨rfl, _, SqL.of h3⟩, Hb, own, B, E.mono s1, fun ws H2 s2 r => ?_⟩
    obtain ⟨y, r', rfl, ru, e2⟩ := r
    cases e2; cases ru
    have hqb : q ∈ bs := by rw [hbs]; exact List.mem_cons_self
    exact ⟨q, ns, m, rfl, rfl, s2 _ _ h3, hk, P _ _ _ ((E.mono s1).putOne hδ h0 S s2 hqb ⟨q, _, [], rfl, hbs, upd_same, reps_sh (Reps.iD _)⟩)⟩⟩
end
end L2
end
section
namespace L2
open PySem PySem.Spec PyProof.Rows
section
variable {K : PySem.W.Frag} {Hb : Hp} {own : Nat → List Addr} {B : Addr → Prop} {H H' : Hp} {σ : St} {δ : Dn} {i k : Nat} {oa : Option Addr} {xs : List OT} {u u' : OT} {a : Addr} {v0 : V}
theorem at_ix {w : OT} (h : xs[k]? = some w) : (OT.l xs).at [.ix k] = some w := by
  show (match xs[k]? with | some u => u.at [] | none => none) = _
  rw [h]; rfl
theorem put_ix {w : OT} (h : k < xs.length) : (OT.l xs).put [.ix k] w = .l (xs.set k w) := by
  show (match xs[k]? with | some z => OT.l (xs.set k (z.put [] w)) | none => .l xs) = _
  rw [List.getElem?_eq_getElem h]; rfl
theorem EnvO.hoist (E : EnvO K Hb own B H σ δ) (hδ : δ[i]? = some (.own oa (.n (.l xs)))) (hk : xs[k]? = some u) (h0 : σ[i]? = some (some v0)) (hw : Way H v0 [.ix k] (.ref a)) :
    ∃ own', EnvO K Hb own' B H (σ ++ [some (.ref a)]) (δ.set i (.own oa (.n (.l (xs.set k (.sh (holeD a)))))) ++ [.own (some a) (.n u)]) ∧ ∀ b, Av own' B b → Av own B b := by
  have hkl : k < xs.length := (List.getElem?_eq_some_iff.mp hk).1
  obtain ⟨L, bs, R, S⟩ := E.seenAt hδ (at_ix hk) h0 hw
  have hil : i < δ.length := (List.getElem?_eq_some_iff.mp hδ).1
  have nd := S.nd E
  let ow : Nat → List Addr := fun j => if j = δ.length then bs else if j = i then L ++ R else own j
  have o1 : ow δ.length = bs := if_pos rfl
  have o2 : ow i = L ++ R := by show (if i = δ.length then bs else _) = _; rw [if_neg (by omega), if_pos rfl]
  have o3 : ∀ j, j ≠ δ.length → j ≠ i → ow j = own j := fun j h1 h2 => by show (if j = δ.length then bs else _) = _; rw [if_neg h1, if_neg h2]
  have hown : ∀ j, δ.length ≤ j → own j = [] := fun j hj => by
    cases q : own j with
    | nil => rfl
    | cons b r =>
      obtain ⟨oa', c, z⟩ := E.oex j b (by rw [q]; exact List.mem_cons_self)
      have := (List.getElem?_eq_some_iff.mp z).1
      omega
  have tk : ∀ j b, b ∈ ow j → (j = δ.length ∧ b ∈ bs) ∨ (j = i ∧ b ∈ L ++ R) ∨ (j ≠ δ.length ∧ j ≠ i ∧ b ∈ own j) := fun j b h => by
    by_cases h1 : j = δ.length
    · subst h1; rw [o1] at h; exact .inl ⟨rfl, h⟩
    · by_cases h2 : j = i
      · subst h2; rw [o2] at h; exact .inr (.inl ⟨rfl, h⟩)
      · rw [o3 j h1 h2] at h; exact .inr (.inr ⟨h1, h2, h⟩)
  have inI : ∀ b, b ∈ bs ∨ b ∈ L ++ R → b ∈ own i := fun b h => by
    rw [S.eq]
    rcases h with h | h
    · exact List.mem_append_right _ (List.mem_append_left _ h)
    · rcases List.mem_append.mp h with h | h
      · exact List.mem_append_left _ h
      · exact List.mem_append_right _ (List.mem_append_right _ h)
  have src : ∀ j b, b ∈ ow j → ∃ j', b ∈ own j' ∧ (j' = j ∨ (j = δ.length ∧ j' = i)) := fun j b h => by
    rcases tk j b h with ⟨rfl, g⟩ | ⟨rfl, g⟩ | ⟨_, _, g⟩
    · exact ⟨i, inI b (.inl g), .inr ⟨rfl, rfl⟩⟩
    · exact ⟨j, inI b (.inr g), .inl rfl⟩
    · exact ⟨j, g, .inl rfl⟩
  have av : ∀ b, Av ow B b → Av own B b := fun b h => h.imp id fun ⟨j, z⟩ => let ⟨j', q, _⟩ := src j b z; ⟨j', q⟩
  have lenA : (δ.set i (.own oa (.n (.l (xs.set k (.sh (holeD a))))))).length = δ.length := List.length_set
  refine ⟨ow, ⟨E.base, by simp [E.len], E.bb, fun j b h => ?_, fun j b h => ?_, fun j => ?_, fun j j2 b h h' => ?_, fun j d h => ?_, fun j oa' c h => ?_⟩, av⟩
  · obtain ⟨j', q, _⟩ := src j b h
    exact E.ofr j' b q
  · rcases tk j b h with ⟨rfl, h⟩ | ⟨rfl, h⟩ | ⟨h1, h2, h⟩
    · exact ⟨some a, .n u, by rw [List.getElem?_append_right (by rw [lenA]; exact Nat.le_refl _), lenA, Nat.sub_self]; rfl⟩
    · exact ⟨oa, _, by rw [List.getElem?_append_left (by rw [lenA]; exact hil), List.getElem?_set_self hil]⟩
    · obtain ⟨oa', c, z⟩ := E.oex j b h
      exact ⟨oa', c, by rw [List.getElem?_append_left (by rw [lenA]; exact (List.getElem?_eq_some_iff.mp z).1), List.getElem?_set_ne (Ne.symm h2)]; exact z⟩
  · by_cases h1 : j = δ.length
    · subst h1; rw [o1]; exact nd.2.2
    · by_cases h2 : j = i
      · subst h2; rw [o2]; exact nd.2.1
      · rw [o3 j h1 h2]; exact E.ond j
  · rcases tk j b h with ⟨rfl, g⟩ | ⟨rfl, g⟩ | ⟨h1, h2, g⟩ <;> rcases tk j2 b h' with ⟨rfl, g'⟩ | ⟨rfl, g'⟩ | ⟨h1', h2', g'⟩
    · rfl
    · have := nd.1 b g
      rcases List.mem_append.mp g' with z | z
      · exact absurd z this.1
      · exact absurd z this.2
    · exact absurd (E.inj _ _ b g' (inI b (.inl g))) h2'
    · have := nd.1 b g'
      rcases List.mem_append.mp g with z | z
      · exact absurd z this.1
      · exact absurd z this.2
    · rfl
    · exact absurd (E.inj _ _ b g' (inI b (.inr g))) h2'
    · exact absurd (E.inj _ _ b g (inI b (.inl g'))) h2
    · exact absurd (E.inj _ _ b g (inI b (.inr g'))) h2
    · exact E.inj _ _ b g g'
  · by_cases hj : j < δ.length
    · rw [List.getElem?_append_left (by rw [lenA]; exact hj)] at h
      by_cases hji : i = j
      · subst hji
        rw [List.getElem?_set_self hil] at h; cases h
      · rw [List.getElem?_set_ne hji] at h
        obtain ⟨v, q1, q2⟩ := E.sh j d h
        exact ⟨v, by rw [List.getElem?_append_left (by rw [E.len]; exact hj)]; exact q1, q2.av av⟩
    · by_cases hj2 : j = δ.length
      · subst hj2
        rw [List.getElem?_append_right (by rw [lenA]; exact Nat.le_refl _), lenA, Nat.sub_self] at h
        cases h
      · rw [List.getElem?_eq_none (by simp; omega)] at h; cases h
  · by_cases hj : j < δ.length
    · rw [List.getElem?_append_left (by rw [lenA]; exact hj)] at h
      by_cases hji : i = j
      · subst hji
        rw [List.getElem?_set_self hil] at h; cases h
        obtain ⟨v, q1, q2, _⟩ := E.ow i oa _ hδ
        rw [h0] at q1; cases q1
        refine ⟨v0, by rw [List.getElem?_append_left (by rw [E.len]; exact hj)]; exact h0, q2, ?_⟩
        rw [o2]
        have := S.put (Av ow B) H (.sh (holeD a)) [] (.avoid av) (fun _ _ _ z => z) ⟨rfl, hole_rep⟩
        rw [put_ix hkl] at this
        exact this
      · rw [List.getElem?_set_ne hji] at h
        obtain ⟨v, q1, q2, q3⟩ := E.ow j oa' c h
        exact ⟨v, by rw [List.getElem?_append_left (by rw [E.len]; exact hj)]; exact q1, q2, by rw [o3 j (by omega) (Ne.symm hji)]; exact q3.av av⟩
    · by_cases hj2 : j = δ.length
      · subst hj2
        rw [List.getElem?_append_right (by rw [lenA]; exact Nat.le_refl _), lenA, Nat.sub_self] at h
        cases h
        refine ⟨.ref a, by rw [List.getElem?_append_right (by rw [E.len]; exact Nat.le_refl _), E.len, Nat.sub_self]; rfl, fun b z => by cases z; rfl, ?_⟩
        rw [o1]
        exact RepC.av (c := .n u) S.rep av
      · rw [List.getElem?_eq_none (by simp; omega)] at h; cases h
theorem EnvO.unhoist (E : EnvO K Hb own B H (σ ++ [some (.ref a)]) (δ ++ [.own oa' (.n u')])) (hδ : δ[i]? = some (.own oa (.n (.l xs)))) (hk : xs[k]? = some (.sh (holeD a))) :
    ∃ own', EnvO K Hb own' B H σ (δ.set i (.own oa (.n (.l (xs.set k u'))))) ∧ ∀ b, Av own' B b → Av own B b := by
  have hkl : k < xs.length := (List.getElem?_eq_some_iff.mp hk).1
  have hil : i < δ.length := (List.getElem?_eq_some_iff.mp hδ).1
  have hls : σ.length = δ.length := by have := E.len; simpa using this
  have up : ∀ (j : Nat) (e : Ent), δ[j]? = some e → (δ ++ [.own oa' (.n u')])[j]? = some e := fun j e h => by rw [List.getElem?_append_left (List.getElem?_eq_some_iff.mp h).1]; exact h
  have dn : ∀ (j : Nat) (v : V), j < δ.length → (σ ++ [some (.ref a)])[j]? = some (some v) → σ[j]? = some (some v) := fun j v hj h => by rw [List.getElem?_append_left (by omega)] at h; exact h
  obtain ⟨v0, hv0, hq0, r0⟩ := E.ow i oa _ (up i _ hδ)
  obtain ⟨va, hva, _, ra⟩ := E.ow δ.length oa' (.n u') (by rw [List.getElem?_append_right (Nat.le_refl _), Nat.sub_self]; rfl)
  have eva : va = .ref a := by
    rw [← hls, List.getElem?_append_right (Nat.le_refl _), Nat.sub_self] at hva
    cases hva; rfl
  subst eva
  obtain ⟨v', L, bs, R, eo, w, rb, put⟩ := RepO.focus (K := K) r0 (at_ix hk)
  obtain ⟨rfl, rh⟩ := rb
  have ev := rep_hole rh
  subst ev
  let ow : Nat → List Addr := fun j => if j = δ.length then [] else if j = i then L ++ (own δ.length ++ R) else own j
  have o1 : ow δ.length = [] := if_pos rfl
  have o2 : ow i = L ++ (own δ.length ++ R) := by show (if i = δ.length then [] else _) = _; rw [if_neg (by omega), if_pos rfl]
  have o3 : ∀ j, j ≠ δ.length → j ≠ i → ow j = own j := fun j h1 h2 => by show (if j = δ.length then [] else _) = _; rw [if_neg h1, if_neg h2]
  have tk : ∀ j b, b ∈ ow j → (j = i ∧ (b ∈ own δ.length ∨ b ∈ own i)) ∨ (j ≠ δ.length ∧ j ≠ i ∧ b ∈ own j) := fun j b h => by
    by_cases h1 : j = δ.length
    · subst h1; rw [o1] at h; cases h
    · by_cases h2 : j = i
      · subst h2
        rw [o2] at h
        refine .inl ⟨rfl, ?_⟩
        rw [eo]
        rcases List.mem_append.mp h with z | z
        · exact .inr (List.mem_append_left _ z)
        · rcases List.mem_append.mp z with z | z
          · exact .inl z
          · exact .inr (List.mem_append_right _ (by simpa using z))
      · rw [o3 j h1 h2] at h; exact .inr ⟨h1, h2, h⟩
  have src : ∀ j b, b ∈ ow j → ∃ j', b ∈ own j' := fun j b h => by
    rcases tk j b h with ⟨_, z | z⟩ | ⟨_, _, z⟩
    · exact ⟨_, z⟩
    · exact ⟨_, z⟩
    · exact ⟨_, z⟩
  have av : ∀ b, Av ow B b → Av own B b := fun b h => h.imp id fun ⟨j, z⟩ => src j b z
  refine ⟨ow, ⟨E.base, by simp [hls], E.bb, fun j b h => ?_, fun j b h => ?_, fun j => ?_, fun j j2 b h h' => ?_, fun j d h => ?_, fun j oa2 c h => ?_⟩, av⟩
  · obtain ⟨j', q⟩ := src j b h
    exact E.ofr j' b q
  · rcases tk j b h with ⟨rfl, _⟩ | ⟨h1, h2, h⟩
    · exact ⟨oa, _, by rw [List.getElem?_set_self hil]⟩
    · obtain ⟨oa2, c, z⟩ := E.oex j b h
      have hj : j < δ.length := by
        have := (List.getElem?_eq_some_iff.mp z).1
        simp at this
        omega
      rw [List.getElem?_append_left hj] at z
      exact ⟨oa2, c, by rw [List.getElem?_set_ne (Ne.symm h2)]; exact z⟩
  · by_cases h1 : j = δ.length
    · subst h1; rw [o1]; exact List.nodup_nil
    · by_cases h2 : j = i
      · subst h2
        rw [o2]
        have n1 := E.ond j
        rw [eo] at n1
        obtain ⟨n2, n3, n4⟩ := List.nodup_append.mp n1
        have n5 : R.Nodup := by simpa using n3
        have dj : ∀ b, b ∈ own δ.length → b ∉ own j := fun b hb hz => by
          have := E.inj _ _ b hb hz
          omega
        refine List.nodup_append.mpr ⟨n2, List.nodup_append.mpr ⟨E.ond _, n5, fun b hb c hc z => ?_⟩, fun b hb c hc z => ?_⟩
        · exact dj b hb (by rw [eo, z]; exact List.mem_append_right _ (by simpa using hc))
        · rcases List.mem_append.mp hc with y | y
          · exact dj c y (by rw [eo, ← z]; exact List.mem_append_left _ hb)
          · exact n4 b hb c (by simpa using y) z
      · rw [o3 j h1 h2]; exact E.ond j
  · rcases tk j b h with ⟨rfl, g⟩ | ⟨h1, h2, g⟩ <;> rcases tk j2 b h' with ⟨rfl, g'⟩ | ⟨h1', h2', g'⟩
    · rfl
    · rcases g with g | g
      · exact absurd (E.inj _ _ b g' g) h1'
      · exact absurd (E.inj _ _ b g' g) h2'
    · rcases g' with g' | g'
      · exact absurd (E.inj _ _ b g g') h1
      · exact absurd (E.inj _ _ b g g') h2
    · exact E.inj _ _ b g g'
  · by_cases hji : i = j
    · subst hji
      rw [List.getElem?_set_self hil] at h; cases h
    · rw [List.getElem?_set_ne hji] at h
      obtain ⟨v, q1, q2⟩ := E.sh j d (up j _ h)
      exact ⟨v, dn j v (List.getElem?_eq_some_iff.mp h).1 q1, q2.av av⟩
  · by_cases hji : i = j
    · subst hji
      rw [List.getElem?_set_self hil] at h; cases h
      refine ⟨v0, dn i v0 hil hv0, hq0, ?_⟩
      rw [o2]
      have := put (Av ow B) H u' (own δ.length) (.avoid av) (fun _ _ _ z => z) (RepC.av (c := .n u') ra av)
      rw [put_ix hkl] at this
      exact this
    · rw [List.getElem?_set_ne hji] at h
      obtain ⟨v, q1, q2, q3⟩ := E.ow j oa2 c (up j _ h)
      have hj := (List.getElem?_eq_some_iff.mp h).1
      exact ⟨v, dn j v hj q1, q2, by rw [o3 j (by omega) (Ne.symm hji)]; exact q3.av av⟩
theorem callee_sl {l : List AE} {vs : List V} {ad : Nat → Addr} {own0 : Nat → List Addr} {B0 : Addr → Prop} {c : Cont} (E : EnvO K Hb own B H σ δ) (C : Callee K own B σ H H l vs ad own0 B0) (hδ : δ[i]? = some (.own oa c)) (hv : σ[i]? = some (some (.ref a))) (hn : i ∉ slots l) :
    Callee K own B σ H H (.sl i oa c :: l) (.ref a :: vs) (consA a ad) (consO (own i) own0) (fun b => B0 b ∧ b ∉ own i) := by
  obtain ⟨v, h1, _, h4⟩ := E.ow i oa c hδ
  rw [hv] at h1; cases h1
  refine callee_own (B' := B) (c := c) (as := own i) (Same.refl H) (Same.refl H) C rfl (fun _ z => z) (fun _ z => .inl z) (fun b hb => .inr ⟨i, hb⟩) (fun b hb j z => ?_) (E.ond i) h4 (.inl ⟨i, oa, c, rfl, rfl⟩) (fun i' oa' c' z => by cases z; exact ⟨rfl, hv⟩)
  rcases C.src j b z with ⟨i', oa', c', q1, q2⟩ | q1
  · have := E.inj i i' b hb q2
    subst this
    exact hn (mem_slots q1)
  · exact E.alive (.inr ⟨i, hb⟩) q1
theorem callee_ds (E : EnvO K Hb own B H σ δ) : ∀ {ds : List PyData} {vs : List V}, Reps K (Av own B) H ds vs → ∃ ad own0 B0, Callee K own B σ H H (ds.map .d) vs ad own0 B0
  | [], _, h => by cases h; exact ⟨_, _, _, callee_nil E⟩
  | d :: ds, _, h => by
    obtain ⟨v, r, rfl, h1, h2⟩ := h
    obtain ⟨ad, own0, B0, C⟩ := callee_ds E h2
    exact ⟨_, _, _, callee_d (Same.refl H) (Same.refl H) C h1⟩
theorem slots_ds : ∀ ds : List PyData, slots (ds.map .d) = []
  | [] => rfl
  | _ :: r => slots_ds r
theorem mkA_ds : ∀ (ds : List PyData) (ad : Nat → Addr), mkA ad (ds.map .d) = ds.map .sh
  | [], _ => rfl
  | d :: r, ad => by rw [List.map_cons, mkA, mkA_ds r]; rfl
theorem mkB_ds : ∀ (ds : List PyData) (ad : Nat → Addr) (cs : Nat → Cont), mkB ad cs (ds.map .d) = ds.map fun _ => .no
  | [], _, _ => rfl
  | d :: r, ad, cs => by rw [List.map_cons, mkB, mkB_ds r]; rfl
theorem updS_ds : ∀ (ds : List PyData) (δ : Dn) (cs : Nat → Cont), updS δ cs (ds.map .d) = δ
  | [], _, _ => rfl
  | d :: r, δ, cs => by rw [List.map_cons, updS, updS_ds r]
theorem slOk_ds {δ : Dn} : ∀ ds : List PyData, SlOk δ (ds.map .d)
  | [] => trivial
  | _ :: r => slOk_ds r
end
section
variable {X : Cx} {δ : Dn} {e1 e2 e3 : Expr} {es : List Expr} {d : PyData} {pos p : Pos} {ds : List PyData} {ps : List Str} {name : Str} {k j : Nat} {R : List Ent → List Ent → PyData → Prop} {i1 i2 i3 k1 k2 k3 : Nat} {oa1 oa2 oa3 : Option Addr} {xs1 xs2 xs3 : List OT} {u1 u2 u3 w1 w2 w3 : OT}
theorem ev_callP3 (G : Fn X.prog X.w X.K X.mg X.base name j ps (spM X.K R)) (hr : Room k X.A) (hjk : j ≤ k) (hg : Gl X name) (p1 : PlD X δ e1 i1 [.ix k1]) (p2 : PlD X δ e2 i2 [.ix k2]) (p3 : PlD X δ e3 i3 [.ix k3]) (ha : EaD X δ es ds)
    (d1 : δ[i1]? = some (.own oa1 (.n (.l xs1)))) (d2 : δ[i2]? = some (.own oa2 (.n (.l xs2)))) (d3 : δ[i3]? = some (.own oa3 (.n (.l xs3)))) (x1 : xs1[k1]? = some u1) (x2 : xs2[k2]? = some u2) (x3 : xs3[k3]? = some u3) (n12 : i1 ≠ i2) (n13 : i1 ≠ i3) (n23 : i2 ≠ i3)
    (r1 : (Cont.n u1).isRef = true) (r2 : (Cont.n u2).isRef = true) (r3 : (Cont.n u3).isRef = true)
    (hR : ∀ a1 a2 a3, R (.own (some a1) (.n u1) :: .own (some a2) (.n u2) :: .own (some a3) (.n u3) :: ds.map .sh) (.own (some a1) (.n w1) :: .own (some a2) (.n w2) :: .own (some a3) (.n w3) :: ds.map fun _ => .no) d) (hs : scalD d = true) (hdb : (name == ("__debug__" : Str)) = false := by decide)
    (hs1 : starEach (e1 :: e2 :: e3 :: es) X.env = (false, eval e1 X.env) :: starEach (e2 :: e3 :: es) X.env := by rfl) (hs2 : starEach (e2 :: e3 :: es) X.env = (false, eval e2 X.env) :: starEach (e3 :: es) X.env := by rfl) (hs3 : starEach (e3 :: es) X.env = (false, eval e3 X.env) :: starEach es X.env := by rfl)
    (hpl : (backTo pos (starEach (e2 :: e3 :: es) X.env)).any (·.1) = false := by rfl) :
    EvM X δ (.Call (.Name name p) (e1 :: e2 :: e3 :: es) [] pos) d (((δ.set i1 (.own oa1 (.n (.l (xs1.set k1 w1))))).set i2 (.own oa2 (.n (.l (xs2.set k2 w2))))).set i3 (.own oa3 (.n (.l (xs3.set k3 w3))))) := by
  obtain ⟨f, fd, h1, h2, h3, h4⟩ := G.ex
  intro pins s σ H Q I ⟨Hb, own, B, E, q⟩
  refine pe_call h1 (hr.mono hjk) hg h2 h3 h4 .nil pass0 (pa_cons p1 (pa_cons p2 (pa_cons p3 ha hs3) hs2) hs1) hdb hs1 hpl pins s σ H Q I ⟨Hb, own, B, E, fun v1 y1 H1 s1 z1 w1' => ⟨Hb, own, B, E.mono s1, fun v2 y2 H2 s2 z2 w2' => ⟨Hb, own, B, (E.mono s1).mono s2, fun v3 y3 H3 s3 z3 w3' => ⟨Hb, own, B, ((E.mono s1).mono s2).mono s3, fun vs H4 s4 rv => ?_⟩⟩⟩⟩
  show spM X.K R (y1 :: y2 :: y3 :: (vs ++ [])) H4 Q E0
  rw [List.append_nil]
  have E4 := ((E.mono s1).mono s2).mono s3 |>.mono s4
  have l1 : i1 < δ.length := (List.getElem?_eq_some_iff.mp d1).1
  have l2 : i2 < δ.length := (List.getElem?_eq_some_iff.mp d2).1
  have l3 : i3 < δ.length := (List.getElem?_eq_some_iff.mp d3).1
  have W1 := w1'.up ((s2.trans s3).trans s4)
  have W2 := w2'.up (s3.trans s4)
  have W3 := w3'.up s4
  obtain ⟨L1, b1, R1, S1⟩ := E4.seenAt d1 (at_ix x1) z1 W1
  obtain ⟨a1, rfl⟩ := RepC.ref (c := .n u1) r1 S1.rep
  obtain ⟨L2', b2, R2, S2⟩ := E4.seenAt d2 (at_ix x2) z2 W2
  obtain ⟨a2, rfl⟩ := RepC.ref (c := .n u2) r2 S2.rep
  obtain ⟨L3, b3, R3, S3⟩ := E4.seenAt d3 (at_ix x3) z3 W3
  obtain ⟨a3, rfl⟩ := RepC.ref (c := .n u3) r3 S3.rep
  obtain ⟨owA, EA, avA⟩ := E4.hoist d1 x1 z1 W1
  have lsA : (δ.set i1 (Ent.own oa1 (.n (.l (xs1.set k1 (.sh (holeD a1))))))).length = δ.length := List.length_set
  have dA2 : (δ.set i1 (.own oa1 (.n (.l (xs1.set k1 (.sh (holeD a1)))))) ++ [.own (some a1) (.n u1)])[i2]? = some (.own oa2 (.n (.l xs2))) := by
    rw [List.getElem?_append_left (by rw [lsA]; exact l2), List.getElem?_set_ne n12]; exact d2
  have zA2 : (σ ++ [some (V.ref a1)])[i2]? = some (some v2) := by rw [List.getElem?_append_left (by rw [E.len]; exact l2)]; exact z2
  obtain ⟨owB, EB, avB⟩ := EA.hoist dA2 x2 zA2 W2
  rw [List.set_append_left _ _ (by rw [lsA]; exact l2)] at EB
  have lsB : ((δ.set i1 (Ent.own oa1 (.n (.l (xs1.set k1 (.sh (holeD a1))))))).set i2 (Ent.own oa2 (.n (.l (xs2.set k2 (.sh (holeD a2))))))).length = δ.length := by rw [List.length_set, List.length_set]
  have dB3 : (((δ.set i1 (.own oa1 (.n (.l (xs1.set k1 (.sh (holeD a1))))))).set i2 (.own oa2 (.n (.l (xs2.set k2 (.sh (holeD a2))))))) ++ [.own (some a1) (.n u1)] ++ [.own (some a2) (.n u2)])[i3]? = some (.own oa3 (.n (.l xs3))) := by
    rw [List.getElem?_append_left (by rw [List.length_append, lsB]; simp; omega), List.getElem?_append_left (by rw [lsB]; exact l3), List.getElem?_set_ne n23, List.getElem?_set_ne n13]; exact d3
  have zB3 : (σ ++ [some (V.ref a1)] ++ [some (V.ref a2)])[i3]? = some (some v3) := by rw [List.getElem?_append_left (by rw [List.length_append, E.len]; simp; omega), List.getElem?_append_left (by rw [E.len]; exact l3)]; exact z3
  obtain ⟨owC, EC, avC⟩ := EB.hoist dB3 x3 zB3 W3
  rw [List.set_append_left _ _ (by rw [List.length_append, lsB]; simp; omega), List.set_append_left _ _ (by rw [lsB]; exact l3)] at EC
  generalize hδ' : ((δ.set i1 (Ent.own oa1 (.n (.l (xs1.set k1 (.sh (holeD a1))))))).set i2 (Ent.own oa2 (.n (.l (xs2.set k2 (.sh (holeD a2))))))).set i3 (Ent.own oa3 (.n (.l (xs3.set k3 (.sh (holeD a3)))))) = δ' at EC
  have lsC : δ'.length = δ.length := by rw [← hδ', List.length_set, List.length_set, List.length_set]
  have g1 : (δ' ++ [Ent.own (some a1) (.n u1)] ++ [.own (some a2) (.n u2)] ++ [.own (some a3) (.n u3)])[δ.length]? = some (.own (some a1) (.n u1)) := by
    rw [List.append_assoc, List.append_assoc, List.getElem?_append_right (by omega), lsC, Nat.sub_self]; rfl
  have g2 : (δ' ++ [Ent.own (some a1) (.n u1)] ++ [.own (some a2) (.n u2)] ++ [.own (some a3) (.n u3)])[δ.length + 1]? = some (.own (some a2) (.n u2)) := by
    rw [List.append_assoc, List.append_assoc, List.getElem?_append_right (by omega), lsC, Nat.add_sub_cancel_left]; rfl
  have g3 : (δ' ++ [Ent.own (some a1) (.n u1)] ++ [.own (some a2) (.n u2)] ++ [.own (some a3) (.n u3)])[δ.length + 2]? = some (.own (some a3) (.n u3)) := by
    rw [List.append_assoc, List.append_assoc, List.getElem?_append_right (by omega), lsC, Nat.add_sub_cancel_left]; rfl
  have y1 : (σ ++ [some (V.ref a1)] ++ [some (.ref a2)] ++ [some (.ref a3)])[δ.length]? = some (some (.ref a1)) := by
    rw [List.append_assoc, List.append_assoc, List.getElem?_append_right (by rw [E.len]; omega), E.len, Nat.sub_self]; rfl
  have y2 : (σ ++ [some (V.ref a1)] ++ [some (.ref a2)] ++ [some (.ref a3)])[δ.length + 1]? = some (some (.ref a2)) := by
    rw [List.append_assoc, List.append_assoc, List.getElem?_append_right (by rw [E.len]; omega), E.len, Nat.add_sub_cancel_left]; rfl
  have y3 : (σ ++ [some (V.ref a1)] ++ [some (.ref a2)] ++ [some (.ref a3)])[δ.length + 2]? = some (some (.ref a3)) := by
    rw [List.append_assoc, List.append_assoc, List.getElem?_append_right (by rw [E.len]; omega), E.len, Nat.add_sub_cancel_left]; rfl
  obtain ⟨ad, own0, B0, CC⟩ := callee_ds EC (rv.av fun b z => avA b (avB b (avC b z)))
  have C3 := callee_sl EC CC g3 y3 (by rw [slots_ds]; exact List.not_mem_nil)
  have C2 := callee_sl EC C3 g2 y2 (by rw [slots, slots_ds]; simp)
  have C1 := callee_sl EC C2 g1 y1 (by rw [slots, slots, slots_ds]; simp)
  have hA : mkA (consA a1 (consA a2 (consA a3 ad))) (.sl δ.length (some a1) (.n u1) :: .sl (δ.length + 1) (some a2) (.n u2) :: .sl (δ.length + 2) (some a3) (.n u3) :: ds.map .d) = .own (some a1) (.n u1) :: .own (some a2) (.n u2) :: .own (some a3) (.n u3) :: ds.map .sh := by
    rw [mkA, mkA, mkA, mkA_ds]; rfl
  have hB : mkB (consA a1 (consA a2 (consA a3 ad))) (fun n => match n with | 0 => .n w1 | 1 => .n w2 | _ => .n w3) (.sl δ.length (some a1) (.n u1) :: .sl (δ.length + 1) (some a2) (.n u2) :: .sl (δ.length + 2) (some a3) (.n u3) :: ds.map .d) = .own (some a1) (.n w1) :: .own (some a2) (.n w2) :: .own (some a3) (.n w3) :: ds.map fun _ => .no := by
    rw [mkB, mkB, mkB, mkB_ds]; rfl
  refine ⟨_, _, _, (mkB (consA a1 (consA a2 (consA a3 ad))) (fun n => match n with | 0 => .n w1 | 1 => .n w2 | _ => .n w3) (.sl δ.length (some a1) (.n u1) :: .sl (δ.length + 1) (some a2) (.n u2) :: .sl (δ.length + 2) (some a3) (.n u3) :: ds.map .d)), d, C1.env, ?_, fun own' σ' v H' E' r => ?_⟩
  · rw [hA, hB]; exact hR a1 a2 a3
  · obtain ⟨Eb, _⟩ := callee_back EC (Same.refl H4) C1 (by exact ⟨g1, g2, g3, slOk_ds ds⟩) (by rw [slots, slots, slots, slots_ds]; simp) E'
    have hup : updS (δ' ++ [Ent.own (some a1) (.n u1)] ++ [.own (some a2) (.n u2)] ++ [.own (some a3) (.n u3)]) (fun n => match n with | 0 => .n w1 | 1 => .n w2 | _ => .n w3) (.sl δ.length (some a1) (.n u1) :: .sl (δ.length + 1) (some a2) (.n u2) :: .sl (δ.length + 2) (some a3) (.n u3) :: ds.map .d) = δ' ++ [Ent.own (some a1) (.n w1)] ++ [.own (some a2) (.n w2)] ++ [.own (some a3) (.n w3)] := by
      rw [updS, updS, updS, updS_ds, List.append_assoc, List.append_assoc, List.set_append_right _ _ (by omega), List.set_append_right _ _ (by omega), List.set_append_right _ _ (by omega), lsC, Nat.sub_self, Nat.add_sub_cancel_left, Nat.add_sub_cancel_left, List.append_assoc, List.append_assoc]
      rfl
    rw [hup] at Eb
    have e3 : (δ' ++ [Ent.own (some a1) (.n w1)] ++ [Ent.own (some a2) (.n w2)])[i3]? = some (.own oa3 (.n (.l (xs3.set k3 (.sh (holeD a3)))))) := by
      rw [List.append_assoc, List.getElem?_append_left (by omega), ← hδ', List.getElem?_set_self (by rw [lsB]; exact l3)]
    obtain ⟨ow3, E3', _⟩ := Eb.unhoist e3 (List.getElem?_set_self (List.getElem?_eq_some_iff.mp x3).1)
    rw [List.set_set, List.set_append_left _ _ (by rw [List.length_append]; omega), List.set_append_left _ _ (by omega)] at E3'
    have e2 : (δ'.set i3 (Ent.own oa3 (.n (.l (xs3.set k3 w3)))) ++ [Ent.own (some a1) (.n w1)])[i2]? = some (.own oa2 (.n (.l (xs2.set k2 (.sh (holeD a2)))))) := by
      rw [List.getElem?_append_left (by rw [List.length_set]; omega), List.getElem?_set_ne (Ne.symm n23), ← hδ', List.getElem?_set_ne (Ne.symm n23), List.getElem?_set_self (by rw [lsA]; exact l2)]
    obtain ⟨ow2, E2', _⟩ := E3'.unhoist e2 (List.getElem?_set_self (List.getElem?_eq_some_iff.mp x2).1)
    rw [List.set_set, List.set_append_left _ _ (by rw [List.length_set]; omega)] at E2'
    have e1' : ((δ'.set i3 (Ent.own oa3 (.n (.l (xs3.set k3 w3))))).set i2 (Ent.own oa2 (.n (.l (xs2.set k2 w2)))))[i1]? = some (.own oa1 (.n (.l (xs1.set k1 (.sh (holeD a1)))))) := by
      rw [List.getElem?_set_ne (Ne.symm n12), List.getElem?_set_ne (Ne.symm n13), ← hδ', List.getElem?_set_ne (Ne.symm n13), List.getElem?_set_ne (Ne.symm n12), List.getElem?_set_self l1]
    obtain ⟨ow1, E1', _⟩ := E2'.unhoist e1' (List.getElem?_set_self (List.getElem?_eq_some_iff.mp x1).1)
    rw [List.set_set] at E1'
    have hfin : ((δ'.set i3 (Ent.own oa3 (.n (.l (xs3.set k3 w3))))).set i2 (Ent.own oa2 (.n (.l (xs2.set k2 w2))))).set i1 (Ent.own oa1 (.n (.l (xs1.set k1 w1)))) = ((δ.set i1 (.own oa1 (.n (.l (xs1.set k1 w1))))).set i2 (.own oa2 (.n (.l (xs2.set k2 w2))))).set i3 (.own oa3 (.n (.l (xs3.set k3 w3)))) := by
      rw [← hδ', List.set_set]
      refine List.ext_getElem? fun m => ?_
      simp only [List.getElem?_set, List.length_set]
      by_cases m1 : i1 = m <;> by_cases m2 : i2 = m <;> by_cases m3 : i3 = m <;> simp_all
    rw [hfin] at E1'
    exact q _ v H' E1' (rep_scal hs r)
end
end L2
end
section
namespace L2
open PySem PySem.Spec PyProof.Rows
section
variable {X : Cx} {δ δ' : Dn} {a : Expr} {d : PyData} {p pos : Pos} {kvs : List (PyData × PyData)}
theorem kv_vals {P : Program} {w : World} : ∀ {us : List (Key × V)} {vs : List (Key × Value)} {l : List Value}, KV us vs → l.length = vs.length → (∀ (i : Nat) (v : Value), l[i]? = some v → ∃ k x, vs[i]? = some (k, x) ∧ (mixKind P w).is k v = true) → Vals (us.map fun p => kV p.1) l := by
  intro us vs l h
  unfold KV at h
  induction h generalizing l with
  | nil =>
    intro hl _
    cases l with
    | nil => exact .nil
    | cons _ _ => cases hl
  | cons h1 h2 ih =>
    intro hl hv
    cases l with
    | nil => cases hl
    | cons v r =>
      obtain ⟨k, x, e, z⟩ := hv 0 v rfl
      cases e
      refine .cons ?_ (ih (by simpa using hl) fun i v' hv' => by
        obtain ⟨k, x, e, z⟩ := hv (i + 1) v' (by simpa using hv')
        exact ⟨k, x, by simpa using e, z⟩)
      show RelV (kV _) v
      rw [h1.1]
      exact is_kV z
theorem call_list_dict (hc : X.calm = true) : CallR X (.type "list") (fun xs H Q => ∃ (p : Addr) (us : List (Key × V)), xs = [.ref p] ∧ H p = some (.dK us) ∧ ∀ l, H l = none → Q (.ref l) (upd H l (.lst (us.map fun p => kV p.1)))) := by
  intro pins s σ H xs us' Q I rv h
  obtain ⟨p, us, rfl, hH, q⟩ := h
  obtain ⟨u, rfl, ru⟩ := rv.one
  cases ru
  obtain ⟨hz, hd, vs, rel, dd⟩ := dk_of I.hok hH
  obtain ⟨ep, dat⟩ := dd.dictAt
  have hl : us.length = vs.length := rel.length
  refine PySem.W.kdl_call (PySem.W.kdl_dict (knd := mixKind X.prog X.w) (kvs := vs) (ep := ep) hd) (I.ok.hd hc) dat (by omega) fun h' tk acc c' hk hS hacc => ?_
  refine ⟨.ref s.heap.objs.size, _, I.laid (o := .lst (us.map fun p => kV p.1)) hk (Nat.le_refl _) ⟨?_, acc.toList, c', kv_vals rel (by simpa using hacc.1) (fun i v hv => hacc.2 i v (by simpa using hv)), by simpa using hS⟩, rfl, q _ I.fresh⟩
  rw [List.length_map]; exact hz
theorem repsK_keys {K : PySem.W.Frag} {A A' : Addr → Prop} {H H' : Hp} : ∀ {kvs : List (PyData × PyData)} {us : List (Key × V)}, RepsK K A H kvs us → Reps K A' H' (kvs.map (·.1)) (us.map fun p => kV p.1)
  | [], _, h => by cases h; rfl
  | q :: r, _, h => by
    obtain ⟨κ, v, us', rfl, hk, _, h4⟩ := h
    exact ⟨_, _, rfl, key_rep hk, repsK_keys h4⟩
theorem ef_listDict (hc : X.calm = true) (hg : Gl X "list") (hm : X.mg "list" = none) (ha : EvD X δ a (mdD kvs)) (hs : starEach [a] X.env = [(false, eval a X.env)] := by rfl) : EvF X δ (.Call (.Name "list" p) [a] [] pos) (kvs.map (·.1)) :=
  ef_of (pe_callTy (call_list_dict hc) hg hm (by rfl) (ea_cons ha ea_nil (by rw [hs]; rfl)) (he := by rw [hs]; rfl)) fun Hb own B σ H Q E q => ⟨Hb, own, B, E, fun vs H1 s1 rv => by
    obtain ⟨v, r, rfl, h1, e2⟩ := rv
    cases e2
    obtain ⟨b, us, rfl, _, h3, h4⟩ := rep_md h1
    exact ⟨b, us, rfl, h3, fun l hl => q l _ _ (s1.trans (same_new hl _)) (s1.free hl) upd_same (repsK_keys h4)⟩⟩
theorem etM_notN {j p'} (ha : EvM X δ a d δ') : EtM X δ (.Compare a [.IsNot] [.Constant .none j p'] pos) (!isN d) δ' :=
  fun pins s σ H Q I hh54 => Zz.a5 hh54 fun Hb own B E q => (pt_cmp (pos := pos) (pc_notN (j := j) (pos' := p') ha)) pins s σ H Q I ⟨Hb, own, B, E, fun own' v H' E' r => by show ∃ c, V.bl (!decide (v = .non)) = .bl c ∧ Q c H'; rw [rep_isN r]; exact ⟨_, rfl, q own' H' E'⟩⟩
theorem ex_newE : ExD X δ (.Dict [] [] pos) (.e []) [] :=
  fun pins s σ H Q I hh55 => Zz.a5 hh55 fun Hb own B E q => pe_dnewT pins s σ H Q I fun p hp => q _ [p] _ (same_new hp (.dT [])) (fun a ha => .inl (by rw [List.mem_singleton.mp ha]; exact hp)) ((by simp)) ⟨p, rfl, rfl, upd_same⟩
theorem ex_newD : ExD X δ (.Dict [] [] pos) (.d []) [] :=
  fun pins s σ H Q I hh56 => Zz.a5 hh56 fun Hb own B E q => pe_dnewK pins s σ H Q I fun p hp => q _ [p] _ (same_new hp (.dK [])) (fun a ha => .inl (by rw [List.mem_singleton.mp ha]; exact hp)) ((by simp)) ⟨p, [], [], rfl, rfl, upd_same, rfl, rfl⟩
end
end L2
end
section
namespace Kx
open PySem PySem.Spec PyProof.Rows L2
noncomputable def top (i : Nat) : Stmt := PySem.Challenge.pw_furlough_k31_asks_off_back.main.body.getD i (.Pass ⟨0, 0, 0, 0⟩)
noncomputable abbrev sIs : Stmt := top 24
noncomputable abbrev sRises : Stmt := top 25
noncomputable def inCls (s : Stmt) (j : Nat) : Stmt := match s with | .ClassDef _ _ _ b _ _ _ _ _ _ _ => b.getD j (.Pass ⟨0, 0, 0, 0⟩) | _ => .Pass ⟨0, 0, 0, 0⟩
noncomputable abbrev m___init__ : Stmt := inCls (top 28) 0
noncomputable abbrev m_ask : Stmt := inCls (top 28) 1
noncomputable abbrev m_withdraw : Stmt := inCls (top 28) 2
noncomputable abbrev m_off : Stmt := inCls (top 28) 3
noncomputable abbrev m_back : Stmt := inCls (top 28) 4
noncomputable abbrev m_next_day : Stmt := inCls (top 28) 7
noncomputable abbrev m_had : Stmt := inCls (top 28) 8
noncomputable abbrev m_asks_of : Stmt := inCls (top 28) 9
noncomputable abbrev m_granted : Stmt := inCls (top 28) 10
noncomputable abbrev m_all_hands : Stmt := inCls (top 28) 12
noncomputable abbrev m_refuse_hand : Stmt := inCls (top 28) 13
noncomputable abbrev m_refuse_day : Stmt := inCls (top 28) 14
noncomputable abbrev s__law_nth : Stmt := top 30
noncomputable abbrev s__law_spins : Stmt := top 31
noncomputable abbrev sHouse : Stmt := top 32
noncomputable abbrev s__law_plain : Stmt := top 33
noncomputable abbrev s__law_deed : Stmt := top 34
noncomputable abbrev s__law_right : Stmt := top 35
noncomputable abbrev sLaw : Stmt := top 36
end Kx
end
section
namespace Kx
open PySem PySem.Spec PyProof.Rows L2
noncomputable def turnI (c k : Int) : Int := c % 800800759 + 3121 * k + 101
noncomputable def spinI (c k : Int) : Int := turnI c k * (turnI c k + 17 * k) * turnI c k / 7 % 611000009
noncomputable def spins (c : Int) (m : Nat) : List Int := (rgI 0 m).map (spinI c)
theorem spins_len (c : Int) (m : Nat) : (spins c m).length = m := by unfold spins; rw [List.length_map, rgI_len]
theorem spins_nn {c : Int} {m : Nat} {x : Int} (h : x ∈ spins c m) : 0 ≤ x := by
  obtain ⟨k, _, rfl⟩ := List.mem_map.mp h
  exact Int.emod_nonneg _ (by decide)
noncomputable def RSpin : List PyData → List PyData → Prop := fun ds xs => ∃ (c : Int) (m : Nat), ds = [.int c, .int m] ∧ m ≤ 100 ∧ xs = iD (spins c m)
noncomputable def xAt (xs : List Int) (i : Nat) : Int := xs.getD i 0
theorem spins_at {c : Int} {m i : Nat} (h : i < m) : (spins c m)[i]? = some (xAt (spins c m) i) ∧ 0 ≤ xAt (spins c m) i := by
  have hl := spins_len c m
  have e : (spins c m)[i]? = some ((spins c m)[i]'(by omega)) := List.getElem?_eq_getElem _
  unfold xAt
  rw [List.getD_eq_getElem?_getD, e]
  exact ⟨rfl, spins_nn (List.getElem_mem _)⟩
noncomputable def nthOf (ns : List Int) (k : Nat) : Int := ns.getD k 0
noncomputable def RNth : List PyData → PyData → Prop := fun ds d => ∃ (ns : List Int) (k : Nat), ds = [scr ns, .int k] ∧ d = .int (nthOf ns k)
theorem cut_nth {α : Type} (xs : List α) (k : Nat) : cutL xs (some (k : Int)) (some ((k : Int) + 1)) = (xs.drop k).take 1 := by
  rw [show ((k : Int) + 1) = ((k + 1 : Nat) : Int) by omega]
  unfold cutL
  rw [HT.sIx_nat, HT.sIx_nat]
  by_cases h : k < xs.length
  · rw [Nat.min_eq_left (by omega), Nat.min_eq_left (by omega), show k + 1 - k = 1 by omega]
  · rw [Nat.min_eq_right (by omega), Nat.min_eq_right (by omega), List.drop_of_length_le (show xs.length ≤ k by omega), List.drop_of_length_le (Nat.le_refl _)]; simp
section
variable {P : Program} {w : World} {K : PySem.W.Frag} {mg : Str → Option Value} {base : Heap} {f : Addr} {fd : FuncData}
noncomputable abbrev nSpin : List Str := ["cell", "many", "spins", "k", "turn"]
theorem scSpin : FnScope nSpin ["cell", "many"] (defScope s__law_spins) := ⟨rfl, rfl, rfl, by decide +kernel, rfl, by decide +kernel, by decide +kernel⟩
theorem ok_spin (hB : Blt mg) (F : Fun K "_law_spins" "_law_spins" s__law_spins f fd) (hm : mg "_law_spins" = some (.ref f)) (hb : Binds K fd ["cell", "many"] []) : Fn P w K mg base "_law_spins" 1 ["cell", "many"] (spL K RSpin) := by
  refine fn_L (k := 0) F scSpin hm hb (by rintro _ _ ⟨a, b, rfl, _⟩; rfl) fun cdv A outer s H E hr ds d hR => ?_
  obtain ⟨c, m, rfl, hm', rfl⟩ := hR
  refine sr_cons (s1_setF 2 scSpin.nd (ef_list ea_nil)) ?_
  refine sr_cons (δ1 := [.sh (.int c), .sh (.int m), .ow (iD (spins c m)), .no, .no]) (s1_eq (s1_forR 3 (fun l : List Int => [.sh (.int c), .sh (.int m), .ow (iD l), .no, .no]) PyData.int (rgI 0 m) (fun k l => .nx (l ++ [spinI c k])) (fun i l => l.length ≤ i) (s0 := []) PassesOwn.never rfl scSpin.nd (ei_rangeN rfl hB.range (ev_var 1 rfl) (by omega)) (Nat.le_refl _) (fun i k l hi hJ => ?_) (fun i k l l' hi hJ he => ?_)) ?_) (sr_one (s1_retO 2 rfl))
  · have hk := mem_rgI.mp (List.mem_of_getElem? hi)
    have hil : i < m := by
      have := (List.getElem?_eq_some_iff.mp hi).1
      rwa [rgI_len] at this
    have t0 := Int.emod_nonneg c (show (800800759 : Int) ≠ 0 by decide)
    have t1 := Int.emod_lt_of_pos c (show (0 : Int) < 800800759 by decide)
    have tt : -(2 ^ 64) < turnI c k ∧ turnI c k < 2 ^ 64 := by unfold turnI; omega
    refine ⟨[.sh (.int c), .sh (.int m), .ow (iD (l ++ [spinI c k])), .sh (.int k), .sh (.int (turnI c k))], ?_, .keep (.keep (.keep (.lose (.lose .nil))))⟩
    refine sr_cons (s1_set 4 scSpin.nd (ev_eq (d' := .int (turnI c k)) (ev_add (ev_add (ev_mod (ev_var 0 rfl) ev_int (by decide)) (ev_mul ev_int (ev_var 3 rfl) (.inl (by decide)))) ev_int) rfl)) ?_
    refine sr_one (s1_eq (s1_append (d := .int (spinI c k)) 2 rfl (ev_eq (ev_mod (ev_fdiv (ev_mul (ev_mul (ev_var 4 rfl) (ev_add (ev_var 4 rfl) (ev_mul ev_int (ev_var 3 rfl) (.inl (by decide)))) (.inl tt)) (ev_var 4 rfl) (.inr tt)) ev_int ⟨by decide, by decide⟩) ev_int (by decide)) rfl) (by rw [iD_len]; omega)) ?_)
    unfold iD
    rw [List.map_append]; rfl
  · cases he
    rw [List.length_append, List.length_singleton]; omega
  · rw [loopR_fold]
    have : ∀ (l : List Int) (b : List Int), l.foldl (fun a k => a ++ [spinI c k]) b = b ++ l.map (spinI c) := by
      intro l
      induction l with
      | nil => intro b; simp
      | cons x l ih => intro b; rw [List.foldl_cons, ih, List.map_cons, List.append_assoc]; rfl
    rw [this]; rfl
noncomputable abbrev nNth : List Str := ["script", "k", "cell"]
theorem scNth : FnScope nNth ["script", "k"] (defScope s__law_nth) := ⟨rfl, rfl, rfl, by decide +kernel, rfl, by decide +kernel, by decide +kernel⟩
theorem ok_nth (F : Fun K "_law_nth" "_law_nth" s__law_nth f fd) (hm : mg "_law_nth" = some (.ref f)) (hb : Binds K fd ["script", "k"] []) : Fn P w K mg base "_law_nth" 1 ["script", "k"] (spP K RNth) := by
  refine fn_P (k := 0) F scNth hm hb (by rintro _ _ ⟨ns, k, rfl, _⟩; rfl) fun cdv A outer s H E hr ds d hR => .inl ?_
  obtain ⟨ns, k, rfl, rfl⟩ := hR
  have hL : S1 (bx P w K mg base nNth "_law_nth" s__law_nth f cdv A outer s H E) [.sh (scr ns), .sh (.int k), .no] ((defBody s__law_nth).headD (.Pass ⟨0, 0, 0, 0⟩)) ((loopR (S := Unit) (fun (t : Int) _ => .out (.rt (.int t))) ((ns.drop k).take 1) ()).fin fun _ => [.sh (scr ns), .sh (.int k), .no]) :=
    s1_forR 2 (fun _ : Unit => [.sh (scr ns), .sh (.int k), .no]) PyData.int ((ns.drop k).take 1) (fun (t : Int) _ => .out (.rt (.int t))) (fun _ _ => True) PassesOwn.never rfl scNth.nd (ei_ints (ev_eq (ev_f (ef_sliceS (ev_var 0 rfl) (eo_some (ev_var 1 rfl)) (eo_some (ev_add (ev_var 1 rfl) ev_int)))) (by rw [cut_nth]))) trivial (fun i t s hi hJ => ⟨sr_one (s1_ret (ev_var 2 rfl)), (by intro _ z; cases z), (by intro _ z; cases z), (by intro _ z; cases z)⟩) (fun i t s s' hi hJ he => trivial)
  cases q : (ns.drop k).take 1 with
  | nil =>
    rw [q] at hL
    refine sr_cons hL (sr_eq (sr_one (s1_ret ev_int)) ?_)
    unfold nthOf
    have h : ns[k]? = none := by
      have : ((ns.drop k).take 1)[0]? = none := by rw [q]; rfl
      rw [List.getElem?_take_of_lt (by decide), List.getElem?_drop] at this
      simpa using this
    rw [List.getD_eq_getElem?_getD, h]; rfl
  | cons t r =>
    rw [q] at hL
    refine sr_eq (sr_rt (d := .int t) hL) ?_
    unfold nthOf
    have h : ns[k]? = some t := by
      have : ((ns.drop k).take 1)[0]? = some t := by rw [q]; rfl
      rw [List.getElem?_take_of_lt (by decide), List.getElem?_drop] at this
      simpa using this
    rw [List.getD_eq_getElem?_getD, h]; rfl
end
end Kx
end
section
namespace Kx
open PySem PySem.Spec PyProof.Rows L2
noncomputable def rb (posts : Int) : Int → List Int → Bool
  | _, [] => true
  | least, p :: r => if p < least ∨ posts ≤ p then false else rb posts (p + 1) r
noncomputable def isH (posts : Int) (able : List (List Int)) : Bool := if posts < 0 ∨ 12 < posts then false else if (able.length : Int) < 1 ∨ 12 < (able.length : Int) then false else able.all (rb posts 0)
noncomputable def RRises : List PyData → PyData → Prop := fun ds d => ∃ (row : List Int) (posts : Int), ds = [.list (iD row), .int posts] ∧ d = .bool (rb posts 0 row)
noncomputable def stR (row : List Int) (posts least : Int) (e : Ent) : Dn := [.sh (.list (iD row)), .sh (.int posts), .sh (.int least), e]
noncomputable def fR (row : List Int) (posts : Int) : PyData → Dn → Out := fun d δ => match d, (δ[2]? : Option Ent) with
  | PyData.int p, some (Ent.sh (PyData.int least)) => if p < least ∨ posts ≤ p then .rt (.bool false) else .nx (stR row posts (p + 1) .no)
  | _, _ => .nx δ
theorem fR_at (row : List Int) (posts p least : Int) : fR row posts (.int p) (stR row posts least .no) = if p < least ∨ posts ≤ p then .rt (.bool false) else .nx (stR row posts (p + 1) .no) := rfl
theorem fR_all (row : List Int) (posts : Int) : ∀ (r : List Int) (least : Int), (rb posts least r = false ∧ loopO (fR row posts) (r.map .int) (stR row posts least .no) = .rt (.bool false)) ∨ (rb posts least r = true ∧ ∃ l, loopO (fR row posts) (r.map .int) (stR row posts least .no) = .nx (stR row posts l .no))
  | [], least => .inr ⟨rfl, least, rfl⟩
  | p :: r, least => by
    rw [List.map_cons, loopO_cons, fR_at]
    by_cases h : p < least ∨ posts ≤ p
    · rw [if_pos h]
      refine .inl ⟨?_, rfl⟩
      unfold rb; rw [if_pos h]
    · rw [if_neg h]
      have e : rb posts least (p :: r) = rb posts (p + 1) r := by rw [rb, if_neg h]
      rw [e]
      exact fR_all row posts r (p + 1)
theorem int_of {l : List Int} {n : Nat} {d : PyData} (hd : (l.map PyData.int)[n]? = some d) : ∃ k, k ∈ l ∧ d = .int k ∧ n < l.length := by
  have := List.mem_of_getElem? hd
  obtain ⟨k, h1, h2⟩ := List.mem_map.mp this
  have := (List.getElem?_eq_some_iff.mp hd).1
  rw [List.length_map] at this
  exact ⟨k, h1, h2.symm, this⟩
section
variable {P : Program} {w : World} {K : PySem.W.Frag} {mg : Str → Option Value} {base : Heap} {f : Addr} {fd : FuncData}
theorem scRises : FnScope ["row", "posts", "least", "post"] ["row", "posts"] (defScope sRises) := ⟨rfl, rfl, rfl, by decide +kernel, rfl, by decide +kernel, by decide +kernel⟩
theorem ok_rises (F : Fun K "rises_below" "rises_below" sRises f fd) (hm : mg "rises_below" = some (.ref f)) (hb : Binds K fd ["row", "posts"] []) : Fn P w K mg base "rises_below" 1 ["row", "posts"] (spP K RRises) := by
  refine fn_P (k := 0) F scRises hm hb (by rintro _ _ ⟨i, j, rfl, _⟩; rfl) fun cdv A outer s H E hr ds d hR => .inl ?_
  obtain ⟨row, posts, rfl, rfl⟩ := hR
  refine sr_cons (s1_set 2 scRises.nd ev_int) ?_
  refine sr_after (s1_for 3 (fR row posts) (fun _ δ => ∃ l, δ = stR row posts l .no) (ds := row.map .int) PassesOwn.never rfl scRises.nd (ei_ints (ev_var 0 rfl)) ⟨0, rfl⟩ (fun n d δ hd hJ => ?_) (fun n d δ δ' hd hJ h => ?_)) ?_
  · obtain ⟨l, rfl⟩ := hJ
    obtain ⟨p, hp, rfl, _⟩ := int_of hd
    rw [fR_at]
    by_cases h : p < l ∨ posts ≤ p
    · rw [if_pos h]
      exact sr_rt (s1_if (k := true) (els := []) (et_eq (et_or (et_lt (ev_var 3 rfl) (ev_var 2 rfl)) (fun _ => et_ge (ev_var 3 rfl) (ev_var 1 rfl))) (by simpa using h)) (fun _ => sr_one (s1_ret ev_bl)) (fun z => nomatch z))
    · rw [if_neg h]
      exact sr_skip (et_eq (et_or (et_lt (ev_var 3 rfl) (ev_var 2 rfl)) (fun _ => et_ge (ev_var 3 rfl) (ev_var 1 rfl))) (by simpa using h)) (sr_back (δ1 := stR row posts (p + 1) (.sh (.int p))) (.keep (.keep (.keep (.lose .nil)))) (sr_one (s1_set 2 scRises.nd (ev_add (ev_var 3 rfl) ev_int))))
  · obtain ⟨l, rfl⟩ := hJ
    obtain ⟨p, hp, rfl, _⟩ := int_of hd
    rw [fR_at] at h
    split at h
    · rcases h with h | h <;> cases h
    · rcases h with h | h
      · cases h; exact ⟨_, rfl⟩
      · cases h
  · show After _ _ _ (loopO (fR row posts) (row.map .int) (stR row posts 0 .no))
    rcases fR_all row posts row 0 with ⟨h1, h2⟩ | ⟨h1, l, h2⟩
    · rw [h1, h2]; rfl
    · rw [h1, h2]; exact sr_one (s1_ret ev_bl)
noncomputable def RIs : List PyData → PyData → Prop := fun ds d => ∃ (posts : Int) (able : List (List Int)), ds = [.int posts, .list (rwD able)] ∧ able.length ≤ 200 ∧ d = .bool (isH posts able)
theorem scIs : FnScope ["posts", "able", "row"] ["posts", "able"] (defScope sIs) := ⟨rfl, rfl, rfl, by decide +kernel, rfl, by decide +kernel, by decide +kernel⟩
theorem ok_is (hB : Blt mg) (hMP : ∃ t, mg "MOST_POSTS" = some (.int 12 t)) (hMH : ∃ t, mg "MOST_HANDS" = some (.int 12 t)) (G : Fn P w K mg base "rises_below" 1 ["row", "posts"] (spP K RRises)) (F : Fun K "is_house" "is_house" sIs f fd) (hm : mg "is_house" = some (.ref f)) (hb : Binds K fd ["posts", "able"] []) :
    Fn P w K mg base "is_house" 2 ["posts", "able"] (spP K RIs) := by
  obtain ⟨t1, hMP⟩ := hMP
  obtain ⟨t2, hMH⟩ := hMH
  refine fn_P (k := 1) F scIs hm hb (by rintro _ _ ⟨i, j, rfl, _⟩; rfl) fun cdv A outer s H E hr ds d hR => .inl ?_
  obtain ⟨posts, able, rfl, hl, rfl⟩ := hR
  have hwl : (rwD able).length = able.length := List.length_map _
  refine sr_if_out (et_or (et_lt (ev_var 0 rfl) ev_int) (fun _ => et_gt (ev_var 0 rfl) (ev_gint rfl hMP ⟨_, rfl⟩))) (fun h => ?_) (fun h => ?_)
  · have h' : posts < 0 ∨ 12 < posts := by simpa using h
    refine sr_eq (sr_one (s1_ret ev_bl)) ?_
    unfold isH; rw [if_pos h']
  · have h' : ¬ (posts < 0 ∨ 12 < posts) := by simpa using h
    refine sr_if_out (et_or (et_lt (ev_len rfl hB.len (ev_var 1 rfl)) ev_int) (fun _ => et_gt (ev_len rfl hB.len (ev_var 1 rfl)) (ev_gint rfl hMH ⟨_, rfl⟩))) (fun h => ?_) (fun h => ?_)
    · rw [hwl] at h
      have h2 : (able.length : Int) < 1 ∨ 12 < (able.length : Int) := by simpa using h
      refine sr_eq (sr_one (s1_ret ev_bl)) ?_
      unfold isH; rw [if_neg h', if_pos h2]
    · rw [hwl] at h
      have h2 : ¬ ((able.length : Int) < 1 ∨ 12 < (able.length : Int)) := by simpa using h
      refine sr_eq (sr_one (s1_ret (ev_all (bs := able.map (rb posts 0)) rfl rfl hB.all (ev_eq (ev_f (ef_map 2 rowD able (fun r => .bool (rb posts 0 r)) rfl (cs_mk (defScope sIs) ["posts", "able", "row"] rfl rfl (by decide +kernel)) scIs.nd (ei_rows (ev_var 1 rfl)) (by omega)
        (fun C s2 H2 fp t ht => ev_call G hr (by decide) rfl (ea_cons (ev_var 2 rfl) (ea_cons (ev_var 0 rfl) ea_nil)) ⟨t, posts, rfl, rfl⟩))) ?_)))) ?_
      · unfold bD; rw [List.map_map]; rfl
      · unfold isH; rw [if_neg h', if_neg h2, List.all_map]; rfl
end
end Kx
end
section
namespace Kx
open PySem PySem.Spec PyProof.Rows L2
noncomputable def hHands (c : Int) : Int := if 0 < xAt (spins c 4) 0 % 8 then 1 + xAt (spins c 4) 0 / 8 % 8 else 9 + xAt (spins c 4) 0 / 8 % 4
noncomputable def hPosts (c : Int) : Int := if 0 < xAt (spins c 4) 1 % 8 then (if hHands c - xAt (spins c 4) 1 / 8 % 4 > 0 then hHands c - xAt (spins c 4) 1 / 8 % 4 else 0) else xAt (spins c 4) 1 / 8 % 13
noncomputable def hOwn0 (c h : Int) : List Int := (rgI 0 (hPosts c).toNat).filter fun p => decide (xAt (spins (c + 331 * h + 7) (hPosts c).toNat) p.toNat % 5 < 1 + xAt (spins c 4) 2 % 4)
noncomputable def hOwn (c h : Int) : List Int := if decide (xAt (spins c 4) 3 % 4 > 0) && (decide (h < hPosts c) && !decide (h ∈ hOwn0 c h)) then sortI (hOwn0 c h ++ [h]) else hOwn0 c h
noncomputable def hAble (c : Int) : List (List Int) := (rgI 0 (hHands c).toNat).map (hOwn c)
noncomputable def RHouse : List PyData → PyData → Prop := fun ds d => ∃ c : Int, ds = [.int c] ∧ d = .tuple [.int (hPosts c), .list (rwD (hAble c))]
theorem hHands_rg (c : Int) : 1 ≤ hHands c ∧ hHands c ≤ 12 := by
  unfold hHands
  split <;> omega
theorem hPosts_rg (c : Int) : 0 ≤ hPosts c ∧ hPosts c ≤ 12 := by
  have := hHands_rg c
  unfold hPosts
  split
  · split <;> omega
  · omega
theorem rgI_pw (lo : Int) (n : Nat) : (rgI lo n).Pairwise (· < ·) := by
  unfold rgI
  rw [List.pairwise_map]
  exact List.pairwise_lt_range.imp fun h => by omega
theorem sorted_lt {l : List Int} (h : l.Nodup) : (sortI l).Pairwise (· < ·) := by
  have h1 := sortI_sorted l
  have h2 : (sortI l).Nodup := (sortI_perm l).nodup_iff.mpr h
  exact (h1.and h2).imp fun ⟨a, b⟩ => by omega
theorem pw_nd {l : List Int} (h : l.Pairwise (· < ·)) : l.Nodup := h.imp fun a b => by omega
theorem hOwn0_ok (c h : Int) : (hOwn0 c h).Pairwise (· < ·) ∧ ∀ p ∈ hOwn0 c h, 0 ≤ p ∧ p < hPosts c := by
  have hp := hPosts_rg c
  refine ⟨(rgI_pw _ _).filter _, fun p hp' => ?_⟩
  have := mem_rgI.mp (List.mem_filter.mp hp').1
  omega
theorem hOwn_ok (c h : Int) (h0 : 0 ≤ h) : (hOwn c h).Pairwise (· < ·) ∧ ∀ p ∈ hOwn c h, 0 ≤ p ∧ p < hPosts c := by
  have ho := hOwn0_ok c h
  unfold hOwn
  split
  · rename_i q
    rw [Bool.and_eq_true, Bool.and_eq_true] at q
    have q1 := of_decide_eq_true q.2.1
    have q2 : h ∉ hOwn0 c h := by simpa using q.2.2
    refine ⟨sorted_lt (List.nodup_append.mpr ⟨pw_nd ho.1, by simp, fun a ha b hb z => ?_⟩), fun p hp => ?_⟩
    · rw [List.mem_singleton.mp hb] at z; exact q2 (z ▸ ha)
    · have := (sortI_perm _).mem_iff.mp hp
      rcases List.mem_append.mp this with z | z
      · exact ho.2 p z
      · rw [List.mem_singleton.mp z]; exact ⟨h0, q1⟩
  · exact ho
theorem rb_of (posts : Int) : ∀ (l : List Int) (least : Int), l.Pairwise (· < ·) → (∀ p ∈ l, least ≤ p ∧ p < posts) → rb posts least l = true
  | [], _, _, _ => rfl
  | p :: r, least, h, hp => by
    have h1 := hp p List.mem_cons_self
    obtain ⟨h2, h3⟩ := List.pairwise_cons.mp h
    rw [rb, if_neg (by omega)]
    exact rb_of posts r (p + 1) h3 fun x hx => ⟨by have := h2 x hx; omega, (hp x (List.mem_cons_of_mem _ hx)).2⟩
theorem hAble_len (c : Int) : (hAble c).length = (hHands c).toNat := by unfold hAble; rw [List.length_map, rgI_len]
theorem house_is (c : Int) : isH (hPosts c) (hAble c) = true := by
  have hh := hHands_rg c
  have hp := hPosts_rg c
  unfold isH
  rw [if_neg (by omega), hAble_len, if_neg (by omega), List.all_eq_true]
  intro r hr
  obtain ⟨h, hm, rfl⟩ := List.mem_map.mp hr
  have h0 := mem_rgI.mp hm
  obtain ⟨a, b⟩ := hOwn_ok c h (by omega)
  exact rb_of _ _ _ a b
theorem hOwn0_len (c h : Int) : (hOwn0 c h).length ≤ 12 := by
  have := hPosts_rg c
  have h1 : (hOwn0 c h).length ≤ (rgI 0 (hPosts c).toNat).length := List.length_filter_le _ _
  rw [rgI_len] at h1; omega
section
variable {P : Program} {w : World} {K : PySem.W.Frag} {mg : Str → Option Value} {base : Heap} {f : Addr} {fd : FuncData}
noncomputable abbrev nHouse : List Str := ["cell", "xs", "hands", "posts", "able", "hand", "ys", "own", "post"]
theorem scHouse : FnScope nHouse ["cell"] (defScope sHouse) := ⟨rfl, rfl, rfl, by decide +kernel, rfl, by decide +kernel, by decide +kernel⟩
theorem ok_house (hB : Blt mg) (GS : Fn P w K mg base "_law_spins" 1 ["cell", "many"] (spL K RSpin)) (F : Fun K "_law_house" "_law_house" sHouse f fd) (hm : mg "_law_house" = some (.ref f)) (hb : Binds K fd ["cell"] []) : Fn P w K mg base "_law_house" 2 ["cell"] (spP K RHouse) := by
  refine fn_P (k := 1) F scHouse hm hb (by rintro _ _ ⟨c, rfl, _⟩; rfl) fun cdv A outer s H E hr ds d hR => .inl ?_
  obtain ⟨c, rfl, rfl⟩ := hR
  have hh := hHands_rg c
  have hp := hPosts_rg c
  have a0 := spins_at (c := c) (m := 4) (i := 0) (by decide)
  have a1 := spins_at (c := c) (m := 4) (i := 1) (by decide)
  have a2 := spins_at (c := c) (m := 4) (i := 2) (by decide)
  have a3 := spins_at (c := c) (m := 4) (i := 3) (by decide)
  refine sr_cons (s1_set 1 scHouse.nd (ev_f (ef_call GS hr (by decide) rfl (ea_cons (ev_var 0 rfl) (ea_cons (ev_int (i := 4)) ea_nil)) ⟨c, 4, rfl, by decide, rfl⟩))) ?_
  refine sr_cons (s1_set 2 scHouse.nd (ev_ix (d := .int (hHands c)) (ev_f (ef_list (ea_cons (ev_add ev_int (ev_mod (ev_fdiv (ev_ix (ev_var 1 rfl) ev_int (by decide) (iD_get a0.1)) ev_int ⟨by decide, by decide⟩) ev_int (by decide))) (ea_cons (ev_add ev_int (ev_mod (ev_fdiv (ev_ix (ev_var 1 rfl) ev_int (by decide) (iD_get a0.1)) ev_int ⟨by decide, by decide⟩) ev_int (by decide))) ea_nil)))) (ev_intB rfl hB.int (ev_gt (ev_mod (ev_ix (ev_var 1 rfl) ev_int (by decide) (iD_get a0.1)) ev_int (by decide)) ev_int)) ?_ ?_)) ?_
  · split <;> decide
  · unfold hHands
    by_cases h : xAt (spins c 4) 0 % 8 > 0
    · rw [decide_eq_true h, if_pos h]; rfl
    · rw [decide_eq_false h, if_neg h]; rfl
  refine sr_cons (s1_set 3 scHouse.nd (ev_ix (d := .int (hPosts c)) (ev_f (ef_list (ea_cons (ev_mod (ev_fdiv (ev_ix (ev_var 1 rfl) ev_int (by decide) (iD_get a1.1)) ev_int ⟨by decide, by decide⟩) ev_int (by decide)) (ea_cons (ev_max rfl rfl hB.max ev_int (ev_sub (ev_var 2 rfl) (ev_mod (ev_fdiv (ev_ix (ev_var 1 rfl) ev_int (by decide) (iD_get a1.1)) ev_int ⟨by decide, by decide⟩) ev_int (by decide)))) ea_nil)))) (ev_intB rfl hB.int (ev_gt (ev_mod (ev_ix (ev_var 1 rfl) ev_int (by decide) (iD_get a1.1)) ev_int (by decide)) ev_int)) ?_ ?_)) ?_
  · split <;> decide
  · unfold hPosts
    by_cases h : xAt (spins c 4) 1 % 8 > 0
    · rw [decide_eq_true h, if_pos h]; rfl
    · rw [decide_eq_false h, if_neg h]; rfl
  refine sr_cons (s1_setF 4 scHouse.nd (ef_list ea_nil)) ?_
  have eP : PyData.int (hPosts c) = .int (((hPosts c).toNat : Nat) : Int) := by rw [Int.toNat_of_nonneg hp.1]
  have eH : PyData.int (hHands c) = .int (((hHands c).toNat : Nat) : Int) := by rw [Int.toNat_of_nonneg (by omega)]
  refine sr_cons (δ1 := [.sh (.int c), .sh (.list (iD (spins c 4))), .sh (.int (hHands c)), .sh (.int (hPosts c)), .ow (rwD (hAble c)), .no, .no, .no, .no]) (s1_eq (s1_forR 5 (fun l : List (List Int) => [.sh (.int c), .sh (.list (iD (spins c 4))), .sh (.int (hHands c)), .sh (.int (hPosts c)), .ow (rwD l), .no, .no, .no, .no]) PyData.int (rgI 0 (hHands c).toNat) (fun h l => .nx (l ++ [hOwn c h])) (fun i l => l.length ≤ i) (s0 := []) PassesOwn.never rfl scHouse.nd (ei_rangeN rfl hB.range (ev_eq (ev_var 2 rfl) eH) (by omega)) (Nat.le_refl _) (fun i h l hi hJ => ?_) (fun i h l l' hi hJ he => ?_)) ?_) ?_
  · have hh' := mem_rgI.mp (List.mem_of_getElem? hi)
    have hil : i < (hHands c).toNat := by
      have := (List.getElem?_eq_some_iff.mp hi).1
      rwa [rgI_len] at this
    have hol := hOwn0_len c h
    refine ⟨[.sh (.int c), .sh (.list (iD (spins c 4))), .sh (.int (hHands c)), .sh (.int (hPosts c)), .ow (rwD (l ++ [hOwn c h])), .sh (.int h), .sh (.list (iD (spins (c + 331 * h + 7) (hPosts c).toNat))), .sh (.list (iD (hOwn c h))), .no], ?_, .keep (.keep (.keep (.keep (.keep (.lose (.lose (.lose (.keep .nil))))))))⟩
    refine sr_cons (s1_set 6 scHouse.nd (ev_f (ef_call GS hr (by decide) rfl (ea_cons (ev_add (ev_add (ev_var 0 rfl) (ev_mul ev_int (ev_var 5 rfl) (.inl (by decide)))) ev_int) (ea_cons (ev_eq (ev_var 3 rfl) eP) ea_nil)) ⟨c + 331 * h + 7, (hPosts c).toNat, rfl, by omega, rfl⟩))) ?_
    refine sr_cons (s1_setC 7 8 PyData.int (rgI 0 (hPosts c).toNat) (fun p => decide (xAt (spins (c + 331 * h + 7) (hPosts c).toNat) p.toNat % 5 < 1 + xAt (spins c 4) 2 % 4)) PyData.int rfl (cs_mk (defScope sHouse) nHouse rfl rfl (by decide +kernel)) scHouse.nd (ei_rangeN rfl hB.range (ev_eq (ev_var 3 rfl) eP) (by omega)) (by rw [rgI_len]; omega) (fun C' s2 H2 fp t ht => efs_one (et_lt (ev_mod (ev_ix (ev_var 6 rfl) (ev_var 8 rfl) (mem_rgI.mp ht).1 (iD_get (spins_at (by have := mem_rgI.mp ht; omega)).1)) ev_int (by decide)) (ev_add ev_int (ev_mod (ev_ix (ev_var 1 rfl) ev_int (by decide) (iD_get a2.1)) ev_int (by decide))))) (fun C' s2 H2 fp t ht _ => ev_var 8 rfl)) ?_
    refine sr_cons (δ1 := [.sh (.int c), .sh (.list (iD (spins c 4))), .sh (.int (hHands c)), .sh (.int (hPosts c)), .ow (rwD l), .sh (.int h), .sh (.list (iD (spins (c + 331 * h + 7) (hPosts c).toNat))), .ow (iD (hOwn c h)), .no]) (s1_if (k := decide (xAt (spins c 4) 3 % 4 > 0) && (decide (h < hPosts c) && !decide (h ∈ hOwn0 c h))) (et_share 7 (xs := iD (hOwn0 c h)) rfl (et_and3 (et_gt (ev_mod (ev_ix (ev_var 1 rfl) ev_int (by decide) (iD_get a3.1)) ev_int (by decide)) ev_int) (fun _ => et_lt (ev_var 5 rfl) (ev_var 3 rfl)) (fun _ _ => et_notInI hr (ev_var 5 rfl) (ev_var 7 rfl)))) (fun q => ?_) (fun q => ?_)) ?_
    · have e : hOwn c h = sortI (hOwn0 c h ++ [h]) := by unfold hOwn; rw [if_pos q]
      rw [e]
      refine sr_one (s1_setF 7 scHouse.nd (ef_share 7 (xs := iD (hOwn0 c h)) rfl (ef_sorted rfl hB.sorted (ev_eq (d' := .list (iD (hOwn0 c h ++ [h]))) (ev_f (ef_cat (ev_var 7 rfl) (ev_f (ef_list (ea_cons (ev_var 5 rfl) ea_nil))) (by rw [iD_len, List.length_singleton]; omega))) (by unfold iD; rw [List.map_append]; rfl)) (by rw [List.length_append, List.length_singleton]; omega)) ?_))
      unfold iD
      rw [List.all_map]; exact List.all_eq_true.mpr fun _ _ => rfl
    · have e : hOwn c h = hOwn0 c h := by unfold hOwn; rw [if_neg (by rw [q]; decide)]
      rw [e]
      exact sr_nil
    refine sr_share 7 rfl ?_
    refine sr_one (s1_eq (s1_append 4 rfl (ev_var 7 rfl) (by rw [show (rwD l).length = l.length from List.length_map _]; omega)) ?_)
    unfold rwD
    rw [List.map_append]; rfl
  · cases he
    rw [List.length_append, List.length_singleton]; omega
  · rw [loopR_fold]
    have : ∀ (l : List Int) (b : List (List Int)), l.foldl (fun a k => a ++ [hOwn c k]) b = b ++ l.map (hOwn c) := by
      intro l
      induction l with
      | nil => intro b; simp
      | cons x l ih => intro b; rw [List.foldl_cons, ih, List.map_cons, List.append_assoc]; rfl
    rw [this]; rfl
  · refine sr_share 4 rfl ?_
    exact sr_one (s1_ret (ev_tup (ea_cons (ev_var 3 rfl) (ea_cons (ev_var 4 rfl) ea_nil))))
end
end Kx
end
section
namespace Kx
open PySem PySem.Spec PyProof.Rows L2
noncomputable abbrev hk (h d : Int) : List Key := [.inl h, .inl d]
theorem hk_inj {h d h' d' : Int} : hk h d = hk h' d' ↔ h = h' ∧ d = d' := by
  constructor
  · intro z
    injection z with z1 z2
    injection z2 with z3 _
    exact ⟨Sum.inl.inj z1, Sum.inl.inj z3⟩
  · rintro ⟨rfl, rfl⟩; rfl
theorem hasE_app (A : List (List Key)) (k k' : List Key) : hasE (A ++ [k]) k' = (hasE A k' || decide (k = k')) := by
  unfold hasE
  rw [List.any_append]; simp
theorem hasE_drop (A : List (List Key)) (k k' : List Key) : hasE (dropE A k) k' = (hasE A k' && !decide (k' = k)) := by
  unfold hasE dropE
  rw [List.any_filter]
  by_cases h : k' = k
  · rw [decide_eq_true h, Bool.not_true, Bool.and_false, List.any_eq_false]
    intro x _
    simp only [ne_eq, decide_not, Bool.and_eq_true, Bool.not_eq_true', decide_eq_false_iff_not, decide_eq_true_eq, not_and]
    intro z y
    exact z (y.trans h)
  · rw [decide_eq_false h, Bool.not_false, Bool.and_true]
    congr 1
    funext x
    by_cases q : x = k'
    · subst q; simp [h]
    · simp [q]
noncomputable def updF (f : Int → List Int) (d : Int) (ys : List Int) : Int → List Int := fun x => if x = d then ys else f x
theorem updF_same (f : Int → List Int) (d : Int) (ys : List Int) : updF f d ys d = ys := if_pos rfl
theorem updF_ne {f : Int → List Int} {d x : Int} {ys : List Int} (h : x ≠ d) : updF f d ys x = f x := if_neg h
structure St where
  A : List (List Key)
  G : List (List Key)
  f : Int → List Int
  g : Int → List Int
structure GoodD (n : Int) (s : St) (d : Int) : Prop where
  fn : (s.f d).Nodup
  gn : (s.g d).Nodup
  fr : ∀ h ∈ s.f d, 0 ≤ h ∧ h < n ∧ h ∉ s.g d
  gr : ∀ h ∈ s.g d, 0 ≤ h ∧ h < n
  fa : ∀ h, 0 ≤ h → h < n → (hasE s.A (hk h d) = true ↔ h ∈ s.f d)
  ga : ∀ h, 0 ≤ h → h < n → (hasE s.G (hk h d) = true ↔ h ∈ s.g d)
structure Good (n : Int) (D : List Int) (s : St) (m : Nat) : Prop where
  la : s.A.length ≤ m
  lg : s.G.length ≤ m
  at_ : ∀ d ∈ D, GoodD n s d
noncomputable def deed (s : St) (h d w : Int) : St :=
  if decide (w < 4) && (!decide (h ∈ s.f d) && !decide (h ∈ s.g d)) then ⟨s.A ++ [hk h d], s.G, updF s.f d (s.f d ++ [h]), s.g⟩
  else if decide (w = 4) && decide (h ∈ s.f d) then ⟨dropE s.A (hk h d), s.G, updF s.f d ((s.f d).erase h), s.g⟩
  else if decide (w < 7) && !decide (h ∈ s.g d) then ⟨dropE s.A (hk h d), s.G ++ [hk h d], updF s.f d ((s.f d).filter fun x => decide (x ≠ h)), updF s.g d (s.g d ++ [h])⟩
  else if decide (w ≥ 5) && decide (h ∈ s.g d) then ⟨s.A, dropE s.G (hk h d), s.f, updF s.g d ((s.g d).erase h)⟩
  else s
theorem drop_le (A : List (List Key)) (k : List Key) : (dropE A k).length ≤ A.length := List.length_filter_le _ _
theorem other {A : List (List Key)} {h d h' d' : Int} (n : d' ≠ d) : hasE (A ++ [hk h d]) (hk h' d') = hasE A (hk h' d') := by
  rw [hasE_app, decide_eq_false (fun z => n (hk_inj.mp z).2.symm), Bool.or_false]
theorem otherD {A : List (List Key)} {h d h' d' : Int} (n : d' ≠ d) : hasE (dropE A (hk h d)) (hk h' d') = hasE A (hk h' d') := by
  rw [hasE_drop, decide_eq_false (fun z => n (hk_inj.mp z).2), Bool.not_false, Bool.and_true]
theorem same_app {A : List (List Key)} {h d h' : Int} : hasE (A ++ [hk h d]) (hk h' d) = true ↔ hasE A (hk h' d) = true ∨ h' = h := by
  rw [hasE_app, Bool.or_eq_true, decide_eq_true_eq, hk_inj]
  simp only [and_true]
  rw [eq_comm (a := h)]
theorem same_drop {A : List (List Key)} {h d h' : Int} : hasE (dropE A (hk h d)) (hk h' d) = true ↔ hasE A (hk h' d) = true ∧ h' ≠ h := by
  rw [hasE_drop, Bool.and_eq_true, Bool.not_eq_true', decide_eq_false_iff_not, hk_inj]
  simp only [and_true, ne_eq]
theorem nd_snoc {l : List Int} {h : Int} (n : l.Nodup) (hh : h ∉ l) : (l ++ [h]).Nodup := List.nodup_append.mpr ⟨n, by simp, fun a ha b hb z => hh (by rw [← List.mem_singleton.mp hb, ← z]; exact ha)⟩
theorem good_deed {n : Int} {D : List Int} {s : St} {m : Nat} {h d w : Int} (G : Good n D s m) (h0 : 0 ≤ h) (h1 : h < n) (hd : d ∈ D) : Good n D (deed s h d w) (m + 1) := by
  have g := G.at_ d hd
  have la := G.la
  have lg := G.lg
  have lA := drop_le s.A (hk h d)
  have lG := drop_le s.G (hk h d)
  unfold deed
  split
  · rename_i q
    simp only [Bool.and_eq_true, decide_eq_true_eq, Bool.not_eq_true', decide_eq_false_iff_not] at q
    obtain ⟨_, q1, q2⟩ := q
    refine ⟨by simp; omega, by simp; omega, fun d' hd' => ?_⟩
    by_cases e : d' = d
    · subst e
      refine ⟨by simp only [updF_same]; exact nd_snoc g.fn q1, g.gn, fun x hx => ?_, g.gr, fun x x0 x1 => ?_, g.ga⟩
      · simp only [updF_same, List.mem_append, List.mem_singleton] at hx
        rcases hx with hx | rfl
        · exact g.fr x hx
        · exact ⟨h0, h1, q2⟩
      · simp only [updF_same, List.mem_append, List.mem_singleton]
        rw [same_app, g.fa x x0 x1]
    · have g' := G.at_ d' hd'
      exact ⟨by simp only [updF_ne e]; exact g'.fn, g'.gn, by simp only [updF_ne e]; exact g'.fr, g'.gr, fun x x0 x1 => by simp only [updF_ne e]; rw [other e]; exact g'.fa x x0 x1, g'.ga⟩
  · split
    · rename_i q
      simp only [Bool.and_eq_true, decide_eq_true_eq] at q
      obtain ⟨_, q1⟩ := q
      refine ⟨by simp only; omega, by simp only; omega, fun d' hd' => ?_⟩
      by_cases e : d' = d
      · subst e
        refine ⟨by simp only [updF_same]; exact g.fn.erase h, g.gn, fun x hx => ?_, g.gr, fun x x0 x1 => ?_, g.ga⟩
        · simp only [updF_same] at hx
          exact g.fr x (List.mem_of_mem_erase hx)
        · simp only [updF_same]
          rw [same_drop, g.fa x x0 x1, g.fn.mem_erase_iff, and_comm]
      · have g' := G.at_ d' hd'
        exact ⟨by simp only [updF_ne e]; exact g'.fn, g'.gn, by simp only [updF_ne e]; exact g'.fr, g'.gr, fun x x0 x1 => by simp only [updF_ne e]; rw [otherD e]; exact g'.fa x x0 x1, g'.ga⟩
    · split
      · rename_i q
        simp only [Bool.and_eq_true, decide_eq_true_eq, Bool.not_eq_true', decide_eq_false_iff_not] at q
        obtain ⟨_, q1⟩ := q
        refine ⟨by simp only; omega, by simp; omega, fun d' hd' => ?_⟩
        by_cases e : d' = d
        · subst e
          refine ⟨by simp only [updF_same]; exact g.fn.filter _, by simp only [updF_same]; exact nd_snoc g.gn q1, fun x hx => ?_, fun x hx => ?_, fun x x0 x1 => ?_, fun x x0 x1 => ?_⟩
          · simp only [updF_same, List.mem_filter, decide_eq_true_eq] at hx
            obtain ⟨y0, y1, y2⟩ := g.fr x hx.1
            refine ⟨y0, y1, ?_⟩
            simp only [updF_same, List.mem_append, List.mem_singleton]
            exact fun z => z.elim y2 hx.2
          · simp only [updF_same, List.mem_append, List.mem_singleton] at hx
            rcases hx with hx | rfl
            · exact g.gr x hx
            · exact ⟨h0, h1⟩
          · simp only [updF_same, List.mem_filter, decide_eq_true_eq]
            rw [same_drop, g.fa x x0 x1]
          · simp only [updF_same, List.mem_append, List.mem_singleton]
            rw [same_app, g.ga x x0 x1]
        · have g' := G.at_ d' hd'
          exact ⟨by simp only [updF_ne e]; exact g'.fn, by simp only [updF_ne e]; exact g'.gn, by simp only [updF_ne e]; exact g'.fr, by simp only [updF_ne e]; exact g'.gr, fun x x0 x1 => by simp only [updF_ne e]; rw [otherD e]; exact g'.fa x x0 x1, fun x x0 x1 => by simp only [updF_ne e]; rw [other e]; exact g'.ga x x0 x1⟩
      · split
        · rename_i q
          simp only [Bool.and_eq_true, decide_eq_true_eq] at q
          obtain ⟨_, q1⟩ := q
          refine ⟨by simp only; omega, by simp only; omega, fun d' hd' => ?_⟩
          by_cases e : d' = d
          · subst e
            refine ⟨g.fn, by simp only [updF_same]; exact g.gn.erase h, fun x hx => ?_, fun x hx => ?_, g.fa, fun x x0 x1 => ?_⟩
            · obtain ⟨y0, y1, y2⟩ := g.fr x hx
              refine ⟨y0, y1, ?_⟩
              simp only [updF_same]
              exact fun z => y2 (List.mem_of_mem_erase z)
            · simp only [updF_same] at hx
              exact g.gr x (List.mem_of_mem_erase hx)
            · simp only [updF_same]
              rw [same_drop, g.ga x x0 x1, g.gn.mem_erase_iff, and_comm]
          · have g' := G.at_ d' hd'
            exact ⟨g'.fn, by simp only [updF_ne e]; exact g'.gn, by simp only [updF_ne e]; exact g'.fr, by simp only [updF_ne e]; exact g'.gr, g'.fa, fun x x0 x1 => by simp only [updF_ne e]; rw [otherD e]; exact g'.ga x x0 x1⟩
        · exact ⟨by omega, by omega, G.at_⟩
noncomputable def asksOf (n : Int) (A : List (List Key)) (d : Int) : List Int := (rgI 0 n.toNat).filter fun h => hasE A (hk h d)
theorem asks_sorted {n : Int} {s : St} {d : Int} (g : GoodD n s d) : sortI (s.f d) = asksOf n s.A d := by
  refine sorted_one ?_ (sortI_sorted _) (((rgI_pw _ _).filter _).imp fun h => by omega)
  refine (sortI_perm _).trans ((List.perm_ext_iff_of_nodup g.fn (pw_nd ((rgI_pw _ _).filter _))).mpr fun x => ?_)
  rw [List.mem_filter, mem_rgI]
  constructor
  · intro h
    obtain ⟨x0, x1, _⟩ := g.fr x h
    exact ⟨by omega, (g.fa x x0 x1).mpr h⟩
  · rintro ⟨h1, h2⟩
    exact (g.fa x (by omega) (by omega)).mp h2
theorem f_len {n : Int} {s : St} {d : Int} (g : GoodD n s d) (hn : n ≤ 12) : (s.f d).length ≤ 12 := by
  have h1 : (sortI (s.f d)).length = (s.f d).length := (sortI_perm _).length_eq
  rw [asks_sorted g] at h1
  have h2 : (asksOf n s.A d).length ≤ (rgI 0 n.toNat).length := List.length_filter_le _ _
  rw [rgI_len] at h2; omega
theorem g_len {n : Int} {s : St} {d : Int} (g : GoodD n s d) (hn : n ≤ 12) : (s.g d).length ≤ 12 := by
  have hp : (s.g d).Perm ((rgI 0 n.toNat).filter fun x => decide (x ∈ s.g d)) := (List.perm_ext_iff_of_nodup g.gn (pw_nd ((rgI_pw _ _).filter _))).mpr fun x => by
    rw [List.mem_filter, mem_rgI, decide_eq_true_eq]
    constructor
    · intro h
      have := g.gr x h
      exact ⟨by omega, h⟩
    · exact fun h => h.2
  have h1 := hp.length_eq
  have h2 : ((rgI 0 n.toNat).filter fun x => decide (x ∈ s.g d)).length ≤ (rgI 0 n.toNat).length := List.length_filter_le _ _
  rw [rgI_len] at h2; omega
noncomputable def dk (D : List Int) (f : Int → List Int) : List (PyData × OT) := D.map fun d => (.int d, .l ((iD (f d)).map .sh))
noncomputable def dkD (D : List Int) (f : Int → List Int) : List (PyData × PyData) := D.map fun d => (.int d, .list (iD (f d)))
theorem key_ne {x d : Int} (h : x ≠ d) : ¬ keyOf (.int x) = some (.inl d : Key) := fun z => h (Sum.inl.inj (Option.some.inj z))
theorem dk_get {D : List Int} {f : Int → List Int} {d : Int} (h : d ∈ D) : getKO (dk D f) (.inl d) = some (.l ((iD (f d)).map .sh)) := by
  induction D with
  | nil => cases h
  | cons x r ih =>
    rw [dk, List.map_cons, getKO]
    by_cases e : x = d
    · subst e; exact if_pos rfl
    · rw [if_neg (key_ne e)]
      exact ih ((List.mem_cons.mp h).resolve_left fun z => e z.symm)
theorem dk_no {D : List Int} {f : Int → List Int} {d : Int} (h : d ∉ D) : getKO (dk D f) (.inl d) = none := by
  induction D with
  | nil => rfl
  | cons x r ih =>
    rw [dk, List.map_cons, getKO, if_neg (key_ne fun z => h (by rw [z]; exact List.mem_cons_self))]
    exact ih fun z => h (List.mem_cons_of_mem _ z)
theorem dk_same {D : List Int} {f : Int → List Int} {d : Int} {ys : List Int} (h : d ∉ D) : dk D (updF f d ys) = dk D f := by
  unfold dk
  refine List.map_congr_left fun x hx => ?_
  have e : x ≠ d := fun z => h (z ▸ hx)
  rw [updF_ne e]
theorem dk_set {D : List Int} {f : Int → List Int} {d : Int} {ys : List Int} (nd : D.Nodup) (h : d ∈ D) : setKO (dk D f) (.inl d) (.l ((iD ys).map .sh)) = dk D (updF f d ys) := by
  induction D with
  | nil => cases h
  | cons x r ih =>
    obtain ⟨n1, n2⟩ := List.nodup_cons.mp nd
    rw [dk, List.map_cons, setKO]
    by_cases e : x = d
    · subst e
      rw [if_pos (show keyOf (.int x) = some (.inl x : Key) from rfl), dk, List.map_cons, updF_same]
      congr 1
      exact (dk_same n1).symm
    · rw [if_neg (key_ne e), dk, List.map_cons, updF_ne e]
      congr 1
      exact ih n2 ((List.mem_cons.mp h).resolve_left fun z => e z.symm)
theorem dk_put {D : List Int} {f : Int → List Int} {d : Int} {ys : List Int} (nd : D.Nodup) (h : d ∈ D) : putKO (.inl d) (.int d) (.l ((iD ys).map .sh)) (dk D f) = dk D (updF f d ys) := by
  induction D with
  | nil => cases h
  | cons x r ih =>
    obtain ⟨n1, n2⟩ := List.nodup_cons.mp nd
    rw [dk, List.map_cons, putKO]
    by_cases e : x = d
    · subst e
      rw [if_pos (show keyOf (.int x) = some (.inl x : Key) from rfl), dk, List.map_cons, updF_same]
      congr 1
      exact (dk_same n1).symm
    · rw [if_neg (key_ne e), dk, List.map_cons, updF_ne e]
      congr 1
      exact ih n2 ((List.mem_cons.mp h).resolve_left fun z => e z.symm)
theorem dk_new {D : List Int} {f : Int → List Int} {d : Int} (h : d ∉ D) : putKO (.inl d) (.int d) (.l ((iD (f d)).map .sh)) (dk D f) = dk (D ++ [d]) f := by
  induction D with
  | nil => rfl
  | cons x r ih =>
    rw [dk, List.map_cons, putKO, if_neg (key_ne fun z => h (by rw [z]; exact List.mem_cons_self)), List.cons_append, dk, List.map_cons]
    congr 1
    exact ih fun z => h (List.mem_cons_of_mem _ z)
theorem dk_nd {D : List Int} {f : Int → List Int} (nd : D.Nodup) : ndK (dk D f) := by
  induction D with
  | nil => exact trivial
  | cons x r ih =>
    obtain ⟨n1, n2⟩ := List.nodup_cons.mp nd
    refine ⟨fun κ h => ?_, ih n2⟩
    cases h
    exact dk_no n1
theorem dk_len (D : List Int) (f : Int → List Int) : (dk D f).length = D.length := List.length_map _
theorem dk_dat (D : List Int) (f : Int → List Int) : OT.datK (dk D f) = some (dkD D f) := by
  induction D with
  | nil => rfl
  | cons x r ih =>
    have e : OT.datK (dk r f) = some (dkD r f) := ih
    rw [dk, List.map_cons, OT.datK]
    show (match (OT.l ((iD (f x)).map .sh)).dat, OT.datK (dk r f) with | some z, some zs => some ((PyData.int x, z) :: zs) | _, _ => none) = _
    rw [dat_lsh, e]; rfl
theorem dkD_get {D : List Int} {f : Int → List Int} {d : Int} (h : d ∈ D) : getK (dkD D f) (.inl d) = some (.list (iD (f d))) := by
  induction D with
  | nil => cases h
  | cons x r ih =>
    unfold getK dkD
    rw [List.map_cons, List.find?_cons]
    by_cases e : x = d
    · subst e; rw [decide_eq_true (show keyOf (.int x) = some (.inl x : Key) from rfl)]; rfl
    · rw [decide_eq_false (key_ne e)]
      exact ih ((List.mem_cons.mp h).resolve_left fun z => e z.symm)
end Kx
end
section
namespace Kx
open PySem PySem.Spec PyProof.Rows L2
noncomputable def seaD (C : Addr) (po : Int) (ab : List (List Int)) (A G : List (List Key)) : PyData := insD C [(.str "posts", .int po), (.str "able", .list (rwD ab)), (.str "asked", setD A), (.str "absent", setD G), (.str "leaves", .list []), (.str "there", .list []), (.str "ranked", .list [])]
noncomputable def seaF (po : Int) (ab : List (List Int)) (A G : List (List Key)) : List (Str × OT) := [("posts", .sh (.int po)), ("able", .sh (.list (rwD ab))), ("asked", .e A), ("absent", .e G), ("leaves", .sh (.list [])), ("there", .sh (.list [])), ("ranked", .sh (.list []))]
noncomputable def seaT (C : Addr) (po : Int) (ab : List (List Int)) (A G : List (List Key)) : OT := .o C (seaF po ab A G)
theorem sea_dat (C : Addr) (po : Int) (ab : List (List Int)) (A G : List (List Key)) : (seaT C po ab A G).dat = some (seaD C po ab A G) := by
  unfold seaT seaF seaD
  simp only [OT.dat, OT.datF, OT.datG, Option.map_some]
structure SeaK (K : PySem.W.Frag) (C : Addr) : Prop where
  cls : Cls K C
  posts : NoAttr K C "posts"
  able : NoAttr K C "able"
  asked : NoAttr K C "asked"
  absent : NoAttr K C "absent"
  leaves : NoAttr K C "leaves"
  there : NoAttr K C "there"
  ranked : NoAttr K C "ranked"
theorem rwD_len (ab : List (List Int)) : (rwD ab).length = ab.length := List.length_map _
noncomputable def RAll (C : Addr) : List PyData → List PyData → Prop := fun ds xs => ∃ po ab A G, ds = [seaD C po ab A G] ∧ ab.length ≤ 12 ∧ xs = iD (rgI 0 ab.length)
noncomputable def RNext (C : Addr) : List PyData → PyData → Prop := fun ds d => ∃ po ab A G, ds = [seaD C po ab A G] ∧ d = .int 0
noncomputable def RRefH (C : Addr) : List PyData → PyData → Prop := fun ds d => ∃ po ab A G, ∃ h : Int, ds = [seaD C po ab A G, .int h] ∧ 0 ≤ h ∧ h < (ab.length : Int) ∧ d = .none
noncomputable def RRefD (C : Addr) : List PyData → PyData → Prop := fun ds d => ∃ po ab A G, ∃ y : Int, ds = [seaD C po ab A G, .int y] ∧ 0 ≤ y ∧ y ≤ 1000000 ∧ d = .none
noncomputable def RHad (C : Addr) : List PyData → PyData → Prop := fun ds d => ∃ po ab A G, ∃ h : Int, ds = [seaD C po ab A G, .int h] ∧ 0 ≤ h ∧ h < (ab.length : Int) ∧ d = .int 0
noncomputable def RAsksOf (C : Addr) : List PyData → List PyData → Prop := fun ds xs => ∃ po ab A G, ∃ y : Int, ds = [seaD C po ab A G, .int y] ∧ 0 ≤ y ∧ y ≤ 1000000 ∧ ab.length ≤ 12 ∧ xs = iD (asksOf ab.length A y)
noncomputable def RGrd (C : Addr) : List PyData → List PyData → Prop := fun ds xs => ∃ po ab A G, ds = [seaD C po ab A G] ∧ xs = []
noncomputable def RMk (C : Addr) : List Ent → List Ent → PyData → Prop := fun as as' d => ∃ a po ab, as = selfA [.int po, .list (rwD ab)] a (.o C []) ∧ isH po ab = true ∧ as' = selfB [.int po, .list (rwD ab)] a (seaT C po ab [] []) ∧ d = .none
noncomputable def okHD (ab : List (List Int)) (h y : Int) : Prop := 0 ≤ h ∧ h < (ab.length : Int) ∧ 0 ≤ y ∧ y ≤ 1000000
noncomputable def RAsk (C : Addr) : List Ent → List Ent → PyData → Prop := fun as as' d => ∃ a po ab A G, ∃ h y : Int, as = selfA [.int h, .int y] a (seaT C po ab A G) ∧ okHD ab h y ∧ hasE A (hk h y) = false ∧ hasE G (hk h y) = false ∧ A.length < 1000 ∧ as' = selfB [.int h, .int y] a (seaT C po ab (A ++ [hk h y]) G) ∧ d = .none
noncomputable def RWdr (C : Addr) : List Ent → List Ent → PyData → Prop := fun as as' d => ∃ a po ab A G, ∃ h y : Int, as = selfA [.int h, .int y] a (seaT C po ab A G) ∧ okHD ab h y ∧ hasE A (hk h y) = true ∧ as' = selfB [.int h, .int y] a (seaT C po ab (dropE A (hk h y)) G) ∧ d = .none
noncomputable def ROff (C : Addr) : List Ent → List Ent → PyData → Prop := fun as as' d => ∃ a po ab A G, ∃ h y : Int, as = selfA [.int h, .int y] a (seaT C po ab A G) ∧ okHD ab h y ∧ hasE G (hk h y) = false ∧ G.length < 1000 ∧ as' = selfB [.int h, .int y] a (seaT C po ab (dropE A (hk h y)) (G ++ [hk h y])) ∧ d = .none
noncomputable def RBack (C : Addr) : List Ent → List Ent → PyData → Prop := fun as as' d => ∃ a po ab A G, ∃ h y : Int, as = selfA [.int h, .int y] a (seaT C po ab A G) ∧ okHD ab h y ∧ hasE G (hk h y) = true ∧ as' = selfB [.int h, .int y] a (seaT C po ab A (dropE G (hk h y))) ∧ d = .none
section
variable {P : Program} {w : World} {K : PySem.W.Frag} {mg : Str → Option Value} {base : Heap} {f C : Addr} {fd : FuncData}
theorem scAll : FnScope ["self"] ["self"] (defScope m_all_hands) := ⟨rfl, rfl, rfl, by decide +kernel, rfl, by decide +kernel, by decide +kernel⟩
theorem ok_all (hB : Blt mg) (S : SeaK K C) (F : Fun K "all_hands" "Season.all_hands" m_all_hands f fd) (hm : Meth K C "all_hands" f) (hb : Binds K fd ["self"] []) : MeD P w K mg base C "all_hands" 1 ["self"] (spL K (RAll C)) := by
  refine me_L (k := 0) F scAll hm hb (by rintro _ _ ⟨_, _, _, _, rfl, _⟩; rfl) fun cdv A outer s H E hr ds d hR => ?_
  obtain ⟨po, ab, A', G', rfl, hl, rfl⟩ := hR
  have hw := rwD_len ab
  refine sr_eq (sr_one (s1_retF (ef_listRange1 rfl rfl hB.list rfl hB.range (ev_len rfl hB.len (ev_attrD (ev_var 0 rfl) rfl S.cls S.able)) (by omega) (by omega)))) ?_
  rw [hw, Int.toNat_natCast]; rfl
theorem scNext : FnScope ["self"] ["self"] (defScope m_next_day) := ⟨rfl, rfl, rfl, by decide +kernel, rfl, by decide +kernel, by decide +kernel⟩
theorem ok_next (hB : Blt mg) (S : SeaK K C) (F : Fun K "next_day" "Season.next_day" m_next_day f fd) (hm : Meth K C "next_day" f) (hb : Binds K fd ["self"] []) : MeD P w K mg base C "next_day" 1 ["self"] (spP K (RNext C)) := by
  refine me_P (k := 0) F scNext hm hb (by rintro _ _ ⟨_, _, _, _, rfl, _⟩; rfl) fun cdv A outer s H E hr ds d hR => .inl ?_
  obtain ⟨po, ab, A', G', rfl, rfl⟩ := hR
  exact sr_one (s1_ret (ev_len (xs := []) rfl hB.len (ev_attrD (ev_var 0 rfl) rfl S.cls S.leaves)))
theorem scRefH : FnScope ["self", "hand"] ["self", "hand"] (defScope m_refuse_hand) := ⟨rfl, rfl, rfl, by decide +kernel, rfl, by decide +kernel, by decide +kernel⟩
theorem ok_refH (hB : Blt mg) (S : SeaK K C) (F : Fun K "refuse_hand" "Season.refuse_hand" m_refuse_hand f fd) (hm : Meth K C "refuse_hand" f) (hb : Binds K fd ["self", "hand"] []) : MeD P w K mg base C "refuse_hand" 1 ["self", "hand"] (spP K (RRefH C)) := by
  refine me_P (k := 0) F scRefH hm hb (by rintro _ _ ⟨_, _, _, _, _, rfl, _⟩; rfl) fun cdv A outer s H E hr ds d hR => .inr ?_
  obtain ⟨po, ab, A', G', h, rfl, h0, h1, rfl⟩ := hR
  have hw := rwD_len ab
  exact ⟨_, sr_skip (et_eq (et_or (et_lt (ev_var 1 rfl) ev_int) fun _ => et_ge (ev_var 1 rfl) (ev_len rfl hB.len (ev_attrD (ev_var 0 rfl) rfl S.cls S.able))) (by rw [hw]; simp; omega)) sr_nil, rfl⟩
theorem scRefD : FnScope ["self", "day"] ["self", "day"] (defScope m_refuse_day) := ⟨rfl, rfl, rfl, by decide +kernel, rfl, by decide +kernel, by decide +kernel⟩
theorem ok_refD (hL : ∃ t, mg "LAST_DAY" = some (.int 1000000 t)) (S : SeaK K C) (GN : MeD P w K mg base C "next_day" 1 ["self"] (spP K (RNext C))) (F : Fun K "refuse_day" "Season.refuse_day" m_refuse_day f fd) (hm : Meth K C "refuse_day" f) (hb : Binds K fd ["self", "day"] []) : MeD P w K mg base C "refuse_day" 2 ["self", "day"] (spP K (RRefD C)) := by
  obtain ⟨t1, hL⟩ := hL
  refine me_P (k := 1) F scRefD hm hb (by rintro _ _ ⟨_, _, _, _, _, rfl, _⟩; rfl) fun cdv A outer s H E hr ds d hR => .inr ?_
  obtain ⟨po, ab, A', G', y, rfl, h0, h1, rfl⟩ := hR
  exact ⟨_, sr_skip (et_eq (et_or (et_lt (ev_var 1 rfl) (ev_methD0 GN (ev_var 0 rfl) S.cls hr (by decide) rfl ⟨po, ab, A', G', rfl, rfl⟩)) fun _ => et_gt (ev_var 1 rfl) (ev_gint rfl hL ⟨_, rfl⟩)) (by simp; omega)) sr_nil, rfl⟩
theorem scHad : FnScope ["self", "hand", "gone"] ["self", "hand"] (defScope m_had) := ⟨rfl, rfl, rfl, by decide +kernel, rfl, by decide +kernel, by decide +kernel⟩
theorem ok_had (hB : Blt mg) (S : SeaK K C) (GH : MeD P w K mg base C "refuse_hand" 1 ["self", "hand"] (spP K (RRefH C))) (F : Fun K "had" "Season.had" m_had f fd) (hm : Meth K C "had" f) (hb : Binds K fd ["self", "hand"] []) : MeD P w K mg base C "had" 2 ["self", "hand"] (spP K (RHad C)) := by
  refine me_P (k := 1) F scHad hm hb (by rintro _ _ ⟨_, _, _, _, _, rfl, _⟩; rfl) fun cdv A outer s H E hr ds d hR => .inl ?_
  obtain ⟨po, ab, A', G', h, rfl, h0, h1, rfl⟩ := hR
  refine sr_cons (s1_exprD (ev_methD GH (ev_var 0 rfl) S.cls hr (by decide) rfl (ea_cons (ev_var 1 rfl) ea_nil) ⟨po, ab, A', G', h, rfl, h0, h1, rfl⟩)) ?_
  exact sr_one (s1_ret (ev_len (xs := []) rfl hB.len (ev_f (ef_comp 2 (fun n : Int => PyData.int n) [] (fun _ => true) (fun n => .int n) rfl (cs_mk (defScope m_had) ["self", "hand", "gone"] rfl rfl (by decide +kernel)) scHad.nd (ei_list (ev_attrD (ev_var 0 rfl) rfl S.cls S.leaves)) (by decide) (fun C s2 H2 fp t ht => nomatch ht) (fun C s2 H2 fp t ht => nomatch ht)))))
theorem scAsksOf : FnScope ["self", "day", "hand"] ["self", "day"] (defScope m_asks_of) := ⟨rfl, rfl, rfl, by decide +kernel, rfl, by decide +kernel, by decide +kernel⟩
theorem ok_asksOf (S : SeaK K C) (GA : MeD P w K mg base C "all_hands" 1 ["self"] (spL K (RAll C))) (GD : MeD P w K mg base C "refuse_day" 2 ["self", "day"] (spP K (RRefD C))) (F : Fun K "asks_of" "Season.asks_of" m_asks_of f fd) (hm : Meth K C "asks_of" f) (hb : Binds K fd ["self", "day"] []) : MeD P w K mg base C "asks_of" 3 ["self", "day"] (spL K (RAsksOf C)) := by
  refine me_L (k := 2) F scAsksOf hm hb (by rintro _ _ ⟨_, _, _, _, _, rfl, _⟩; rfl) fun cdv A outer s H E hr ds d hR => ?_
  obtain ⟨po, ab, A', G', y, rfl, h0, h1, hl, rfl⟩ := hR
  refine sr_cons (s1_exprD (ev_methD GD (ev_var 0 rfl) S.cls hr (by decide) rfl (ea_cons (ev_var 1 rfl) ea_nil) ⟨po, ab, A', G', y, rfl, h0, h1, rfl⟩)) ?_
  refine sr_eq (sr_one (s1_retF (ef_comp 2 PyData.int (rgI 0 ab.length) (fun h => hasE A' (hk h y)) PyData.int rfl (cs_mk (defScope m_asks_of) ["self", "day", "hand"] rfl rfl (by decide +kernel)) scAsksOf.nd (ei_ints (ev_f (ef_methD0 GA (ev_var 0 rfl) S.cls hr (by decide) rfl ⟨po, ab, A', G', rfl, hl, rfl⟩))) (by rw [rgI_len]; omega) (fun C' s2 H2 fp t ht => efs_one (et_inQ hr (ev_tup (ea_cons (ev_var 2 rfl) (ea_cons (ev_var 1 rfl) ea_nil))) rfl (ev_attrD (ev_var 0 rfl) rfl S.cls S.asked))) (fun C' s2 H2 fp t ht _ => ev_var 2 rfl)))) ?_
  unfold asksOf iD
  rw [Int.toNat_natCast]
theorem scGrd : FnScope ["self", "gone"] ["self"] (defScope m_granted) := ⟨rfl, rfl, rfl, by decide +kernel, rfl, by decide +kernel, by decide +kernel⟩
theorem ok_grd (S : SeaK K C) (F : Fun K "granted" "Season.granted" m_granted f fd) (hm : Meth K C "granted" f) (hb : Binds K fd ["self"] []) : MeD P w K mg base C "granted" 1 ["self"] (spL K (RGrd C)) := by
  refine me_L (k := 0) F scGrd hm hb (by rintro _ _ ⟨_, _, _, _, rfl, _⟩; rfl) fun cdv A outer s H E hr ds d hR => ?_
  obtain ⟨po, ab, A', G', rfl, rfl⟩ := hR
  exact sr_one (s1_retF (ef_map 1 (fun n : Int => PyData.int n) [] (fun n => .int n) rfl (cs_mk (defScope m_granted) ["self", "gone"] rfl rfl (by decide +kernel)) scGrd.nd (ei_list (ev_attrD (ev_var 0 rfl) rfl S.cls S.leaves)) (by decide) (fun C s2 H2 fp t ht => nomatch ht)))
noncomputable abbrev psHD : List Str := ["self", "hand", "day"]
theorem scAsk : FnScope psHD psHD (defScope m_ask) := ⟨rfl, rfl, rfl, by decide +kernel, rfl, by decide +kernel, by decide +kernel⟩
theorem scWdr : FnScope psHD psHD (defScope m_withdraw) := ⟨rfl, rfl, rfl, by decide +kernel, rfl, by decide +kernel, by decide +kernel⟩
theorem scOff : FnScope psHD psHD (defScope m_off) := ⟨rfl, rfl, rfl, by decide +kernel, rfl, by decide +kernel, by decide +kernel⟩
theorem scBack : FnScope psHD psHD (defScope m_back) := ⟨rfl, rfl, rfl, by decide +kernel, rfl, by decide +kernel, by decide +kernel⟩
theorem ok_ask (S : SeaK K C) (GH : MeD P w K mg base C "refuse_hand" 1 ["self", "hand"] (spP K (RRefH C))) (GD : MeD P w K mg base C "refuse_day" 2 ["self", "day"] (spP K (RRefD C))) (F : Fun K "ask" "Season.ask" m_ask f fd) (hm : Meth K C "ask" f) (hb : Binds K fd psHD []) : MeM P w K mg base C "ask" 3 psHD (RAsk C) := by
  refine ⟨f, fd, me_M (k := 2) F scAsk hb (by rintro _ _ _ ⟨_, _, _, _, _, _, _, rfl, _⟩; rfl) fun cdv A outer s H E hr as as' d hR => ?_, hm, hb⟩
  obtain ⟨a, po, ab, A', G', h, y, rfl, o, h1, h2, hl, rfl, rfl⟩ := hR
  refine BodyM.nx (δ' := [.own (some a) (.n (seaT C po ab (A' ++ [hk h y]) G')), .sh (.int h), .sh (.int y)]) ?_ (.keep (.lose (.lose .nil)))
  refine sr_cons (s1_exprD (ev_shareP 0 [] rfl rfl (sea_dat C po ab A' G') (ev_methD GH (ev_pl (pl_var 0 rfl) rfl rfl) S.cls hr (by decide) rfl (ea_cons (ev_var 1 rfl) ea_nil) ⟨po, ab, A', G', h, rfl, o.1, o.2.1, rfl⟩))) ?_
  refine sr_cons (s1_exprD (ev_shareP 0 [] rfl rfl (sea_dat C po ab A' G') (ev_methD GD (ev_pl (pl_var 0 rfl) rfl rfl) S.cls hr (by decide) rfl (ea_cons (ev_var 2 rfl) ea_nil) ⟨po, ab, A', G', y, rfl, o.2.2.1, o.2.2.2, rfl⟩))) ?_
  refine sr_skip (et_eq (et_inE hr (ev_tup (ea_cons (ev_var 1 rfl) (ea_cons (ev_var 2 rfl) ea_nil))) rfl (pl_fld (u := .e A') (pl_var 0 rfl) rfl rfl rfl S.cls S.asked) rfl rfl) h1) ?_
  refine sr_skip (et_eq (et_inE hr (ev_tup (ea_cons (ev_var 1 rfl) (ea_cons (ev_var 2 rfl) ea_nil))) rfl (pl_fld (u := .e G') (pl_var 0 rfl) rfl rfl rfl S.cls S.absent) rfl rfl) h2) ?_
  exact sr_one (s1_eq (s1_putE hr (pl_fld (u := .e A') (pl_var 0 rfl) rfl rfl rfl S.cls S.asked) (ev_tup (ea_cons (ev_var 1 rfl) (ea_cons (ev_var 2 rfl) ea_nil))) rfl ev_bl rfl rfl h1 hl) rfl)
theorem ok_wdr (S : SeaK K C) (GH : MeD P w K mg base C "refuse_hand" 1 ["self", "hand"] (spP K (RRefH C))) (GD : MeD P w K mg base C "refuse_day" 2 ["self", "day"] (spP K (RRefD C))) (F : Fun K "withdraw" "Season.withdraw" m_withdraw f fd) (hm : Meth K C "withdraw" f) (hb : Binds K fd psHD []) : MeM P w K mg base C "withdraw" 3 psHD (RWdr C) := by
  refine ⟨f, fd, me_M (k := 2) F scWdr hb (by rintro _ _ _ ⟨_, _, _, _, _, _, _, rfl, _⟩; rfl) fun cdv A outer s H E hr as as' d hR => ?_, hm, hb⟩
  obtain ⟨a, po, ab, A', G', h, y, rfl, o, h1, rfl, rfl⟩ := hR
  refine BodyM.nx (δ' := [.own (some a) (.n (seaT C po ab (dropE A' (hk h y)) G')), .sh (.int h), .sh (.int y)]) ?_ (.keep (.lose (.lose .nil)))
  refine sr_cons (s1_exprD (ev_shareP 0 [] rfl rfl (sea_dat C po ab A' G') (ev_methD GH (ev_pl (pl_var 0 rfl) rfl rfl) S.cls hr (by decide) rfl (ea_cons (ev_var 1 rfl) ea_nil) ⟨po, ab, A', G', h, rfl, o.1, o.2.1, rfl⟩))) ?_
  refine sr_cons (s1_exprD (ev_shareP 0 [] rfl rfl (sea_dat C po ab A' G') (ev_methD GD (ev_pl (pl_var 0 rfl) rfl rfl) S.cls hr (by decide) rfl (ea_cons (ev_var 2 rfl) ea_nil) ⟨po, ab, A', G', y, rfl, o.2.2.1, o.2.2.2, rfl⟩))) ?_
  refine sr_skip (et_eq (et_notInE hr (ev_tup (ea_cons (ev_var 1 rfl) (ea_cons (ev_var 2 rfl) ea_nil))) rfl (pl_fld (u := .e A') (pl_var 0 rfl) rfl rfl rfl S.cls S.asked) rfl rfl) (by rw [h1]; rfl)) ?_
  exact sr_one (s1_eq (s1_popE hr (pl_fld (u := .e A') (pl_var 0 rfl) rfl rfl rfl S.cls S.asked) (ev_tup (ea_cons (ev_var 1 rfl) (ea_cons (ev_var 2 rfl) ea_nil))) rfl rfl rfl h1) rfl)
theorem ok_off (S : SeaK K C) (GH : MeD P w K mg base C "refuse_hand" 1 ["self", "hand"] (spP K (RRefH C))) (GD : MeD P w K mg base C "refuse_day" 2 ["self", "day"] (spP K (RRefD C))) (F : Fun K "off" "Season.off" m_off f fd) (hm : Meth K C "off" f) (hb : Binds K fd psHD []) : MeM P w K mg base C "off" 3 psHD (ROff C) := by
  refine ⟨f, fd, me_M (k := 2) F scOff hb (by rintro _ _ _ ⟨_, _, _, _, _, _, _, rfl, _⟩; rfl) fun cdv A outer s H E hr as as' d hR => ?_, hm, hb⟩
  obtain ⟨a, po, ab, A', G', h, y, rfl, o, h1, hl, rfl, rfl⟩ := hR
  refine BodyM.nx (δ' := [.own (some a) (.n (seaT C po ab (dropE A' (hk h y)) (G' ++ [hk h y]))), .sh (.int h), .sh (.int y)]) ?_ (.keep (.lose (.lose .nil)))
  refine sr_cons (s1_exprD (ev_shareP 0 [] rfl rfl (sea_dat C po ab A' G') (ev_methD GH (ev_pl (pl_var 0 rfl) rfl rfl) S.cls hr (by decide) rfl (ea_cons (ev_var 1 rfl) ea_nil) ⟨po, ab, A', G', h, rfl, o.1, o.2.1, rfl⟩))) ?_
  refine sr_cons (s1_exprD (ev_shareP 0 [] rfl rfl (sea_dat C po ab A' G') (ev_methD GD (ev_pl (pl_var 0 rfl) rfl rfl) S.cls hr (by decide) rfl (ea_cons (ev_var 2 rfl) ea_nil) ⟨po, ab, A', G', y, rfl, o.2.2.1, o.2.2.2, rfl⟩))) ?_
  refine sr_skip (et_eq (et_inE hr (ev_tup (ea_cons (ev_var 1 rfl) (ea_cons (ev_var 2 rfl) ea_nil))) rfl (pl_fld (u := .e G') (pl_var 0 rfl) rfl rfl rfl S.cls S.absent) rfl rfl) h1) ?_
  refine sr_cons (s1_eq (s1_putE hr (pl_fld (u := .e G') (pl_var 0 rfl) rfl rfl rfl S.cls S.absent) (ev_tup (ea_cons (ev_var 1 rfl) (ea_cons (ev_var 2 rfl) ea_nil))) rfl ev_bl rfl rfl h1 hl) (o' := .nx [.own (some a) (.n (seaT C po ab A' (G' ++ [hk h y]))), .sh (.int h), .sh (.int y)]) rfl) ?_
  exact sr_one (s1_eq (s1_popDE hr (pl_fld (u := .e A') (pl_var 0 rfl) rfl rfl rfl S.cls S.asked) (ev_tup (ea_cons (ev_var 1 rfl) (ea_cons (ev_var 2 rfl) ea_nil))) rfl ev_non rfl rfl) rfl)
theorem ok_back (S : SeaK K C) (GH : MeD P w K mg base C "refuse_hand" 1 ["self", "hand"] (spP K (RRefH C))) (GD : MeD P w K mg base C "refuse_day" 2 ["self", "day"] (spP K (RRefD C))) (F : Fun K "back" "Season.back" m_back f fd) (hm : Meth K C "back" f) (hb : Binds K fd psHD []) : MeM P w K mg base C "back" 3 psHD (RBack C) := by
  refine ⟨f, fd, me_M (k := 2) F scBack hb (by rintro _ _ _ ⟨_, _, _, _, _, _, _, rfl, _⟩; rfl) fun cdv A outer s H E hr as as' d hR => ?_, hm, hb⟩
  obtain ⟨a, po, ab, A', G', h, y, rfl, o, h1, rfl, rfl⟩ := hR
  refine BodyM.nx (δ' := [.own (some a) (.n (seaT C po ab A' (dropE G' (hk h y)))), .sh (.int h), .sh (.int y)]) ?_ (.keep (.lose (.lose .nil)))
  refine sr_cons (s1_exprD (ev_shareP 0 [] rfl rfl (sea_dat C po ab A' G') (ev_methD GH (ev_pl (pl_var 0 rfl) rfl rfl) S.cls hr (by decide) rfl (ea_cons (ev_var 1 rfl) ea_nil) ⟨po, ab, A', G', h, rfl, o.1, o.2.1, rfl⟩))) ?_
  refine sr_cons (s1_exprD (ev_shareP 0 [] rfl rfl (sea_dat C po ab A' G') (ev_methD GD (ev_pl (pl_var 0 rfl) rfl rfl) S.cls hr (by decide) rfl (ea_cons (ev_var 2 rfl) ea_nil) ⟨po, ab, A', G', y, rfl, o.2.2.1, o.2.2.2, rfl⟩))) ?_
  refine sr_skip (et_eq (et_notInE hr (ev_tup (ea_cons (ev_var 1 rfl) (ea_cons (ev_var 2 rfl) ea_nil))) rfl (pl_fld (u := .e G') (pl_var 0 rfl) rfl rfl rfl S.cls S.absent) rfl rfl) (by rw [h1]; rfl)) ?_
  exact sr_one (s1_eq (s1_popE hr (pl_fld (u := .e G') (pl_var 0 rfl) rfl rfl rfl S.cls S.absent) (ev_tup (ea_cons (ev_var 1 rfl) (ea_cons (ev_var 2 rfl) ea_nil))) rfl rfl rfl h1) rfl)
noncomputable abbrev nInit : List Str := ["self", "posts", "able", "row"]
theorem scInit : FnScope nInit ["self", "posts", "able"] (defScope m___init__) := ⟨rfl, rfl, rfl, by decide +kernel, rfl, by decide +kernel, by decide +kernel⟩
theorem ok_init (hB : Blt mg) (S : SeaK K C) (GI : Fn P w K mg base "is_house" 2 ["posts", "able"] (spP K RIs)) (F : Fun K "__init__" "Season.__init__" m___init__ f fd) (hm : Mk K C f) (hb : Binds K fd ["self", "posts", "able"] []) : MkM P w K mg base C 3 ["self", "posts", "able"] (RMk C) := by
  refine ⟨f, fd, me_M (k := 2) F scInit hb (by rintro _ _ _ ⟨_, _, _, rfl, _⟩; rfl) fun cdv A outer s H E hr as as' d hR => ?_, hm, hb⟩
  obtain ⟨a, po, ab, rfl, hi, rfl, rfl⟩ := hR
  have hl : ab.length ≤ 12 := by
    unfold isH at hi
    by_cases h1 : po < 0 ∨ 12 < po
    · rw [if_pos h1] at hi; cases hi
    · rw [if_neg h1] at hi
      by_cases h2 : (ab.length : Int) < 1 ∨ 12 < (ab.length : Int)
      · rw [if_pos h2] at hi; cases hi
      · omega
  refine BodyM.nx (δ' := [.own (some a) (.n (seaT C po ab [] [])), .sh (.int po), .sh (.list (rwD ab)), .no]) ?_ (.keep (.lose (.lose (.keep .nil))))
  refine sr_skip (et_eq (et_not (et_val (ev_call GI hr (by decide) rfl (ea_cons (ev_var 1 rfl) (ea_cons (ev_var 2 rfl) ea_nil)) ⟨po, ab, rfl, by omega, rfl⟩))) (by rw [hi]; rfl)) ?_
  refine sr_cons (s1_fldD (pl_var 0 rfl) rfl rfl (ev_var 1 rfl) S.cls S.posts (Nat.le_of_ble_eq_true rfl)) ?_
  refine sr_cons (s1_fldD (pl_var 0 rfl) rfl rfl (d := .list (rwD ab)) (ev_f (ef_map 3 rowD ab rowD rfl (cs_mk (defScope m___init__) nInit rfl rfl (by decide +kernel)) scInit.nd (ei_rows (ev_var 2 rfl)) (by omega) (fun C' s2 H2 fp t ht => ev_f (ef_listOf rfl hB.list (ev_var 3 rfl))))) S.cls S.able (Nat.le_of_ble_eq_true rfl)) ?_
  refine sr_cons (s1_fldX (pl_var 0 rfl) rfl rfl ex_newE S.cls S.asked (Nat.le_of_ble_eq_true rfl)) ?_
  refine sr_cons (s1_fldX (pl_var 0 rfl) rfl rfl ex_newE S.cls S.absent (Nat.le_of_ble_eq_true rfl)) ?_
  refine sr_cons (s1_fldD (pl_var 0 rfl) rfl rfl (d := .list []) (ev_f (ef_list ea_nil)) S.cls S.leaves (Nat.le_of_ble_eq_true rfl)) ?_
  refine sr_cons (s1_fldD (pl_var 0 rfl) rfl rfl (d := .list []) (ev_f (ef_list ea_nil)) S.cls S.there (Nat.le_of_ble_eq_true rfl)) ?_
  exact sr_one (s1_eq (s1_fldD (pl_var 0 rfl) rfl rfl (d := .list []) (ev_f (ef_list ea_nil)) S.cls S.ranked (Nat.le_of_ble_eq_true rfl)) rfl)
end
end Kx
end
section
namespace Kx
open PySem PySem.Spec PyProof.Rows L2
theorem dk_datT (D : List Int) (f : Int → List Int) : (OT.d (dk D f)).dat = some (mdD (dkD D f)) := by rw [OT.dat, dk_dat]; rfl
theorem at_key {kvs : List (PyData × OT)} {κ : Key} {u : OT} (h : getKO kvs κ = some u) : (OT.d kvs).at [.ky κ] = some u := by
  show (match getKO kvs κ with | some u => u.at [] | none => none) = _
  rw [h]; rfl
theorem put_key {kvs : List (PyData × OT)} {κ : Key} {u w : OT} (h : getKO kvs κ = some u) : (OT.d kvs).put [.ky κ] w = .d (setKO kvs κ w) := by
  show (match getKO kvs κ with | some z => OT.d (setKO kvs κ (z.put [] w)) | none => .d kvs) = _
  rw [h]; rfl
theorem dk_putT {D : List Int} {f : Int → List Int} {d : Int} {ys : List Int} (nd : D.Nodup) (h : d ∈ D) : (OT.d (dk D f)).put [.ky (.inl d)] (.l ((iD ys).map .sh)) = .d (dk D (updF f d ys)) := by rw [put_key (dk_get h), dk_set nd h]
theorem iD_snoc (xs : List Int) (h : Int) : (iD xs).map OT.sh ++ [.sh (.int h)] = (iD (xs ++ [h])).map .sh := by unfold iD; simp
theorem dk_app {D : List Int} {f : Int → List Int} {d h : Int} (nd : D.Nodup) (hd : d ∈ D) : (OT.d (dk D f)).put [.ky (.inl d)] (.l ((iD (f d)).map .sh ++ [.sh (.int h)])) = .d (dk D (updF f d (f d ++ [h]))) := by rw [iD_snoc]; exact dk_putT nd hd
theorem all_iD (xs : List Int) : (xs.map PyData.int).all scalD = true := by rw [List.all_map]; exact List.all_eq_true.mpr fun _ _ => rfl
noncomputable def RDeed (C : Addr) : List Ent → List Ent → PyData → Prop := fun as as' d => ∃ (a1 a2 a3 : Addr) (po : Int) (ab : List (List Int)) (D : List Int) (s : St) (h y wy : Int) (m : Nat),
  as = [.own (some a1) (.n (seaT C po ab s.A s.G)), .own (some a2) (.n (.d (dk D s.f))), .own (some a3) (.n (.d (dk D s.g))), .sh (.int h), .sh (.int y), .sh (.int wy)] ∧ Good ab.length D s m ∧ m < 900 ∧ D.Nodup ∧ D.length ≤ 5 ∧ y ∈ D ∧ okHD ab h y ∧ ab.length ≤ 12 ∧
  as' = [.own (some a1) (.n (seaT C po ab (deed s h y wy).A (deed s h y wy).G)), .own (some a2) (.n (.d (dk D (deed s h y wy).f))), .own (some a3) (.n (.d (dk D (deed s h y wy).g))), .no, .no, .no] ∧ d = .none
section
variable {P : Program} {w : World} {K : PySem.W.Frag} {mg : Str → Option Value} {base : Heap} {f C : Addr} {fd : FuncData}
noncomputable abbrev nDeed : List Str := ["season", "asks", "gone", "hand", "day", "way", "one"]
noncomputable abbrev pDeed : List Str := ["season", "asks", "gone", "hand", "day", "way"]
theorem scDeed : FnScope nDeed pDeed (defScope s__law_deed) := ⟨rfl, rfl, rfl, by decide +kernel, rfl, by decide +kernel, by decide +kernel⟩
theorem ok_deed (S : SeaK K C) (GA : MeM P w K mg base C "ask" 3 psHD (RAsk C)) (GW : MeM P w K mg base C "withdraw" 3 psHD (RWdr C)) (GO : MeM P w K mg base C "off" 3 psHD (ROff C)) (GB : MeM P w K mg base C "back" 3 psHD (RBack C))
    (F : Fun K "_law_deed" "_law_deed" s__law_deed f fd) (hm : mg "_law_deed" = some (.ref f)) (hb : Binds K fd pDeed []) : Fn P w K mg base "_law_deed" 4 pDeed (spM K (RDeed C)) := by
  refine fn_M (k := 3) F scDeed hm hb (by rintro _ _ _ ⟨_, _, _, _, _, _, _, _, _, _, _, rfl, _⟩; rfl) fun cdv A outer sh H E hr as as' d hR => ?_
  obtain ⟨a1, a2, a3, po, ab, D, s, h, y, wy, m, rfl, G, hm9, nd, hD, hy, o, hab, rfl, rfl⟩ := hR
  have g := G.at_ y hy
  have lf := f_len g (by omega)
  have lg := g_len g (by omega)
  have la := G.la
  have lgg := G.lg
  have eA : ∀ b : Bool, decide (h ∈ s.f y) = b → hasE s.A (hk h y) = b := fun b hb => by
    cases b with
    | true => exact (g.fa h o.1 o.2.1).mpr (of_decide_eq_true hb)
    | false => exact Bool.eq_false_iff.mpr fun z => of_decide_eq_false hb ((g.fa h o.1 o.2.1).mp z)
  have eG : ∀ b : Bool, decide (h ∈ s.g y) = b → hasE s.G (hk h y) = b := fun b hb => by
    cases b with
    | true => exact (g.ga h o.1 o.2.1).mpr (of_decide_eq_true hb)
    | false => exact Bool.eq_false_iff.mpr fun z => of_decide_eq_false hb ((g.ga h o.1 o.2.1).mp z)
  cases q1 : (decide (wy < 4) && (!decide (h ∈ s.f y) && !decide (h ∈ s.g y))) with
  | true =>
    have e : deed s h y wy = ⟨s.A ++ [hk h y], s.G, updF s.f y (s.f y ++ [h]), s.g⟩ := by unfold deed; rw [if_pos q1]
    rw [e]
    simp only [Bool.and_eq_true, Bool.not_eq_true'] at q1
    have q1' : (decide (wy < 4) && (!decide (h ∈ s.f y) && !decide (h ∈ s.g y))) = true := by rw [q1.1, q1.2.1, q1.2.2]; rfl
    refine BodyM.rw (δ' := [.own (some a1) (.n (seaT C po ab (s.A ++ [hk h y]) s.G)), .own (some a2) (.n (.d (dk D (updF s.f y (s.f y ++ [h]))))), .own (some a3) (.n (.d (dk D s.g))), .sh (.int h), .sh (.int y), .sh (.int wy), .no]) ?_ (.keep (.keep (.keep (.lose (.lose (.lose (.keep .nil))))))) rfl
    refine sr_if_out (k := true) (et_eq (et_shareN 1 rfl (dk_datT D s.f) (et_shareN 2 rfl (dk_datT D s.g) (et_and3 (et_lt (ev_var 5 rfl) ev_int) (fun _ => et_notInI hr (ev_var 3 rfl) (ev_mdGet hr (ev_var 1 rfl) (ev_var 4 rfl) rfl (dkD_get hy))) (fun _ _ => et_notInI hr (ev_var 3 rfl) (ev_mdGet hr (ev_var 2 rfl) (ev_var 4 rfl) rfl (dkD_get hy)))))) q1') (fun _ => ?_) (fun z => nomatch z)
    refine sr_cons (s1_eq (s1_appendP (pl_key hr (pl_var 1 rfl) rfl rfl (dk_get hy) (ev_var 4 rfl) rfl) rfl (at_key (dk_get hy)) (ev_var 3 rfl) (by rw [List.length_map, iD_len]; omega)) (congrArg (fun t => Out.nx [.own (some a1) (.n (seaT C po ab s.A s.G)), .own (some a2) (.n t), .own (some a3) (.n (.d (dk D s.g))), .sh (.int h), .sh (.int y), .sh (.int wy), .no]) (dk_app nd hy))) ?_
    exact sr_one (s1_retWM (ev_methM (u' := seaT C po ab (s.A ++ [hk h y]) s.G) (pl_var 0 rfl) rfl rfl GA S.cls hr (by decide) rfl (ea_cons (ev_var 3 rfl) (ea_cons (ev_var 4 rfl) ea_nil)) (fun a => ⟨a, po, ab, s.A, s.G, h, y, rfl, o, eA _ q1.2.1, eG _ q1.2.2, by omega, rfl, rfl⟩) rfl))
  | false =>
    cases q2 : (decide (wy = 4) && decide (h ∈ s.f y)) with
    | true =>
      have e : deed s h y wy = ⟨dropE s.A (hk h y), s.G, updF s.f y ((s.f y).erase h), s.g⟩ := by unfold deed; rw [if_neg (by rw [q1]; decide), if_pos q2]
      rw [e]
      have q2' := (Bool.and_eq_true _ _ ▸ q2 : decide (wy = 4) = true ∧ decide (h ∈ s.f y) = true)
      refine BodyM.rw (δ' := [.own (some a1) (.n (seaT C po ab (dropE s.A (hk h y)) s.G)), .own (some a2) (.n (.d (dk D (updF s.f y ((s.f y).erase h))))), .own (some a3) (.n (.d (dk D s.g))), .sh (.int h), .sh (.int y), .sh (.int wy), .no]) ?_ (.keep (.keep (.keep (.lose (.lose (.lose (.keep .nil))))))) rfl
      refine sr_skip (et_eq (et_shareN 1 rfl (dk_datT D s.f) (et_shareN 2 rfl (dk_datT D s.g) (et_and3 (et_lt (ev_var 5 rfl) ev_int) (fun _ => et_notInI hr (ev_var 3 rfl) (ev_mdGet hr (ev_var 1 rfl) (ev_var 4 rfl) rfl (dkD_get hy))) (fun _ _ => et_notInI hr (ev_var 3 rfl) (ev_mdGet hr (ev_var 2 rfl) (ev_var 4 rfl) rfl (dkD_get hy)))))) q1) ?_
      refine sr_if_out (k := true) (et_eq (et_shareN 1 rfl (dk_datT D s.f) (et_shareN 2 rfl (dk_datT D s.g) (et_and (et_eqI hr (ev_var 5 rfl) ev_int) (fun _ => et_inI hr (ev_var 3 rfl) (ev_mdGet hr (ev_var 1 rfl) (ev_var 4 rfl) rfl (dkD_get hy)))))) q2) (fun _ => ?_) (fun z => nomatch z)
      refine sr_cons (s1_eq (s1_remP (ns := s.f y) (pl_key hr (pl_var 1 rfl) rfl rfl (dk_get hy) (ev_var 4 rfl) rfl) rfl (at_key (dk_get hy)) (ev_var 3 rfl) (of_decide_eq_true q2'.2)) (congrArg (fun t => Out.nx [.own (some a1) (.n (seaT C po ab s.A s.G)), .own (some a2) (.n t), .own (some a3) (.n (.d (dk D s.g))), .sh (.int h), .sh (.int y), .sh (.int wy), .no]) (dk_putT nd hy))) ?_
      exact sr_one (s1_retWM (ev_methM (u' := seaT C po ab (dropE s.A (hk h y)) s.G) (pl_var 0 rfl) rfl rfl GW S.cls hr (by decide) rfl (ea_cons (ev_var 3 rfl) (ea_cons (ev_var 4 rfl) ea_nil)) (fun a => ⟨a, po, ab, s.A, s.G, h, y, rfl, o, eA _ q2'.2, rfl, rfl⟩) rfl))
    | false =>
      cases q3 : (decide (wy < 7) && !decide (h ∈ s.g y)) with
      | true =>
        have e : deed s h y wy = ⟨dropE s.A (hk h y), s.G ++ [hk h y], updF s.f y ((s.f y).filter fun x => decide (x ≠ h)), updF s.g y (s.g y ++ [h])⟩ := by unfold deed; rw [if_neg (by rw [q1]; decide), if_neg (by rw [q2]; decide), if_pos q3]
        rw [e]
        have q3' : decide (h ∈ s.g y) = false := by have := (Bool.and_eq_true _ _ ▸ q3 : decide (wy < 7) = true ∧ (!decide (h ∈ s.g y)) = true).2; simpa using this
        refine BodyM.rw (δ' := [.own (some a1) (.n (seaT C po ab (dropE s.A (hk h y)) (s.G ++ [hk h y]))), .own (some a2) (.n (.d (dk D (updF s.f y ((s.f y).filter fun x => decide (x ≠ h)))))), .own (some a3) (.n (.d (dk D (updF s.g y (s.g y ++ [h]))))), .sh (.int h), .sh (.int y), .sh (.int wy), .no]) ?_ (.keep (.keep (.keep (.lose (.lose (.lose (.keep .nil))))))) rfl
        refine sr_skip (et_eq (et_shareN 1 rfl (dk_datT D s.f) (et_shareN 2 rfl (dk_datT D s.g) (et_and3 (et_lt (ev_var 5 rfl) ev_int) (fun _ => et_notInI hr (ev_var 3 rfl) (ev_mdGet hr (ev_var 1 rfl) (ev_var 4 rfl) rfl (dkD_get hy))) (fun _ _ => et_notInI hr (ev_var 3 rfl) (ev_mdGet hr (ev_var 2 rfl) (ev_var 4 rfl) rfl (dkD_get hy)))))) q1) ?_
        refine sr_skip (et_eq (et_shareN 1 rfl (dk_datT D s.f) (et_shareN 2 rfl (dk_datT D s.g) (et_and (et_eqI hr (ev_var 5 rfl) ev_int) (fun _ => et_inI hr (ev_var 3 rfl) (ev_mdGet hr (ev_var 1 rfl) (ev_var 4 rfl) rfl (dkD_get hy)))))) q2) ?_
        refine sr_if_out (k := true) (et_eq (et_shareN 1 rfl (dk_datT D s.f) (et_shareN 2 rfl (dk_datT D s.g) (et_and (et_lt (ev_var 5 rfl) ev_int) (fun _ => et_notInI hr (ev_var 3 rfl) (ev_mdGet hr (ev_var 2 rfl) (ev_var 4 rfl) rfl (dkD_get hy)))))) q3) (fun _ => ?_) (fun z => nomatch z)
        refine sr_cons (s1_eq (s1_appendP (pl_key hr (pl_var 2 rfl) rfl rfl (dk_get hy) (ev_var 4 rfl) rfl) rfl (at_key (dk_get hy)) (ev_var 3 rfl) (by rw [List.length_map, iD_len]; omega)) (congrArg (fun t => Out.nx [.own (some a1) (.n (seaT C po ab s.A s.G)), .own (some a2) (.n (.d (dk D s.f))), .own (some a3) (.n t), .sh (.int h), .sh (.int y), .sh (.int wy), .no]) (dk_app nd hy))) ?_
        refine sr_cons (s1_eq (s1_putKX hr (pl_var 1 rfl) (ev_var 4 rfl) rfl rfl rfl (dk_nd nd) (ex_f (ef_shareN 1 rfl (dk_datT D s.f) (ef_comp 6 PyData.int (s.f y) (fun x => decide (x ≠ h)) PyData.int rfl (cs_mk (defScope s__law_deed) nDeed rfl rfl (by decide +kernel)) scDeed.nd (ei_ints (ev_mdGet hr (ev_var 1 rfl) (ev_var 4 rfl) rfl (dkD_get hy))) (by omega) (fun C' s2 H2 fp t ht => efs_one (et_eq (et_neI hr (ev_var 6 rfl) (ev_var 3 rfl)) (by simp))) (fun C' s2 H2 fp t ht _ => ev_var 6 rfl)) (all_iD _))) (by rw [dk_len]; omega)) (congrArg (fun t => Out.nx [.own (some a1) (.n (seaT C po ab s.A s.G)), .own (some a2) (.n (.d t)), .own (some a3) (.n (.d (dk D (updF s.g y (s.g y ++ [h]))))), .sh (.int h), .sh (.int y), .sh (.int wy), .no]) (dk_put nd hy))) ?_
        exact sr_one (s1_retWM (ev_methM (u' := seaT C po ab (dropE s.A (hk h y)) (s.G ++ [hk h y])) (pl_var 0 rfl) rfl rfl GO S.cls hr (by decide) rfl (ea_cons (ev_var 3 rfl) (ea_cons (ev_var 4 rfl) ea_nil)) (fun a => ⟨a, po, ab, s.A, s.G, h, y, rfl, o, eG _ q3', by omega, rfl, rfl⟩) rfl))
      | false =>
        cases q4 : (decide (wy ≥ 5) && decide (h ∈ s.g y)) with
        | true =>
          have e : deed s h y wy = ⟨s.A, dropE s.G (hk h y), s.f, updF s.g y ((s.g y).erase h)⟩ := by unfold deed; rw [if_neg (by rw [q1]; decide), if_neg (by rw [q2]; decide), if_neg (by rw [q3]; decide), if_pos q4]
          rw [e]
          have q4' := (Bool.and_eq_true _ _ ▸ q4 : decide (wy ≥ 5) = true ∧ decide (h ∈ s.g y) = true)
          refine BodyM.rw (δ' := [.own (some a1) (.n (seaT C po ab s.A (dropE s.G (hk h y)))), .own (some a2) (.n (.d (dk D s.f))), .own (some a3) (.n (.d (dk D (updF s.g y ((s.g y).erase h))))), .sh (.int h), .sh (.int y), .sh (.int wy), .no]) ?_ (.keep (.keep (.keep (.lose (.lose (.lose (.keep .nil))))))) rfl
          refine sr_skip (et_eq (et_shareN 1 rfl (dk_datT D s.f) (et_shareN 2 rfl (dk_datT D s.g) (et_and3 (et_lt (ev_var 5 rfl) ev_int) (fun _ => et_notInI hr (ev_var 3 rfl) (ev_mdGet hr (ev_var 1 rfl) (ev_var 4 rfl) rfl (dkD_get hy))) (fun _ _ => et_notInI hr (ev_var 3 rfl) (ev_mdGet hr (ev_var 2 rfl) (ev_var 4 rfl) rfl (dkD_get hy)))))) q1) ?_
          refine sr_skip (et_eq (et_shareN 1 rfl (dk_datT D s.f) (et_shareN 2 rfl (dk_datT D s.g) (et_and (et_eqI hr (ev_var 5 rfl) ev_int) (fun _ => et_inI hr (ev_var 3 rfl) (ev_mdGet hr (ev_var 1 rfl) (ev_var 4 rfl) rfl (dkD_get hy)))))) q2) ?_
          refine sr_skip (et_eq (et_shareN 1 rfl (dk_datT D s.f) (et_shareN 2 rfl (dk_datT D s.g) (et_and (et_lt (ev_var 5 rfl) ev_int) (fun _ => et_notInI hr (ev_var 3 rfl) (ev_mdGet hr (ev_var 2 rfl) (ev_var 4 rfl) rfl (dkD_get hy)))))) q3) ?_
          refine sr_if_out (k := true) (et_eq (et_shareN 1 rfl (dk_datT D s.f) (et_shareN 2 rfl (dk_datT D s.g) (et_and (et_ge (ev_var 5 rfl) ev_int) (fun _ => et_inI hr (ev_var 3 rfl) (ev_mdGet hr (ev_var 2 rfl) (ev_var 4 rfl) rfl (dkD_get hy)))))) q4) (fun _ => ?_) (fun z => nomatch z)
          refine sr_cons (s1_eq (s1_remP (ns := s.g y) (pl_key hr (pl_var 2 rfl) rfl rfl (dk_get hy) (ev_var 4 rfl) rfl) rfl (at_key (dk_get hy)) (ev_var 3 rfl) (of_decide_eq_true q4'.2)) (congrArg (fun t => Out.nx [.own (some a1) (.n (seaT C po ab s.A s.G)), .own (some a2) (.n (.d (dk D s.f))), .own (some a3) (.n t), .sh (.int h), .sh (.int y), .sh (.int wy), .no]) (dk_putT nd hy))) ?_
          exact sr_one (s1_retWM (ev_methM (u' := seaT C po ab s.A (dropE s.G (hk h y))) (pl_var 0 rfl) rfl rfl GB S.cls hr (by decide) rfl (ea_cons (ev_var 3 rfl) (ea_cons (ev_var 4 rfl) ea_nil)) (fun a => ⟨a, po, ab, s.A, s.G, h, y, rfl, o, eG _ q4'.2, rfl, rfl⟩) rfl))
        | false =>
          have e : deed s h y wy = s := by unfold deed; rw [if_neg (by rw [q1]; decide), if_neg (by rw [q2]; decide), if_neg (by rw [q3]; decide), if_neg (by rw [q4]; decide)]
          rw [e]
          refine BodyM.rw (δ' := [.own (some a1) (.n (seaT C po ab s.A s.G)), .own (some a2) (.n (.d (dk D s.f))), .own (some a3) (.n (.d (dk D s.g))), .sh (.int h), .sh (.int y), .sh (.int wy), .no]) ?_ (.keep (.keep (.keep (.lose (.lose (.lose (.keep .nil))))))) rfl
          refine sr_skip (et_eq (et_shareN 1 rfl (dk_datT D s.f) (et_shareN 2 rfl (dk_datT D s.g) (et_and3 (et_lt (ev_var 5 rfl) ev_int) (fun _ => et_notInI hr (ev_var 3 rfl) (ev_mdGet hr (ev_var 1 rfl) (ev_var 4 rfl) rfl (dkD_get hy))) (fun _ _ => et_notInI hr (ev_var 3 rfl) (ev_mdGet hr (ev_var 2 rfl) (ev_var 4 rfl) rfl (dkD_get hy)))))) q1) ?_
          refine sr_skip (et_eq (et_shareN 1 rfl (dk_datT D s.f) (et_shareN 2 rfl (dk_datT D s.g) (et_and (et_eqI hr (ev_var 5 rfl) ev_int) (fun _ => et_inI hr (ev_var 3 rfl) (ev_mdGet hr (ev_var 1 rfl) (ev_var 4 rfl) rfl (dkD_get hy)))))) q2) ?_
          refine sr_skip (et_eq (et_shareN 1 rfl (dk_datT D s.f) (et_shareN 2 rfl (dk_datT D s.g) (et_and (et_lt (ev_var 5 rfl) ev_int) (fun _ => et_notInI hr (ev_var 3 rfl) (ev_mdGet hr (ev_var 2 rfl) (ev_var 4 rfl) rfl (dkD_get hy)))))) q3) ?_
          refine sr_skip (et_eq (et_shareN 1 rfl (dk_datT D s.f) (et_shareN 2 rfl (dk_datT D s.g) (et_and (et_ge (ev_var 5 rfl) ev_int) (fun _ => et_inI hr (ev_var 3 rfl) (ev_mdGet hr (ev_var 2 rfl) (ev_var 4 rfl) rfl (dkD_get hy)))))) q4) ?_
          exact sr_one (s1_retW ev_non)
end
end Kx
end
section
namespace Kx
open PySem PySem.Spec PyProof.Rows L2
noncomputable def RPlain : List PyData → PyData → Prop := fun ds d => ∃ xs : List Int, ds = [.list (iD xs), .list (iD xs)] ∧ xs.length ≤ 100 ∧ d = .bool true
noncomputable def RRight (C : Addr) : List PyData → PyData → Prop := fun ds d => ∃ (po : Int) (ab : List (List Int)) (D : List Int) (s : St) (x : Int) (m : Nat), ds = [seaD C po ab s.A s.G, mdD (dkD D s.f), .int ab.length, .int x] ∧ Good ab.length D s m ∧ D.length = 5 ∧ (∀ y ∈ D, 0 ≤ y ∧ y ≤ 1000000) ∧ ab.length ≤ 12 ∧ d = .bool true
theorem dkD_keys (D : List Int) (f : Int → List Int) : (dkD D f).map (·.1) = iD D := by unfold dkD iD; rw [List.map_map]; rfl
section
variable {P : Program} {w : World} {K : PySem.W.Frag} {mg : Str → Option Value} {base : Heap} {f C : Addr} {fd : FuncData}
theorem scPlain : FnScope ["found", "due", "hand"] ["found", "due"] (defScope s__law_plain) := ⟨rfl, rfl, rfl, by decide +kernel, rfl, by decide +kernel, by decide +kernel⟩
theorem ok_plain (hB : Blt mg) (F : Fun K "_law_plain" "_law_plain" s__law_plain f fd) (hm : mg "_law_plain" = some (.ref f)) (hb : Binds K fd ["found", "due"] []) : Fn P w K mg base "_law_plain" 1 ["found", "due"] (spP K RPlain) := by
  refine fn_P (k := 0) F scPlain hm hb (by rintro _ _ ⟨_, rfl, _⟩; rfl) fun cdv A outer s H E hr ds d hR => .inl ?_
  obtain ⟨xs, rfl, hl, rfl⟩ := hR
  refine sr_skip (et_eq (et_or (et_not (et_val (ev_isi (k := true) rfl hB.isinstance (ev_var 0 rfl) (lay_iD _) rfl hB.list rfl rfl))) (fun _ => et_neD hr (ev_var 0 rfl) (ev_var 1 rfl) (sm_iD _) (lay_iD _))) (by rw [eqv_iD]; simp)) ?_
  refine sr_eq (sr_one (s1_ret (ev_eqD (da := .list (iD ([] : List Int))) (db := .list (iD ([] : List Int))) hr (ev_eq (ev_f (ef_comp 2 PyData.int xs (fun _ => false) PyData.int rfl (cs_mk (defScope s__law_plain) ["found", "due", "hand"] rfl rfl (by decide +kernel)) scPlain.nd (ei_ints (ev_var 0 rfl)) (by omega) (fun C' s2 H2 fp t ht => efs_one (et_or (k := false) (m := false) (et_val (ev_isi (k := false) rfl hB.isinstance (ev_var 2 rfl) rfl rfl hB.bool rfl rfl)) (fun _ => et_eq (et_not (et_val (ev_isi (k := true) rfl hB.isinstance (ev_var 2 rfl) rfl rfl hB.int rfl rfl))) rfl))) (fun C' s2 H2 fp t ht z => nomatch z))) (by rw [List.filter_eq_nil_iff.mpr (fun _ _ => by simp)]; rfl)) (ev_f (ef_list ea_nil)) (sm_iD _) rfl))) ?_
  rw [eqv_iD]; rfl
noncomputable abbrev nRight : List Str := ["season", "asks", "hands", "x", "days", "k", "day", "found", "told", "hand"]
theorem scRight : FnScope nRight ["season", "asks", "hands", "x"] (defScope s__law_right) := ⟨rfl, rfl, rfl, by decide +kernel, rfl, by decide +kernel, by decide +kernel⟩
theorem ok_right (hB : Blt mg) (S : SeaK K C) (GP : Fn P w K mg base "_law_plain" 1 ["found", "due"] (spP K RPlain)) (GA : MeD P w K mg base C "asks_of" 3 ["self", "day"] (spL K (RAsksOf C))) (GH : MeD P w K mg base C "had" 2 ["self", "hand"] (spP K (RHad C))) (GN : MeD P w K mg base C "next_day" 1 ["self"] (spP K (RNext C))) (GG : MeD P w K mg base C "granted" 1 ["self"] (spL K (RGrd C)))
    (F : Fun K "_law_right" "_law_right" s__law_right f fd) (hm : mg "_law_right" = some (.ref f)) (hb : Binds K fd ["season", "asks", "hands", "x"] []) : Fn P w K mg base "_law_right" 4 ["season", "asks", "hands", "x"] (spP K (RRight C)) := by
  refine fn_P (k := 3) F scRight hm hb (by rintro _ _ ⟨_, _, _, _, _, _, rfl, _⟩; rfl) fun cdv A outer sh H E hr ds d hR => .inl ?_
  obtain ⟨po, ab, D, s, x, m, rfl, G, hD, hr0, hab, rfl⟩ := hR
  refine sr_cons (s1_set 4 scRight.nd (ev_eq (d' := .list (iD D)) (ev_f (ef_listDict rfl rfl hB.list (ev_var 1 rfl))) (by rw [dkD_keys]))) ?_
  refine sr_cons (δ1 := [.sh (seaD C po ab s.A s.G), .sh (mdD (dkD D s.f)), .sh (.int ab.length), .sh (.int x), .sh (.list (iD D)), .no, .no, .no, .no, .no]) (s1_eq (s1_forR 5 (fun _ : Unit => [.sh (seaD C po ab s.A s.G), .sh (mdD (dkD D s.f)), .sh (.int ab.length), .sh (.int x), .sh (.list (iD D)), .no, .no, .no, .no, .no]) PyData.int (rgI 0 5) (fun _ _ => .nx ()) (fun _ _ => True) (s0 := ()) PassesOwn.never rfl scRight.nd (ei_rangeN (n := 5) rfl hB.range ev_int (by decide)) trivial (fun i k _ hi _ => ?_) (fun _ _ _ _ _ _ _ => trivial)) ?_) ?_
  · have k0 := Int.emod_nonneg (k + x) (show (5 : Int) ≠ 0 by decide)
    have k1 := Int.emod_lt_of_pos (k + x) (show (0 : Int) < 5 by decide)
    have hlt : ((k + x) % 5).toNat < D.length := by omega
    have hDy : D[((k + x) % 5).toNat]? = some (D[((k + x) % 5).toNat]'hlt) := List.getElem?_eq_getElem hlt
    generalize hy0 : D[((k + x) % 5).toNat]'hlt = y at hDy
    have hy : y ∈ D := List.mem_of_getElem? hDy
    have g := G.at_ y hy
    have hs := asks_sorted g
    have lf := f_len g (by omega)
    have hal : (asksOf ab.length s.A y).length ≤ 12 := by
      rw [← hs, (sortI_perm _).length_eq]; exact lf
    have hry := hr0 y hy
    refine ⟨[.sh (seaD C po ab s.A s.G), .sh (mdD (dkD D s.f)), .sh (.int ab.length), .sh (.int x), .sh (.list (iD D)), .sh (.int k), .sh (.int y), .ow (iD (asksOf ab.length s.A y ++ rgI 0 ab.length)), .no, .no], ?_, .keep (.keep (.keep (.keep (.keep (.lose (.lose (.lose (.keep (.keep .nil)))))))))⟩
    refine sr_cons (s1_set 6 scRight.nd (ev_ix (ev_var 4 rfl) (ev_mod (ev_add (ev_var 5 rfl) (ev_var 3 rfl)) ev_int (by decide)) k0 (iD_get hDy))) ?_
    refine sr_cons (s1_setF 7 scRight.nd (ef_methD GA (ev_var 0 rfl) S.cls hr (by decide) rfl (ea_cons (ev_var 6 rfl) ea_nil) ⟨po, ab, s.A, s.G, y, rfl, hry.1, hry.2, hab, rfl⟩)) ?_
    refine sr_skip (et_share 7 rfl (et_eq (et_not (et_val (ev_call GP hr (by decide) rfl (ea_cons (ev_var 7 rfl) (ea_cons (ev_eq (d' := .list (iD (asksOf ab.length s.A y))) (ev_f (ef_sorted rfl hB.sorted (ev_mdGet hr (ev_var 1 rfl) (ev_var 6 rfl) rfl (dkD_get hy)) (by omega))) (by rw [hs])) ea_nil)) ⟨_, rfl, by omega, rfl⟩))) rfl)) ?_
    refine sr_cons (s1_eq (s1_extend 7 rfl (ev_f (ef_listRange1 rfl rfl hB.list rfl hB.range (ev_var 2 rfl) (by omega) (by omega))) (by rw [iD_len, List.length_map, rgI_len]; omega)) (o' := .nx [.sh (seaD C po ab s.A s.G), .sh (mdD (dkD D s.f)), .sh (.int ab.length), .sh (.int x), .sh (.list (iD D)), .sh (.int k), .sh (.int y), .ow (iD (asksOf ab.length s.A y ++ rgI 0 ab.length)), .no, .no]) (by unfold iD; rw [List.map_append, Int.toNat_natCast]; rfl)) ?_
    exact sr_skip (et_eq (et_neD hr (ev_f (ef_methD GA (ev_var 0 rfl) S.cls hr (by decide) rfl (ea_cons (ev_var 6 rfl) ea_nil) ⟨po, ab, s.A, s.G, y, rfl, hry.1, hry.2, hab, rfl⟩)) (ev_eq (d' := .list (iD (asksOf ab.length s.A y))) (ev_f (ef_sorted rfl hB.sorted (ev_mdGet hr (ev_var 1 rfl) (ev_var 6 rfl) rfl (dkD_get hy)) (by omega))) (by rw [hs])) (sm_iD _) (lay_iD _)) (by rw [eqv_iD]; simp)) sr_nil
  · rw [loopR_fold]
    rfl
  · refine sr_cons (δ1 := [.sh (seaD C po ab s.A s.G), .sh (mdD (dkD D s.f)), .sh (.int ab.length), .sh (.int x), .sh (.list (iD D)), .no, .no, .no, .ow (iD (List.replicate ab.length 0)), .no]) (s1_eq (s1_setM 8 9 PyData.int (rgI 0 ab.length) (fun _ => PyData.int 0) rfl (cs_mk (defScope s__law_right) nRight rfl rfl (by decide +kernel)) scRight.nd (ei_rangeN rfl hB.range (ev_var 2 rfl) (by omega)) (by rw [rgI_len]; omega) (fun C' s2 H2 fp t ht => ev_methD GH (ev_var 0 rfl) S.cls hr (by decide) rfl (ea_cons (ev_var 9 rfl) ea_nil) ⟨po, ab, s.A, s.G, t, rfl, (mem_rgI.mp ht).1, by have := (mem_rgI.mp ht).2; omega, rfl⟩)) (by unfold iD; rw [List.map_replicate, List.map_const', rgI_len]; rfl)) ?_
    refine sr_share 8 rfl ?_
    refine sr_eq (sr_one (s1_ret (ev_and (k := true) (ev_call GP hr (by decide) rfl (ea_cons (ev_var 8 rfl) (ea_cons (ev_eq (d' := .list (iD (List.replicate ab.length 0))) (ev_f (ef_rep (ev_f (ef_list (ea_cons ev_int ea_nil))) (ev_var 2 rfl) (Int.natCast_nonneg _) (by rw [Int.toNat_natCast]; simp; omega) (by omega))) ?_) ea_nil)) ⟨_, rfl, by rw [List.length_replicate]; omega, rfl⟩) (fun _ => ev_and (k := true) (ev_eq (ev_eqI hr (ev_methD0 GN (ev_var 0 rfl) S.cls hr (by decide) rfl ⟨po, ab, s.A, s.G, rfl, rfl⟩) ev_int) rfl) (fun _ => ev_one (ev_eqD (da := .list (iD ([] : List Int))) (db := .list (iD ([] : List Int))) hr (ev_f (ef_methD0 GG (ev_var 0 rfl) S.cls hr (by decide) rfl ⟨po, ab, s.A, s.G, rfl, rfl⟩)) (ev_f (ef_list ea_nil)) (sm_iD _) rfl)))))) ?_
    · rw [Int.toNat_natCast]
      unfold iD
      rw [List.map_replicate]
      congr 1
      induction ab.length with
      | zero => rfl
      | succ n ih => rw [List.replicate_succ, List.flatten_cons, ih, List.replicate_succ]; rfl
    · rw [eqv_iD]; rfl
end
end Kx
end
section
namespace Kx
open PySem PySem.Spec PyProof.Rows L2
noncomputable def farOf (ns : List Int) : Int := 3 + xAt (spins (nthOf ns 2) 1) 0 % 999990
noncomputable def daysOf (ns : List Int) : List Int := [0, 1, 2, farOf ns, 1000000]
theorem far_rg (ns : List Int) : 3 ≤ farOf ns ∧ farOf ns < 999993 := by
  unfold farOf
  omega
theorem days_nd (ns : List Int) : (daysOf ns).Nodup := by
  have := far_rg ns
  unfold daysOf
  simp
  omega
theorem days_rg (ns : List Int) : ∀ y ∈ daysOf ns, 0 ≤ y ∧ y ≤ 1000000 := by
  have := far_rg ns
  unfold daysOf
  intro y hy
  simp at hy
  omega
noncomputable def st0 : St := ⟨[], [], fun _ => [], fun _ => []⟩
theorem good0 (n : Int) (D : List Int) : Good n D st0 0 := ⟨Nat.le_refl _, Nat.le_refl _, fun d _ => ⟨List.nodup_nil, List.nodup_nil, fun _ z => (nomatch z), fun _ z => (nomatch z), fun h _ _ => by simp [st0, hasE], fun h _ _ => by simp [st0, hasE]⟩⟩
noncomputable abbrev cS (C : Addr) (c : Int) (s : St) : OT := seaT C (hPosts c) (hAble c) s.A s.G
noncomputable abbrev e0 : Int → List Int := fun _ => []
noncomputable def embA (C : Addr) (ns : List Int) (ss : List OT) (as gs : List OT) (zs : List Int) : Dn :=
  [.sh (scr ns), .sh (.int (farOf ns)), .sh (.list (iD (daysOf ns))), .own none (.n (.l ss)), .own none (.n (.l as)), .own none (.n (.l gs)), .ow (iD zs), .no, .no, .no, .no, .no, .no, .no, .no]
noncomputable def embB (C : Addr) (ns : List Int) (s : St × St) : Dn :=
  [.sh (scr ns), .sh (.int (farOf ns)), .sh (.list (iD (daysOf ns))), .own none (.n (.l [cS C (nthOf ns 0) s.1, cS C (nthOf ns 1) s.2])), .own none (.n (.l [.d (dk (daysOf ns) s.1.f), .d (dk (daysOf ns) s.2.f)])), .own none (.n (.l [.d (dk (daysOf ns) s.1.g), .d (dk (daysOf ns) s.2.g)])), .sh (.list (iD [(hAble (nthOf ns 0)).length, (hAble (nthOf ns 1)).length])), .no, .no, .no, .no, .no, .no, .no, .no]
noncomputable def stepB (ns : List Int) (c : Int) (s : St × St) : St × St :=
  let at' := xAt (spins c 5) 0 % 2
  let y := (daysOf ns).getD (xAt (spins c 5) 2 % 5).toNat 0
  let wy := xAt (spins c 5) 3 % 9
  if at' = 0 then (deed s.1 (xAt (spins c 5) 1 % (hAble (nthOf ns 0)).length) y wy, s.2) else (s.1, deed s.2 (xAt (spins c 5) 1 % (hAble (nthOf ns 1)).length) y wy)
theorem able_rg (c : Int) : 1 ≤ (hAble c).length ∧ (hAble c).length ≤ 12 := by
  have := hHands_rg c
  rw [hAble_len]
  omega
noncomputable def GoodB (ns : List Int) (s : St × St) (m : Nat) : Prop := Good (hAble (nthOf ns 0)).length (daysOf ns) s.1 m ∧ Good (hAble (nthOf ns 1)).length (daysOf ns) s.2 m
theorem Good.up {n : Int} {D : List Int} {s : St} {m : Nat} (G : Good n D s m) : Good n D s (m + 1) := ⟨Nat.le_succ_of_le G.la, Nat.le_succ_of_le G.lg, G.at_⟩
theorem day_in (ns : List Int) (x : Int) : (daysOf ns)[(x % 5).toNat]? = some ((daysOf ns).getD (x % 5).toNat 0) ∧ (daysOf ns).getD (x % 5).toNat 0 ∈ daysOf ns := by
  have h : (x % 5).toNat < (daysOf ns).length := by show _ < 5; omega
  have e : (daysOf ns)[(x % 5).toNat]? = some ((daysOf ns)[(x % 5).toNat]'h) := List.getElem?_eq_getElem h
  rw [List.getD_eq_getElem?_getD, e]
  exact ⟨rfl, List.getElem_mem h⟩
theorem good_step {ns : List Int} {c : Int} {s : St × St} {m : Nat} (G : GoodB ns s m) : GoodB ns (stepB ns c s) (m + 1) := by
  have r0 := able_rg (nthOf ns 0)
  have r1 := able_rg (nthOf ns 1)
  have hy := (day_in ns (xAt (spins c 5) 2)).2
  unfold stepB
  dsimp only
  split
  · exact ⟨good_deed G.1 (Int.emod_nonneg _ (by omega)) (Int.emod_lt_of_pos _ (by omega)) hy, G.2.up⟩
  · exact ⟨G.1.up, good_deed G.2 (Int.emod_nonneg _ (by omega)) (Int.emod_lt_of_pos _ (by omega)) hy⟩
theorem dats_two {t u : OT} {d e : PyData} (h : t.dat = some d) (h' : u.dat = some e) : (OT.l [t, u]).dat = some (.list [d, e]) := by
  simp only [OT.dat, OT.dats, h, h', Option.map_some]
section
variable {P : Program} {w : World} {K : PySem.W.Frag} {mg : Str → Option Value} {base : Heap} {f C : Addr} {fd : FuncData}
noncomputable abbrev nLaw : List Str := ["script", "far", "days", "seasons", "asks", "gone", "sizes", "at", "posts", "able", "day", "cell", "xs", "hand", "one"]
theorem scLaw : FnScope nLaw ["script"] (defScope sLaw) := ⟨rfl, rfl, rfl, by decide +kernel, rfl, by decide +kernel, by decide +kernel⟩
theorem ok_law (hB : Blt mg) (S : SeaK K C) (hC : mg "Season" = some (.ref C)) (GS : Fn P w K mg base "_law_spins" 1 ["cell", "many"] (spL K RSpin)) (GN : Fn P w K mg base "_law_nth" 1 ["script", "k"] (spP K RNth)) (GH : Fn P w K mg base "_law_house" 2 ["cell"] (spP K RHouse)) (GM : MkM P w K mg base C 3 ["self", "posts", "able"] (RMk C))
    (GD : Fn P w K mg base "_law_deed" 4 pDeed (spM K (RDeed C))) (GR : Fn P w K mg base "_law_right" 4 ["season", "asks", "hands", "x"] (spP K (RRight C))) (F : Fun K "law" "law" sLaw f fd) : FnOk P w K mg base CX0 5 f fd ["script"] (spLaw K) := by
  refine fn_law (k := 4) F scLaw fun cdv A outer sh H E hr ns h63 => ?_
  have nd := days_nd ns
  have rg := days_rg ns
  have hD5 : (daysOf ns).length = 5 := rfl
  refine sr_cons (s1_set 1 scLaw.nd (ev_eq (d' := .int (farOf ns)) (ev_add ev_int (ev_mod (ev_ix (ev_f (ef_call GS hr (by decide) rfl (ea_cons (ev_call GN hr (by decide) rfl (ea_cons (ev_var 0 rfl) (ea_cons (ev_int (i := 2)) ea_nil)) ⟨ns, 2, rfl, rfl⟩) (ea_cons (ev_int (i := 1)) ea_nil)) ⟨_, 1, rfl, by decide, rfl⟩)) ev_int (by decide) (iD_get (spins_at (by decide)).1)) ev_int (by decide))) rfl)) ?_
  refine sr_cons (s1_set 2 scLaw.nd (ev_eq (d' := .list (iD (daysOf ns))) (ev_f (ef_list (ea_cons ev_int (ea_cons ev_int (ea_cons ev_int (ea_cons (ev_var 1 rfl) (ea_cons ev_int ea_nil))))))) rfl)) ?_
  refine sr_cons (s1_setX 3 scLaw.nd (ex_list exa_nil)) ?_
  refine sr_cons (s1_setX 4 scLaw.nd (ex_list (exa_cons ex_newD (exa_cons ex_newD exa_nil)))) ?_
  refine sr_cons (s1_setX 5 scLaw.nd (ex_list (exa_cons ex_newD (exa_cons ex_newD exa_nil)))) ?_
  refine sr_cons (s1_setF 6 scLaw.nd (ef_list ea_nil)) ?_
  refine sr_cons (δ1 := embA C ns [cS C (nthOf ns 0) st0, cS C (nthOf ns 1) st0] [.d (dk (daysOf ns) e0), .d (dk (daysOf ns) e0)] [.d (dk (daysOf ns) e0), .d (dk (daysOf ns) e0)] [(hAble (nthOf ns 0)).length, (hAble (nthOf ns 1)).length]) (s1_eq (s1_forR 7 (fun j : Nat => embA C ns ([cS C (nthOf ns 0) st0, cS C (nthOf ns 1) st0].take j) [.d (dk (if 0 < j then daysOf ns else []) e0), .d (dk (if 1 < j then daysOf ns else []) e0)] [.d (dk (if 0 < j then daysOf ns else []) e0), .d (dk (if 1 < j then daysOf ns else []) e0)] (([(hAble (nthOf ns 0)).length, (hAble (nthOf ns 1)).length] : List Int).take j)) PyData.int (rgI 0 2) (fun _ j => .nx (j + 1)) (fun i j => j = i) (s0 := 0) PassesOwn.never rfl scLaw.nd (ei_rangeN (n := 2) rfl hB.range ev_int (by decide)) rfl (fun i t j hi hJ => ?_) (fun i t j j' hi hJ he => ?_)) ?_) ?_
  · subst hJ
    have hi2 : j < 2 := by
      have := (List.getElem?_eq_some_iff.mp hi).1
      rwa [rgI_len] at this
    have hj : j = 0 ∨ j = 1 := by omega
    rcases hj with rfl | rfl
    · cases hi
      refine ⟨[.sh (scr ns), .sh (.int (farOf ns)), .sh (.list (iD (daysOf ns))), .own none (.n (.l [cS C (nthOf ns 0) st0])), .own none (.n (.l [.d (dk (daysOf ns) e0), .d []])), .own none (.n (.l [.d (dk (daysOf ns) e0), .d []])), .ow (iD [(hAble (nthOf ns 0)).length]), .sh (.int 0), .sh (.int (hPosts (nthOf ns 0))), .sh (.list (rwD (hAble (nthOf ns 0)))), .no, .no, .no, .no, .no], ?_, .keep (.keep (.keep (.keep (.keep (.keep (.keep (.lose (.lose (.lose (.keep (.keep (.keep (.keep (.keep .nil))))))))))))))⟩
      refine sr_cons (s1_pair 8 9 rfl scLaw.nd (ev_call GH hr (by decide) rfl (ea_cons (ev_call GN hr (by decide) rfl (ea_cons (ev_var 0 rfl) (ea_cons (ev_var 7 rfl) ea_nil)) ⟨ns, 0, rfl, rfl⟩) ea_nil) ⟨(nthOf ns 0), rfl, rfl⟩)) ?_
      refine sr_cons (s1_append 6 rfl (ev_eq (d' := .int (hAble (nthOf ns 0)).length) (ev_len rfl hB.len (ev_var 9 rfl)) (by rw [rwD_len])) (Nat.le_of_ble_eq_true rfl)) ?_
      refine sr_cons (s1_appendX (pl_var 3 rfl) rfl rfl (ex_make (w := cS C (nthOf ns 0) st0) GM hr (by decide) rfl hC (ea_cons (ev_var 8 rfl) (ea_cons (ev_var 9 rfl) ea_nil)) (fun a => ⟨a, _, _, rfl, house_is (nthOf ns 0), rfl, rfl⟩)) (Nat.le_of_ble_eq_true rfl)) ?_
      refine sr_one (s1_eq (s1_forR 10 (fun n : Nat => [.sh (scr ns), .sh (.int (farOf ns)), .sh (.list (iD (daysOf ns))), .own none (.n (.l [cS C (nthOf ns 0) st0])), .own none (.n (.l [.d (dk ((daysOf ns).take n) e0), .d []])), .own none (.n (.l [.d (dk ((daysOf ns).take n) e0), .d []])), .ow (iD [(hAble (nthOf ns 0)).length]), .sh (.int 0), .sh (.int (hPosts (nthOf ns 0))), .sh (.list (rwD (hAble (nthOf ns 0)))), .no, .no, .no, .no, .no]) PyData.int (daysOf ns) (fun _ n => .nx (n + 1)) (fun i n => n = i) (s0 := 0) PassesOwn.never rfl scLaw.nd (ei_ints (ev_var 2 rfl)) rfl (fun i y n hi hJ => ?_) (fun i y n n' hi hJ he => ?_)) ?_)
      · subst hJ
        have hy : y ∉ (daysOf ns).take n := fun z => by
          obtain ⟨q, hq⟩ := List.getElem?_of_mem z
          have hqn : q < n := by
            have := (List.getElem?_eq_some_iff.mp hq).1
            rw [List.length_take] at this; omega
          rw [List.getElem?_take_of_lt hqn] at hq
          have h1 := (List.getElem?_eq_some_iff.mp hq)
          have h2 := (List.getElem?_eq_some_iff.mp hi)
          have := (List.getElem_inj nd).mp (h1.2.trans h2.2.symm)
          omega
        have ht : (daysOf ns).take n ++ [y] = (daysOf ns).take (n + 1) := by rw [List.take_add_one, hi]; rfl
        have hn5 : n < 5 := (List.getElem?_eq_some_iff.mp hi).1
        have hput : putKO (.inl y) (.int y) (.l []) (dk ((daysOf ns).take n) e0) = dk ((daysOf ns).take (n + 1)) e0 := by rw [← ht]; exact dk_new (f := e0) hy
        have hl : (dk ((daysOf ns).take n) e0).length < 1000 := by rw [dk_len, List.length_take]; omega
        refine ⟨[.sh (scr ns), .sh (.int (farOf ns)), .sh (.list (iD (daysOf ns))), .own none (.n (.l [cS C (nthOf ns 0) st0])), .own none (.n (.l [.d (dk ((daysOf ns).take (n + 1)) e0), .d []])), .own none (.n (.l [.d (dk ((daysOf ns).take (n + 1)) e0), .d []])), .ow (iD [(hAble (nthOf ns 0)).length]), .sh (.int 0), .sh (.int (hPosts (nthOf ns 0))), .sh (.list (rwD (hAble (nthOf ns 0)))), .sh (.int y), .no, .no, .no, .no], ?_, .keep (.keep (.keep (.keep (.keep (.keep (.keep (.keep (.keep (.keep (.lose (.keep (.keep (.keep (.keep .nil))))))))))))))⟩
        refine sr_cons (s1_eq (s1_putKX hr (pl_ix (k := 0) (pl_var 4 rfl) rfl rfl rfl (ev_var 7 rfl)) (ev_var 10 rfl) rfl rfl rfl (dk_nd (nd.sublist (List.take_sublist _ _))) (ex_list exa_nil) hl) (congrArg (fun t => Out.nx [.sh (scr ns), .sh (.int (farOf ns)), .sh (.list (iD (daysOf ns))), .own none (.n (.l [cS C (nthOf ns 0) st0])), .own none (.n (.l [.d t, .d []])), .own none (.n (.l [.d (dk ((daysOf ns).take n) e0), .d []])), .ow (iD [(hAble (nthOf ns 0)).length]), .sh (.int 0), .sh (.int (hPosts (nthOf ns 0))), .sh (.list (rwD (hAble (nthOf ns 0)))), .sh (.int y), .no, .no, .no, .no]) hput)) ?_
        exact sr_one (s1_eq (s1_putKX hr (pl_ix (k := 0) (pl_var 5 rfl) rfl rfl rfl (ev_var 7 rfl)) (ev_var 10 rfl) rfl rfl rfl (dk_nd (nd.sublist (List.take_sublist _ _))) (ex_list exa_nil) hl) (congrArg (fun t => Out.nx [.sh (scr ns), .sh (.int (farOf ns)), .sh (.list (iD (daysOf ns))), .own none (.n (.l [cS C (nthOf ns 0) st0])), .own none (.n (.l [.d (dk ((daysOf ns).take (n + 1)) e0), .d []])), .own none (.n (.l [.d t, .d []])), .ow (iD [(hAble (nthOf ns 0)).length]), .sh (.int 0), .sh (.int (hPosts (nthOf ns 0))), .sh (.list (rwD (hAble (nthOf ns 0)))), .sh (.int y), .no, .no, .no, .no]) hput))
      · cases he; rw [hJ]
      · rw [loopR_fold]
        rfl
    · cases hi
      refine ⟨[.sh (scr ns), .sh (.int (farOf ns)), .sh (.list (iD (daysOf ns))), .own none (.n (.l [cS C (nthOf ns 0) st0, cS C (nthOf ns 1) st0])), .own none (.n (.l [.d (dk (daysOf ns) e0), .d (dk (daysOf ns) e0)])), .own none (.n (.l [.d (dk (daysOf ns) e0), .d (dk (daysOf ns) e0)])), .ow (iD [(hAble (nthOf ns 0)).length, (hAble (nthOf ns 1)).length]), .sh (.int 1), .sh (.int (hPosts (nthOf ns 1))), .sh (.list (rwD (hAble (nthOf ns 1)))), .no, .no, .no, .no, .no], ?_, .keep (.keep (.keep (.keep (.keep (.keep (.keep (.lose (.lose (.lose (.keep (.keep (.keep (.keep (.keep .nil))))))))))))))⟩
      refine sr_cons (s1_pair 8 9 rfl scLaw.nd (ev_call GH hr (by decide) rfl (ea_cons (ev_call GN hr (by decide) rfl (ea_cons (ev_var 0 rfl) (ea_cons (ev_var 7 rfl) ea_nil)) ⟨ns, 1, rfl, rfl⟩) ea_nil) ⟨(nthOf ns 1), rfl, rfl⟩)) ?_
      refine sr_cons (s1_append 6 rfl (ev_eq (d' := .int (hAble (nthOf ns 1)).length) (ev_len rfl hB.len (ev_var 9 rfl)) (by rw [rwD_len])) (Nat.le_of_ble_eq_true rfl)) ?_
      refine sr_cons (s1_appendX (pl_var 3 rfl) rfl rfl (ex_make (w := cS C (nthOf ns 1) st0) GM hr (by decide) rfl hC (ea_cons (ev_var 8 rfl) (ea_cons (ev_var 9 rfl) ea_nil)) (fun a => ⟨a, _, _, rfl, house_is (nthOf ns 1), rfl, rfl⟩)) (Nat.le_of_ble_eq_true rfl)) ?_
      refine sr_one (s1_eq (s1_forR 10 (fun n : Nat => [.sh (scr ns), .sh (.int (farOf ns)), .sh (.list (iD (daysOf ns))), .own none (.n (.l [cS C (nthOf ns 0) st0, cS C (nthOf ns 1) st0])), .own none (.n (.l [.d (dk (daysOf ns) e0), .d (dk ((daysOf ns).take n) e0)])), .own none (.n (.l [.d (dk (daysOf ns) e0), .d (dk ((daysOf ns).take n) e0)])), .ow (iD [(hAble (nthOf ns 0)).length, (hAble (nthOf ns 1)).length]), .sh (.int 1), .sh (.int (hPosts (nthOf ns 1))), .sh (.list (rwD (hAble (nthOf ns 1)))), .no, .no, .no, .no, .no]) PyData.int (daysOf ns) (fun _ n => .nx (n + 1)) (fun i n => n = i) (s0 := 0) PassesOwn.never rfl scLaw.nd (ei_ints (ev_var 2 rfl)) rfl (fun i y n hi hJ => ?_) (fun i y n n' hi hJ he => ?_)) ?_)
      · subst hJ
        have hy : y ∉ (daysOf ns).take n := fun z => by
          obtain ⟨q, hq⟩ := List.getElem?_of_mem z
          have hqn : q < n := by
            have := (List.getElem?_eq_some_iff.mp hq).1
            rw [List.length_take] at this; omega
          rw [List.getElem?_take_of_lt hqn] at hq
          have h1 := (List.getElem?_eq_some_iff.mp hq)
          have h2 := (List.getElem?_eq_some_iff.mp hi)
          have := (List.getElem_inj nd).mp (h1.2.trans h2.2.symm)
          omega
        have ht : (daysOf ns).take n ++ [y] = (daysOf ns).take (n + 1) := by rw [List.take_add_one, hi]; rfl
        have hn5 : n < 5 := (List.getElem?_eq_some_iff.mp hi).1
        have hput : putKO (.inl y) (.int y) (.l []) (dk ((daysOf ns).take n) e0) = dk ((daysOf ns).take (n + 1)) e0 := by rw [← ht]; exact dk_new (f := e0) hy
        have hl : (dk ((daysOf ns).take n) e0).length < 1000 := by rw [dk_len, List.length_take]; omega
        refine ⟨[.sh (scr ns), .sh (.int (farOf ns)), .sh (.list (iD (daysOf ns))), .own none (.n (.l [cS C (nthOf ns 0) st0, cS C (nthOf ns 1) st0])), .own none (.n (.l [.d (dk (daysOf ns) e0), .d (dk ((daysOf ns).take (n + 1)) e0)])), .own none (.n (.l [.d (dk (daysOf ns) e0), .d (dk ((daysOf ns).take (n + 1)) e0)])), .ow (iD [(hAble (nthOf ns 0)).length, (hAble (nthOf ns 1)).length]), .sh (.int 1), .sh (.int (hPosts (nthOf ns 1))), .sh (.list (rwD (hAble (nthOf ns 1)))), .sh (.int y), .no, .no, .no, .no], ?_, .keep (.keep (.keep (.keep (.keep (.keep (.keep (.keep (.keep (.keep (.lose (.keep (.keep (.keep (.keep .nil))))))))))))))⟩
        refine sr_cons (s1_eq (s1_putKX hr (pl_ix (k := 1) (pl_var 4 rfl) rfl rfl rfl (ev_var 7 rfl)) (ev_var 10 rfl) rfl rfl rfl (dk_nd (nd.sublist (List.take_sublist _ _))) (ex_list exa_nil) hl) (congrArg (fun t => Out.nx [.sh (scr ns), .sh (.int (farOf ns)), .sh (.list (iD (daysOf ns))), .own none (.n (.l [cS C (nthOf ns 0) st0, cS C (nthOf ns 1) st0])), .own none (.n (.l [.d (dk (daysOf ns) e0), .d t])), .own none (.n (.l [.d (dk (daysOf ns) e0), .d (dk ((daysOf ns).take n) e0)])), .ow (iD [(hAble (nthOf ns 0)).length, (hAble (nthOf ns 1)).length]), .sh (.int 1), .sh (.int (hPosts (nthOf ns 1))), .sh (.list (rwD (hAble (nthOf ns 1)))), .sh (.int y), .no, .no, .no, .no]) hput)) ?_
        exact sr_one (s1_eq (s1_putKX hr (pl_ix (k := 1) (pl_var 5 rfl) rfl rfl rfl (ev_var 7 rfl)) (ev_var 10 rfl) rfl rfl rfl (dk_nd (nd.sublist (List.take_sublist _ _))) (ex_list exa_nil) hl) (congrArg (fun t => Out.nx [.sh (scr ns), .sh (.int (farOf ns)), .sh (.list (iD (daysOf ns))), .own none (.n (.l [cS C (nthOf ns 0) st0, cS C (nthOf ns 1) st0])), .own none (.n (.l [.d (dk (daysOf ns) e0), .d (dk ((daysOf ns).take (n + 1)) e0)])), .own none (.n (.l [.d (dk (daysOf ns) e0), .d t])), .ow (iD [(hAble (nthOf ns 0)).length, (hAble (nthOf ns 1)).length]), .sh (.int 1), .sh (.int (hPosts (nthOf ns 1))), .sh (.list (rwD (hAble (nthOf ns 1)))), .sh (.int y), .no, .no, .no, .no]) hput))
      · cases he; rw [hJ]
      · rw [loopR_fold]
        rfl
  · cases he; rw [hJ]
  · rw [loopR_fold]
    rfl
  refine sr_share 6 rfl ?_
  have r0 := able_rg (nthOf ns 0)
  have r1 := able_rg (nthOf ns 1)
  have hcl : (cutL ns (some 3) (some 63)).length ≤ 63 := by
    unfold cutL
    rw [List.length_take, List.length_drop]; omega
  refine sr_cons (δ1 := embB C ns ((cutL ns (some 3) (some 63)).foldl (fun s c => stepB ns c s) (st0, st0))) (s1_eq (s1_forR 11 (embB C ns) PyData.int (cutL ns (some 3) (some 63)) (fun c s => .nx (stepB ns c s)) (fun i s => GoodB ns s i) (s0 := (st0, st0)) PassesOwn.never rfl scLaw.nd (ei_ints (ev_f (ef_sliceS (ev_var 0 rfl) (eo_some ev_int) (eo_some ev_int)))) ⟨good0 _ _, good0 _ _⟩ (fun i c s hi hJ => ?_) (fun i c s s' hi hJ he => ?_)) ?_) ?_
  · have hi63 : i < 63 := by
      have := (List.getElem?_eq_some_iff.mp hi).1
      omega
    have x0 := spins_at (c := c) (m := 5) (i := 0) (by decide)
    have x1 := spins_at (c := c) (m := 5) (i := 1) (by decide)
    have x2 := spins_at (c := c) (m := 5) (i := 2) (by decide)
    have x3 := spins_at (c := c) (m := 5) (i := 3) (by decide)
    have x4 := spins_at (c := c) (m := 5) (i := 4) (by decide)
    have hy := day_in ns (xAt (spins c 5) 2)
    have hy0 := rg _ hy.2
    have a0 := Int.emod_nonneg (xAt (spins c 5) 0) (show (2 : Int) ≠ 0 by decide)
    have a1 := Int.emod_lt_of_pos (xAt (spins c 5) 0) (show (0 : Int) < 2 by decide)
    have d0 := Int.emod_nonneg (xAt (spins c 5) 2) (show (5 : Int) ≠ 0 by decide)
    have hat : xAt (spins c 5) 0 % 2 = 0 ∨ xAt (spins c 5) 0 % 2 = 1 := by omega
    have GJ := good_step (c := c) hJ
    rcases hat with hat | hat
    · have es : stepB ns c s = ((deed s.1 (xAt (spins c 5) 1 % (((hAble (nthOf ns 0)).length : Nat) : Int)) ((daysOf ns).getD (xAt (spins c 5) 2 % 5).toNat 0) (xAt (spins c 5) 3 % 9)), s.2) := by unfold stepB; dsimp only; rw [if_pos hat]
      rw [es] at GJ ⊢
      have hh0 : 0 ≤ (xAt (spins c 5) 1 % (((hAble (nthOf ns 0)).length : Nat) : Int)) := Int.emod_nonneg _ (by omega)
      have hh1 : (xAt (spins c 5) 1 % (((hAble (nthOf ns 0)).length : Nat) : Int)) < ((hAble (nthOf ns 0)).length : Int) := Int.emod_lt_of_pos _ (by omega)
      refine ⟨[.sh (scr ns), .sh (.int (farOf ns)), .sh (.list (iD (daysOf ns))), .own none (.n (.l [cS C (nthOf ns 0) (deed s.1 (xAt (spins c 5) 1 % (((hAble (nthOf ns 0)).length : Nat) : Int)) ((daysOf ns).getD (xAt (spins c 5) 2 % 5).toNat 0) (xAt (spins c 5) 3 % 9)), cS C (nthOf ns 1) s.2])), .own none (.n (.l [.d (dk (daysOf ns) (deed s.1 (xAt (spins c 5) 1 % (((hAble (nthOf ns 0)).length : Nat) : Int)) ((daysOf ns).getD (xAt (spins c 5) 2 % 5).toNat 0) (xAt (spins c 5) 3 % 9)).f), .d (dk (daysOf ns) s.2.f)])), .own none (.n (.l [.d (dk (daysOf ns) (deed s.1 (xAt (spins c 5) 1 % (((hAble (nthOf ns 0)).length : Nat) : Int)) ((daysOf ns).getD (xAt (spins c 5) 2 % 5).toNat 0) (xAt (spins c 5) 3 % 9)).g), .d (dk (daysOf ns) s.2.g)])), .sh (.list (iD [(hAble (nthOf ns 0)).length, (hAble (nthOf ns 1)).length])), .sh (.int 0), .no, .no, .no, .sh (.int c), .sh (.list (iD (spins c 5))), .sh (.int (xAt (spins c 5) 1 % (((hAble (nthOf ns 0)).length : Nat) : Int))), .no], ?_, .keep (.keep (.keep (.keep (.keep (.keep (.keep (.lose (.keep (.keep (.keep (.lose (.lose (.lose (.keep .nil))))))))))))))⟩
      refine sr_cons (s1_set 12 scLaw.nd (ev_f (ef_call GS hr (by decide) rfl (ea_cons (ev_var 11 rfl) (ea_cons (ev_int (i := 5)) ea_nil)) ⟨c, 5, rfl, by decide, rfl⟩))) ?_
      refine sr_cons (s1_set 7 scLaw.nd (ev_eq (d' := .int ((0 : Nat) : Int)) (ev_mod (ev_ix (ev_var 12 rfl) ev_int (by decide) (iD_get x0.1)) ev_int (by decide)) (by rw [hat]; rfl))) ?_
      refine sr_cons (s1_set 13 scLaw.nd (ev_mod (ev_ix (ev_var 12 rfl) ev_int (by decide) (iD_get x1.1)) (ev_ix (d := .int ((hAble (nthOf ns 0)).length : Nat)) (ev_var 6 rfl) (ev_var 7 rfl) (by decide) rfl) (by omega))) ?_
      refine sr_cons (δ1 := [.sh (scr ns), .sh (.int (farOf ns)), .sh (.list (iD (daysOf ns))), .own none (.n (.l [cS C (nthOf ns 0) (deed s.1 (xAt (spins c 5) 1 % (((hAble (nthOf ns 0)).length : Nat) : Int)) ((daysOf ns).getD (xAt (spins c 5) 2 % 5).toNat 0) (xAt (spins c 5) 3 % 9)), cS C (nthOf ns 1) s.2])), .own none (.n (.l [.d (dk (daysOf ns) (deed s.1 (xAt (spins c 5) 1 % (((hAble (nthOf ns 0)).length : Nat) : Int)) ((daysOf ns).getD (xAt (spins c 5) 2 % 5).toNat 0) (xAt (spins c 5) 3 % 9)).f), .d (dk (daysOf ns) s.2.f)])), .own none (.n (.l [.d (dk (daysOf ns) (deed s.1 (xAt (spins c 5) 1 % (((hAble (nthOf ns 0)).length : Nat) : Int)) ((daysOf ns).getD (xAt (spins c 5) 2 % 5).toNat 0) (xAt (spins c 5) 3 % 9)).g), .d (dk (daysOf ns) s.2.g)])), .sh (.list (iD [(hAble (nthOf ns 0)).length, (hAble (nthOf ns 1)).length])), .sh (.int 0), .no, .no, .no, .sh (.int c), .sh (.list (iD (spins c 5))), .sh (.int (xAt (spins c 5) 1 % (((hAble (nthOf ns 0)).length : Nat) : Int))), .no]) (s1_ifM (m := false) (etM_notN (d := .none) (ev_callP3 (w1 := cS C (nthOf ns 0) (deed s.1 (xAt (spins c 5) 1 % (((hAble (nthOf ns 0)).length : Nat) : Int)) ((daysOf ns).getD (xAt (spins c 5) 2 % 5).toNat 0) (xAt (spins c 5) 3 % 9))) (w2 := .d (dk (daysOf ns) (deed s.1 (xAt (spins c 5) 1 % (((hAble (nthOf ns 0)).length : Nat) : Int)) ((daysOf ns).getD (xAt (spins c 5) 2 % 5).toNat 0) (xAt (spins c 5) 3 % 9)).f)) (w3 := .d (dk (daysOf ns) (deed s.1 (xAt (spins c 5) 1 % (((hAble (nthOf ns 0)).length : Nat) : Int)) ((daysOf ns).getD (xAt (spins c 5) 2 % 5).toNat 0) (xAt (spins c 5) 3 % 9)).g)) GD hr (by decide) rfl (pl_ix (k := 0) (pl_var 3 rfl) rfl rfl rfl (ev_var 7 rfl)) (pl_ix (k := 0) (pl_var 4 rfl) rfl rfl rfl (ev_var 7 rfl)) (pl_ix (k := 0) (pl_var 5 rfl) rfl rfl rfl (ev_var 7 rfl)) (ea_cons (ev_var 13 rfl) (ea_cons (ev_ix (ev_var 2 rfl) (ev_mod (ev_ix (ev_var 12 rfl) ev_int (by decide) (iD_get x2.1)) ev_int (by decide)) d0 (iD_get hy.1)) (ea_cons (ev_mod (ev_ix (ev_var 12 rfl) ev_int (by decide) (iD_get x3.1)) ev_int (by decide)) ea_nil))) rfl rfl rfl rfl rfl rfl (by decide) (by decide) (by decide) rfl rfl rfl (fun a1 a2 a3 => ⟨a1, a2, a3, _, _, daysOf ns, s.1, (xAt (spins c 5) 1 % (((hAble (nthOf ns 0)).length : Nat) : Int)), ((daysOf ns).getD (xAt (spins c 5) 2 % 5).toNat 0), (xAt (spins c 5) 3 % 9), i, rfl, hJ.1, by omega, nd, by rw [hD5]; decide, hy.2, ⟨hh0, hh1, hy0.1, hy0.2⟩, r0.2, rfl, rfl⟩) rfl)) (fun z => nomatch z) (fun _ => sr_nil)) ?_
      refine sr_one (s1_eq (s1_forR 14 (fun _ : Unit => [.sh (scr ns), .sh (.int (farOf ns)), .sh (.list (iD (daysOf ns))), .own none (.n (.l [cS C (nthOf ns 0) (deed s.1 (xAt (spins c 5) 1 % (((hAble (nthOf ns 0)).length : Nat) : Int)) ((daysOf ns).getD (xAt (spins c 5) 2 % 5).toNat 0) (xAt (spins c 5) 3 % 9)), cS C (nthOf ns 1) s.2])), .own none (.n (.l [.d (dk (daysOf ns) (deed s.1 (xAt (spins c 5) 1 % (((hAble (nthOf ns 0)).length : Nat) : Int)) ((daysOf ns).getD (xAt (spins c 5) 2 % 5).toNat 0) (xAt (spins c 5) 3 % 9)).f), .d (dk (daysOf ns) s.2.f)])), .own none (.n (.l [.d (dk (daysOf ns) (deed s.1 (xAt (spins c 5) 1 % (((hAble (nthOf ns 0)).length : Nat) : Int)) ((daysOf ns).getD (xAt (spins c 5) 2 % 5).toNat 0) (xAt (spins c 5) 3 % 9)).g), .d (dk (daysOf ns) s.2.g)])), .sh (.list (iD [(hAble (nthOf ns 0)).length, (hAble (nthOf ns 1)).length])), .sh (.int 0), .no, .no, .no, .sh (.int c), .sh (.list (iD (spins c 5))), .sh (.int (xAt (spins c 5) 1 % (((hAble (nthOf ns 0)).length : Nat) : Int))), .no]) PyData.int (rgI 0 2) (fun _ _ => .nx ()) (fun _ _ => True) (s0 := ()) PassesOwn.never rfl scLaw.nd (ei_rangeN (n := 2) rfl hB.range ev_int (by decide)) trivial (fun j t _ hj _ => ?_) (fun _ _ _ _ _ _ _ => trivial)) (by rw [loopR_fold]; rfl))
      have ht := mem_rgI.mp (List.mem_of_getElem? hj)
      have ht2 : t = 0 ∨ t = 1 := by omega
      rcases ht2 with rfl | rfl
      · refine ⟨_, sr_skip (et_shareN 3 rfl (dats_two (sea_dat _ _ _ _ _) (sea_dat _ _ _ _ _)) (et_shareN 4 rfl (dats_two (dk_datT _ _) (dk_datT _ _)) (et_eq (et_not (et_val (ev_call GR hr (by decide) rfl (ea_cons (ev_ix (ev_var 3 rfl) (ev_var 14 rfl) (by decide) rfl) (ea_cons (ev_ix (ev_var 4 rfl) (ev_var 14 rfl) (by decide) rfl) (ea_cons (ev_ix (ev_var 6 rfl) (ev_var 14 rfl) (by decide) rfl) (ea_cons (ev_ix (ev_var 12 rfl) ev_int (by decide) (iD_get x4.1)) ea_nil)))) ⟨_, hAble (nthOf ns 0), daysOf ns, (deed s.1 (xAt (spins c 5) 1 % (((hAble (nthOf ns 0)).length : Nat) : Int)) ((daysOf ns).getD (xAt (spins c 5) 2 % 5).toNat 0) (xAt (spins c 5) 3 % 9)), _, _, rfl, GJ.1, hD5, rg, r0.2, rfl⟩))) rfl))) sr_nil, .keep (.keep (.keep (.keep (.keep (.keep (.keep (.keep (.keep (.keep (.keep (.keep (.keep (.keep (.lose .nil))))))))))))))⟩
      · refine ⟨_, sr_skip (et_shareN 3 rfl (dats_two (sea_dat _ _ _ _ _) (sea_dat _ _ _ _ _)) (et_shareN 4 rfl (dats_two (dk_datT _ _) (dk_datT _ _)) (et_eq (et_not (et_val (ev_call GR hr (by decide) rfl (ea_cons (ev_ix (ev_var 3 rfl) (ev_var 14 rfl) (by decide) rfl) (ea_cons (ev_ix (ev_var 4 rfl) (ev_var 14 rfl) (by decide) rfl) (ea_cons (ev_ix (ev_var 6 rfl) (ev_var 14 rfl) (by decide) rfl) (ea_cons (ev_ix (ev_var 12 rfl) ev_int (by decide) (iD_get x4.1)) ea_nil)))) ⟨_, hAble (nthOf ns 1), daysOf ns, s.2, _, _, rfl, GJ.2, hD5, rg, r1.2, rfl⟩))) rfl))) sr_nil, .keep (.keep (.keep (.keep (.keep (.keep (.keep (.keep (.keep (.keep (.keep (.keep (.keep (.keep (.lose .nil))))))))))))))⟩
    · have es : stepB ns c s = (s.1, (deed s.2 (xAt (spins c 5) 1 % (((hAble (nthOf ns 1)).length : Nat) : Int)) ((daysOf ns).getD (xAt (spins c 5) 2 % 5).toNat 0) (xAt (spins c 5) 3 % 9))) := by unfold stepB; dsimp only; rw [if_neg (by rw [hat]; decide)]
      rw [es] at GJ ⊢
      have hh0 : 0 ≤ (xAt (spins c 5) 1 % (((hAble (nthOf ns 1)).length : Nat) : Int)) := Int.emod_nonneg _ (by omega)
      have hh1 : (xAt (spins c 5) 1 % (((hAble (nthOf ns 1)).length : Nat) : Int)) < ((hAble (nthOf ns 1)).length : Int) := Int.emod_lt_of_pos _ (by omega)
      refine ⟨[.sh (scr ns), .sh (.int (farOf ns)), .sh (.list (iD (daysOf ns))), .own none (.n (.l [cS C (nthOf ns 0) s.1, cS C (nthOf ns 1) (deed s.2 (xAt (spins c 5) 1 % (((hAble (nthOf ns 1)).length : Nat) : Int)) ((daysOf ns).getD (xAt (spins c 5) 2 % 5).toNat 0) (xAt (spins c 5) 3 % 9))])), .own none (.n (.l [.d (dk (daysOf ns) s.1.f), .d (dk (daysOf ns) (deed s.2 (xAt (spins c 5) 1 % (((hAble (nthOf ns 1)).length : Nat) : Int)) ((daysOf ns).getD (xAt (spins c 5) 2 % 5).toNat 0) (xAt (spins c 5) 3 % 9)).f)])), .own none (.n (.l [.d (dk (daysOf ns) s.1.g), .d (dk (daysOf ns) (deed s.2 (xAt (spins c 5) 1 % (((hAble (nthOf ns 1)).length : Nat) : Int)) ((daysOf ns).getD (xAt (spins c 5) 2 % 5).toNat 0) (xAt (spins c 5) 3 % 9)).g)])), .sh (.list (iD [(hAble (nthOf ns 0)).length, (hAble (nthOf ns 1)).length])), .sh (.int 1), .no, .no, .no, .sh (.int c), .sh (.list (iD (spins c 5))), .sh (.int (xAt (spins c 5) 1 % (((hAble (nthOf ns 1)).length : Nat) : Int))), .no], ?_, .keep (.keep (.keep (.keep (.keep (.keep (.keep (.lose (.keep (.keep (.keep (.lose (.lose (.lose (.keep .nil))))))))))))))⟩
      refine sr_cons (s1_set 12 scLaw.nd (ev_f (ef_call GS hr (by decide) rfl (ea_cons (ev_var 11 rfl) (ea_cons (ev_int (i := 5)) ea_nil)) ⟨c, 5, rfl, by decide, rfl⟩))) ?_
      refine sr_cons (s1_set 7 scLaw.nd (ev_eq (d' := .int ((1 : Nat) : Int)) (ev_mod (ev_ix (ev_var 12 rfl) ev_int (by decide) (iD_get x0.1)) ev_int (by decide)) (by rw [hat]; rfl))) ?_
      refine sr_cons (s1_set 13 scLaw.nd (ev_mod (ev_ix (ev_var 12 rfl) ev_int (by decide) (iD_get x1.1)) (ev_ix (d := .int ((hAble (nthOf ns 1)).length : Nat)) (ev_var 6 rfl) (ev_var 7 rfl) (by decide) rfl) (by omega))) ?_
      refine sr_cons (δ1 := [.sh (scr ns), .sh (.int (farOf ns)), .sh (.list (iD (daysOf ns))), .own none (.n (.l [cS C (nthOf ns 0) s.1, cS C (nthOf ns 1) (deed s.2 (xAt (spins c 5) 1 % (((hAble (nthOf ns 1)).length : Nat) : Int)) ((daysOf ns).getD (xAt (spins c 5) 2 % 5).toNat 0) (xAt (spins c 5) 3 % 9))])), .own none (.n (.l [.d (dk (daysOf ns) s.1.f), .d (dk (daysOf ns) (deed s.2 (xAt (spins c 5) 1 % (((hAble (nthOf ns 1)).length : Nat) : Int)) ((daysOf ns).getD (xAt (spins c 5) 2 % 5).toNat 0) (xAt (spins c 5) 3 % 9)).f)])), .own none (.n (.l [.d (dk (daysOf ns) s.1.g), .d (dk (daysOf ns) (deed s.2 (xAt (spins c 5) 1 % (((hAble (nthOf ns 1)).length : Nat) : Int)) ((daysOf ns).getD (xAt (spins c 5) 2 % 5).toNat 0) (xAt (spins c 5) 3 % 9)).g)])), .sh (.list (iD [(hAble (nthOf ns 0)).length, (hAble (nthOf ns 1)).length])), .sh (.int 1), .no, .no, .no, .sh (.int c), .sh (.list (iD (spins c 5))), .sh (.int (xAt (spins c 5) 1 % (((hAble (nthOf ns 1)).length : Nat) : Int))), .no]) (s1_ifM (m := false) (etM_notN (d := .none) (ev_callP3 (w1 := cS C (nthOf ns 1) (deed s.2 (xAt (spins c 5) 1 % (((hAble (nthOf ns 1)).length : Nat) : Int)) ((daysOf ns).getD (xAt (spins c 5) 2 % 5).toNat 0) (xAt (spins c 5) 3 % 9))) (w2 := .d (dk (daysOf ns) (deed s.2 (xAt (spins c 5) 1 % (((hAble (nthOf ns 1)).length : Nat) : Int)) ((daysOf ns).getD (xAt (spins c 5) 2 % 5).toNat 0) (xAt (spins c 5) 3 % 9)).f)) (w3 := .d (dk (daysOf ns) (deed s.2 (xAt (spins c 5) 1 % (((hAble (nthOf ns 1)).length : Nat) : Int)) ((daysOf ns).getD (xAt (spins c 5) 2 % 5).toNat 0) (xAt (spins c 5) 3 % 9)).g)) GD hr (by decide) rfl (pl_ix (k := 1) (pl_var 3 rfl) rfl rfl rfl (ev_var 7 rfl)) (pl_ix (k := 1) (pl_var 4 rfl) rfl rfl rfl (ev_var 7 rfl)) (pl_ix (k := 1) (pl_var 5 rfl) rfl rfl rfl (ev_var 7 rfl)) (ea_cons (ev_var 13 rfl) (ea_cons (ev_ix (ev_var 2 rfl) (ev_mod (ev_ix (ev_var 12 rfl) ev_int (by decide) (iD_get x2.1)) ev_int (by decide)) d0 (iD_get hy.1)) (ea_cons (ev_mod (ev_ix (ev_var 12 rfl) ev_int (by decide) (iD_get x3.1)) ev_int (by decide)) ea_nil))) rfl rfl rfl rfl rfl rfl (by decide) (by decide) (by decide) rfl rfl rfl (fun a1 a2 a3 => ⟨a1, a2, a3, _, _, daysOf ns, s.2, (xAt (spins c 5) 1 % (((hAble (nthOf ns 1)).length : Nat) : Int)), ((daysOf ns).getD (xAt (spins c 5) 2 % 5).toNat 0), (xAt (spins c 5) 3 % 9), i, rfl, hJ.2, by omega, nd, by rw [hD5]; decide, hy.2, ⟨hh0, hh1, hy0.1, hy0.2⟩, r1.2, rfl, rfl⟩) rfl)) (fun z => nomatch z) (fun _ => sr_nil)) ?_
      refine sr_one (s1_eq (s1_forR 14 (fun _ : Unit => [.sh (scr ns), .sh (.int (farOf ns)), .sh (.list (iD (daysOf ns))), .own none (.n (.l [cS C (nthOf ns 0) s.1, cS C (nthOf ns 1) (deed s.2 (xAt (spins c 5) 1 % (((hAble (nthOf ns 1)).length : Nat) : Int)) ((daysOf ns).getD (xAt (spins c 5) 2 % 5).toNat 0) (xAt (spins c 5) 3 % 9))])), .own none (.n (.l [.d (dk (daysOf ns) s.1.f), .d (dk (daysOf ns) (deed s.2 (xAt (spins c 5) 1 % (((hAble (nthOf ns 1)).length : Nat) : Int)) ((daysOf ns).getD (xAt (spins c 5) 2 % 5).toNat 0) (xAt (spins c 5) 3 % 9)).f)])), .own none (.n (.l [.d (dk (daysOf ns) s.1.g), .d (dk (daysOf ns) (deed s.2 (xAt (spins c 5) 1 % (((hAble (nthOf ns 1)).length : Nat) : Int)) ((daysOf ns).getD (xAt (spins c 5) 2 % 5).toNat 0) (xAt (spins c 5) 3 % 9)).g)])), .sh (.list (iD [(hAble (nthOf ns 0)).length, (hAble (nthOf ns 1)).length])), .sh (.int 1), .no, .no, .no, .sh (.int c), .sh (.list (iD (spins c 5))), .sh (.int (xAt (spins c 5) 1 % (((hAble (nthOf ns 1)).length : Nat) : Int))), .no]) PyData.int (rgI 0 2) (fun _ _ => .nx ()) (fun _ _ => True) (s0 := ()) PassesOwn.never rfl scLaw.nd (ei_rangeN (n := 2) rfl hB.range ev_int (by decide)) trivial (fun j t _ hj _ => ?_) (fun _ _ _ _ _ _ _ => trivial)) (by rw [loopR_fold]; rfl))
      have ht := mem_rgI.mp (List.mem_of_getElem? hj)
      have ht2 : t = 0 ∨ t = 1 := by omega
      rcases ht2 with rfl | rfl
      · refine ⟨_, sr_skip (et_shareN 3 rfl (dats_two (sea_dat _ _ _ _ _) (sea_dat _ _ _ _ _)) (et_shareN 4 rfl (dats_two (dk_datT _ _) (dk_datT _ _)) (et_eq (et_not (et_val (ev_call GR hr (by decide) rfl (ea_cons (ev_ix (ev_var 3 rfl) (ev_var 14 rfl) (by decide) rfl) (ea_cons (ev_ix (ev_var 4 rfl) (ev_var 14 rfl) (by decide) rfl) (ea_cons (ev_ix (ev_var 6 rfl) (ev_var 14 rfl) (by decide) rfl) (ea_cons (ev_ix (ev_var 12 rfl) ev_int (by decide) (iD_get x4.1)) ea_nil)))) ⟨_, hAble (nthOf ns 0), daysOf ns, s.1, _, _, rfl, GJ.1, hD5, rg, r0.2, rfl⟩))) rfl))) sr_nil, .keep (.keep (.keep (.keep (.keep (.keep (.keep (.keep (.keep (.keep (.keep (.keep (.keep (.keep (.lose .nil))))))))))))))⟩
      · refine ⟨_, sr_skip (et_shareN 3 rfl (dats_two (sea_dat _ _ _ _ _) (sea_dat _ _ _ _ _)) (et_shareN 4 rfl (dats_two (dk_datT _ _) (dk_datT _ _)) (et_eq (et_not (et_val (ev_call GR hr (by decide) rfl (ea_cons (ev_ix (ev_var 3 rfl) (ev_var 14 rfl) (by decide) rfl) (ea_cons (ev_ix (ev_var 4 rfl) (ev_var 14 rfl) (by decide) rfl) (ea_cons (ev_ix (ev_var 6 rfl) (ev_var 14 rfl) (by decide) rfl) (ea_cons (ev_ix (ev_var 12 rfl) ev_int (by decide) (iD_get x4.1)) ea_nil)))) ⟨_, hAble (nthOf ns 1), daysOf ns, (deed s.2 (xAt (spins c 5) 1 % (((hAble (nthOf ns 1)).length : Nat) : Int)) ((daysOf ns).getD (xAt (spins c 5) 2 % 5).toNat 0) (xAt (spins c 5) 3 % 9)), _, _, rfl, GJ.2, hD5, rg, r1.2, rfl⟩))) rfl))) sr_nil, .keep (.keep (.keep (.keep (.keep (.keep (.keep (.keep (.keep (.keep (.keep (.keep (.keep (.keep (.lose .nil))))))))))))))⟩
  · cases he
    exact good_step hJ
  · rw [loopR_fold]; rfl
  · exact sr_one (s1_ret ev_bl)
end
end Kx
end
section
namespace Kx
open PySem PySem.Spec PyProof.Rows L2
@[elab_as_elim] theorem ar1 {α : Type} {P : List α → Prop} : ∀ (us : List α), us.length = 1 → (∀ x0, P [x0]) → P us
  | [x0], _, k => k x0
@[elab_as_elim] theorem ar2 {α : Type} {P : List α → Prop} : ∀ (us : List α), us.length = 2 → (∀ x0 x1, P [x0, x1]) → P us
  | [x0, x1], _, k => k x0 x1
@[elab_as_elim] theorem ar3 {α : Type} {P : List α → Prop} : ∀ (us : List α), us.length = 3 → (∀ x0 x1 x2, P [x0, x1, x2]) → P us
  | [x0, x1, x2], _, k => k x0 x1 x2
@[elab_as_elim] theorem ar4 {α : Type} {P : List α → Prop} : ∀ (us : List α), us.length = 4 → (∀ x0 x1 x2 x3, P [x0, x1, x2, x3]) → P us
  | [x0, x1, x2, x3], _, k => k x0 x1 x2 x3
@[elab_as_elim] theorem ar6 {α : Type} {P : List α → Prop} : ∀ (us : List α), us.length = 6 → (∀ x0 x1 x2 x3 x4 x5, P [x0, x1, x2, x3, x4, x5]) → P us
  | [x0, x1, x2, x3, x4, x5], _, k => k x0 x1 x2 x3 x4 x5
theorem all_mk {l : PySem.W.OpenLaw} {w : World} {K : PySem.W.Frag} {h : Heap} {mg : Str → Option Value} {fa f1 f2 f3 f4 f5 f6 f7 f8 f9 f10 f11 f12 f13 f14 f15 f16 f17 f18 f19 f20 f21 : Addr} (X : K.In h) (G : h.Ns mainGlobals mg) (hfa : mg "law" = some (.ref fa))
    {od1 an1 od2 an2 od3 an3 od4 an4 od5 an5 od6 an6 od7 an7 od8 an8 od9 an9 od10 an10 od11 an11 od12 an12 od13 an13 od14 an14 od15 an15 od16 an16 od17 an17 od18 an18 od19 an19 od20 an20 od21 an21 : Option Addr} {sl1 sl2 sl3 sl4 sl5 sl6 sl7 sl8 sl9 sl10 sl11 sl12 sl13 sl14 sl15 sl16 sl17 sl18 sl19 sl20 sl21 : Array (Option Value)} {oc1 kV1 dc1 pm1 cd1 ct1 oc2 kV2 dc2 pm2 cd2 ct2 oc3 kV3 dc3 pm3 cd3 ct3 oc4 kV4 dc4 pm4 cd4 ct4 oc5 kV5 dc5 pm5 cd5 ct5 oc6 kV6 dc6 pm6 cd6 ct6 oc7 kV7 dc7 pm7 cd7 ct7 oc8 kV8 dc8 pm8 cd8 ct8 oc9 kV9 dc9 pm9 cd9 ct9 oc10 kV10 dc10 pm10 cd10 ct10 oc11 kV11 dc11 pm11 cd11 ct11 oc12 kV12 dc12 pm12 cd12 ct12 oc13 kV13 dc13 pm13 cd13 ct13 oc14 kV14 dc14 pm14 cd14 ct14 oc15 kV15 dc15 pm15 cd15 ct15 oc16 kV16 dc16 pm16 cd16 ct16 oc17 kV17 dc17 pm17 cd17 ct17 oc18 kV18 dc18 pm18 cd18 ct18 oc19 kV19 dc19 pm19 cd19 ct19 oc20 kV20 dc20 pm20 cd20 ct20 oc21 kV21 dc21 pm21 cd21 ct21 : Value}
    {tk1 tk2 tk3 : Tok}
    {c_Season : Addr}
    (cC_Season : PySem.W.nsIn K mainGlobals "Season" = some (some (.ref c_Season)))
    (a1 : PySem.W.nsIn K mainGlobals "is_house" = some (some (.ref f1))) (l1 : K.lookup f1 = some ⟨oc1, od1, .func (PySem.W.fnOf "is_house" "is_house" (defArgs sIs) (defBody sIs) (defScope sIs) .none kV1 dc1 pm1 an1 cd1 ct1), sl1⟩) (c1 : PySem.W.codeIn K cd1 "is_house" = true) (k1 : PySem.W.keepIn K (.ref f1) = true)
    (a2 : PySem.W.nsIn K mainGlobals "rises_below" = some (some (.ref f2))) (l2 : K.lookup f2 = some ⟨oc2, od2, .func (PySem.W.fnOf "rises_below" "rises_below" (defArgs sRises) (defBody sRises) (defScope sRises) .none kV2 dc2 pm2 an2 cd2 ct2), sl2⟩) (c2 : PySem.W.codeIn K cd2 "rises_below" = true) (k2 : PySem.W.keepIn K (.ref f2) = true)
    (a3 : PySem.W.nsIn K mainGlobals "_law_nth" = some (some (.ref f3))) (l3 : K.lookup f3 = some ⟨oc3, od3, .func (PySem.W.fnOf "_law_nth" "_law_nth" (defArgs s__law_nth) (defBody s__law_nth) (defScope s__law_nth) .none kV3 dc3 pm3 an3 cd3 ct3), sl3⟩) (c3 : PySem.W.codeIn K cd3 "_law_nth" = true) (k3 : PySem.W.keepIn K (.ref f3) = true)
    (a4 : PySem.W.nsIn K mainGlobals "_law_spins" = some (some (.ref f4))) (l4 : K.lookup f4 = some ⟨oc4, od4, .func (PySem.W.fnOf "_law_spins" "_law_spins" (defArgs s__law_spins) (defBody s__law_spins) (defScope s__law_spins) .none kV4 dc4 pm4 an4 cd4 ct4), sl4⟩) (c4 : PySem.W.codeIn K cd4 "_law_spins" = true) (k4 : PySem.W.keepIn K (.ref f4) = true)
    (a5 : PySem.W.nsIn K mainGlobals "_law_house" = some (some (.ref f5))) (l5 : K.lookup f5 = some ⟨oc5, od5, .func (PySem.W.fnOf "_law_house" "_law_house" (defArgs sHouse) (defBody sHouse) (defScope sHouse) .none kV5 dc5 pm5 an5 cd5 ct5), sl5⟩) (c5 : PySem.W.codeIn K cd5 "_law_house" = true) (k5 : PySem.W.keepIn K (.ref f5) = true)
    (a6 : PySem.W.nsIn K mainGlobals "_law_plain" = some (some (.ref f6))) (l6 : K.lookup f6 = some ⟨oc6, od6, .func (PySem.W.fnOf "_law_plain" "_law_plain" (defArgs s__law_plain) (defBody s__law_plain) (defScope s__law_plain) .none kV6 dc6 pm6 an6 cd6 ct6), sl6⟩) (c6 : PySem.W.codeIn K cd6 "_law_plain" = true) (k6 : PySem.W.keepIn K (.ref f6) = true)
    (a7 : PySem.W.nsIn K mainGlobals "_law_deed" = some (some (.ref f7))) (l7 : K.lookup f7 = some ⟨oc7, od7, .func (PySem.W.fnOf "_law_deed" "_law_deed" (defArgs s__law_deed) (defBody s__law_deed) (defScope s__law_deed) .none kV7 dc7 pm7 an7 cd7 ct7), sl7⟩) (c7 : PySem.W.codeIn K cd7 "_law_deed" = true) (k7 : PySem.W.keepIn K (.ref f7) = true)
    (a8 : PySem.W.nsIn K mainGlobals "_law_right" = some (some (.ref f8))) (l8 : K.lookup f8 = some ⟨oc8, od8, .func (PySem.W.fnOf "_law_right" "_law_right" (defArgs s__law_right) (defBody s__law_right) (defScope s__law_right) .none kV8 dc8 pm8 an8 cd8 ct8), sl8⟩) (c8 : PySem.W.codeIn K cd8 "_law_right" = true) (k8 : PySem.W.keepIn K (.ref f8) = true)
    (a9 : PySem.W.findIn K (.ref c_Season) "__init__" = some (some (.ref f9))) (l9 : K.lookup f9 = some ⟨oc9, od9, .func (PySem.W.fnOf "__init__" "Season.__init__" (defArgs m___init__) (defBody m___init__) (defScope m___init__) .none kV9 dc9 pm9 an9 cd9 ct9), sl9⟩) (c9 : PySem.W.codeIn K cd9 "Season.__init__" = true) (k9 : PySem.W.keepIn K (.ref f9) = true) (i9 : PySem.W.isFn K (.ref f9) = true)
    (a10 : PySem.W.findIn K (.ref c_Season) "ask" = some (some (.ref f10))) (l10 : K.lookup f10 = some ⟨oc10, od10, .func (PySem.W.fnOf "ask" "Season.ask" (defArgs m_ask) (defBody m_ask) (defScope m_ask) .none kV10 dc10 pm10 an10 cd10 ct10), sl10⟩) (c10 : PySem.W.codeIn K cd10 "Season.ask" = true) (k10 : PySem.W.keepIn K (.ref f10) = true) (i10 : PySem.W.isFn K (.ref f10) = true)
    (a11 : PySem.W.findIn K (.ref c_Season) "withdraw" = some (some (.ref f11))) (l11 : K.lookup f11 = some ⟨oc11, od11, .func (PySem.W.fnOf "withdraw" "Season.withdraw" (defArgs m_withdraw) (defBody m_withdraw) (defScope m_withdraw) .none kV11 dc11 pm11 an11 cd11 ct11), sl11⟩) (c11 : PySem.W.codeIn K cd11 "Season.withdraw" = true) (k11 : PySem.W.keepIn K (.ref f11) = true) (i11 : PySem.W.isFn K (.ref f11) = true)
    (a12 : PySem.W.findIn K (.ref c_Season) "off" = some (some (.ref f12))) (l12 : K.lookup f12 = some ⟨oc12, od12, .func (PySem.W.fnOf "off" "Season.off" (defArgs m_off) (defBody m_off) (defScope m_off) .none kV12 dc12 pm12 an12 cd12 ct12), sl12⟩) (c12 : PySem.W.codeIn K cd12 "Season.off" = true) (k12 : PySem.W.keepIn K (.ref f12) = true) (i12 : PySem.W.isFn K (.ref f12) = true)
    (a13 : PySem.W.findIn K (.ref c_Season) "back" = some (some (.ref f13))) (l13 : K.lookup f13 = some ⟨oc13, od13, .func (PySem.W.fnOf "back" "Season.back" (defArgs m_back) (defBody m_back) (defScope m_back) .none kV13 dc13 pm13 an13 cd13 ct13), sl13⟩) (c13 : PySem.W.codeIn K cd13 "Season.back" = true) (k13 : PySem.W.keepIn K (.ref f13) = true) (i13 : PySem.W.isFn K (.ref f13) = true)
    (a14 : PySem.W.findIn K (.ref c_Season) "next_day" = some (some (.ref f14))) (l14 : K.lookup f14 = some ⟨oc14, od14, .func (PySem.W.fnOf "next_day" "Season.next_day" (defArgs m_next_day) (defBody m_next_day) (defScope m_next_day) .none kV14 dc14 pm14 an14 cd14 ct14), sl14⟩) (c14 : PySem.W.codeIn K cd14 "Season.next_day" = true) (k14 : PySem.W.keepIn K (.ref f14) = true) (i14 : PySem.W.isFn K (.ref f14) = true)
    (a15 : PySem.W.findIn K (.ref c_Season) "had" = some (some (.ref f15))) (l15 : K.lookup f15 = some ⟨oc15, od15, .func (PySem.W.fnOf "had" "Season.had" (defArgs m_had) (defBody m_had) (defScope m_had) .none kV15 dc15 pm15 an15 cd15 ct15), sl15⟩) (c15 : PySem.W.codeIn K cd15 "Season.had" = true) (k15 : PySem.W.keepIn K (.ref f15) = true) (i15 : PySem.W.isFn K (.ref f15) = true)
    (a16 : PySem.W.findIn K (.ref c_Season) "asks_of" = some (some (.ref f16))) (l16 : K.lookup f16 = some ⟨oc16, od16, .func (PySem.W.fnOf "asks_of" "Season.asks_of" (defArgs m_asks_of) (defBody m_asks_of) (defScope m_asks_of) .none kV16 dc16 pm16 an16 cd16 ct16), sl16⟩) (c16 : PySem.W.codeIn K cd16 "Season.asks_of" = true) (k16 : PySem.W.keepIn K (.ref f16) = true) (i16 : PySem.W.isFn K (.ref f16) = true)
    (a17 : PySem.W.findIn K (.ref c_Season) "granted" = some (some (.ref f17))) (l17 : K.lookup f17 = some ⟨oc17, od17, .func (PySem.W.fnOf "granted" "Season.granted" (defArgs m_granted) (defBody m_granted) (defScope m_granted) .none kV17 dc17 pm17 an17 cd17 ct17), sl17⟩) (c17 : PySem.W.codeIn K cd17 "Season.granted" = true) (k17 : PySem.W.keepIn K (.ref f17) = true) (i17 : PySem.W.isFn K (.ref f17) = true)
    (a18 : PySem.W.findIn K (.ref c_Season) "all_hands" = some (some (.ref f18))) (l18 : K.lookup f18 = some ⟨oc18, od18, .func (PySem.W.fnOf "all_hands" "Season.all_hands" (defArgs m_all_hands) (defBody m_all_hands) (defScope m_all_hands) .none kV18 dc18 pm18 an18 cd18 ct18), sl18⟩) (c18 : PySem.W.codeIn K cd18 "Season.all_hands" = true) (k18 : PySem.W.keepIn K (.ref f18) = true) (i18 : PySem.W.isFn K (.ref f18) = true)
    (a19 : PySem.W.findIn K (.ref c_Season) "refuse_hand" = some (some (.ref f19))) (l19 : K.lookup f19 = some ⟨oc19, od19, .func (PySem.W.fnOf "refuse_hand" "Season.refuse_hand" (defArgs m_refuse_hand) (defBody m_refuse_hand) (defScope m_refuse_hand) .none kV19 dc19 pm19 an19 cd19 ct19), sl19⟩) (c19 : PySem.W.codeIn K cd19 "Season.refuse_hand" = true) (k19 : PySem.W.keepIn K (.ref f19) = true) (i19 : PySem.W.isFn K (.ref f19) = true)
    (a20 : PySem.W.findIn K (.ref c_Season) "refuse_day" = some (some (.ref f20))) (l20 : K.lookup f20 = some ⟨oc20, od20, .func (PySem.W.fnOf "refuse_day" "Season.refuse_day" (defArgs m_refuse_day) (defBody m_refuse_day) (defScope m_refuse_day) .none kV20 dc20 pm20 an20 cd20 ct20), sl20⟩) (c20 : PySem.W.codeIn K cd20 "Season.refuse_day" = true) (k20 : PySem.W.keepIn K (.ref f20) = true) (i20 : PySem.W.isFn K (.ref f20) = true)
    (a21 : PySem.W.nsIn K mainGlobals "law" = some (some (.ref f21))) (l21 : K.lookup f21 = some ⟨oc21, od21, .func (PySem.W.fnOf "law" "law" (defArgs sLaw) (defBody sLaw) (defScope sLaw) .none kV21 dc21 pm21 an21 cd21 ct21), sl21⟩) (c21 : PySem.W.codeIn K cd21 "law" = true) (k21 : PySem.W.keepIn K (.ref f21) = true)
    (m1 : PySem.W.nsIn K mainGlobals "MOST_POSTS" = some (some (.int 12 tk1)))
    (m2 : PySem.W.nsIn K mainGlobals "MOST_HANDS" = some (some (.int 12 tk2)))
    (m3 : PySem.W.nsIn K mainGlobals "LAST_DAY" = some (some (.int 1000000 tk3)))
    (h_pg : PySem.W.plainGet K c_Season Str.empty = true)
    (h_hd : PySem.W.hasDictIn K c_Season = true)
    (h_po : PySem.W.plainOver K c_Season = true)
    (h_sa : PySem.W.findIn K (.ref c_Season) "__setattr__" = some (some (.builtin "object.__setattr__")))
    (h_mk : PySem.W.makesIn K c_Season = true)
    (h_kc : PySem.W.keepIn K (.ref c_Season) = true)
    (h_n1 : PySem.W.findIn K (.ref c_Season) "posts" = some none)
    (h_n2 : PySem.W.findIn K (.ref c_Season) "able" = some none)
    (h_n3 : PySem.W.findIn K (.ref c_Season) "asked" = some none)
    (h_n4 : PySem.W.findIn K (.ref c_Season) "absent" = some none)
    (h_n5 : PySem.W.findIn K (.ref c_Season) "leaves" = some none)
    (h_n6 : PySem.W.findIn K (.ref c_Season) "there" = some none)
    (h_n7 : PySem.W.findIn K (.ref c_Season) "ranked" = some none)
    (z1 : PySem.W.nsIn K mainGlobals "len" = some none)
    (z2 : PySem.W.nsIn K mainGlobals "list" = some none)
    (z3 : PySem.W.nsIn K mainGlobals "range" = some none)
    (z4 : PySem.W.nsIn K mainGlobals "any" = some none)
    (z5 : PySem.W.nsIn K mainGlobals "all" = some none)
    (z6 : PySem.W.nsIn K mainGlobals "isinstance" = some none)
    (z7 : PySem.W.nsIn K mainGlobals "int" = some none)
    (z8 : PySem.W.nsIn K mainGlobals "bool" = some none)
    (z9 : PySem.W.nsIn K mainGlobals "max" = some none)
    (z10 : PySem.W.nsIn K mainGlobals "min" = some none)
    (z11 : PySem.W.nsIn K mainGlobals "sorted" = some none)
    (z12 : PySem.W.nsIn K mainGlobals "tuple" = some none)
    (z13 : PySem.W.nsIn K mainGlobals "set" = some none)
    (z14 : PySem.W.nsIn K mainGlobals "enumerate" = some none)
    (z15 : PySem.W.nsIn K mainGlobals "sum" = some none)
    (z16 : PySem.W.nsIn K mainGlobals "str" = some none)
    (z17 : PySem.W.nsIn K mainGlobals "dict" = some none)
    (z18 : PySem.W.nsIn K mainGlobals "ValueError" = some none)
    : ∃ fd : FuncData, (∀ (s : Shared) (v : Value), BindsTo s fd ⟨[v], []⟩ [("script", v)]) ∧ ∀ base : Heap, K.In base → base.Ns mainGlobals mg → FnOk l.prog w K mg base CX0 5 fa fd ["script"] (spLaw K) := by
  have e := hfa.symm.trans (PySem.W.mg_of X G a21)
  cases e
  have F1 := fun_mk (st := sIs) l1 c1 k1
  have b1 := F1.binds (ps := ["posts", "able"]) fun _ _ _ _ _ _ us hl => ar2 us hl (fun _ _ => rfl)
  have g1 := PySem.W.mg_of X G a1
  have F2 := fun_mk (st := sRises) l2 c2 k2
  have b2 := F2.binds (ps := ["row", "posts"]) fun _ _ _ _ _ _ us hl => ar2 us hl (fun _ _ => rfl)
  have g2 := PySem.W.mg_of X G a2
  have F3 := fun_mk (st := s__law_nth) l3 c3 k3
  have b3 := F3.binds (ps := ["script", "k"]) fun _ _ _ _ _ _ us hl => ar2 us hl (fun _ _ => rfl)
  have g3 := PySem.W.mg_of X G a3
  have F4 := fun_mk (st := s__law_spins) l4 c4 k4
  have b4 := F4.binds (ps := ["cell", "many"]) fun _ _ _ _ _ _ us hl => ar2 us hl (fun _ _ => rfl)
  have g4 := PySem.W.mg_of X G a4
  have F5 := fun_mk (st := sHouse) l5 c5 k5
  have b5 := F5.binds (ps := ["cell"]) fun _ _ _ _ _ _ us hl => ar1 us hl (fun _ => rfl)
  have g5 := PySem.W.mg_of X G a5
  have F6 := fun_mk (st := s__law_plain) l6 c6 k6
  have b6 := F6.binds (ps := ["found", "due"]) fun _ _ _ _ _ _ us hl => ar2 us hl (fun _ _ => rfl)
  have g6 := PySem.W.mg_of X G a6
  have F7 := fun_mk (st := s__law_deed) l7 c7 k7
  have b7 := F7.binds (ps := ["season", "asks", "gone", "hand", "day", "way"]) fun _ _ _ _ _ _ us hl => ar6 us hl (fun _ _ _ _ _ _ => rfl)
  have g7 := PySem.W.mg_of X G a7
  have F8 := fun_mk (st := s__law_right) l8 c8 k8
  have b8 := F8.binds (ps := ["season", "asks", "hands", "x"]) fun _ _ _ _ _ _ us hl => ar4 us hl (fun _ _ _ _ => rfl)
  have g8 := PySem.W.mg_of X G a8
  have F9 := fun_mk (st := m___init__) l9 c9 k9
  have b9 := F9.binds (ps := ["self", "posts", "able"]) fun _ _ _ _ _ _ us hl => ar3 us hl (fun _ _ _ => rfl)
  have M9 : Meth K c_Season "__init__" f9 := ⟨a9, i9, k9⟩
  have F10 := fun_mk (st := m_ask) l10 c10 k10
  have b10 := F10.binds (ps := ["self", "hand", "day"]) fun _ _ _ _ _ _ us hl => ar3 us hl (fun _ _ _ => rfl)
  have M10 : Meth K c_Season "ask" f10 := ⟨a10, i10, k10⟩
  have F11 := fun_mk (st := m_withdraw) l11 c11 k11
  have b11 := F11.binds (ps := ["self", "hand", "day"]) fun _ _ _ _ _ _ us hl => ar3 us hl (fun _ _ _ => rfl)
  have M11 : Meth K c_Season "withdraw" f11 := ⟨a11, i11, k11⟩
  have F12 := fun_mk (st := m_off) l12 c12 k12
  have b12 := F12.binds (ps := ["self", "hand", "day"]) fun _ _ _ _ _ _ us hl => ar3 us hl (fun _ _ _ => rfl)
  have M12 : Meth K c_Season "off" f12 := ⟨a12, i12, k12⟩
  have F13 := fun_mk (st := m_back) l13 c13 k13
  have b13 := F13.binds (ps := ["self", "hand", "day"]) fun _ _ _ _ _ _ us hl => ar3 us hl (fun _ _ _ => rfl)
  have M13 : Meth K c_Season "back" f13 := ⟨a13, i13, k13⟩
  have F14 := fun_mk (st := m_next_day) l14 c14 k14
  have b14 := F14.binds (ps := ["self"]) fun _ _ _ _ _ _ us hl => ar1 us hl (fun _ => rfl)
  have M14 : Meth K c_Season "next_day" f14 := ⟨a14, i14, k14⟩
  have F15 := fun_mk (st := m_had) l15 c15 k15
  have b15 := F15.binds (ps := ["self", "hand"]) fun _ _ _ _ _ _ us hl => ar2 us hl (fun _ _ => rfl)
  have M15 : Meth K c_Season "had" f15 := ⟨a15, i15, k15⟩
  have F16 := fun_mk (st := m_asks_of) l16 c16 k16
  have b16 := F16.binds (ps := ["self", "day"]) fun _ _ _ _ _ _ us hl => ar2 us hl (fun _ _ => rfl)
  have M16 : Meth K c_Season "asks_of" f16 := ⟨a16, i16, k16⟩
  have F17 := fun_mk (st := m_granted) l17 c17 k17
  have b17 := F17.binds (ps := ["self"]) fun _ _ _ _ _ _ us hl => ar1 us hl (fun _ => rfl)
  have M17 : Meth K c_Season "granted" f17 := ⟨a17, i17, k17⟩
  have F18 := fun_mk (st := m_all_hands) l18 c18 k18
  have b18 := F18.binds (ps := ["self"]) fun _ _ _ _ _ _ us hl => ar1 us hl (fun _ => rfl)
  have M18 : Meth K c_Season "all_hands" f18 := ⟨a18, i18, k18⟩
  have F19 := fun_mk (st := m_refuse_hand) l19 c19 k19
  have b19 := F19.binds (ps := ["self", "hand"]) fun _ _ _ _ _ _ us hl => ar2 us hl (fun _ _ => rfl)
  have M19 : Meth K c_Season "refuse_hand" f19 := ⟨a19, i19, k19⟩
  have F20 := fun_mk (st := m_refuse_day) l20 c20 k20
  have b20 := F20.binds (ps := ["self", "day"]) fun _ _ _ _ _ _ us hl => ar2 us hl (fun _ _ => rfl)
  have M20 : Meth K c_Season "refuse_day" f20 := ⟨a20, i20, k20⟩
  have F21 := fun_mk (st := sLaw) l21 c21 k21
  have q1 := PySem.W.mg_of X G m1
  have q2 := PySem.W.mg_of X G m2
  have q3 := PySem.W.mg_of X G m3
  have hB : Blt mg := ⟨PySem.W.mg_none_of X G z1, PySem.W.mg_none_of X G z2, PySem.W.mg_none_of X G z3, PySem.W.mg_none_of X G z4, PySem.W.mg_none_of X G z5, PySem.W.mg_none_of X G z6, PySem.W.mg_none_of X G z7, PySem.W.mg_none_of X G z8, PySem.W.mg_none_of X G z9, PySem.W.mg_none_of X G z10, PySem.W.mg_none_of X G z11, PySem.W.mg_none_of X G z12, PySem.W.mg_none_of X G z13, PySem.W.mg_none_of X G z14, PySem.W.mg_none_of X G z15, PySem.W.mg_none_of X G z16, PySem.W.mg_none_of X G z17, PySem.W.mg_none_of X G z18⟩
  refine ⟨PySem.W.fnOf "law" "law" (defArgs sLaw) (defBody sLaw) (defScope sLaw) .none kV21 dc21 pm21 an21 cd21 ct21, fun s v => .of_eq rfl, fun base hKb hGb => ?_⟩
  have m_Season := PySem.W.mg_of X G cC_Season
  have S : SeaK K c_Season := ⟨⟨h_pg, h_hd, h_po, h_sa⟩, h_n1, h_n2, h_n3, h_n4, h_n5, h_n6, h_n7⟩
  have Gr := ok_rises (P := l.prog) (w := w) (base := base) F2 g2 b2
  have Gi := ok_is hB ⟨_, q1⟩ ⟨_, q2⟩ Gr F1 g1 b1
  have Gn := ok_nth (P := l.prog) (w := w) (base := base) F3 g3 b3
  have Gs := ok_spin (P := l.prog) (w := w) (base := base) hB F4 g4 b4
  have Gh := ok_house hB Gs F5 g5 b5
  have Gp := ok_plain (P := l.prog) (w := w) (base := base) hB F6 g6 b6
  have Na := ok_all (P := l.prog) (w := w) (mg := mg) (base := base) hB S F18 M18 b18
  have Nn := ok_next (P := l.prog) (w := w) (mg := mg) (base := base) hB S F14 M14 b14
  have Nh := ok_refH (P := l.prog) (w := w) (mg := mg) (base := base) hB S F19 M19 b19
  have Nd := ok_refD ⟨_, q3⟩ S Nn F20 M20 b20
  have Nq := ok_had hB S Nh F15 M15 b15
  have No := ok_asksOf S Na Nd F16 M16 b16
  have Ng := ok_grd (P := l.prog) (w := w) (mg := mg) (base := base) S F17 M17 b17
  have Ma := ok_ask S Nh Nd F10 M10 b10
  have Mw := ok_wdr S Nh Nd F11 M11 b11
  have Mo := ok_off S Nh Nd F12 M12 b12
  have Mb := ok_back S Nh Nd F13 M13 b13
  have Mi := ok_init hB S Gi F9 ⟨h_mk, a9, i9, h_kc⟩ b9
  have Gd := ok_deed S Ma Mw Mo Mb F7 g7 b7
  have Gt := ok_right hB S Gp No Nq Nn Ng F8 g8 b8
  exact ok_law hB S m_Season Gs Gn Gh Mi Gd Gt F21
end Kx
namespace L2
open PySem PySem.Spec PyProof.Rows
theorem law_walkZ {l : PySem.W.OpenLaw} {k : Nat} {q : Program} {loose : List Str} {XP : (Str → Option Value) → Heap → Prop} {d : DefRec} {K : Params → PySem.W.Frag} {as : List Addr} {n t : Nat} (hk : ∀ P, as = (K P).map (·.1)) (hn : l.most = some 63) (hdf : d.params.defaults = []) (hr : Room k callerA)
    (F : ∀ (w : World) (mg : Str → Option Value) (fa : Addr) (h : Heap), (K w.params).In h → h.Ns mainGlobals mg → mg d.name = some (.ref fa) →
      ∃ fd : FuncData, (∀ (s : Shared) (u : Value), BindsTo s fd ⟨[u], []⟩ [("script", u)]) ∧ ∀ base : Heap, (K w.params).In base → base.Ns mainGlobals mg → FnOk l.prog w (K w.params) mg base CX0 k fa fd ["script"] (spLaw (K w.params))) :
    PySem.W.WalkX q loose XP (PySem.W.X.obsZ as) (PySem.W.X.valZ K n t) l.row.toRowW d [] (fun f vs => PySem.call f vs) :=
  fun w s₀ s₁ mg mb G Y a o pm cd doc dV kV h1 h2 h3 h4 h5 h6 args vals as' L hpre hlay hrd hwell hlow =>
    law_walk (YP := fun w h => (K w.params).In h) (K := K) (k := k) hn hdf hr (fun _ _ z => z) F w s₀ s₁ mg mb G (PySem.W.InK.keeps w s₀.heap s₁.heap (PySem.W.X.z_facts hk Y).2.1 L.keeps) a o pm cd doc dV kV h1 h2 h3 h4 h5 h6 args vals as' hpre hlay hrd hwell hlow
end L2
open PySem PySem.W PyProof.Rows
set_option maxRecDepth 100000 in
set_option maxHeartbeats 0 in
theorem PySem.Challenge.cw_furlough_k31_asks_off_back_holds : PySem.Challenge.rw_furlough_k31_asks_off_back.Holds := by
  w_on; o_law; z_head; (case hw => w_witness2)
  k_fill
  refine L2.law_walkZ (l := PySem.Challenge.rw_furlough_k31_asks_off_back) (k := 5) (fun _ => rfl) rfl rfl ⟨rfl, by decide, by decide⟩ ?F
  case F =>
    intro w mg fa h KX G hmg
    refine' Kx.all_mk KX G hmg ?cC_Season ?a1 ?l1 ?c1 ?k1 ?a2 ?l2 ?c2 ?k2 ?a3 ?l3 ?c3 ?k3 ?a4 ?l4 ?c4 ?k4 ?a5 ?l5 ?c5 ?k5 ?a6 ?l6 ?c6 ?k6 ?a7 ?l7 ?c7 ?k7 ?a8 ?l8 ?c8 ?k8 ?a9 ?l9 ?c9 ?k9 ?i9 ?a10 ?l10 ?c10 ?k10 ?i10 ?a11 ?l11 ?c11 ?k11 ?i11 ?a12 ?l12 ?c12 ?k12 ?i12 ?a13 ?l13 ?c13 ?k13 ?i13 ?a14 ?l14 ?c14 ?k14 ?i14 ?a15 ?l15 ?c15 ?k15 ?i15 ?a16 ?l16 ?c16 ?k16 ?i16 ?a17 ?l17 ?c17 ?k17 ?i17 ?a18 ?l18 ?c18 ?k18 ?i18 ?a19 ?l19 ?c19 ?k19 ?i19 ?a20 ?l20 ?c20 ?k20 ?i20 ?a21 ?l21 ?c21 ?k21 ?m1 ?m2 ?m3 ?h_pg ?h_hd ?h_po ?h_sa ?h_mk ?h_kc ?h_n1 ?h_n2 ?h_n3 ?h_n4 ?h_n5 ?h_n6 ?h_n7 ?z1 ?z2 ?z3 ?z4 ?z5 ?z6 ?z7 ?z8 ?z9 ?z10 ?z11 ?z12 ?z13 ?z14 ?z15 ?z16 ?z17 ?z18
    (case cC_Season => k_is)
    (case a1 => k_is)
    (case l1 => k_is)
    (case c1 => k_is)
    (case k1 => k_is)
    (case a2 => k_is)
    (case l2 => k_is)
    (case c2 => k_is)
    (case k2 => k_is)
    (case a3 => k_is)
    (case l3 => k_is)
    (case c3 => k_is)
    (case k3 => k_is)
    (case a4 => k_is)
    (case l4 => k_is)
    (case c4 => k_is)
    (case k4 => k_is)
    (case a5 => k_is)
    (case l5 => k_is)
    (case c5 => k_is)
    (case k5 => k_is)
    (case a6 => k_is)
    (case l6 => k_is)
    (case c6 => k_is)
    (case k6 => k_is)
    (case a7 => k_is)
    (case l7 => k_is)
    (case c7 => k_is)
    (case k7 => k_is)
    (case a8 => k_is)
    (case l8 => k_is)
    (case c8 => k_is)
    (case k8 => k_is)
    (case a9 => k_is)
    (case l9 => k_is)
    (case c9 => k_is)
    (case k9 => k_is)
    (case i9 => k_is)
    (case a10 => k_is)
    (case l10 => k_is)
    (case c10 => k_is)
    (case k10 => k_is)
    (case i10 => k_is)
    (case a11 => k_is)
    (case l11 => k_is)
    (case c11 => k_is)
    (case k11 => k_is)
    (case i11 => k_is)
    (case a12 => k_is)
    (case l12 => k_is)
    (case c12 => k_is)
    (case k12 => k_is)
    (case i12 => k_is)
    (case a13 => k_is)
    (case l13 => k_is)
    (case c13 => k_is)
    (case k13 => k_is)
    (case i13 => k_is)
    (case a14 => k_is)
    (case l14 => k_is)
    (case c14 => k_is)
    (case k14 => k_is)
    (case i14 => k_is)
    (case a15 => k_is)
    (case l15 => k_is)
    (case c15 => k_is)
    (case k15 => k_is)
    (case i15 => k_is)
    (case a16 => k_is)
    (case l16 => k_is)
    (case c16 => k_is)
    (case k16 => k_is)
    (case i16 => k_is)
    (case a17 => k_is)
    (case l17 => k_is)
    (case c17 => k_is)
    (case k17 => k_is)
    (case i17 => k_is)
    (case a18 => k_is)
    (case l18 => k_is)
    (case c18 => k_is)
    (case k18 => k_is)
    (case i18 => k_is)
    (case a19 => k_is)
    (case l19 => k_is)
    (case c19 => k_is)
    (case k19 => k_is)
    (case i19 => k_is)
    (case a20 => k_is)
    (case l20 => k_is)
    (case c20 => k_is)
    (case k20 => k_is)
    (case i20 => k_is)
    (case a21 => k_is)
    (case l21 => k_is)
    (case c21 => k_is)
    (case k21 => k_is)
    (case m1 => k_is)
    (case m2 => k_is)
    (case m3 => k_is)
    (case h_pg => k_is)
    (case h_hd => k_is)
    (case h_po => k_is)
    (case h_sa => k_is)
    (case h_mk => k_is)
    (case h_kc => k_is)
    (case h_n1 => k_is)
    (case h_n2 => k_is)
    (case h_n3 => k_is)
    (case h_n4 => k_is)
    (case h_n5 => k_is)
    (case h_n6 => k_is)
    (case h_n7 => k_is)
    (case z1 => k_is)
    (case z2 => k_is)
    (case z3 => k_is)
    (case z4 => k_is)
    (case z5 => k_is)
    (case z6 => k_is)
    (case z7 => k_is)
    (case z8 => k_is)
    (case z9 => k_is)
    (case z10 => k_is)
    (case z11 => k_is)
    (case z12 => k_is)
    (case z13 => k_is)
    (case z14 => k_is)
    (case z15 => k_is)
    (case z16 => k_is)
    (case z17 => k_is)
    (case z18 => k_is)
end
