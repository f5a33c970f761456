import PyProof.Rows.All
import Wide.All
import OpenK.AllK
import Wide.FinOn
import Lean
import PyProof.EqAt
import PyProof.EqKinds
import PyProof.TupleCall
import PySem.Challenge.RW_furlough_k13_short
set_option compiler.extract_closed false
set_option genSizeOf false
set_option genInjectivity false
set_option Elab.async false
set_option linter.all false
set_option maxRecDepth 100000
set_option maxHeartbeats 4000000
section
theorem Zz.a5 {α β γ : Sort _} {p q : α → β → γ → Prop} {R : Prop} (h : ∃ a b c, p a b c ∧ q a b c) (f : ∀ a b c, p a b c → q a b c → R) : R := by
  obtain ⟨a, b, c, x, y⟩ := h
  exact f a b c x y
theorem Zz.b5 {α β : Sort _} {p q r : α → β → Prop} {R : Prop} (h : ∃ a b, p a b ∧ q a b ∧ r a b) (f : ∀ a b, p a b → q a b → r a b → R) : R := by
  obtain ⟨a, b, x, y, z⟩ := h
  exact f a b x y z
namespace L2
open PySem PySem.Spec PyProof.Rows
noncomputable abbrev Key := Sum Int Str
noncomputable def keyIs : Key → Value → Bool
  | .inl k, v => Value.isInt k v
  | .inr x, v => Value.isStrOf x v
noncomputable def keyH (w : World) : Key → Int
  | .inl k => hashInt k
  | .inr x => hashStr w x
theorem keyIs_shape : ∀ {k : Key} {v : Value}, keyIs k v = true → (∃ i t, k = Sum.inl i ∧ v = Value.int i t) ∨ (∃ x t, k = Sum.inr x ∧ v = Value.str x t)
  | .inl i, v, h => by
    obtain ⟨t, e⟩ := Value.isInt_shape (k := i) (v := v) h
    exact .inl ⟨i, t, rfl, e⟩
  | .inr x, v, h => by
    obtain ⟨t, e⟩ := Value.isStrOf_shape (x := x) (v := v) h
    exact .inr ⟨x, t, rfl, e⟩
theorem keyIs_int (i : Int) (t : Tok) : keyIs (.inl i) (.int i t) = true := by simp [keyIs, Value.isInt]
theorem keyIs_str (x : Str) (t : Tok) : keyIs (.inr x) (.str x t) = true := by simp [keyIs, Value.isStrOf]
theorem key_ll (a b : Int) : decide ((Sum.inl a : Key) = Sum.inl b) = (a == b) := by
  by_cases e : a = b
  · subst e; simp
  · have h : ¬ (Sum.inl a : Key) = Sum.inl b := fun q => e (Sum.inl.inj q)
    rw [decide_eq_false h]
    exact (beq_eq_false_iff_ne.mpr e).symm
theorem key_rr (a b : Str) : decide ((Sum.inr a : Key) = Sum.inr b) = decide (a = b) := by
  by_cases e : a = b
  · subst e; simp
  · have h : ¬ (Sum.inr a : Key) = Sum.inr b := fun q => e (Sum.inr.inj q)
    rw [decide_eq_false h, decide_eq_false e]
theorem key_lr (a : Int) (b : Str) : decide ((Sum.inl a : Key) = Sum.inr b) = false := decide_eq_false (fun q => nomatch q)
theorem key_rl (a : Str) (b : Int) : decide ((Sum.inr a : Key) = Sum.inl b) = false := decide_eq_false (fun q => nomatch q)
noncomputable def mixKind (prog : Program) (w : World) : PySem.KeyKind prog w Key where
  is := keyIs
  hash := keyH w
  inj := fun v a b ha hb => by
    rcases keyIs_shape ha with ⟨i, t, rfl, rfl⟩ | ⟨x, t, rfl, rfl⟩
    · rcases keyIs_shape hb with ⟨j, u, rfl, e⟩ | ⟨y, u, rfl, e⟩
      · injection e with e1 _; rw [e1]
      · exact nomatch e
    · rcases keyIs_shape hb with ⟨j, u, rfl, e⟩ | ⟨y, u, rfl, e⟩
      · exact nomatch e
      · injection e with e1 _; rw [e1]
  byValue := fun k v h => by
    rcases keyIs_shape h with ⟨i, t, rfl, rfl⟩ | ⟨x, t, rfl, rfl⟩ <;> rfl
  pyHash := fun hv h => by
    rcases keyIs_shape hv with ⟨i, t, rfl, rfl⟩ | ⟨x, t, rfl, rfl⟩
    · exact wpAny_pyHash_int h
    · exact wpAny_pyHash_str h
  eqBool := fun hu hv h => by
    rcases keyIs_shape hu with ⟨i, t, rfl, rfl⟩ | ⟨x, t, rfl, rfl⟩
    · rcases keyIs_shape hv with ⟨j, u, rfl, rfl⟩ | ⟨y, u, rfl, rfl⟩
      · rw [key_ll] at h; exact wpAny_eqBool_int h
      · rw [key_lr] at h; exact SeqAt.EqAt.int_str i t y u _ _ _ _ h
    · rcases keyIs_shape hv with ⟨j, u, rfl, rfl⟩ | ⟨y, u, rfl, rfl⟩
      · rw [key_rl] at h; exact SeqAt.EqAt.str_int x t j u _ _ _ _ h
      · rw [key_rr] at h; exact wpAny_eqBool_str h
  «strs» := fun k x t v h => by
    rcases keyIs_shape h with ⟨i, u, rfl, e⟩ | ⟨y, u, rfl, e⟩
    · exact nomatch e
    · injection e with e1 _
      subst e1
      cases v <;> rfl
theorem mixKind_int (prog : Program) (w : World) (i : Int) (t : Tok) : (mixKind prog w).is (.inl i) (.int i t) = true := keyIs_int i t
theorem mixKind_str (prog : Program) (w : World) (x : Str) (t : Tok) : (mixKind prog w).is (.inr x) (.str x t) = true := keyIs_str x t
end L2
namespace L2
open PySem PySem.Spec PyProof.Rows
inductive V where
  | non | bl (b : Bool) | int (i : Int) | str (x : Str) | byt (b : Array UInt8) | flt (b : UInt64) | ref (a : Addr) | ty (n : String)
  deriving DecidableEq
noncomputable def RelV : V → Value → Prop
  | .non, u => u = Value.none
  | .bl b, u => u = Value.bool b
  | .int i, u => ∃ t, u = Value.int i t
  | .str x, u => ∃ t, u = Value.str x t
  | .byt b, u => ∃ t, u = Value.bytes b t
  | .flt b, u => ∃ t, u = Value.float b t
  | .ref a, u => u = Value.ref a
  | .ty n, u => u = Value.type n
noncomputable abbrev Vals : List V → List Value → Prop := Paired RelV
theorem Vals.length {xs : List V} {us : List Value} (r : Vals xs us) : xs.length = us.length := Paired.length r
theorem Vals.get : ∀ {xs : List V} {us : List Value} {i : Nat} {x : V}, Vals xs us → xs[i]? = some x → ∃ u, us[i]? = some u ∧ RelV x u
  | _, _, _, _, .nil, e => by simp at e
  | _, _, 0, _, .cons r _, e => by simp at e; subst e; exact ⟨_, rfl, r⟩
  | _, _, i + 1, x, .cons _ t, e => by
    obtain ⟨u, h1, h2⟩ := Vals.get (i := i) (x := x) t (by simpa using e)
    exact ⟨u, by simpa using h1, h2⟩
theorem Vals.set {x : V} {u : Value} (r : RelV x u) : ∀ {xs : List V} {us : List Value} (i : Nat), Vals xs us → Vals (xs.set i x) (us.set i u)
  | _, _, _, .nil => .nil
  | _, _, 0, .cons _ t => .cons r t
  | _, _, i + 1, .cons q t => .cons q (Vals.set r i t)
theorem Vals.append : ∀ {xs ys : List V} {us ws : List Value}, Vals xs us → Vals ys ws → Vals (xs ++ ys) (us ++ ws)
  | _, _, _, _, .nil, s => s
  | _, _, _, _, .cons r t, s => .cons r (Vals.append t s)
theorem Vals.take : ∀ {xs : List V} {us : List Value} (n : Nat), Vals xs us → Vals (xs.take n) (us.take n)
  | _, _, 0, _ => .nil
  | _, _, _ + 1, .nil => .nil
  | _, _, n + 1, .cons r t => .cons r (Vals.take n t)
theorem Vals.drop : ∀ {xs : List V} {us : List Value} (n : Nat), Vals xs us → Vals (xs.drop n) (us.drop n)
  | _, _, 0, r => r
  | _, _, _ + 1, .nil => .nil
  | _, _, n + 1, .cons _ t => Vals.drop n t
theorem Vals.none_of : ∀ {xs : List V} {us : List Value} {i : Nat}, Vals xs us → xs[i]? = none → us[i]? = none := fun {xs us i} r e => by
  have h1 := r.length
  have h2 : xs.length ≤ i := List.getElem?_eq_none_iff.mp e
  exact List.getElem?_eq_none_iff.mpr (by omega)
noncomputable def RelO : Option V → Option Value → Prop
  | some v, some u => RelV v u
  | none, none => True
  | _, _ => False
noncomputable def KV {κ : Type} : List (κ × V) → List (κ × Value) → Prop := Paired fun (p : κ × V) (q : κ × Value) => p.1 = q.1 ∧ RelV p.2 q.2
noncomputable def kV : Key → V
  | .inl i => .int i
  | .inr x => .str x
inductive HO where
  /-- a list -/
  | lst (xs : List V)
  /-- a tuple (never changes) -/
  | tup (xs : List V)
  /-- a dict whose keys are ints and texts; one whose keys are tuples of ints and texts (the empty one is both) -/
  | dK (kvs : List (Key × V)) | dT (kvs : List (List Key × V))
  /-- a set of ints: its members, its size -/
  | set (S : Int → Bool) (n : Nat)
  /-- an instance of the class at C, its dict at dx, its attributes -/
  | ins (C dx : Addr) (fs : List (Str × V))
  /-- the dict of the instance at x -/
  | own (x : Addr)
  /-- the dict of an exception -/
  | xd (fs : List (Str × V))
  /-- a bound method, f of x -/
  | met (f x : Addr)
  /-- a range object lo, lo + 1, .. below hi -/
  | rng (lo hi : Int)
  /-- a thing that is known to the object (the script; a dict while a loop walks it): read, never written while it is so -/
  | frz (o : Obj) (u : HO)
  /-- a code object's table -/
  | tbl (ps : Array Value)
  /-- any other thing, by what is true of its one object (a def of one's own: SetO a S n := HO.ext fun h => ..) -/
  | ext (φ : Heap → Prop)
noncomputable abbrev Hp := Addr → Option HO
noncomputable def upd (H : Hp) (a : Addr) (o : HO) : Hp := fun b => if b = a then some o else H b
theorem upd_same {H : Hp} {a : Addr} {o : HO} : upd H a o a = some o := by unfold upd; rw [if_pos rfl]
theorem upd_ne {H : Hp} {a b : Addr} {o : HO} (h : b ≠ a) : upd H a o b = H b := by unfold upd; rw [if_neg h]
theorem ne_of {H : Hp} {a b : Addr} {o u : HO} (h : H a = some o) (h' : H b = some u) (d : o ≠ u) : a ≠ b := by
  intro e; subst e; rw [h] at h'; exact d (Option.some.inj h')
theorem ne_of_none {H : Hp} {a b : Addr} {o : HO} (h : H a = some o) (h' : H b = none) : a ≠ b := by
  intro e; subst e; rw [h] at h'; cases h'
section
variable (P : Program) (w : World)
noncomputable def ObjOk (H : Hp) (h : Heap) (a : Addr) : HO → Prop
  | .lst xs => xs.length ≤ sizeLine ∧ ∃ (its : List Value) (n : Nat), Vals xs its ∧ h.get? a = some { cls := .type "list", data := .seq its.toArray n }
  | .tup xs => xs.length ≤ sizeLine ∧ ∃ its : List Value, Vals xs its ∧ IsTup h a its.toArray
  | .dK kvs => kvs.length ≤ sizeLine ∧ (a == sysModules) = false ∧ ∃ vs, KV kvs vs ∧ h.DictOf (mixKind P w) a vs
  | .dT kvs => kvs.length ≤ sizeLine ∧ (a == sysModules) = false ∧ ∃ xs : List (List Key × Addr × Value),
      Paired (fun (p : List Key × V) (q : List Key × Addr × Value) => p.1 = q.1 ∧ H q.2.1 = some (.tup (p.1.map kV)) ∧ RelV p.2 q.2.2) kvs xs ∧
      ∃ o es ep, h.get? a = some o ∧ o.ExactDict ∧ o.data = .dict es ep ∧ es.toList = xs.map (entryOfKey (tupleKind (mixKind P w))) ∧ (xs.map (·.1)).Nodup
  | .set S n => h.SetOf (intKind P w) a S n
  | .ins C dx fs => H dx = some (.own a) ∧ fs.length ≤ 1000 ∧ dx ≠ a ∧ h.get? a = some (PySem.W.instObj C dx) ∧
      ∃ mA, h.Ns1 dx mA ∧ (∀ f, RelO (fs.lookup f) (mA f)) ∧ PySem.Within mA (fs.map (·.1))
  | .own _ => ∃ o, h.get? a = some o
  | .xd fs => ∃ mA, h.Ns1 a mA ∧ ∀ f, RelO (fs.lookup f) (mA f)
  | .rng lo hi => ∃ t u v, h.get? a = some { cls := .type "range", data := .fields #[.int lo t, .int hi u, .int 1 v] }
  | .frz o u => h.get? a = some o ∧ ObjOk H h a u
  | .tbl ps => h.get? a = some { cls := .none, data := .fields ps }
  | .met f x => h.get? a = some (PySem.W.methodObj (.ref f) (.ref x))
  | .ext φ => φ h ∧ (∃ o, h.get? a = some o) ∧ ∀ h1 h2 : Heap, φ h1 → (∀ o, h1.get? a = some o → h2.get? a = some o) → φ h2
noncomputable def HOk (H : Hp) (h : Heap) : Prop := ∀ a o, H a = some o → ObjOk P w H h a o
end
section
variable {P : Program} {w : World} {H H' : Hp} {h h' : Heap} {a : Addr} {o : HO}
theorem ObjOk.lt (x : ObjOk P w H h a o) : a < h.objs.size := by
  cases o with
  | lst xs => obtain ⟨_, _, _, _, e⟩ := x; exact Heap.lt_size e
  | tup xs => obtain ⟨_, _, _, p⟩ := x; exact p.lt
  | dK kvs => obtain ⟨_, _, _, _, o, _, _, e, _⟩ := x; exact Heap.lt_size e
  | dT kvs => obtain ⟨_, _, _, _, o, _, _, e, _⟩ := x; exact Heap.lt_size e
  | set S n => obtain ⟨o, _, _, _, e, _⟩ := x; exact Heap.lt_size e
  | ins C dx fs => obtain ⟨_, _, _, e, _⟩ := x; exact Heap.lt_size e
  | own y => obtain ⟨_, e⟩ := x; exact Heap.lt_size e
  | xd fs => obtain ⟨_, ⟨_, _, _, e, _⟩, _⟩ := x; exact Heap.lt_size e
  | rng lo hi => obtain ⟨_, _, _, e⟩ := x; exact Heap.lt_size e
  | frz ob u => obtain ⟨e, _⟩ := x; exact Heap.lt_size e
  | tbl ps => exact Heap.lt_size (show h.get? a = some _ from x)
  | met f y => exact Heap.lt_size (show h.get? a = some _ from x)
  | ext φ => obtain ⟨_, ⟨_, e⟩, _⟩ := x; exact Heap.lt_size e
theorem Paired.mapP {α β : Type} {F G : α → β → Prop} : ∀ {l₁ : List α} {l₂ : List β}, Paired F l₁ l₂ → (∀ a b, F a b → G a b) → Paired G l₁ l₂
  | _, _, .nil, _ => .nil
  | _, _, .cons r t, f => .cons (f _ _ r) (Paired.mapP t f)
theorem ObjOk.stay (x : ObjOk P w H h a o) (k : ∀ b u, (b = a ∨ H b = some (.own a)) → h.get? b = some u → h'.get? b = some u)
    (ho : ∀ b, H b = some (.own a) → H' b = some (.own a)) (ht : ∀ b xs, H b = some (.tup xs) → H' b = some (.tup xs)) : ObjOk P w H' h' a o := by
  induction o with
  | lst xs => obtain ⟨z, its, n, r, e⟩ := x; exact ⟨z, its, n, r, k _ _ (.inl rfl) e⟩
  | tup xs => obtain ⟨z, its, r, ob, e, c⟩ := x; exact ⟨z, its, r, ob, k _ _ (.inl rfl) e, c⟩
  | dK kvs => obtain ⟨z, y, vs, r, ob, es, ep, e, c⟩ := x; exact ⟨z, y, vs, r, ob, es, ep, k _ _ (.inl rfl) e, c⟩
  | dT kvs =>
    obtain ⟨z, y, xs, r, ob, es, ep, e, c⟩ := x
    exact ⟨z, y, xs, Paired.mapP r fun p q z => ⟨z.1, ht _ _ z.2.1, z.2.2⟩, ob, es, ep, k _ _ (.inl rfl) e, c⟩
  | set S n => obtain ⟨ob, es, ep, t, e, c⟩ := x; exact ⟨ob, es, ep, t, k _ _ (.inl rfl) e, c⟩
  | ins C dx fs =>
    obtain ⟨d, z, ne, e, mA, ⟨od, es, ep, e2, c⟩, r⟩ := x
    exact ⟨ho _ d, z, ne, k _ _ (.inl rfl) e, mA, ⟨od, es, ep, k _ _ (.inr d) e2, c⟩, r⟩
  | own y => obtain ⟨ob, e⟩ := x; exact ⟨ob, k _ _ (.inl rfl) e⟩
  | xd fs => obtain ⟨mA, ⟨od, es, ep, e, c⟩, r⟩ := x; exact ⟨mA, ⟨od, es, ep, k _ _ (.inl rfl) e, c⟩, r⟩
  | rng lo hi => obtain ⟨t, u, v, e⟩ := x; exact ⟨t, u, v, k _ _ (.inl rfl) e⟩
  | frz ob u ih => obtain ⟨e, q⟩ := x; exact ⟨k _ _ (.inl rfl) e, ih q⟩
  | tbl ps =>
    have e : h.get? a = some { cls := .none, data := .fields ps } := x
    show h'.get? a = some { cls := .none, data := .fields ps }
    exact k a _ (.inl rfl) e
  | met f y =>
    have e : h.get? a = some (PySem.W.methodObj (.ref f) (.ref y)) := x
    show h'.get? a = some (PySem.W.methodObj (.ref f) (.ref y))
    exact k a _ (.inl rfl) e
  | ext φ => obtain ⟨p, ⟨o, e⟩, st⟩ := x; exact ⟨st _ _ p fun o q => k _ _ (.inl rfl) q, ⟨o, k _ _ (.inl rfl) e⟩, st⟩
theorem HOk.lt (x : HOk P w H h) (e : H a = some o) : a < h.objs.size := (x a o e).lt
theorem HOk.fresh (x : HOk P w H h) (e : h.objs.size ≤ a) : H a = none := by
  cases q : H a with
  | none => rfl
  | some u => exact absurd (Nat.lt_of_lt_of_le (x.lt q) e) (Nat.lt_irrefl _)
theorem HOk.kept (x : HOk P w H h) (k : ∀ b u, h.get? b = some u → h'.get? b = some u) : HOk P w H h' := fun a o e =>
  (x a o e).stay (fun b u _ q => k b u q) (fun _ q => q) fun _ _ q => q
theorem HOk.laid (x : HOk P w H h) (k : ∀ b u, h.get? b = some u → h'.get? b = some u) (hp : h.objs.size ≤ a) (new : ObjOk P w (upd H a o) h' a o) : HOk P w (upd H a o) h' := fun b u e => by
  have hn := x.fresh hp
  by_cases hb : b = a
  · subst hb; rw [upd_same] at e; cases e; exact new
  · rw [upd_ne hb] at e
    exact (x b u e).stay (fun c v _ q => k c v q) (fun c q => by rw [upd_ne (ne_of_none q hn)]; exact q) fun c xs q => by rw [upd_ne (ne_of_none q hn)]; exact q
end
noncomputable def Rd (H : Hp) (a : Addr) (u : HO) : Prop := H a = some u ∨ ∃ o, H a = some (.frz o u)
theorem Rd.ok {P : Program} {w : World} {H : Hp} {h : Heap} {a : Addr} {u : HO} (r : Rd H a u) (x : HOk P w H h) : ObjOk P w H h a u := by
  rcases r with r | ⟨o, r⟩
  · exact x a u r
  · obtain ⟨_, q⟩ := x a _ r
    exact q
noncomputable def Mut : Option HO → Prop
  | some (.lst _) => True
  | some (.dK _) => True
  | some (.dT _) => True
  | some (.set _ _) => True
  | some (.ins _ _ _) => True
  | some (.ext _) => True
  | _ => False
section
variable {P : Program} {w : World} {H : Hp} {h h' : Heap} {x e : Addr} {o' : HO}
theorem HOk.write (ok : HOk P w H h) (mu : Mut (H x)) (he : e = x ∨ H e = some (.own x)) (k : ∀ b u, b ≠ e → h.get? b = some u → h'.get? b = some u) (heo : ∃ u, h'.get? e = some u)
    (new : ObjOk P w (upd H x o') h' x o') : HOk P w (upd H x o') h' := fun b u q => by
  have nown : ∀ c y, H c = some (.own y) → c ≠ x := fun c y r z => by subst z; rw [r] at mu; exact mu
  have ntup : ∀ c xs, H c = some (.tup xs) → c ≠ x := fun c xs r z => by subst z; rw [r] at mu; exact mu
  by_cases hb : b = x
  · subst hb; rw [upd_same] at q; cases q; exact new
  · rw [upd_ne hb] at q
    by_cases hbe : b = e
    · have q' : H b = some (.own x) := by
        rcases he with z | z
        · exact absurd (hbe.trans z) hb
        · rw [hbe]; exact z
      rw [q] at q'; cases q'
      obtain ⟨v, hv⟩ := heo
      exact ⟨v, by rw [hbe]; exact hv⟩
    · refine (ok b u q).stay (fun c v hc r => k c v ?_ r) (fun c r => by rw [upd_ne (nown c b r)]; exact r) fun c xs r => by rw [upd_ne (ntup c xs r)]; exact r
      rcases hc with rfl | hc
      · exact hbe
      · rintro rfl
        rcases he with z | z
        · exact nown c b hc z
        · rw [hc] at z; cases z; exact hb rfl
end
structure Un (fs ex : List Addr) (H H' : Hp) (h h' : Heap) : Prop where
  keep : ∀ b o, h.get? b = some o → H b = none → b ∉ fs → b ∉ ex → h'.get? b = some o
  slot : ∀ b o, h.get? b = some o → H b = none → b ∈ fs → b ∉ ex → ∃ sl, h'.get? b = some { o with slots := sl }
  free : ∀ b o, h.get? b = some o → H b = none → b ∉ ex → H' b = none
  there : ∀ b o, h.get? b = some o → b ∉ ex → ∃ o', h'.get? b = some o'
  tups : ∀ b xs, H b = some (.tup xs) → H' b = some (.tup xs)
  frzs : ∀ b o u, H b = some (.frz o u) → H' b = some (.frz o u)
  tbls : ∀ b ps, H b = some (.tbl ps) → ∃ more, H' b = some (.tbl (ps ++ more))
section
variable {fs fs' ex ex' : List Addr} {H H1 H2 : Hp} {h h1 h2 h' : Heap} {a x e : Addr} {o : HO}
theorem Un.any (u : Un fs ex H H1 h h1) {b : Addr} {ob : Obj} (q : h.get? b = some ob) (n : H b = none) (hx : b ∉ ex) : ∃ sl, h1.get? b = some { ob with slots := sl } := by
  by_cases hb : b ∈ fs
  · exact u.slot b ob q n hb hx
  · exact ⟨ob.slots, u.keep b ob q n hb hx⟩
theorem Un.trans (a : Un fs ex H H1 h h1) (b : Un fs ex H1 H2 h1 h2) : Un fs ex H H2 h h2 where
  keep := fun c ob q n hc hx => b.keep c ob (a.keep c ob q n hc hx) (a.free c ob q n hx) hc hx
  slot := fun c ob q n hc hx => by
    obtain ⟨sl, e1⟩ := a.slot c ob q n hc hx
    obtain ⟨sl', e2⟩ := b.slot c _ e1 (a.free c ob q n hx) hc hx
    exact ⟨sl', e2⟩
  free := fun c ob q n hx => by
    obtain ⟨o', e1⟩ := a.there c ob q hx
    exact b.free c o' e1 (a.free c ob q n hx) hx
  there := fun c ob q hx => by
    obtain ⟨o', e1⟩ := a.there c ob q hx
    exact b.there c o' e1 hx
  tups := fun c xs q => b.tups c xs (a.tups c xs q)
  frzs := fun c ob xs q => b.frzs c ob xs (a.frzs c ob xs q)
  tbls := fun c ps q => by
    obtain ⟨m1, e1⟩ := a.tbls c ps q
    obtain ⟨m2, e2⟩ := b.tbls c _ e1
    exact ⟨m1 ++ m2, by rw [e2, Array.append_assoc]⟩
theorem Un.kept (k : ∀ b u, h.get? b = some u → h'.get? b = some u) : Un fs ex H H h h' :=
  ⟨fun b ob q _ _ _ => k b ob q, fun b ob q _ _ _ => ⟨ob.slots, k b ob q⟩, fun _ _ _ n _ => n, fun b ob q _ => ⟨ob, k b ob q⟩, fun _ _ q => q, fun _ _ _ q => q, fun _ ps q => ⟨#[], by rw [q]; simp⟩⟩
theorem Un.refl : Un fs ex H H h h := Un.kept fun _ _ q => q
theorem Un.laid (k : ∀ b u, h.get? b = some u → h'.get? b = some u) (hp : h.objs.size ≤ a) (hn : H a = none) : Un fs ex H (upd H a o) h h' where
  keep := fun b u q _ _ _ => k b u q
  slot := fun b u q _ _ _ => ⟨u.slots, k b u q⟩
  free := fun b u q n _ => by rw [upd_ne (Nat.ne_of_lt (Nat.lt_of_lt_of_le (Heap.lt_size q) hp))]; exact n
  there := fun b u q _ => ⟨u, k b u q⟩
  tups := fun b xs q => by rw [upd_ne (ne_of_none q hn)]; exact q
  frzs := fun b u xs q => by rw [upd_ne (ne_of_none q hn)]; exact q
  tbls := fun b ps q => ⟨#[], by rw [upd_ne (ne_of_none q hn), q]; simp⟩
theorem Un.write (mu : Mut (H x)) (he : e = x ∨ H e = some (.own x)) (k : ∀ b u, b ≠ e → h.get? b = some u → h'.get? b = some u) (heo : ∃ u, h'.get? e = some u) : Un fs ex H (upd H x o) h h' := by
  have hx : ∀ b, H b = none → b ≠ x := fun b n z => by subst z; rw [n] at mu; exact mu
  have hb : ∀ b, H b = none → b ≠ e := fun b n z => by
    subst z
    rcases he with r | r
    · exact hx b n r
    · rw [n] at r; cases r
  have hm : ∀ b u, H b = some u → ¬ Mut (some u) → b ≠ x := fun b u q nm z => by subst z; rw [q] at mu; exact nm mu
  refine ⟨fun b u q n _ _ => k b u (hb b n) q, fun b u q n _ _ => ⟨u.slots, k b u (hb b n) q⟩, fun b u q n _ => by rw [upd_ne (hx b n)]; exact n, fun b u q _ => ?_,
    fun b xs q => by rw [upd_ne (hm b _ q fun z => z)]; exact q, fun b u xs q => by rw [upd_ne (hm b _ q fun z => z)]; exact q, fun b ps q => ⟨#[], by rw [upd_ne (hm b _ q fun z => z), q]; simp⟩⟩
  by_cases hbe : b = e
  · subst hbe; exact heo
  · exact ⟨u, k b u hbe q⟩
theorem Un.mono (u : Un fs ex H H1 h h1) (hs : ∀ b ∈ fs, b ∈ fs') (hx : ∀ b ∈ ex, b ∈ ex') : Un fs' ex' H H1 h h1 :=
  ⟨fun b ob q n hb he => u.keep b ob q n (fun z => hb (hs b z)) fun z => he (hx b z), fun _ _ q n _ he => u.any q n fun z => he (hx _ z), fun b ob q n he => u.free b ob q n fun z => he (hx b z), fun b ob q he => u.there b ob q fun z => he (hx b z), u.tups, u.frzs, u.tbls⟩
end
noncomputable def trk (h : Heap) (H : Hp) : List Addr := (List.range h.objs.size).filter fun a => (H a).isSome
noncomputable def hidT (h : Heap) (H : Hp) : Heap := PySem.W.hideAll h (trk h H)
theorem hidT_size (h : Heap) (H : Hp) : (hidT h H).objs.size = h.objs.size := PySem.W.hideAll_size _ _
theorem hidT_get {h : Heap} {H : Hp} {b : Addr} {o : Obj} (e : h.get? b = some o) (n : H b = none) : (hidT h H).get? b = some o :=
  PySem.W.hideAll_get _ e fun hm => by
    have q : (H b).isSome = true := (List.mem_filter.mp hm).2
    rw [n] at q; simp at q
theorem of_hidT {h : Heap} {H : Hp} {b : Addr} {o : Obj} (e : (hidT h H).get? b = some o) : h.get? b = some o ∧ H b = none := by
  have e' : h.get? b = some o := PySem.W.of_hideAll (trk h H) e
  refine ⟨e', ?_⟩
  cases q : H b with
  | none => rfl
  | some x =>
    have hm : b ∈ trk h H := List.mem_filter.mpr ⟨List.mem_range.mpr (Heap.lt_size e'), by simp [q]⟩
    have z : (hidT h H).get? b = none := PySem.W.hideAll_none (trk h H) hm
    rw [z] at e; cases e
end L2
namespace L2
open PySem PySem.Spec PyProof.Rows
structure Mod (K : PySem.W.Frag) (mg : Str → Option Value) (base : Heap) : Prop where
  kin : K.In base
  glob : base.Ns mainGlobals mg
  blt : ∃ mb, base.Ns builtinsNs mb ∧ ∀ x : Str, x ≠ "__name__" → mb x = bootBuiltins x
  nolimit : base.NoLimit
structure Cx where
  prog : Program
  w : World
  K : PySem.W.Frag
  mg : Str → Option Value
  base : Heap
  A : Around
  N : List Str
  s₀ : Shared
  H₀ : Hp
  env : Env
  outer : List Env
  stack : List Env
  ex : List Addr
  fn : Str → Bool
  calm : Bool
  pn : List (Addr × Obj)
  xe : Value → Shared → Prop
noncomputable def frs (l : List Env) : List Addr := l.filterMap (·.frame)
noncomputable abbrev Cx.fs (X : Cx) : List Addr := frs X.outer
noncomputable def Vis (sc : Scope) (x : Str) : Prop := sc.names.lookup x = some .local ∨ sc.names.lookup x = some .cell ∨ sc.names.lookup x = some .free
noncomputable def Loc (sc : Scope) (x : Str) : Prop := sc.names.lookup x = some .local ∨ sc.names.lookup x = some .cell
noncomputable def Look (env : Env) (h : Heap) (m : Str → Option Value) (x : Str) (u : Value) : Prop :=
  (env.kindOf x = some .local ∧ m x = some u) ∨ ((env.kindOf x = some .cell ∨ env.kindOf x = some .free) ∧ ∃ c, env.cells.lookup x = some c ∧ h.IsCell c (some u))
structure Cx.Ok (X : Cx) : Prop where
  mod : Mod X.K X.mg X.base
  kind : X.env.scope.kind = .function
  glob : X.env.globals = mainGlobals
  blt : X.env.builtins = builtinsNs
  above : X.s₀.heap.objs.size ≤ X.env.locals
  inj : ∀ x y c, X.env.cells.lookup x = some c → X.env.cells.lookup y = some c → x = y
  has : ∀ x, (X.env.kindOf x = some .cell ∨ X.env.kindOf x = some .free) → ∃ c, X.env.cells.lookup x = some c
  cab : ∀ x c, X.fn x = true → X.env.cells.lookup x = some c → X.s₀.heap.objs.size ≤ c
  hd : X.calm = true → X.A.handled = none
  frames : X.A.frames = some X.stack
  stk : X.stack = X.outer ∨ (X.stack = X.env :: X.outer ∧ X.env.frame = some X.env.locals)
  exf : ∀ b ∈ X.ex, b ≠ X.env.locals ∧ ∀ x c, X.env.cells.lookup x = some c → c ≠ b
  bs : ∀ b o, X.base.get? b = some o → X.s₀.heap.get? b = some o ∧ X.H₀ b = none
  bsz : X.base.objs.size ≤ X.s₀.heap.objs.size
  noex : ∀ b o, X.base.get? b = some o → b ∉ X.ex
  exfs : ∀ b ∈ X.ex, b ∉ X.fs
  funs : X.s₀.heap.FunFrames X.base X.outer
  frf : ∀ b ∈ X.fs, X.H₀ b = none
structure Inv (X : Cx) (pins : List (Addr × Obj)) (σ : List (Option V)) (H : Hp) (s : Shared) : Prop where
  ok : X.Ok
  os : s.os = X.s₀.os
  bare : AllBare s.gens
  base : Un X.fs X.ex X.H₀ H X.s₀.heap s.heap
  loc : ∃ m, s.heap.Ns X.env.locals m ∧ ∀ (i : Nat) (x : Str) (v : V), X.N[i]? = some x → σ[i]? = some (some v) → Vis X.env.scope x → ∃ u, RelV v u ∧ Look X.env s.heap m x u
  cell : ∀ x c, X.env.cells.lookup x = some c → ∃ v, s.heap.IsCell c v
  free : H X.env.locals = none
  freeC : ∀ x c, X.env.cells.lookup x = some c → H c = none
  pin : ∀ p ∈ X.pn ++ pins, s.heap.get? p.1 = some p.2 ∧ H p.1 = none ∧ p.1 ≠ X.env.locals ∧ p.1 ∉ X.fs ∧ ∀ v, p.2.data ≠ .cell v
  hok : HOk X.prog X.w H s.heap
  len : σ.length = X.N.length
section
variable {X : Cx} {pins : List (Addr × Obj)} {σ : List (Option V)} {H H' : Hp} {s : Shared} {h' : Heap}
theorem Cx.Ok.nofr (ok : X.Ok) {b : Addr} {o : Obj} (e : X.base.get? b = some o) : b ∉ X.fs := fun hb => by
  have := (ok.funs.mem hb).1
  rw [e] at this; cases this
theorem Inv.bs (I : Inv X pins σ H s) : ∀ b o, X.base.get? b = some o → s.heap.get? b = some o ∧ H b = none := fun b o e =>
  ⟨I.base.keep b o (I.ok.bs b o e).1 (I.ok.bs b o e).2 (I.ok.nofr e) (I.ok.noex b o e), I.base.free b o (I.ok.bs b o e).1 (I.ok.bs b o e).2 (I.ok.noex b o e)⟩
theorem Inv.bk (I : Inv X pins σ H s) : ∀ b o, X.base.get? b = some o → s.heap.get? b = some o := fun b o e => (I.bs b o e).1
theorem Inv.mod (I : Inv X pins σ H s) : Mod X.K X.mg X.base := I.ok.mod
theorem Inv.kIn (I : Inv X pins σ H s) : X.K.In s.heap := I.ok.mod.kin.keeps I.bk
theorem Inv.lt (I : Inv X pins σ H s) : X.env.locals < s.heap.objs.size := let ⟨_, hn, _⟩ := I.loc; hn.lt
theorem Inv.sz (I : Inv X pins σ H s) : X.s₀.heap.objs.size ≤ s.heap.objs.size := Nat.le_trans I.ok.above (Nat.le_of_lt I.lt)
theorem Inv.nofs (I : Inv X pins σ H s) {a : Addr} (h : s.heap.objs.size ≤ a) : a ∉ X.fs := fun hb => by
  obtain ⟨_, o, ho, _⟩ := I.ok.funs.mem hb
  exact absurd (Nat.lt_of_lt_of_le (Heap.lt_size ho) (Nat.le_trans I.sz h)) (Nat.lt_irrefl _)
theorem Inv.cne (I : Inv X pins σ H s) : ∀ x c, X.env.cells.lookup x = some c → c ≠ X.env.locals := fun x c e z => by
  obtain ⟨v, o, ho, hd⟩ := I.cell x c e
  obtain ⟨m, ⟨o', es, ep, ho', hd', _⟩, _⟩ := I.loc
  rw [z, ho'] at ho; cases ho; rw [hd'] at hd; cases hd
theorem Inv.funs (I : Inv X pins σ H s) : s.heap.FunFrames X.base X.outer := by
  have all : ∀ (l : List Env), (∀ b ∈ frs l, b ∈ X.fs) → X.s₀.heap.FunFrames X.base l → s.heap.FunFrames X.base l := by
    intro l
    induction l with
    | nil => intro _ _; trivial
    | cons env r ih =>
      intro hs hl
      obtain ⟨hk, ⟨L, o, hf, hn, ho, hd⟩, hr⟩ := hl
      have hL : L ∈ X.fs := hs L (by unfold frs; rw [List.filterMap_cons, hf]; exact List.mem_cons_self)
      obtain ⟨sl, e⟩ := I.base.slot L o ho (I.ok.frf L hL) hL fun z => I.ok.exfs L z hL
      exact ⟨hk, ⟨L, _, hf, hn, e, hd⟩, ih (fun b hb => hs b (by unfold frs; rw [List.filterMap_cons, hf]; exact List.mem_cons_of_mem _ hb)) hr⟩
  exact all X.outer (fun _ hb => hb) I.ok.funs
theorem Inv.stack (I : Inv X pins σ H s) : s.heap.FunFrames X.base X.stack := by
  rcases I.ok.stk with e | ⟨e, hf⟩
  · rw [e]; exact I.funs
  · rw [e]
    obtain ⟨m, hn, _⟩ := I.loc
    refine .cons (by rw [I.ok.kind]; decide) hf hn ?_ I.funs
    exact Heap.get?_none_of_le (Nat.le_trans I.ok.bsz I.ok.above)
theorem Inv.stkSub (I : Inv X pins σ H s) : ∀ b ∈ frs X.stack, b ∈ X.env.locals :: X.fs := fun b hb => by
  rcases I.ok.stk with e | ⟨e, hf⟩
  · rw [e] at hb; exact List.mem_cons_of_mem _ hb
  · rw [e] at hb
    unfold frs at hb
    rw [List.filterMap_cons, hf] at hb
    exact hb
theorem Inv.stkFree (I : Inv X pins σ H s) : ∀ b ∈ frs X.stack, H b = none := fun b hb => by
  rcases List.mem_cons.mp (I.stkSub b hb) with e | hb
  · rw [e]; exact I.free
  · obtain ⟨_, o, ho, _⟩ := I.ok.funs.mem hb
    exact I.base.free b o ho (I.ok.frf b hb) fun z => I.ok.exfs b z hb
theorem Inv.step {g' : Array GenState} {t' : Nat} {d' : Drawn} {ch : List Addr} (I : Inv X pins σ H s)
    (hch : ∀ b ∈ ch, (b ∈ X.ex ∨ X.s₀.heap.objs.size ≤ b) ∧ b ≠ X.env.locals ∧ (∀ x c, X.env.cells.lookup x = some c → c ≠ b) ∧ ∀ p ∈ X.pn ++ pins, p.1 ≠ b)
    (keep : ∀ b o, b ≠ X.env.locals → b ∉ X.fs → b ∉ ch → s.heap.get? b = some o → H b = none → h'.get? b = some o)
    (slot : ∀ b o, b ≠ X.env.locals → b ∈ X.fs → b ∉ ch → s.heap.get? b = some o → H b = none → ∃ sl, h'.get? b = some { o with slots := sl }) (free : ∀ b o, b ∉ ch → s.heap.get? b = some o → H b = none → H' b = none)
    (there : ∀ b o, b ∉ ch → s.heap.get? b = some o → ∃ o', h'.get? b = some o')
    (tups : ∀ b xs, H b = some (.tup xs) → H' b = some (.tup xs)) (frzs : ∀ b o u, H b = some (.frz o u) → H' b = some (.frz o u)) (tbls : ∀ b ps, H b = some (.tbl ps) → ∃ more, H' b = some (.tbl (ps ++ more)))
    (ns : ∀ m, s.heap.Ns X.env.locals m → h'.Ns X.env.locals m) (hok : HOk X.prog X.w H' h') (hg : AllBare g') :
    Inv X pins σ H' { s with heap := h', gens := g', drawn := d', toks := t' } := by
  have neL : ∀ b o, X.s₀.heap.get? b = some o → b ≠ X.env.locals := fun b o e => Nat.ne_of_lt (Nat.lt_of_lt_of_le (Heap.lt_size e) I.ok.above)
  have neC : ∀ b o, X.s₀.heap.get? b = some o → b ∉ X.ex → b ∉ ch := fun b o e hx hb => by
    rcases (hch b hb).1 with z | z
    · exact hx z
    · exact absurd (Nat.lt_of_lt_of_le (Heap.lt_size e) z) (Nat.lt_irrefl _)
  have cellK : ∀ x c, X.env.cells.lookup x = some c → ∀ v, s.heap.IsCell c v → h'.IsCell c v := fun x c e v ⟨o, ho, hd⟩ => by
    have nch : c ∉ ch := fun z => (hch c z).2.2.1 x c e rfl
    by_cases hc : c ∈ X.fs
    · obtain ⟨sl, q⟩ := slot c o (I.cne x c e) hc nch ho (I.freeC x c e)
      exact ⟨_, q, hd⟩
    · exact ⟨o, keep c o (I.cne x c e) hc nch ho (I.freeC x c e), hd⟩
  refine ⟨I.ok, I.os, hg, ⟨fun b o e n hb hx => ?_, fun b o e n hb hx => ?_, fun b o e n hx => ?_, fun b o e hx => ?_, fun b xs e => tups b xs (I.base.tups b xs e), fun b o xs e => frzs b o xs (I.base.frzs b o xs e), fun b ps e => ?_⟩, ?_, fun x c e => ?_, ?_, fun x c e => ?_, fun p hp => ?_, hok, I.len⟩
  · exact keep b o (neL b o e) hb (neC b o e hx) (I.base.keep b o e n hb hx) (I.base.free b o e n hx)
  · obtain ⟨sl, e1⟩ := I.base.slot b o e n hb hx
    obtain ⟨sl', e2⟩ := slot b _ (neL b o e) hb (neC b o e hx) e1 (I.base.free b o e n hx)
    exact ⟨sl', e2⟩
  · obtain ⟨o', e1⟩ := I.base.there b o e hx
    exact free b o' (neC b o e hx) e1 (I.base.free b o e n hx)
  · obtain ⟨o', e1⟩ := I.base.there b o e hx
    exact there b o' (neC b o e hx) e1
  · obtain ⟨m1, e1⟩ := I.base.tbls b ps e
    obtain ⟨m2, e2⟩ := tbls b _ e1
    exact ⟨m1 ++ m2, by rw [e2, Array.append_assoc]⟩
  · obtain ⟨m, hn, hl⟩ := I.loc
    refine ⟨m, ns m hn, fun i x v e1 e2 e3 => ?_⟩
    obtain ⟨u, r, l⟩ := hl i x v e1 e2 e3
    refine ⟨u, r, ?_⟩
    rcases l with l | ⟨k, c, e, z⟩
    · exact .inl l
    · exact .inr ⟨k, c, e, cellK x c e _ z⟩
  · obtain ⟨v, z⟩ := I.cell x c e
    exact ⟨v, cellK x c e v z⟩
  · obtain ⟨m, ⟨o, _, _, ho, _⟩, _⟩ := I.loc
    exact free _ o (fun z => (hch _ z).2.1 rfl) ho I.free
  · obtain ⟨v, o, ho, hd⟩ := I.cell x c e
    exact free c o (fun z => (hch c z).2.2.1 x c e rfl) ho (I.freeC x c e)
  · obtain ⟨e, n, ne, nf, d⟩ := I.pin p hp
    have nch : p.1 ∉ ch := fun z => (hch p.1 z).2.2.2 p hp rfl
    exact ⟨keep p.1 p.2 ne nf nch e n, free p.1 p.2 nch e n, ne, nf, d⟩
theorem Inv.un {t' : Nat} (I : Inv X pins σ H s) (u : Un X.fs [] H H' s.heap h') (hok : HOk X.prog X.w H' h') : Inv X pins σ H' { s with heap := h', toks := t' } := by
  obtain ⟨m, ⟨o, es, ep, ho, r⟩, _⟩ := id I.loc
  obtain ⟨sl, hL⟩ := u.any ho I.free (by simp)
  exact I.step (g' := s.gens) (d' := s.drawn) (ch := []) (fun _ z => nomatch z) (fun b o _ hb _ e n => u.keep b o e n hb (by simp)) (fun b o _ hb _ e n => u.slot b o e n hb (by simp)) (fun b o _ e n => u.free b o e n (by simp)) (fun b o _ e => u.there b o e (by simp)) u.tups u.frzs u.tbls (fun m' hm => by
    obtain ⟨o', es', ep', ho', r'⟩ := hm
    rw [ho] at ho'; cases ho'
    exact ⟨_, es', ep', hL, r'⟩) hok I.bare
theorem Inv.call {g' : Array GenState} {t' : Nat} {d' : Drawn} {ch : List Addr} (I : Inv X pins σ H s) (u : Un (frs X.stack) ch H H' s.heap h') (hok : HOk X.prog X.w H' h') (hg : AllBare g')
    (hch : ∀ b ∈ ch, (b ∈ X.ex ∨ X.s₀.heap.objs.size ≤ b) ∧ b ≠ X.env.locals ∧ (∀ x c, X.env.cells.lookup x = some c → c ≠ b) ∧ ∀ p ∈ X.pn ++ pins, p.1 ≠ b) :
    Inv X pins σ H' { s with heap := h', gens := g', drawn := d', toks := t' } := by
  obtain ⟨m, ⟨o, es, ep, ho, r⟩, _⟩ := id I.loc
  obtain ⟨sl, hL⟩ := u.any ho I.free fun z => (hch _ z).2.1 rfl
  exact I.step (ch := ch) hch (fun b o hL hb hc e n => u.keep b o e n (fun z => (List.mem_cons.mp (I.stkSub b z)).elim hL hb) hc) (fun b o _ _ hc e n => u.any e n hc) (fun b o hc e n => u.free b o e n hc) (fun b o hc e => u.there b o e hc) u.tups u.frzs u.tbls (fun m' hm => by
    obtain ⟨o', es', ep', ho', r'⟩ := hm
    rw [ho] at ho'; cases ho'
    exact ⟨_, es', ep', hL, r'⟩) hok hg
theorem Inv.turned {t' : Nat} {it : Addr} (I : Inv X pins σ H s) (k : ∀ b o, b ≠ it → s.heap.get? b = some o → h'.get? b = some o) (hn : H it = none) (hL : it ≠ X.env.locals)
    (h1 : it ∈ X.ex ∨ X.s₀.heap.objs.size ≤ it) (h2 : ∀ x c, X.env.cells.lookup x = some c → c ≠ it) (h3 : ∀ p ∈ X.pn ++ pins, p.1 ≠ it) : Inv X pins σ H { s with heap := h', toks := t' } := by
  have nit : ∀ b u, H b = some u → b ≠ it := fun b u e z => by rw [z, hn] at e; cases e
  refine I.step (g' := s.gens) (d' := s.drawn) (ch := [it]) (fun b hb => ?_) (fun b o _ _ hc e _ => k b o (fun z => hc (by simp [z])) e) (fun b o _ _ hc e _ => ⟨o.slots, k b o (fun z => hc (by simp [z])) e⟩) (fun _ _ _ _ n => n)
    (fun b o hc e => ⟨o, k b o (fun z => hc (by simp [z])) e⟩) (fun _ _ e => e) (fun _ _ _ e => e) (fun b ps e => ⟨#[], by rw [e]; simp⟩) (fun m hm => ?_) (fun b u e => ?_) I.bare
  · have e : b = it := by simpa using hb
    subst e
    exact ⟨h1, hL, h2, h3⟩
  · obtain ⟨o, es, ep, ho, r⟩ := hm
    exact ⟨o, es, ep, k _ o (Ne.symm hL) ho, r⟩
  · refine (I.hok b u e).stay (fun c v hc q => k c v ?_ q) (fun _ q => q) fun _ _ q => q
    rcases hc with z | z
    · rw [z]; exact nit b u e
    · exact nit c _ z
theorem Inv.tok (I : Inv X pins σ H s) (t : Nat) : Inv X pins σ H { s with toks := t } := I.un (h' := s.heap) (t' := t) Un.refl I.hok
theorem Inv.kept {t' : Nat} (I : Inv X pins σ H s) (k : ∀ b u, s.heap.get? b = some u → h'.get? b = some u) : Inv X pins σ H { s with heap := h', toks := t' } := I.un (Un.kept k) (I.hok.kept k)
theorem Inv.laid {a : Addr} {o : HO} {t' : Nat} (I : Inv X pins σ H s) (k : ∀ b u, s.heap.get? b = some u → h'.get? b = some u) (hp : s.heap.objs.size ≤ a) (new : ObjOk X.prog X.w (upd H a o) h' a o) :
    Inv X pins σ (upd H a o) { s with heap := h', toks := t' } := I.un (Un.laid k hp (I.hok.fresh hp)) (I.hok.laid k hp new)
theorem Inv.write {x e : Addr} {o : HO} {t' : Nat} (I : Inv X pins σ H s) (mu : Mut (H x)) (he : e = x ∨ H e = some (.own x)) (k : ∀ b u, b ≠ e → s.heap.get? b = some u → h'.get? b = some u) (heo : ∃ u, h'.get? e = some u)
    (new : ObjOk X.prog X.w (upd H x o) h' x o) : Inv X pins σ (upd H x o) { s with heap := h', toks := t' } := I.un (Un.write mu he k heo) (I.hok.write mu he k heo new)
theorem Inv.weak {σ' : List (Option V)} (I : Inv X pins σ H s) (hl : σ'.length = σ.length) (w : ∀ (i : Nat) v, σ'[i]? = some (some v) → σ[i]? = some (some v)) : Inv X pins σ' H s :=
  ⟨I.ok, I.os, I.bare, I.base, let ⟨m, hn, hl'⟩ := I.loc; ⟨m, hn, fun i x v e1 e2 e3 => hl' i x v e1 (w i v e2) e3⟩, I.cell, I.free, I.freeC, I.pin, I.hok, hl.trans I.len⟩
theorem Inv.pins_of {pins' : List (Addr × Obj)} (I : Inv X pins σ H s) (h : ∀ p ∈ pins', s.heap.get? p.1 = some p.2 ∧ H p.1 = none ∧ p.1 ≠ X.env.locals ∧ p.1 ∉ X.fs ∧ ∀ v, p.2.data ≠ .cell v) : Inv X pins' σ H s :=
  ⟨I.ok, I.os, I.bare, I.base, I.loc, I.cell, I.free, I.freeC, fun p hp => (List.mem_append.mp hp).elim (fun z => I.pin p (List.mem_append_left _ z)) (h p), I.hok, I.len⟩
theorem nodup_ix {N : List Str} (hN : N.Nodup) {i j : Nat} {x : Str} (a : N[i]? = some x) (b : N[j]? = some x) : i = j := by
  obtain ⟨h1, e1⟩ := List.getElem?_eq_some_iff.mp a
  obtain ⟨h2, e2⟩ := List.getElem?_eq_some_iff.mp b
  exact (List.getElem_inj hN).mp (e1.trans e2.symm)
theorem store_ok2 {M : Model} {A : Around} {E : Value → Shared → Prop} {i : Nat} {x : Str} {v : V} {u : Value} {Q : Unit → Shared → Prop} (I : Inv X pins σ H s) (hN : X.N.Nodup) (hi : X.N[i]? = some x) (hx : Loc X.env.scope x) (r : RelV v u)
    (h : ∀ s', Inv X pins (σ.set i (some v)) H s' → (∃ a, Heap.SameBut a s.heap s'.heap ∧ (a = X.env.locals ∨ X.env.cells.lookup x = some a)) → Q () s') (hf : X.fn x = true ∨ X.env.scope.names.lookup x = some .local := by first | exact .inl rfl | exact .inr rfl | assumption) : wpAny M A (storeName X.env x u) Q E s := by
  obtain ⟨m, hn, hl⟩ := id I.loc
  have hcls : (X.env.scope.kind == .class || (X.env.scope.kind == .module && X.env.locals != X.env.globals)) = false := by rw [I.ok.kind]; rfl
  have hiσ : i < σ.length := by rw [I.len]; exact (List.getElem?_eq_some_iff.mp hi).1
  have cne := I.cne
  have tracked : ∀ {a : Addr} {h' : Heap}, (∃ o, s.heap.get? a = some o ∧ H a = none) → Heap.SameBut a s.heap h' → HOk X.prog X.w H h' := fun {a h'} ha hs b ob e => by
    obtain ⟨_, _, hfree⟩ := ha
    refine (I.hok b ob e).stay (fun c w' hc q => (hs.2 c ?_).trans q) (fun _ q => q) fun _ _ q => q
    rintro rfl
    rcases hc with rfl | hc
    · rw [hfree] at e; cases e
    · rw [hfree] at hc; cases hc
  rcases hx with hk | hk
  · refine wpAny_storeName_local hk hn (fun h' hn' hs => ?_) hcls
    obtain ⟨oL, _, _, hoL, _⟩ := id hn
    refine h _ ⟨I.ok, I.os, I.bare, ⟨fun b o e n hb hx => ?_, fun b o e n hb hx => ?_, I.base.free, fun b o e hx => ?_, I.base.tups, I.base.frzs, I.base.tbls⟩, ⟨_, hn', fun j y v' e1 e2 e3 => ?_⟩, fun y c e => ?_, I.free, I.freeC, fun p hp => ?_, tracked ⟨oL, hoL, I.free⟩ hs, by simpa using I.len⟩ ⟨_, hs, .inl rfl⟩
    · exact (hs.2 b (Nat.ne_of_lt (Nat.lt_of_lt_of_le (Heap.lt_size e) I.ok.above))).trans (I.base.keep b o e n hb hx)
    · obtain ⟨sl, e1⟩ := I.base.slot b o e n hb hx
      exact ⟨sl, (hs.2 b (Nat.ne_of_lt (Nat.lt_of_lt_of_le (Heap.lt_size e) I.ok.above))).trans e1⟩
    · obtain ⟨o', e1⟩ := I.base.there b o e hx
      exact ⟨o', (hs.2 b (Nat.ne_of_lt (Nat.lt_of_lt_of_le (Heap.lt_size e) I.ok.above))).trans e1⟩
    · by_cases hj : j = i
      · subst hj
        rw [hi] at e1; cases e1
        rw [List.getElem?_set_self hiσ] at e2
        cases e2
        exact ⟨u, r, .inl ⟨hk, by simp⟩⟩
      · rw [List.getElem?_set_ne (Ne.symm hj)] at e2
        obtain ⟨u', r', q⟩ := hl j y v' e1 e2 e3
        refine ⟨u', r', ?_⟩
        rcases q with ⟨k, e⟩ | ⟨k, c, e, z⟩
        · refine .inl ⟨k, ?_⟩
          have : y ≠ x := fun e => hj (nodup_ix hN e1 (e ▸ hi))
          simp [this, e]
        · exact .inr ⟨k, c, e, z.sameBut hs (cne y c e)⟩
    · obtain ⟨w', z⟩ := I.cell y c e
      exact ⟨w', z.sameBut hs (cne y c e)⟩
    · obtain ⟨e, n, ne, nf, d⟩ := I.pin p hp
      exact ⟨(hs.2 p.1 ne).trans e, n, ne, nf, d⟩
  · have hfn : X.fn x = true := by
      rcases hf with z | z
      · exact z
      · rw [z] at hk; cases hk
    obtain ⟨c, hc⟩ := I.ok.has x (.inl hk)
    obtain ⟨w', z⟩ := I.cell x c hc
    refine wpAny_storeName_cell I.ok.kind hk hc z (fun h' hc' hs => ?_)
    obtain ⟨oc, hoc, hocd⟩ := id z
    refine h { s with heap := h' } ⟨I.ok, I.os, I.bare, ⟨fun b o e n hb hx => ?_, fun b o e n hb hx => ?_, I.base.free, fun b o e hx => ?_, I.base.tups, I.base.frzs, I.base.tbls⟩, ⟨m, hn.sameBut hs (Ne.symm (cne x c hc)), fun j y v' e1 e2 e3 => ?_⟩, fun y c' e => ?_, I.free, I.freeC, fun p hp => ?_, tracked ⟨oc, hoc, I.freeC x c hc⟩ hs, by simpa using I.len⟩ ⟨c, hs, .inr hc⟩
    · exact (hs.2 b (Nat.ne_of_lt (Nat.lt_of_lt_of_le (Heap.lt_size e) (I.ok.cab x c hfn hc)))).trans (I.base.keep b o e n hb hx)
    · obtain ⟨sl, e1⟩ := I.base.slot b o e n hb hx
      exact ⟨sl, (hs.2 b (Nat.ne_of_lt (Nat.lt_of_lt_of_le (Heap.lt_size e) (I.ok.cab x c hfn hc)))).trans e1⟩
    · obtain ⟨o', e1⟩ := I.base.there b o e hx
      exact ⟨o', (hs.2 b (Nat.ne_of_lt (Nat.lt_of_lt_of_le (Heap.lt_size e) (I.ok.cab x c hfn hc)))).trans e1⟩
    · by_cases hj : j = i
      · subst hj
        rw [hi] at e1; cases e1
        rw [List.getElem?_set_self hiσ] at e2
        cases e2
        exact ⟨u, r, .inr ⟨.inl hk, c, hc, hc'⟩⟩
      · rw [List.getElem?_set_ne (Ne.symm hj)] at e2
        obtain ⟨u', r', q⟩ := hl j y v' e1 e2 e3
        refine ⟨u', r', ?_⟩
        rcases q with q | ⟨k, c', e, z'⟩
        · exact .inl q
        · refine .inr ⟨k, c', e, z'.sameBut hs ?_⟩
          rintro rfl
          exact hj (nodup_ix hN e1 (I.ok.inj _ _ _ e hc ▸ hi))
    · by_cases hcc : c' = c
      · subst hcc; exact ⟨_, hc'⟩
      · obtain ⟨w2, z2⟩ := I.cell y c' e
        exact ⟨w2, z2.sameBut hs hcc⟩
    · obtain ⟨e, n, ne, nf, d⟩ := I.pin p hp
      refine ⟨(hs.2 p.1 ?_).trans e, n, ne, nf, d⟩
      intro q
      rw [q, hoc] at e
      have q' : oc = p.2 := Option.some.inj e
      exact d w' (by rw [← q']; exact hocd)
theorem store_ok {M : Model} {A : Around} {E : Value → Shared → Prop} {i : Nat} {x : Str} {v : V} {u : Value} {Q : Unit → Shared → Prop} (I : Inv X pins σ H s) (hN : X.N.Nodup) (hi : X.N[i]? = some x) (hx : Loc X.env.scope x) (r : RelV v u)
    (h : ∀ s', Inv X pins (σ.set i (some v)) H s' → Q () s') (hf : X.fn x = true ∨ X.env.scope.names.lookup x = some .local := by first | exact .inl rfl | exact .inr rfl | assumption) : wpAny M A (storeName X.env x u) Q E s :=
  store_ok2 I hN hi hx r (fun s' I' _ => h s' I') hf
theorem Inv.call' {s' : Shared} {ch : List Addr} (I : Inv X pins σ H s) (ho : s'.os = s.os) (u : Un (frs X.stack) ch H H' s.heap s'.heap) (hok : HOk X.prog X.w H' s'.heap) (hg : AllBare s'.gens)
    (hch : ∀ b ∈ ch, (b ∈ X.ex ∨ X.s₀.heap.objs.size ≤ b) ∧ b ≠ X.env.locals ∧ (∀ x c, X.env.cells.lookup x = some c → c ≠ b) ∧ ∀ p ∈ X.pn ++ pins, p.1 ≠ b) : Inv X pins σ H' s' := by
  obtain ⟨h', g', d', t', o'⟩ := s'
  have e : o' = s.os := ho
  subst e
  exact I.call (g' := g') (t' := t') (d' := d') u hok hg hch
end
noncomputable abbrev XK := Value → Option Addr → Hp → Prop
noncomputable abbrev St := List (Option V)
noncomputable abbrev VK := V → Hp → Prop
noncomputable abbrev TE := St → Hp → VK → Prop
noncomputable abbrev TT := St → Hp → (Bool → Hp → Prop) → Prop
noncomputable abbrev TA := St → Hp → (List V → Hp → Prop) → Prop
structure Ends where
  nx : St → Hp → Prop
  rt : VK
  bk : St → Hp → Prop := fun _ _ => False
  ct : St → Hp → Prop := fun _ _ => False
noncomputable abbrev TS := Ends → St → Hp → Prop
noncomputable def EP (X : Cx) (pins : List (Addr × Obj)) (σ : St) (Q : VK) (u : Value) (s' : Shared) : Prop := ∃ v H', Inv X pins σ H' s' ∧ RelV v u ∧ Q v H'
noncomputable def TP (X : Cx) (pins : List (Addr × Obj)) (σ : St) (Q : Bool → Hp → Prop) (b : Bool) (s' : Shared) : Prop := ∃ H', Inv X pins σ H' s' ∧ Q b H'
noncomputable def AP (X : Cx) (pins : List (Addr × Obj)) (σ : St) (Q : List V → Hp → Prop) (us : List Value) (s' : Shared) : Prop := ∃ vs H', Inv X pins σ H' s' ∧ Vals vs us ∧ Q vs H'
noncomputable def SP (X : Cx) (pins : List (Addr × Obj)) (D : Ends) (f : Flow) (s' : Shared) : Prop :=
  match f with
  | .next => ∃ σ' H', Inv X pins σ' H' s' ∧ D.nx σ' H'
  | .brk => ∃ σ' H', Inv X pins σ' H' s' ∧ D.bk σ' H'
  | .cont => ∃ σ' H', Inv X pins σ' H' s' ∧ D.ct σ' H'
  | .ret u => ∃ v σ' H', Inv X pins σ' H' s' ∧ RelV v u ∧ D.rt v H'
noncomputable def PE (X : Cx) (e : Expr) (t : TE) : Prop :=
  ∀ (pins : List (Addr × Obj)) (s : Shared) (σ : St) (H : Hp) (Q : VK), Inv X pins σ H s → t σ H Q → wpAny (model X.prog X.w) X.A (eval e X.env) (EP X pins σ Q) X.xe s
noncomputable def PT (X : Cx) (e : Expr) (t : TT) : Prop :=
  ∀ (pins : List (Addr × Obj)) (s : Shared) (σ : St) (H : Hp) (Q : Bool → Hp → Prop), Inv X pins σ H s → t σ H Q → wpAny (model X.prog X.w) X.A (isTrue e X.env (eval e X.env)) (TP X pins σ Q) X.xe s
noncomputable def PW (X : Cx) (e : Expr) (t : TT) : Prop :=
  ∀ (whole : Sem Value) (pins : List (Addr × Obj)) (s : Shared) (σ : St) (H : Hp) (Q : Bool → Hp → Prop), Inv X pins σ H s → t σ H Q → wpAny (model X.prog X.w) X.A (isTrue e X.env whole) (TP X pins σ Q) X.xe s
noncomputable def PA (X : Cx) (es : List Expr) (t : TA) : Prop :=
  ∀ (pos : Pos) (pins : List (Addr × Obj)) (s : Shared) (σ : St) (H : Hp) (Q : List V → Hp → Prop), Inv X pins σ H s → t σ H Q → wpAny (model X.prog X.w) X.A (spliced (backTo pos (starEach es X.env))) (AP X pins σ Q) X.xe s
noncomputable def PS (X : Cx) (st : Stmt) (t : TS) : Prop :=
  ∀ (pins : List (Addr × Obj)) (s : Shared) (σ : St) (H : Hp) (D : Ends), Inv X pins σ H s → t D σ H → wpAny (model X.prog X.w) X.A (exec st X.env) (SP X pins D) X.xe s
noncomputable def PSs (X : Cx) (st : List Stmt) (t : TS) : Prop :=
  ∀ (pins : List (Addr × Obj)) (s : Shared) (σ : St) (H : Hp) (D : Ends), Inv X pins σ H s → t D σ H → wpAny (model X.prog X.w) X.A (execs st X.env) (SP X pins D) X.xe s
theorem thn {α : Type} {t : Sem α} {Q Q' : α → Shared → Prop} {M : Model} {A : Around} {E : Value → Shared → Prop} {s : Shared} (h : wpAny M A t Q E s) (hQ : ∀ a s, Q a s → Q' a s) : wpAny M A t Q' E s := wpAny_mono h hQ fun _ _ x => x
end L2
namespace L2
open PySem PySem.Spec PyProof.Rows
section
variable {X : Cx}
noncomputable def tVar (i : Nat) : TE := fun σ H Q => ∃ v, σ[i]? = some (some v) ∧ Q v H
noncomputable def tC (v : V) : TE := fun _ H Q => Q v H
theorem pe_var {i : Nat} {x : Str} {pos : Pos} (hN : X.N[i]? = some x) (hv : Vis X.env.scope x) (hd : (x == ("__debug__" : Str)) = false := by decide) (hcd : (x == ("__classdict__" : Str)) = false := by decide) : PE X (.Name x pos) (tVar i) := by
  intro pins s σ H Q I h
  obtain ⟨v, e, h⟩ := h
  obtain ⟨m, hn, hl⟩ := I.loc
  obtain ⟨u, r, l⟩ := hl i x v hN e hv
  have fin : EP X pins σ Q u s := ⟨v, H, I, r, h⟩
  rcases l with ⟨hk, hm⟩ | ⟨hk, c, hc, hcell⟩
  · exact wpAny_Name (wpAny_loadName_local I.ok.kind hk hn hm fin) hd
  · rcases hk with hk | hk
    · exact wpAny_Name (wpAny_loadName_cell I.ok.kind hk hc hcell fin) hd
    · exact wpAny_Name (wpAny_loadName_free I.ok.kind hk hc hcell fin hcd) hd
theorem pe_int {i j pos} : PE X (.Constant (.int i) j pos) (tC (.int i)) := fun _ _ _ H _ I h => wpAny_Constant_int ⟨.int i, H, I.tok _, ⟨_, rfl⟩, h⟩
theorem pe_bl {b j pos} : PE X (.Constant (.bool b) j pos) (tC (.bl b)) := fun _ _ _ H _ I h => Constant_bool ⟨.bl b, H, I, rfl, h⟩
theorem pe_non {j pos} : PE X (.Constant .none j pos) (tC .non) := fun _ _ _ H _ I h => Constant_none ⟨.non, H, I, rfl, h⟩
theorem pe_str {x j pos} : PE X (.Constant (.str x) j pos) (tC (.str x)) := fun _ _ _ H _ I h => Calls.Constant_str ⟨.str x, H, I.tok _, ⟨_, rfl⟩, h⟩
noncomputable def Gl (X : Cx) (x : Str) : Prop := X.env.kindOf x = some .globalImplicit
theorem ld_glob {E : Value → Shared → Prop} {pins : List (Addr × Obj)} {s : Shared} {σ : St} {H : Hp} {x : Str} {u : Value} {pos : Pos} {Q : Value → Shared → Prop} (I : Inv X pins σ H s) (hg : Gl X x) (hm : X.mg x = some u) (h : Q u s)
    (hd : (x == ("__debug__" : Str)) = false := by decide) : wpAny (model X.prog X.w) X.A (eval (.Name x pos) X.env) Q E s :=
  Calls.Name_function_global I.ok.kind hg (Calls.loadGlobal_global (by rw [I.ok.glob]; exact I.mod.glob.keeps I.bk) hm h) hd
theorem ld_blt {E : Value → Shared → Prop} {pins : List (Addr × Obj)} {s : Shared} {σ : St} {H : Hp} {x : Str} {u : Value} {pos : Pos} {Q : Value → Shared → Prop} (I : Inv X pins σ H s) (hg : Gl X x) (hm : X.mg x = none) (hv : bootBuiltins x = some u) (h : Q u s)
    (hn : x ≠ "__name__" := by decide) (hd : (x == ("__debug__" : Str)) = false := by decide) : wpAny (model X.prog X.w) X.A (eval (.Name x pos) X.env) Q E s := by
  obtain ⟨mb, h1, h2⟩ := I.mod.blt
  exact Calls.Name_function_global I.ok.kind hg (Calls.loadGlobal_builtin (by rw [I.ok.glob]; exact I.mod.glob.keeps I.bk) hm (by rw [I.ok.blt]; exact h1.keeps I.bk) ((h2 x hn).trans hv) h) hd
theorem pe_glob {x : Str} {v : V} {u : Value} {pos : Pos} (hg : Gl X x) (hm : X.mg x = some u) (r : RelV v u) (hd : (x == ("__debug__" : Str)) = false := by decide) : PE X (.Name x pos) (tC v) :=
  fun _ _ _ H _ I h => ld_glob I hg hm ⟨v, H, I, r, h⟩ hd
theorem pe_bltn {x : Str} {v : V} {u : Value} {pos : Pos} (hg : Gl X x) (hm : X.mg x = none) (hv : bootBuiltins x = some u) (r : RelV v u) (hn : x ≠ "__name__" := by decide) (hd : (x == ("__debug__" : Str)) = false := by decide) : PE X (.Name x pos) (tC v) :=
  fun _ _ _ H _ I h => ld_blt I hg hm hv ⟨v, H, I, r, h⟩ hn hd
variable {a b : Expr} {ta tb : TE} {pos : Pos}
noncomputable def PC (X : Cx) (op : CmpOp) (a b : Expr) (t : TE) : Prop :=
  ∀ (pins : List (Addr × Obj)) (s : Shared) (σ : St) (H : Hp) (Q : VK), Inv X pins σ H s → t σ H Q →
    wpAny (model X.prog X.w) X.A (eval a X.env) (fun v s₁ => wpAny (model X.prog X.w) X.A (eval b X.env) (fun u s₂ => wpAny (model X.prog X.w) X.A (compareOp op v u) (EP X pins σ Q) X.xe s₂) X.xe s₁) X.xe s
theorem nobehind (b : Expr) {op : CmpOp} (h : op ≠ .In) (h2 : op ≠ .NotIn) : behindInMarks op b = false := by
  have e1 : (op == CmpOp.In) = false := by cases op <;> first | rfl | exact absurd rfl h
  have e2 : (op == CmpOp.NotIn) = false := by cases op <;> first | rfl | exact absurd rfl h2
  cases b <;> simp [behindInMarks, e1, e2]
noncomputable def tIsN (ta : TE) : TE := fun σ H Q => ta σ H fun x H1 => Q (.bl (decide (x = .non))) H1
noncomputable def tNotN (ta : TE) : TE := fun σ H Q => ta σ H fun x H1 => Q (.bl (!decide (x = .non))) H1
theorem RelV.none_iff {x : V} {v : Value} (r : RelV x v) : (v == Value.none) = decide (x = .non) := by
  cases x with
  | non => cases r; rfl
  | bl _ => cases r; rfl
  | int _ => obtain ⟨t, rfl⟩ := r; rfl
  | str _ => obtain ⟨t, rfl⟩ := r; rfl
  | byt _ => obtain ⟨t, rfl⟩ := r; rfl
  | flt _ => obtain ⟨t, rfl⟩ := r; rfl
  | ref _ => cases r; rfl
  | ty _ => cases r; rfl
theorem pc_isN {j pos'} (ha : PE X a ta) : PC X .Is a (.Constant .none j pos') (tIsN ta) := by
  intro pins s σ H Q I h
  refine thn (ha pins s σ H _ I h) fun v s1 hh61 => Zz.b5 hh61 fun x H1 I1 r1 q1 => ?_
  exact Constant_none (is_none_gen ⟨.bl _, H1, I1, by rw [r1.none_iff]; rfl, q1⟩)
theorem pc_notN {j pos'} (ha : PE X a ta) : PC X .IsNot a (.Constant .none j pos') (tNotN ta) := by
  intro pins s σ H Q I h
  refine thn (ha pins s σ H _ I h) fun v s1 hh62 => Zz.b5 hh62 fun x H1 I1 r1 q1 => ?_
  exact Constant_none (isnot_none_gen ⟨.bl _, H1, I1, by rw [r1.none_iff]; rfl, q1⟩)
noncomputable def tB (t : TE) : TT := fun σ H Q => t σ H fun x H1 => ∃ c, x = .bl c ∧ Q c H1
theorem pt_cmp {op : CmpOp} {t : TE} (h : PC X op a b t) (h1 : behindInMarks op b = false := by first | exact nobehind _ (by decide) (by decide) | rfl) : PT X (.Compare a [op] [b] pos) (tB t) := by
  intro pins s σ H Q I hw
  refine wpAny_isTrue_Compare1 (thn (h pins s σ H _ I hw) fun v s1 h1 => thn h1 fun u s2 h2 => thn h2 fun c s3 hh63 => Zz.b5 hh63 fun x H1 I1 r1 q1 => ?_) h1
  obtain ⟨d, rfl, q⟩ := q1
  cases r1
  exact wpAny_truthy_bool ⟨H1, I1, q⟩
theorem pt_val {e : Expr} {t : TE} (h : PE X e t) (he : ∀ whole, isTrue e X.env whole = (do let v ← whole; standAt e.pos; holding [v] (truthy v)) := by intro _; rfl) : PT X e (tB t) := by
  intro pins s σ H Q I hw
  refine isTrue_plain (thn (h pins s σ H _ I hw) fun v s1 hh64 => Zz.b5 hh64 fun x H1 I1 r1 q1 => ?_) (he _)
  obtain ⟨d, rfl, q⟩ := q1
  cases r1
  exact wpAny_truthy_bool ⟨H1, I1, q⟩
variable {tA tB' : TT} {rest : List Expr}
noncomputable def tAnd (t u : TT) : TT := fun σ H Q => t σ H fun c H1 => if c = true then u σ H1 Q else Q false H1
noncomputable def tOr (t u : TT) : TT := fun σ H Q => t σ H fun c H1 => if c = true then Q true H1 else u σ H1 Q
noncomputable def tNot (t : TT) : TT := fun σ H Q => t σ H fun c H1 => Q (!c) H1
theorem pw_and1 (ha : PT X a tA) : PW X (.BoolOp .And [a] pos) tA := by
  intro wh pins s σ H Q I h
  refine isTrue_and (thn (ha pins s σ H Q I h) fun c s1 e => ?_)
  cases c with
  | true => exact isTrue_and_nil e
  | false => exact e
theorem pw_or1 (ha : PT X a tA) : PW X (.BoolOp .Or [a] pos) tA := by
  intro wh pins s σ H Q I h
  refine isTrue_or (thn (ha pins s σ H Q I h) fun c s1 e => ?_)
  cases c with
  | false => exact isTrue_or_nil e
  | true => exact e
theorem pw_and (ha : PT X a tA) (hb : PW X (.BoolOp .And (b :: rest) pos) tB') : PW X (.BoolOp .And (a :: b :: rest) pos) (tAnd tA tB') := by
  intro wh pins s σ H Q I h
  refine isTrue_and (thn (ha pins s σ H _ I h) fun c s1 ⟨H1, I1, q1⟩ => ?_)
  cases c with
  | true => exact hb wh pins s1 σ H1 Q I1 q1
  | false => exact ⟨H1, I1, q1⟩
theorem pw_or (ha : PT X a tA) (hb : PW X (.BoolOp .Or (b :: rest) pos) tB') : PW X (.BoolOp .Or (a :: b :: rest) pos) (tOr tA tB') := by
  intro wh pins s σ H Q I h
  refine isTrue_or (thn (ha pins s σ H _ I h) fun c s1 ⟨H1, I1, q1⟩ => ?_)
  cases c with
  | true => exact ⟨H1, I1, q1⟩
  | false => exact hb wh pins s1 σ H1 Q I1 q1
theorem pt_not (ha : PT X a tA) : PT X (.UnaryOp .Not a pos) (tNot tA) := by
  intro pins s σ H Q I h
  exact isTrue_not (ha pins s σ H (fun c H1 => Q (!c) H1) I h)
noncomputable def tAndV (ta tb : TE) : TE := fun σ H Q => ta σ H fun x H1 => ∃ c, x = .bl c ∧ if c = true then tb σ H1 Q else Q (.bl false) H1
theorem pe_one {op} {t : TE} (h : PE X a t) : PE X (.BoolOp op [a] pos) t := fun pins s σ H Q I hw => BoolOp_one (h pins s σ H Q I hw)
theorem pe_and (ha : PE X a ta) (hb : PE X (.BoolOp .And (b :: rest) pos) tb) : PE X (.BoolOp .And (a :: b :: rest) pos) (tAndV ta tb) := by
  intro pins s σ H Q I h
  refine BoolOp_and (thn (ha pins s σ H _ I h) fun v s1 hh65 => Zz.b5 hh65 fun x H1 I1 r1 q1 => ?_)
  obtain ⟨c, rfl, q1⟩ := q1
  cases r1
  refine wpAny_truthy_bool ?_
  cases c with
  | true => exact hb pins s1 σ H1 Q I1 q1
  | false => exact ⟨.bl false, H1, I1, rfl, q1⟩
end
end L2
namespace L2
open PySem PySem.Spec PyProof.Rows
noncomputable def SqL (K : PySem.W.Frag) (H : Hp) (a : Addr) (xs : List V) : Prop :=
  Rd H a (.lst xs) ∨
    ∃ (o : Obj) (its : Array Value) (n : Nat), K.lookup a = some o ∧ o.cls = .type "list" ∧ o.dict = none ∧ o.data = .seq its n ∧ its.size ≤ sizeLine ∧ Vals xs its.toList
noncomputable def SqT (K : PySem.W.Frag) (H : Hp) (a : Addr) (xs : List V) : Prop :=
  Rd H a (.tup xs) ∨
    ∃ (o : Obj) (its : Array Value) (n : Nat), K.lookup a = some o ∧ o.cls = .type "tuple" ∧ o.data = .seq its n ∧ its.size ≤ sizeLine ∧ Vals xs its.toList
noncomputable def absV : Value → Option V
  | .none => some .non
  | .bool b => some (.bl b)
  | .int i _ => some (.int i)
  | .str x _ => some (.str x)
  | .bytes b _ => some (.byt b)
  | .float b _ => some (.flt b)
  | .ref a => some (.ref a)
  | .type n => some (.ty n)
  | _ => none
theorem RelV.abs {x : V} {u : Value} (r : RelV x u) : absV u = some x := by
  cases x with
  | non => cases r; rfl
  | bl _ => cases r; rfl
  | int _ => obtain ⟨t, rfl⟩ := r; rfl
  | str _ => obtain ⟨t, rfl⟩ := r; rfl
  | byt _ => obtain ⟨t, rfl⟩ := r; rfl
  | flt _ => obtain ⟨t, rfl⟩ := r; rfl
  | ref _ => cases r; rfl
  | ty _ => cases r; rfl
theorem RelV.inj {x y : V} {u : Value} (r : RelV x u) (q : RelV y u) : x = y := Option.some.inj (r.abs.symm.trans q.abs)
theorem Vals.inj : ∀ {xs ys : List V} {us : List Value}, Vals xs us → Vals ys us → xs = ys
  | _, _, _, .nil, .nil => rfl
  | _, _, _, .cons r t, .cons r' t' => by rw [r.inj r', Vals.inj t t']
section
variable {X : Cx} {pins : List (Addr × Obj)} {σ : St} {H : Hp} {s : Shared} {a : Addr} {xs ys : List V}
theorem SqL.of {K : PySem.W.Frag} (h : H a = some (.lst xs)) : SqL K H a xs := .inl (.inl h)
theorem SqT.of {K : PySem.W.Frag} (h : H a = some (.tup xs)) : SqT K H a xs := .inl (.inl h)
theorem Inv.list (I : Inv X pins σ H s) (h : SqL X.K H a xs) : ∃ its : List Value, Vals xs its ∧ PlainL s.heap a its.toArray ∧ xs.length ≤ sizeLine := by
  rcases h with h | ⟨o, its, n, hk, hc, hd, hs, hz, r⟩
  · obtain ⟨z, its, n, r, e⟩ := h.ok I.hok
    exact ⟨its, r, ⟨_, n, e, rfl, rfl, rfl⟩, z⟩
  · refine ⟨its.toList, r, ⟨o, n, I.kIn a o hk, hc, hd, by simpa using hs⟩, ?_⟩
    have e := r.length
    simp only [Array.length_toList] at e
    omega
theorem Inv.tuple (I : Inv X pins σ H s) (h : SqT X.K H a xs) : ∃ its : List Value, Vals xs its ∧ IsTup s.heap a its.toArray ∧ xs.length ≤ sizeLine := by
  rcases h with h | ⟨o, its, n, hk, hc, hs, hz, r⟩
  · obtain ⟨z, its, r, p⟩ := h.ok I.hok
    exact ⟨its, r, p, z⟩
  · refine ⟨its.toList, r, ⟨o, I.kIn a o hk, hc, n, by simpa using hs⟩, ?_⟩
    have e := r.length
    simp only [Array.length_toList] at e
    omega
theorem Inv.list_inj (I : Inv X pins σ H s) (h : SqL X.K H a xs) (h' : SqL X.K H a ys) : xs = ys := by
  obtain ⟨its, r, ⟨o, n, e, _, _, d⟩, _⟩ := I.list h
  obtain ⟨its', r', ⟨o', n', e', _, _, d'⟩, _⟩ := I.list h'
  rw [e] at e'; cases e'
  rw [d] at d'
  injection d' with d1 _
  have : its = its' := by simpa using congrArg Array.toList d1
  subst this
  exact r.inj r'
end
noncomputable abbrev Cx.wish (X : Cx) (E : Value → Shared → Prop) : Cx := { X with xe := E }
noncomputable abbrev Cx.nox (X : Cx) : Cx := X.wish fun _ _ => False
theorem Cx.Ok.wish {X : Cx} (ok : X.Ok) (E : Value → Shared → Prop) : (X.wish E).Ok :=
  ⟨ok.mod, ok.kind, ok.glob, ok.blt, ok.above, ok.inj, ok.has, ok.cab, ok.hd, ok.frames, ok.stk, ok.exf, ok.bs, ok.bsz, ok.noex, ok.exfs, ok.funs, ok.frf⟩
theorem Cx.Ok.unwish {X : Cx} {E : Value → Shared → Prop} (ok : (X.wish E).Ok) : X.Ok :=
  ⟨ok.mod, ok.kind, ok.glob, ok.blt, ok.above, ok.inj, ok.has, ok.cab, ok.hd, ok.frames, ok.stk, ok.exf, ok.bs, ok.bsz, ok.noex, ok.exfs, ok.funs, ok.frf⟩
section
variable {X : Cx} {pins : List (Addr × Obj)} {σ : St} {H : Hp} {s : Shared} {E : Value → Shared → Prop}
theorem Inv.wish (I : Inv X pins σ H s) (E : Value → Shared → Prop) : Inv (X.wish E) pins σ H s := ⟨I.ok.wish E, I.os, I.bare, I.base, I.loc, I.cell, I.free, I.freeC, I.pin, I.hok, I.len⟩
theorem Inv.unwish (I : Inv (X.wish E) pins σ H s) : Inv X pins σ H s := ⟨I.ok.unwish, I.os, I.bare, I.base, I.loc, I.cell, I.free, I.freeC, I.pin, I.hok, I.len⟩
theorem SP.unwish {D : Ends} {f : Flow} {s' : Shared} (h : SP (X.wish E) pins D f s') : SP X pins D f s' := by
  cases f with
  | next => obtain ⟨σ', H', I, q⟩ := h; exact ⟨σ', H', I.unwish, q⟩
  | brk => obtain ⟨σ', H', I, q⟩ := h; exact ⟨σ', H', I.unwish, q⟩
  | cont => obtain ⟨σ', H', I, q⟩ := h; exact ⟨σ', H', I.unwish, q⟩
  | ret u => obtain ⟨v, σ', H', I, r, q⟩ := h; exact ⟨v, σ', H', I.unwish, r, q⟩
theorem PSs.nox {st : List Stmt} {t : TS} (h : PSs X.nox st t) : PSs X st t := fun pins s σ H D I hw =>
  wpAny_mono (h pins s σ H D (I.wish _) hw) (fun _ _ q => q.unwish) fun _ _ z => False.elim z
end
section
variable {X : Cx} {st : Stmt} {rest : List Stmt} {t u : TS} {e : Expr} {te : TE} {pos : Pos}
noncomputable def tNext : TS := fun D σ H => D.nx σ H
noncomputable def tSeq (t u : TS) : TS := fun D σ H => t { D with nx := u D } σ H
theorem pss_nil : PSs X [] tNext := fun _ _ σ H _ I h => wpAny_execs_nil ⟨σ, H, I, h⟩
theorem pss_cons (h1 : PS X st t) (h2 : PSs X rest u) : PSs X (st :: rest) (tSeq t u) := by
  intro pins s σ H D I h
  refine wpAny_execs_cons (thn (h1 pins s σ H { D with nx := u D } I h) fun f s1 q => ?_)
  cases f with
  | next =>
    obtain ⟨σ', H', I', q⟩ := q
    exact h2 pins s1 σ' H' D I' q
  | ret v => exact q
  | brk => exact q
  | cont => exact q
theorem pss_one (h1 : PS X st t) : PSs X [st] t := by
  intro pins s σ H D I h
  refine wpAny_execs_cons (thn (h1 pins s σ H D I h) fun f s1 q => ?_)
  cases f with
  | next => exact wpAny_execs_nil q
  | ret v => exact q
  | brk => exact q
  | cont => exact q
theorem Inv.quiet {pins : List (Addr × Obj)} {σ : St} {H : Hp} {s : Shared} (I : Inv X pins σ H s) : interactive X.env = false := by simp [interactive, I.ok.kind]
noncomputable def tDrop (te : TE) : TS := fun D σ H => te σ H fun _ H1 => D.nx σ H1
theorem ps_expr (he : PE X e te) (hs : swapsWith e none pos.line X.env = pure false := by rfl) : PS X (.Expr e pos) (tDrop te) := by
  intro pins s σ H D I h
  exact wpAny_Expr_any (thn (he pins s σ H _ I h) fun v s1 hh66 => Zz.b5 hh66 fun x H1 I1 r1 q1 => ⟨σ, H1, I1, q1⟩) I.quiet hs
noncomputable def tRet (te : TE) : TS := fun D σ H => te σ H D.rt
theorem ps_ret (he : PE X e te) : PS X (.Return (some e) pos) (tRet te) := by
  intro pins s σ H D I h
  exact wpAny_Return_some (thn (he pins s σ H _ I h) fun v s1 hh67 => Zz.b5 hh67 fun x H1 I1 r1 q1 => ⟨x, σ, H1, I1, r1, q1⟩)
noncomputable def tIfS (c : TT) (t u : TS) : TS := fun D σ H => c σ H fun b H1 => if b = true then t D σ H1 else u D σ H1
theorem ps_if {c : Expr} {a b : List Stmt} {tc : TT} (hc : PT X c tc) (ha : PSs X a t) (hb : PSs X b u) : PS X (.If c a b pos) (tIfS tc t u) := by
  intro pins s σ H D I h
  refine wpAny_If (thn (hc pins s σ H _ I h) fun d s1 ⟨H1, I1, q1⟩ => ?_)
  cases d with
  | true => exact ha pins s1 σ H1 D I1 q1
  | false => exact hb pins s1 σ H1 D I1 q1
noncomputable def tNever : TS := fun _ _ _ => False
theorem pss_never {sts : List Stmt} : PSs X sts tNever := fun _ _ _ _ _ _ h => h.elim
end
noncomputable abbrev TG := V → St → Hp → (St → Hp → Prop) → Prop
noncomputable abbrev TGs := List V → St → Hp → (St → Hp → Prop) → Prop
noncomputable def PG (X : Cx) (target : Expr) (t : TG) : Prop :=
  ∀ (pins : List (Addr × Obj)) (s : Shared) (σ : St) (H : Hp) (v : V) (u : Value) (Q : St → Hp → Prop), Inv X pins σ H s → RelV v u → t v σ H Q →
    wpAny (model X.prog X.w) X.A (assign target X.env u) (fun _ s' => ∃ σ' H', Inv X pins σ' H' s' ∧ Q σ' H') X.xe s
noncomputable def PGs (X : Cx) (ts : List Expr) (t : TGs) : Prop :=
  ∀ (pins : List (Addr × Obj)) (s : Shared) (σ : St) (H : Hp) (vs : List V) (us : List Value) (Q : St → Hp → Prop), Inv X pins σ H s → Vals vs us → t vs σ H Q →
    wpAny (model X.prog X.w) X.A (assignInOrder ((assignEach ts X.env).map (·.2)) us) (fun _ s' => ∃ σ' H', Inv X pins σ' H' s' ∧ Q σ' H') X.xe s
noncomputable abbrev TSet := V → V → V → Hp → (Hp → Prop) → Prop
noncomputable def PSet (X : Cx) (t : TSet) : Prop :=
  ∀ (pins : List (Addr × Obj)) (s : Shared) (σ : St) (H : Hp) (o i v : V) (ov iv u : Value) (Q : Hp → Prop), Inv X pins σ H s → RelV o ov → RelV i iv → RelV v u → t o i v H Q →
    wpAny (model X.prog X.w) X.A (setItem ov iv u) (fun _ s' => ∃ H', Inv X pins σ H' s' ∧ Q H') X.xe s
section
variable {X : Cx} {pos : Pos}
noncomputable def gName (i : Nat) : TG := fun v σ H Q => Q (σ.set i (some v)) H
theorem pg_name {i : Nat} {x : Str} (hN : X.N.Nodup) (hi : X.N[i]? = some x) (hx : Loc X.env.scope x) (hf : X.fn x = true ∨ X.env.scope.names.lookup x = some .local := by first | exact .inl rfl | exact .inr rfl | assumption) : PG X (.Name x pos) (gName i) := by
  intro pins s σ H v u Q I r h
  exact wpAny_assign_Name (store_ok I hN hi hx r (fun s' I' => ⟨_, H, I', h⟩) hf)
noncomputable def gNil : TGs := fun vs σ H Q => vs = [] ∧ Q σ H
noncomputable def gCons (t : TG) (u : TGs) : TGs := fun vs σ H Q => ∃ v r, vs = v :: r ∧ t v σ H fun σ' H' => u r σ' H' Q
theorem pgs_nil : PGs X [] gNil := by
  intro pins s σ H vs us Q I r h
  obtain ⟨e, h⟩ := h
  subst e
  cases r
  exact assignInOrder_nil ⟨σ, H, I, h⟩
theorem pgs_cons {e : Expr} {es : List Expr} {t : TG} {u : TGs} (h1 : PG X e t) (h2 : PGs X es u)
    (hs : (assignEach (e :: es) X.env).map (·.2) = assign e X.env :: (assignEach es X.env).map (·.2) := by rfl) : PGs X (e :: es) (gCons t u) := by
  intro pins s σ H vs us Q I r h
  obtain ⟨v, vr, e1, h⟩ := h
  subst e1
  cases r with
  | cons r rr =>
    rw [hs]
    refine assignInOrder_cons (thn (h1 pins s σ H _ _ _ I r h) fun _ s1 ⟨σ1, H1, I1, q1⟩ => ?_)
    exact h2 pins s1 σ1 H1 _ _ Q I1 rr q1
noncomputable def gTup (K : PySem.W.Frag) (n : Nat) (t : TGs) : TG := fun v σ H Q => ∃ a xs, v = .ref a ∧ SqT K H a xs ∧ xs.length = n ∧ t xs σ H Q
theorem pg_tup {es : List Expr} {k : Nat} {t : TGs} {n : Nat} (hc : X.calm = true) (h : PGs X es t)
    (hn : (assignEach es X.env).length = n := by rfl) (hst : (assignEach es X.env).findIdx? (·.1) = none := by rfl) : PG X (.Tuple es k pos) (gTup X.K n t) := by
  intro pins s σ H v u Q I r hw
  obtain ⟨a, xs, e1, hq, hl, hw⟩ := hw
  subst e1
  cases r
  obtain ⟨its, rv, ht, hz⟩ := I.tuple hq
  refine assign_Tuple_tuple (I.ok.hd hc) ht (by simp [hn, ← hl, rv.length]) hst fun h' hx => ?_
  have I1 : Inv X pins σ H { s with heap := h' } := I.kept (t' := s.toks) fun b o e => hx b o (Nat.ne_of_lt (Heap.lt_size e)) e
  exact h pins _ σ H xs _ Q I1 (by simpa using rv) hw
noncomputable def gSub (to ti : TE) (t : TSet) : TG := fun v σ H Q => to σ H fun o H1 => ti σ H1 fun i H2 => t o i v H2 fun H3 => Q σ H3
theorem pg_sub {o i : Expr} {to ti : TE} {t : TSet} (ho : PE X o to) (hi : PE X i ti) (hs : PSet X t)
    (ha : ∀ v, assign (.Subscript o i pos) X.env v = (do
      let ov ← holding [v] (eval o X.env)
      let iv ← holding [v, ov] (eval i X.env)
      standAt pos
      holding [v, ov, iv] (setItem ov iv v)
      release [v, ov, iv] []) := by intro _; rfl) : PG X (.Subscript o i pos) (gSub to ti t) := by
  intro pins s σ H v u Q I r h
  rw [ha]
  refine wpAny_bind (wpAny_holding (thn (ho pins s σ H _ I h) fun ov s1 hh68 => Zz.b5 hh68 fun x H1 I1 r1 q1 => ?_))
  refine wpAny_bind (wpAny_holding (thn (hi pins s1 σ H1 _ I1 q1) fun iv s2 hh69 => Zz.b5 hh69 fun y H2 I2 r2 q2 => ?_))
  refine wpAny_bind (wpAny_standAt (wpAny_bind (wpAny_holding (thn (hs pins s2 σ H2 x y v ov iv u _ I2 r1 r2 r q2) fun _ s3 ⟨H3, I3, q3⟩ => ?_))))
  exact wpAny_release ⟨σ, H3, I3, q3⟩
noncomputable def tAsg (te : TE) (g : TG) : TS := fun D σ H => te σ H fun x H1 => g x σ H1 D.nx
theorem ps_asg {tg e : Expr} {te : TE} {g : TG} (he : PE X e te) (hg : PG X tg g) (hs : swapsWithSole [tg] e pos.line X.env = pure false := by rfl) (hw : swappedStores [tg] e X.env = pure none := by rfl)
    (h1 : (assignEach [tg] X.env).map (·.2) = [assign tg X.env] := by rfl) : PS X (.Assign [tg] e pos) (tAsg te g) := by
  intro pins s σ H D I h
  refine wpAny_Assign_stores (thn (he pins s σ H _ I h) fun v s1 hh70 => Zz.b5 hh70 fun x H1 I1 r1 q1 => ?_) hs hw
  rw [h1]
  exact thn (hg pins s1 σ H1 x v _ I1 r1 q1) fun _ s2 q => q
theorem ps_set {i : Nat} {x : Str} {e : Expr} {te : TE} {pos' : Pos} (hN : X.N.Nodup) (hi : X.N[i]? = some x) (hx : Loc X.env.scope x) (he : PE X e te) (hs : swapsWith e (some (.Name x pos')) pos.line X.env = pure false := by rfl) (hf : X.fn x = true ∨ X.env.scope.names.lookup x = some .local := by first | exact .inl rfl | exact .inr rfl | assumption) :
    PS X (.Assign [.Name x pos'] e pos) (tAsg te (gName i)) := by
  intro pins s σ H D I h
  refine wpAny_Assign_Name (thn (he pins s σ H _ I h) fun v s1 hh71 => Zz.b5 hh71 fun y H1 I1 r1 q1 => ?_) hs
  exact store_ok I1 hN hi hx r1 (fun s2 I2 => ⟨_, H1, I2, q1⟩) hf
end
section
variable {X : Cx} {pos : Pos}
noncomputable def tWhile (c : TT) (tb : TS) : TS := fun D σ H => ∃ W : Nat → St → Hp → Prop, (∃ m, W m σ H) ∧ ∀ m σ H, W m σ H →
  c σ H fun b H1 => if b = true then ∃ N : St → Hp → Prop, (∀ σ' H', N σ' H' → ∃ m', m' < m ∧ W m' σ' H') ∧ tb { D with nx := N, ct := N, bk := D.nx } σ H1 else D.nx σ H1
theorem ps_while {c : Expr} {body : List Stmt} {tc : TT} {tb : TS} (hp : PassesOwn (model X.prog X.w) X.A X.env X.xe) (hc : PT X c tc) (hb : PSs X body tb) : PS X (.While c body [] pos) (tWhile tc tb) := by
  intro pins s σ H D I h
  obtain ⟨W, ⟨m0, w0⟩, turn⟩ := h
  refine wpAny_While (codeAny_whileLoop (fun n s' => ∃ σ' H', Inv X pins σ' H' s' ∧ W n σ' H') ?_ m0 ⟨σ, H, I, w0⟩)
  rintro n s1 ⟨σ1, H1, I1, w1⟩
  refine wpAny_passesOwn hp (thn (hc pins s1 σ1 H1 _ I1 (turn n σ1 H1 w1)) fun b s2 ⟨H2, I2, q2⟩ => ?_)
  cases b with
  | true =>
    obtain ⟨N, hN, q2⟩ := q2
    rw [if_pos rfl]
    refine wpAny_passesOwn hp (thn (hb pins s2 σ1 H2 _ I2 q2) fun f s3 q3 => ?_)
    cases f with
    | next =>
      obtain ⟨σ3, H3, I3, n3⟩ := q3
      obtain ⟨m', hm, w3⟩ := hN σ3 H3 n3
      exact ⟨m', hm, σ3, H3, I3, w3⟩
    | cont =>
      obtain ⟨σ3, H3, I3, n3⟩ := q3
      obtain ⟨m', hm, w3⟩ := hN σ3 H3 n3
      exact ⟨m', hm, σ3, H3, I3, w3⟩
    | brk => exact q3
    | ret v => exact q3
  | false =>
    rw [if_neg Bool.false_ne_true]
    exact wpAny_execs_nil ⟨σ1, H2, I2, q2⟩
end
structure It where
  go : Nat → Hp → Prop
  yld : Nat → Hp → V → Hp → Prop
  stop : Nat → Hp → Prop
noncomputable def FpOk (X : Cx) (pins : List (Addr × Obj)) (H : Hp) (b : Addr) : Prop :=
  H b = none ∧ b ≠ X.env.locals ∧ b ∉ X.fs ∧ (b ∈ X.ex ∨ X.s₀.heap.objs.size ≤ b) ∧ (∀ x c, X.env.cells.lookup x = some c → c ≠ b) ∧ ∀ p ∈ X.pn ++ pins, p.1 ≠ b
theorem Inv.fpOk {X : Cx} {pins : List (Addr × Obj)} {σ : St} {H H' : Hp} {s : Shared} {b : Addr} (I : Inv X pins σ H s) (hb : s.heap.objs.size ≤ b) (hn : H' b = none) : FpOk X pins H' b := by
  refine ⟨hn, Nat.ne_of_gt (Nat.lt_of_lt_of_le I.lt hb), I.nofs hb, .inr (Nat.le_trans I.sz hb), fun x c e z => ?_, fun p hp z => ?_⟩
  · obtain ⟨v, q⟩ := I.cell x c e
    exact absurd (Nat.lt_of_lt_of_le q.lt (by rw [z]; exact hb)) (Nat.lt_irrefl _)
  · exact absurd (Nat.lt_of_lt_of_le (Heap.lt_size (I.pin p hp).1) (by rw [z]; exact hb)) (Nat.lt_irrefl _)
structure Turn (P : Program) (w : World) (K : PySem.W.Frag) (tg : Expr) (J : It) (fp : List Addr) (it : Addr) (tn : Nat → Heap → Prop) : Prop where
  mem : it ∈ fp
  obj : ∀ i h, tn i h → ∀ b ∈ fp, ∃ o, h.get? b = some o ∧ ∀ v, o.data ≠ .cell v
  keep : ∀ i h h', tn i h → (∀ b ∈ fp, ∀ o, h.get? b = some o → h'.get? b = some o) → tn i h'
  item : ∀ (X : Cx), X.prog = P → X.w = w → X.K = K → X.calm = true → ∀ (i : Nat) (pins : List (Addr × Obj)) (s : Shared) (σ : St) (H : Hp) (E : Value → Shared → Prop), Inv X pins σ H s → (∀ b ∈ fp, FpOk X pins H b) → tn i s.heap → J.go i H →
    wpAny (model P w) X.A (pyNext (.ref it)) (fun r s1 => ∃ u, r = some u ∧
      wpAny (model P w) X.A (letOwnedTupleGo tg (.ref it) u) (fun _ s2 => ∃ x H', Inv X pins σ H' s2 ∧ RelV x u ∧ J.yld i H x H' ∧ tn (i + 1) s2.heap ∧ ∀ b ∈ fp, H' b = none) E s1) E s
  done : ∀ (X : Cx), X.prog = P → X.w = w → X.K = K → X.calm = true → ∀ (i : Nat) (pins : List (Addr × Obj)) (s : Shared) (σ : St) (H : Hp) (E : Value → Shared → Prop), Inv X pins σ H s → (∀ b ∈ fp, FpOk X pins H b) → tn i s.heap → J.stop i H →
    wpAny (model P w) X.A (pyNext (.ref it)) (fun r s1 => r = none ∧ Inv X pins σ H s1) E s
  self : ∀ (A : Around) (i : Nat) (s : Shared) (Q : Value → Shared → Prop) (E : Value → Shared → Prop), tn i s.heap → Q (.ref it) s → wpAny (model P w) A (pyIter (.ref it)) Q E s
noncomputable abbrev TI := St → Hp → (It → Hp → Prop) → Prop
noncomputable def PIE (X : Cx) (pins : List (Addr × Obj)) (σ : St) (tg : Expr) (R : It → Hp → Prop) (itv : Value) (s2 : Shared) : Prop :=
  ∃ (it : Addr) (fp : List Addr) (tn : Nat → Heap → Prop) (J : It) (H' : Hp), itv = .ref it ∧ Inv X pins σ H' s2 ∧ Turn X.prog X.w X.K tg J fp it tn ∧ tn 0 s2.heap ∧ (∀ b ∈ fp, FpOk X pins H' b) ∧ R J H'
noncomputable def PI (X : Cx) (tg iter : Expr) (wi : TI) : Prop :=
  ∀ (pins : List (Addr × Obj)) (s : Shared) (σ : St) (H : Hp) (R : It → Hp → Prop), Inv X pins σ H s → wi σ H R →
    wpAny (model X.prog X.w) X.A (eval iter X.env) (fun v s1 => wpAny (model X.prog X.w) X.A (pyIter v) (PIE X pins σ tg R) X.xe s1) X.xe s
theorem go_of {M : Model} {A : Around} {E : Value → Shared → Prop} {s : Shared} {tg : Expr} {it : Addr} {u : Value} {o : Obj} {n : String} {vs : Array Value} {Q : Unit → Shared → Prop} (ho : s.heap.get? it = some o) (hc : o.cls = .type n) (hd : o.data = .fields vs)
    (hn : ["enumerate", "zip", "dict_itemiterator", "dict_reverseitemiterator", "odict_iterator", "itertools.zip_longest", "itertools.pairwise"].contains n = false) (hQ : Q () s) : wpAny M A (letOwnedTupleGo tg (.ref it) u) Q E s := by
  unfold letOwnedTupleGo
  cases tg <;> first
    | exact wpAny_pure hQ
    | (cases u <;> first
        | exact wpAny_pure hQ
        | (refine wpAny_bind (wpAny_load ho ?_)
           rw [hc, hd]
           show wpAny M A (if (["enumerate", "zip", "dict_itemiterator", "dict_reverseitemiterator", "odict_iterator", "itertools.zip_longest", "itertools.pairwise"].contains n && vs[0]? == some (rawInt _)) = true then _ else _) Q E s
           rw [if_neg (by intro h; rw [hn, Bool.false_and] at h; cases h)]
           exact wpAny_pure hQ))
noncomputable def Itl (K : PySem.W.Frag) (a : Addr) : It :=
  ⟨fun i H => ∃ xs x, SqL K H a xs ∧ xs[i]? = some x, fun i H x H' => H' = H ∧ ∀ xs, SqL K H a xs → xs[i]? = some x, fun i H => ∃ xs, SqL K H a xs ∧ xs.length ≤ i⟩
noncomputable def Itr (lo : Int) (n : Nat) : It := ⟨fun i _ => i < n, fun i H x H' => H' = H ∧ x = .int (lo + i), fun i _ => n ≤ i⟩
theorem turn_list {P : Program} {w : World} {K : PySem.W.Frag} {tg : Expr} (a it : Addr) : Turn P w K tg (Itl K a) [it] it (fun i h => h.IsListIter it a i) where
  mem := by simp
  obj := fun i h st b hb => by
    have e : b = it := by simpa using hb
    subst e
    obtain ⟨o, e, c, d⟩ := st
    exact ⟨o, e, fun v z => by rw [d] at z; cases z⟩
  keep := fun i h h' st k => st.at fun o e => k it (by simp) o e
  item := by
    intro X hP hw hK hc i pins s σ H E I hf st hg
    subst hP hw hK
    obtain ⟨xs, x, hq, hx⟩ := hg
    obtain ⟨its, rv, p, hz⟩ := I.list hq
    obtain ⟨u, hu, ru⟩ := rv.get hx
    obtain ⟨f0, f1, f2, f3, f4, f5⟩ := hf it (by simp)
    refine wpAny_pyNext_list_item st p.isList (x := u) (by simpa using hu) fun h' st' sb => ?_
    have I1 : Inv X pins σ H { s with heap := h' } := I.turned (t' := s.toks) (fun b o hb e => (sb.2 b hb).trans e) f0 f1 f3 f4 f5
    obtain ⟨o, e, c, d⟩ := id st'
    exact ⟨u, rfl, go_of (s := { s with heap := h' }) e c d (by decide) ⟨x, H, I1, ru, ⟨rfl, fun ys hy => by rw [I.list_inj hy hq]; exact hx⟩, st', fun b hb => (hf b hb).1⟩⟩
  done := by
    intro X hP hw hK hc i pins s σ H E I hf st hg
    subst hP hw hK
    obtain ⟨xs, hq, hx⟩ := hg
    obtain ⟨its, rv, p, hz⟩ := I.list hq
    obtain ⟨f0, f1, f2, f3, f4, f5⟩ := hf it (by simp)
    have hl := rv.length
    exact wpAny_pyNext_list_end (I.ok.hd hc) st p.isList (by simp; omega) fun h' eb => ⟨rfl, I.turned (t' := s.toks) (fun b o hb e => eb b o hb e) f0 f1 f3 f4 f5⟩
  self := fun _ _ _ _ _ st h => wpAny_pyIter_listiter st h
theorem turn_range {P : Program} {w : World} {K : PySem.W.Frag} {tg : Expr} (it : Addr) (lo : Int) (n : Nat) : Turn P w K tg (Itr lo n) [it] it (fun i h => IsRangeIter h it (lo + (i : Nat) * 1) ((n : Int) - (i : Nat)) 1) where
  mem := by simp
  obj := fun i h st b hb => by
    have e : b = it := by simpa using hb
    subst e
    exact ⟨_, st, fun v z => by
      have z' : Data.fields _ = Data.cell v := z
      cases z'⟩
  keep := fun i h h' st k => k it (by simp) _ st
  item := by
    intro X hP hw hK hc i pins s σ H E I hf st hg
    subst hP hw hK
    obtain ⟨f0, f1, f2, f3, f4, f5⟩ := hf it (by simp)
    have W := Walks.range (prog := X.prog) (w := X.w) (I.ok.hd hc) it lo 1 n
    refine W.item i s _ _ hg st fun v h' tk hv st' kk => ?_
    obtain ⟨t, rfl⟩ := hv
    have I1 : Inv X pins σ H { s with heap := h', toks := tk } := I.turned (fun b o hb e => kk b o (by simpa using hb) e) f0 f1 f3 f4 f5
    refine ⟨_, rfl, go_of (s := { s with heap := h', toks := tk }) (n := "range_iterator") st' rfl rfl (by decide) ⟨.int (lo + i), H, I1, ⟨t, ?_⟩, ⟨rfl, rfl⟩, st', fun b hb => (hf b hb).1⟩⟩
    rw [Int.mul_one]
  done := by
    intro X hP hw hK hc i pins s σ H E I hf st hg
    subst hP hw hK
    obtain ⟨f0, f1, f2, f3, f4, f5⟩ := hf it (by simp)
    exact wpAny_pyNext_range_end (I.ok.hd hc) st (by have : n ≤ i := hg; omega) fun h' eb => ⟨rfl, I.turned (t' := s.toks) (fun b o hb e => eb b o hb e) f0 f1 f3 f4 f5⟩
  self := fun _ _ _ _ _ st h => wpAny_pyIter_rangeiter st h
end L2
namespace L2
open PySem PySem.Spec PyProof.Rows
section
variable {X : Cx} {tg : Expr}
noncomputable def iList (K : PySem.W.Frag) (tl : TE) : TI := fun σ H R => tl σ H fun x H1 => ∃ a, x = .ref a ∧ (∃ xs, SqL K H1 a xs) ∧ R (Itl K a) H1
theorem pi_list {l : Expr} {tl : TE} (hl : PE X l tl) : PI X tg l (iList X.K tl) := by
  intro pins s σ H R I h
  refine thn (hl pins s σ H _ I h) fun v s1 hh72 => Zz.b5 hh72 fun x H1 I1 r1 q1 => ?_
  obtain ⟨a, e, ⟨xs, hq⟩, q⟩ := q1
  subst e
  cases r1
  obtain ⟨its, rv, p, hz⟩ := I1.list hq
  refine wpAny_pyIter_list p.isList ?_
  refine ⟨s1.heap.objs.size, [s1.heap.objs.size], _, _, H1, rfl, I1.kept (t' := s1.toks) fun b o e => Heap.get?_push_of_some _ e, turn_list a _, ⟨_, Heap.get?_push_size _ rfl, rfl, rfl⟩, fun b hb => ?_, q⟩
  have e : b = s1.heap.objs.size := by simpa using hb
  subst e
  exact I1.fpOk (Nat.le_refl _) (I1.hok.fresh (Nat.le_refl _))
theorem range_it {pins : List (Addr × Obj)} {σ : St} {H : Hp} {s : Shared} {R : It → Hp → Prop} {E : Value → Shared → Prop} {lo hi : Int} {t u v : Tok} {tk : Nat} (I : Inv X pins σ H s) (h1 : -(2 ^ 62) ≤ lo) (h2 : lo < 2 ^ 62) (h3 : -(2 ^ 62) ≤ hi) (h4 : hi < 2 ^ 62)
    (q : R (Itr lo (hi - lo).toNat) H) : wpAny (model X.prog X.w) X.A (pyIter (.ref s.heap.objs.size)) (PIE X pins σ tg R) E { s with heap := s.heap.push { cls := .type "range", data := .fields #[.int lo t, .int hi u, .int 1 v] }, toks := tk } := by
  refine wpAny_pyIter_range (IsRange.new ..) (small_one h1 h2 h3 h4) ?_
  have I1 : Inv X pins σ H { s with heap := s.heap.push { cls := .type "range", data := .fields #[.int lo t, .int hi u, .int 1 v] }, toks := tk } := I.kept fun b o e => Heap.get?_push_of_some _ e
  refine ⟨(s.heap.push { cls := .type "range", data := .fields #[.int lo t, .int hi u, .int 1 v] }).objs.size, [(s.heap.push { cls := .type "range", data := .fields #[.int lo t, .int hi u, .int 1 v] }).objs.size], _, _, H, rfl,
    I1.kept (t' := tk) fun b o e => Heap.get?_push_of_some _ e, turn_range _ lo (hi - lo).toNat, ?_, fun b hb => ?_, q⟩
  · have e1 : lo + ((0 : Nat) : Int) * 1 = lo := by simp
    have e2 : (((hi - lo).toNat : Nat) : Int) - ((0 : Nat) : Int) = Builtin.Range.rangeSize lo hi 1 := by rw [rangeSize_one]; split <;> omega
    show IsRangeIter _ _ (lo + ((0 : Nat) : Int) * 1) ((((hi - lo).toNat : Nat) : Int) - ((0 : Nat) : Int)) 1
    rw [e1, e2]
    exact Heap.get?_push_size _ rfl
  · have e : b = (s.heap.push { cls := .type "range", data := .fields #[.int lo t, .int hi u, .int 1 v] }).objs.size := by simpa using hb
    subst e
    exact I1.fpOk (Nat.le_refl _) (I1.hok.fresh (Nat.le_refl _))
noncomputable def iRng1 (ta : TA) : TI := fun σ H R => ta σ H fun vs H1 => ∃ j : Int, vs = [.int j] ∧ -(2 ^ 62) ≤ j ∧ j < 2 ^ 62 ∧ R (Itr 0 j.toNat) H1
theorem pi_range1 {a : Expr} {ta : TA} {p pos : Pos} (hg : Gl X "range") (hm : X.mg "range" = none) (ha : PA X [a] ta) (hs : starEach [a] X.env = [(false, eval a X.env)] := by rfl) : PI X tg (.Call (.Name "range" p) [a] [] pos) (iRng1 ta) := by
  intro pins s σ H R I h
  refine Call_ (ld_blt I hg hm boot_range (PyProof.Rows.callWith_type1 (thn (ha pos pins s σ H _ I h) fun us s1 hh73 => Zz.b5 hh73 fun vs H1 I1 r1 q1 => ?_) hs rfl))
  obtain ⟨j, e, q1, q2, q⟩ := q1
  subst e
  cases r1 with
  | cons r rr =>
    cases rr
    obtain ⟨t, rfl⟩ := r
    exact call_range_1 (range_it I1 (by omega) (by omega) q1 q2 (by simpa using q))
noncomputable def tFor (wi : TI) (g : TG) (tb : TS) : TS := fun D σ H => wi σ H fun J H1 => ∃ W : Nat → Nat → St → Hp → Prop, (∃ m, W 0 m σ H1) ∧ ∀ i m σ H, W i m σ H →
  (J.stop i H ∧ D.nx σ H) ∨ (J.go i H ∧ ∃ N : St → Hp → Prop, (∀ σ' H', N σ' H' → ∃ m', m' < m ∧ W (i + 1) m' σ' H') ∧ ∀ x H', J.yld i H x H' → g x σ H' fun σ2 H2 => tb { D with nx := N, ct := N, bk := D.nx } σ2 H2)
noncomputable def pinsAt (fp : List Addr) (h : Heap) : List (Addr × Obj) := fp.filterMap fun b => (h.get? b).map fun o => (b, o)
theorem mem_pinsAt {fp : List Addr} {h : Heap} {b : Addr} {o : Obj} (hb : b ∈ fp) (e : h.get? b = some o) : (b, o) ∈ pinsAt fp h := List.mem_filterMap.mpr ⟨b, hb, by rw [e]; rfl⟩
theorem of_pinsAt {fp : List Addr} {h : Heap} {p : Addr × Obj} (hp : p ∈ pinsAt fp h) : p.1 ∈ fp ∧ h.get? p.1 = some p.2 := by
  obtain ⟨b, hb, e⟩ := List.mem_filterMap.mp hp
  cases q : h.get? b with
  | none => rw [q] at e; cases e
  | some o =>
    rw [q] at e
    have e' : (b, o) = p := Option.some.inj e
    subst e'
    exact ⟨hb, q⟩
theorem Inv.pinned {pins : List (Addr × Obj)} {σ : St} {H : Hp} {s : Shared} {fp : List Addr} (I : Inv X pins σ H s) (hf : ∀ b ∈ fp, FpOk X pins H b) (ho : ∀ b ∈ fp, ∃ o, s.heap.get? b = some o ∧ ∀ v, o.data ≠ .cell v) : Inv X (pins ++ pinsAt fp s.heap) σ H s :=
  I.pins_of fun p hp => (List.mem_append.mp hp).elim (fun z => I.pin p (List.mem_append_right _ z)) fun z => by
    obtain ⟨hb, e⟩ := of_pinsAt z
    obtain ⟨f0, f1, f2, _⟩ := hf p.1 hb
    obtain ⟨o, e', d⟩ := ho p.1 hb
    rw [e] at e'; cases e'
    exact ⟨e, f0, f1, f2, d⟩
theorem Inv.unpinned {pins pl : List (Addr × Obj)} {σ : St} {H : Hp} {s : Shared} (I : Inv X (pins ++ pl) σ H s) : Inv X pins σ H s := I.pins_of fun p hp => I.pin p (List.mem_append_right _ (List.mem_append_left _ hp))
theorem ps_for {iter : Expr} {body : List Stmt} {wi : TI} {g : TG} {tb : TS} {pos : Pos} (hp : PassesOwn (model X.prog X.w) X.A X.env X.xe) (hc : X.calm = true) (hi : PI X tg iter wi) (hg : PG X tg g) (hb : PSs X body tb)
    (hs : ∀ x, foldedSetIterable iter X.env x = pure x := by intro _; rfl) : PS X (.For tg iter body [] pos) (tFor wi g tb) := by
  intro pins s σ H D I h
  refine wpAny_For (thn (hi pins s σ H _ I h) fun v s1 h1 => thn h1 fun itv s2 h2 => ?_) hs
  obtain ⟨it, fp, tn, J, H2, e, I2, T, st2, f2, W, ⟨m0, w0⟩, turn⟩ := h2
  subst e
  have stat : ∀ {H' : Hp}, (∀ b ∈ fp, H' b = none) → ∀ b ∈ fp, FpOk X pins H' b := fun hn b hb => ⟨hn b hb, (f2 b hb).2⟩
  refine codeAny_forLoop_any (fun n s' => ∃ i σ' H', Inv X pins σ' H' s' ∧ tn i s'.heap ∧ (∀ b ∈ fp, H' b = none) ∧ W i n σ' H') ?_ m0 ⟨0, σ, H2, I2, st2, fun b hb => (f2 b hb).1, w0⟩
  rintro n s3 ⟨i, σ3, H3, I3, st3, fr3, w3⟩
  rcases turn i n σ3 H3 w3 with ⟨stop, qn⟩ | ⟨go, N, hN, step⟩
  · refine wpAny_passesOwn hp (thn (T.done X rfl rfl rfl hc i pins s3 σ3 H3 X.xe I3 (stat fr3) st3 stop) fun r s4 ⟨hr, I4⟩ => ?_)
    subst hr
    exact wpAny_execs_nil ⟨σ3, H3, I4, qn⟩
  · refine wpAny_passesOwn hp (thn (T.item X rfl rfl rfl hc i pins s3 σ3 H3 X.xe I3 (stat fr3) st3 go) fun r s4 ⟨u, hr, h4⟩ => ?_)
    subst hr
    refine wpAny_passesOwn hp (thn h4 fun _ s5 ⟨x, H5, I5, r5, y5, st5, fr5⟩ => ?_)
    have I5' := I5.pinned (stat fr5) (T.obj _ _ st5)
    refine wpAny_passesOwn hp (thn (hg _ s5 σ3 H5 x u _ I5' r5 (step x H5 y5)) fun _ s6 ⟨σ6, H6, I6, q6⟩ => ?_)
    refine wpAny_passesOwn hp (thn (hb _ s6 σ6 H6 _ I6 q6) fun f s7 q7 => ?_)
    have again : ∀ {σ7 : St} {H7 : Hp}, Inv X (pins ++ pinsAt fp s5.heap) σ7 H7 s7 → N σ7 H7 → ∃ m, m < n ∧ ∃ i σ' H', Inv X pins σ' H' s7 ∧ tn i s7.heap ∧ (∀ b ∈ fp, H' b = none) ∧ W i m σ' H' := fun {σ7 H7} I7 n7 => by
      obtain ⟨m', hm, w7⟩ := hN σ7 H7 n7
      refine ⟨m', hm, i + 1, σ7, H7, I7.unpinned, T.keep _ _ _ st5 fun b hb o e => (I7.pin (b, o) (List.mem_append_right _ (List.mem_append_right _ (mem_pinsAt hb e)))).1, fun b hb => ?_, w7⟩
      obtain ⟨o, e, d⟩ := T.obj _ _ st5 b hb
      exact (I7.pin (b, o) (List.mem_append_right _ (List.mem_append_right _ (mem_pinsAt hb e)))).2.1
    cases f with
    | next => obtain ⟨σ7, H7, I7, n7⟩ := q7; exact again I7 n7
    | cont => obtain ⟨σ7, H7, I7, n7⟩ := q7; exact again I7 n7
    | brk => obtain ⟨σ7, H7, I7, q7⟩ := q7; exact ⟨σ7, H7, I7.unpinned, q7⟩
    | ret v => obtain ⟨x7, σ7, H7, I7, r7, q7⟩ := q7; exact ⟨x7, σ7, H7, I7.unpinned, r7, q7⟩
end
end L2
namespace L2
open PySem PySem.Spec PyProof.Rows
noncomputable abbrev R2 := V → V → Hp → VK → Prop
noncomputable def OpR (X : Cx) (f : Value → Value → Sem Value) (r : R2) : Prop :=
  ∀ (pins : List (Addr × Obj)) (s : Shared) (σ : St) (H : Hp) (x y : V) (v u : Value) (Q : VK), Inv X pins σ H s → RelV x v → RelV y u → r x y H Q →
    wpAny (model X.prog X.w) X.A (f v u) (EP X pins σ Q) X.xe s
noncomputable def UnR (X : Cx) (f : Value → Sem Value) (r : V → Hp → VK → Prop) : Prop :=
  ∀ (pins : List (Addr × Obj)) (s : Shared) (σ : St) (H : Hp) (x : V) (v : Value) (Q : VK), Inv X pins σ H s → RelV x v → r x H Q →
    wpAny (model X.prog X.w) X.A (f v) (EP X pins σ Q) X.xe s
noncomputable def CallR (X : Cx) (f : Value) (r : List V → Hp → VK → Prop) : Prop :=
  ∀ (pins : List (Addr × Obj)) (s : Shared) (σ : St) (H : Hp) (xs : List V) (us : List Value) (Q : VK), Inv X pins σ H s → Vals xs us → r xs H Q →
    wpAny (model X.prog X.w) X.A (call f us) (EP X pins σ Q) X.xe s
noncomputable def TruR (X : Cx) (r : V → Hp → (Bool → Hp → Prop) → Prop) : Prop :=
  ∀ (pins : List (Addr × Obj)) (s : Shared) (σ : St) (H : Hp) (x : V) (v : Value) (Q : Bool → Hp → Prop), Inv X pins σ H s → RelV x v → r x H Q →
    wpAny (model X.prog X.w) X.A (truthy v) (TP X pins σ Q) X.xe s
noncomputable def tOp (r : R2) (ta tb : TE) : TE := fun σ H Q => ta σ H fun x H1 => tb σ H1 fun y H2 => r x y H2 Q
noncomputable def tUn (r : V → Hp → VK → Prop) (ta : TE) : TE := fun σ H Q => ta σ H fun x H1 => r x H1 Q
noncomputable def rI (C : Int → Int → Prop) (g : Int → Int → V) : R2 := fun x y H Q => ∃ i j, x = .int i ∧ y = .int j ∧ C i j ∧ Q (g i j) H
noncomputable def rI0 (g : Int → Int → V) : R2 := fun x y H Q => ∃ i j, x = .int i ∧ y = .int j ∧ Q (g i j) H
noncomputable def rU (g : Int → V) : V → Hp → VK → Prop := fun x H Q => ∃ i, x = .int i ∧ Q (g i) H
section
variable {X : Cx} {a b c : Expr} {ta tb tc : TE} {pos : Pos}
theorem binT (ha : PE X a ta) (hb : PE X b tb) {pins : List (Addr × Obj)} {s : Shared} {σ : St} {H : Hp} {R : V → V → Hp → Prop} (I : Inv X pins σ H s)
    (h : ta σ H fun x H1 => tb σ H1 fun y H2 => R x y H2) {Q : Value → Shared → Prop} {f : Value → Value → Sem Value}
    (hf : ∀ v u s2 x y H2, Inv X pins σ H2 s2 → RelV x v → RelV y u → R x y H2 → wpAny (model X.prog X.w) X.A (f v u) Q X.xe s2) :
    wpAny (model X.prog X.w) X.A (eval a X.env) (fun v s₁ => wpAny (model X.prog X.w) X.A (eval b X.env) (fun u s₂ => wpAny (model X.prog X.w) X.A (f v u) Q X.xe s₂) X.xe s₁) X.xe s := by
  refine thn (ha pins s σ H _ I h) fun v s1 hh74 => Zz.b5 hh74 fun x H1 I1 r1 q1 => ?_
  refine thn (hb pins s1 σ H1 _ I1 q1) fun u s2 hh75 => Zz.b5 hh75 fun y H2 I2 r2 q2 => ?_
  exact hf v u s2 x y H2 I2 r1 r2 q2
theorem pe_op {op : Operator} {r : R2} (ho : OpR X (binaryOp op) r) (ha : PE X a ta) (hb : PE X b tb) : PE X (.BinOp a op b pos) (tOp r ta tb) := by
  intro pins s σ H Q I h
  exact wpAny_BinOp (binT ha hb I h fun v u s2 x y H2 I2 rx ry q => ho pins s2 σ H2 x y v u Q I2 rx ry q)
theorem pe_un {op : UnaryOp} {r : V → Hp → VK → Prop} (ho : UnR X (unaryOp op) r) (ha : PE X a ta) : PE X (.UnaryOp op a pos) (tUn r ta) := by
  intro pins s σ H Q I h
  exact UnaryOp_ (thn (ha pins s σ H _ I h) fun v s1 hh76 => Zz.b5 hh76 fun x H1 I1 r1 q1 => ho pins s1 σ H1 x v Q I1 r1 q1)
theorem opI {f : Value → Value → Sem Value} {C : Int → Int → Prop} {g : Int → Int → Int}
    (rule : ∀ (i j : Int) (t u : Tok) (s : Shared) (Q : Value → Shared → Prop) (E : Value → Shared → Prop), C i j → Q (.int (g i j) s.toks) { s with toks := s.toks + 1 } → wpAny (model X.prog X.w) X.A (f (.int i t) (.int j u)) Q E s) :
    OpR X f (rI C fun i j => .int (g i j)) := by
  intro pins s σ H x y v u Q I rx ry h
  obtain ⟨i, j, rfl, rfl, hc, q⟩ := h
  obtain ⟨t, rfl⟩ := rx
  obtain ⟨t', rfl⟩ := ry
  exact rule i j t t' s _ _ hc ⟨.int (g i j), H, I.tok _, ⟨_, rfl⟩, q⟩
theorem opI0 {f : Value → Value → Sem Value} {g : Int → Int → Int}
    (rule : ∀ (i j : Int) (t u : Tok) (s : Shared) (Q : Value → Shared → Prop) (E : Value → Shared → Prop), Q (.int (g i j) s.toks) { s with toks := s.toks + 1 } → wpAny (model X.prog X.w) X.A (f (.int i t) (.int j u)) Q E s) :
    OpR X f (rI0 fun i j => .int (g i j)) := by
  intro pins s σ H x y v u Q I rx ry h
  obtain ⟨i, j, rfl, rfl, q⟩ := h
  obtain ⟨t, rfl⟩ := rx
  obtain ⟨t', rfl⟩ := ry
  exact rule i j t t' s _ _ ⟨.int (g i j), H, I.tok _, ⟨_, rfl⟩, q⟩
theorem opB0 {f : Value → Value → Sem Value} {g : Int → Int → Bool}
    (rule : ∀ (i j : Int) (t u : Tok) (s : Shared) (Q : Value → Shared → Prop) (E : Value → Shared → Prop), Q (.bool (g i j)) s → wpAny (model X.prog X.w) X.A (f (.int i t) (.int j u)) Q E s) :
    OpR X f (rI0 fun i j => .bl (g i j)) := by
  intro pins s σ H x y v u Q I rx ry h
  obtain ⟨i, j, rfl, rfl, q⟩ := h
  obtain ⟨t, rfl⟩ := rx
  obtain ⟨t', rfl⟩ := ry
  exact rule i j t t' s _ _ ⟨.bl (g i j), H, I, rfl, q⟩
noncomputable def CDiv (i j : Int) : Prop := 0 < j ∧ j < 1073741824
noncomputable def CMul (i j : Int) : Prop := (-(2 ^ 64) < i ∧ i < 2 ^ 64) ∨ (-(2 ^ 64) < j ∧ j < 2 ^ 64)
theorem CMul.ok {i j : Int} (h : CMul i j) : IntMulOk i j := by
  rcases h with ⟨h1, h2⟩ | ⟨h1, h2⟩
  · exact .of_left (intBits_le_64 h1 h2)
  · exact .of_right (intBits_le_64 h1 h2)
theorem op_add : OpR X (binaryOp .Add) (rI0 fun i j => .int (i + j)) := opI0 fun _ _ _ _ _ _ _ q => add_int q
theorem op_sub : OpR X (binaryOp .Sub) (rI0 fun i j => .int (i - j)) := opI0 fun _ _ _ _ _ _ _ q => sub_int q
theorem op_mul : OpR X (binaryOp .Mult) (rI CMul fun i j => .int (i * j)) := opI fun _ _ _ _ _ _ _ hc q => mul_int q hc.ok
theorem op_fdiv : OpR X (binaryOp .FloorDiv) (rI CDiv fun i j => .int (i / j)) := opI fun i j _ _ _ _ _ hc q => by
  have h1 : (0 : Int) < j := hc.1
  have h2 : j < 1073741824 := hc.2
  exact floordiv_int (by omega) (by rw [Int.fdiv_eq_ediv_of_nonneg i (by omega)]; exact q) (.inl (PyProof.noPylong_small (by omega)))
theorem op_mod : OpR X (binaryOp .Mod) (rI (fun _ j => 0 < j) fun i j => .int (i % j)) := opI fun i j _ _ _ _ _ hc q => by
  have h1 : (0 : Int) < j := hc
  exact mod_int' (by omega) (by rw [Int.fmod_eq_emod_of_nonneg i (by omega)]; exact q)
theorem unI {f : Value → Sem Value} {g : Int → Int}
    (rule : ∀ (i : Int) (t : Tok) (s : Shared) (Q : Value → Shared → Prop) (E : Value → Shared → Prop), Q (.int (g i) s.toks) { s with toks := s.toks + 1 } → wpAny (model X.prog X.w) X.A (f (.int i t)) Q E s) :
    UnR X f (rU fun i => .int (g i)) := by
  intro pins s σ H x v Q I rx h
  obtain ⟨i, rfl, q⟩ := h
  obtain ⟨t, rfl⟩ := rx
  exact rule i t s _ _ ⟨.int (g i), H, I.tok _, ⟨_, rfl⟩, q⟩
theorem un_neg : UnR X (unaryOp .USub) (rU fun i => .int (-i)) := unI fun _ _ _ _ _ q => neg_int q
end
section
variable {X : Cx} {a b c : Expr} {ta tb tc : TE} {pos : Pos}
theorem fin_bl {pins : List (Addr × Obj)} {σ : St} {H : Hp} {s : Shared} {Q : VK} {k k' : Bool} (I : Inv X pins σ H s) (q : Q (.bl k) H) (e : k = k') : EP X pins σ Q (.bool k') s := by
  subst e
  exact ⟨.bl k, H, I, rfl, q⟩
theorem op_lt : OpR X (compareOp .Lt) (rI0 fun i j => .bl (decide (i < j))) := opB0 fun _ _ _ _ _ _ _ q => lt_int q
theorem op_gt : OpR X (compareOp .Gt) (rI0 fun i j => .bl (decide (j < i))) := opB0 fun _ _ _ _ _ _ _ q => gt_int q
theorem nomark (b : Expr) {op : CmpOp} (h : op ≠ .In := by decide) (h2 : op ≠ .NotIn := by decide) : behindInMarks op b = false := by
  have e1 : (op == CmpOp.In) = false := by cases op <;> first | rfl | exact absurd rfl h
  have e2 : (op == CmpOp.NotIn) = false := by cases op <;> first | rfl | exact absurd rfl h2
  cases b <;> simp [behindInMarks, e1, e2]
theorem pe_cmpR {op : CmpOp} {r : R2} (ho : OpR X (compareOp op) r) (ha : PE X a ta) (hb : PE X b tb) (hm : behindInMarks op b = false) : PE X (.Compare a [op] [b] pos) (tOp r ta tb) := by
  intro pins s σ H Q I h
  exact wpAny_Compare1 (binT ha hb I h fun v u s2 x y H2 I2 rx ry q => ho pins s2 σ H2 x y v u Q I2 rx ry q) hm
noncomputable def tTest (t : TE) : TT := fun σ H Q => t σ H fun x H' => ∃ k, x = .bl k ∧ Q k H'
theorem pt_cmpR {op : CmpOp} {r : R2} (ho : OpR X (compareOp op) r) (ha : PE X a ta) (hb : PE X b tb) (hm : behindInMarks op b = false) : PT X (.Compare a [op] [b] pos) (tTest (tOp r ta tb)) := by
  intro pins s σ H Q I h
  refine wpAny_isTrue_Compare1 (thn (ha pins s σ H _ I h) fun v s1 hh77 => Zz.b5 hh77 fun x H1 I1 r1 q1 => thn (hb pins s1 σ H1 _ I1 q1) fun u s2 hh78 => Zz.b5 hh78 fun y H2 I2 r2 q2 =>
    thn (ho pins s2 σ H2 x y v u _ I2 r1 r2 q2) fun c s3 ⟨z, H3, I3, r3, k, e, q3⟩ => ?_) hm
  subst e
  cases r3
  exact wpAny_truthy_bool ⟨H3, I3, q3⟩
noncomputable def TruV (K : PySem.W.Frag) (x : V) (H : Hp) (k : Bool) : Prop :=
  match x with
  | .non => k = false
  | .bl b => k = b
  | .int i => k = (i != 0)
  | .str y => y.length ≤ sizeLine ∧ k = ((y.length : Int) != 0)
  | .byt y => y.size ≤ sizeLine ∧ k = ((y.size : Int) != 0)
  | .ref p => (∃ xs, SqL K H p xs ∧ k = !xs.isEmpty) ∨ (∃ xs, SqT K H p xs ∧ k = !xs.isEmpty) ∨ ∃ kvs, H p = some (.dK kvs) ∧ k = !kvs.isEmpty
  | _ => False
theorem isEmpty_kv {κ : Type} {kvs : List (κ × V)} {vs : List (κ × Value)} (r : KV kvs vs) : (!vs.isEmpty) = !kvs.isEmpty := by
  cases r <;> rfl
theorem isEmpty_of {xs : List V} {its : List Value} (r : Vals xs its) : (!its.toArray.isEmpty) = !xs.isEmpty := by
  cases r <;> simp
theorem line63 : (sizeLine : Nat) < 2 ^ 63 := by rw [sizeLine_eq]; decide
theorem tru_ok : TruR X (fun x H Q => ∃ k, TruV X.K x H k ∧ Q k H) := by
  intro pins s σ H x v Q I rx h
  obtain ⟨k, e, q⟩ := h
  have hl := line63
  have hs : sizeLine = 16777216 := sizeLine_eq
  cases x with
  | non =>
    cases rx
    have e' : k = false := e
    subst e'
    exact truthy_none ⟨H, I, q⟩
  | bl b =>
    cases rx
    have e' : k = b := e
    subst e'
    exact wpAny_truthy_bool ⟨H, I, q⟩
  | int i =>
    obtain ⟨t, rfl⟩ := rx
    have e' : k = (i != 0) := e
    subst e'
    exact PySem.P.truthy_int ⟨H, I, q⟩
  | str y =>
    obtain ⟨t, rfl⟩ := rx
    obtain ⟨hy, e'⟩ : y.length ≤ sizeLine ∧ k = ((y.length : Int) != 0) := e
    subst e'
    exact PySem.P.truthy_str (by omega) ⟨H, I.tok _, q⟩
  | byt y =>
    obtain ⟨t, rfl⟩ := rx
    obtain ⟨hy, e'⟩ : y.size ≤ sizeLine ∧ k = ((y.size : Int) != 0) := e
    subst e'
    exact PySem.W.truthy_bytes (by omega) ⟨H, I.tok _, q⟩
  | ref p =>
    cases rx
    have e' : (∃ xs, SqL X.K H p xs ∧ k = !xs.isEmpty) ∨ (∃ xs, SqT X.K H p xs ∧ k = !xs.isEmpty) ∨ ∃ kvs, H p = some (.dK kvs) ∧ k = !kvs.isEmpty := e
    rcases e' with ⟨xs, hx, e'⟩ | ⟨xs, hx, e'⟩ | ⟨kvs, hx, e'⟩
    · subst e'
      obtain ⟨its, r, pl, hz⟩ := I.list hx
      have hlen := r.length
      exact wpAny_truthy_list pl.isList (by simp only [List.size_toArray]; omega) ⟨H, I.tok _, by rw [isEmpty_of r]; exact q⟩
    · subst e'
      obtain ⟨its, r, pl, hz⟩ := I.tuple hx
      have hlen := r.length
      exact truthy_tuple pl (by simp only [List.size_toArray]; omega) ⟨H, I.tok _, by rw [isEmpty_of r]; exact q⟩
    · subst e'
      obtain ⟨hz, hS, vs, r, m⟩ : kvs.length ≤ sizeLine ∧ (p == sysModules) = false ∧ ∃ vs, KV kvs vs ∧ s.heap.DictOf (mixKind X.prog X.w) p vs := I.hok p _ hx
      have hlen : kvs.length = vs.length := Paired.length r
      exact wpAny_truthy_dict hS m (by omega) ⟨H, I.tok _, by rw [isEmpty_kv r]; exact q⟩
  | _ => exact (show False from e).elim
theorem pt_truth (ha : PE X a ta) (he : ∀ whole, isTrue a X.env whole = (do let v ← whole; standAt a.pos; holding [v] (truthy v))) :
    PT X a (fun σ H Q => ta σ H fun x H' => ∃ k, TruV X.K x H' k ∧ Q k H') := by
  intro pins s σ H Q I h
  exact isTrue_plain (thn (ha pins s σ H _ I h) fun v s1 hh79 => Zz.b5 hh79 fun x H1 I1 r1 q1 => tru_ok pins s1 σ H1 x v Q I1 r1 q1) (he _)
theorem vals1 {x : V} {us : List Value} (r : Vals [x] us) : ∃ u, us = [u] ∧ RelV x u := by
  cases r with
  | cons r1 r2 => cases r2; exact ⟨_, rfl, r1⟩
theorem vals2 {x y : V} {us : List Value} (r : Vals [x, y] us) : ∃ u w', us = [u, w'] ∧ RelV x u ∧ RelV y w' := by
  cases r with
  | cons r1 r2 =>
    cases r2 with
    | cons r3 r4 => cases r4; exact ⟨_, _, rfl, r1, r3⟩
theorem call_max2 (hc : X.calm = true) : CallR X (.builtin "max") (fun xs H Q => ∃ i j, xs = [.int i, .int j] ∧ Q (.int (if j > i then j else i)) H) := by
  intro pins s σ H xs us Q I r h
  obtain ⟨i, j, rfl, q⟩ := h
  obtain ⟨u, w', rfl, ⟨t, rfl⟩, ⟨t', rfl⟩⟩ := vals2 r
  refine max_two_ints (I.ok.hd hc) fun h' tk k => ⟨_, H, I.kept k, ?_, q⟩
  by_cases hj : j > i
  · rw [if_pos hj, if_pos hj]; exact ⟨_, rfl⟩
  · rw [if_neg hj, if_neg hj]; exact ⟨_, rfl⟩
theorem call_min2 (hc : X.calm = true) : CallR X (.builtin "min") (fun xs H Q => ∃ i j, xs = [.int i, .int j] ∧ Q (.int (if j < i then j else i)) H) := by
  intro pins s σ H xs us Q I r h
  obtain ⟨i, j, rfl, q⟩ := h
  obtain ⟨u, w', rfl, ⟨t, rfl⟩, ⟨t', rfl⟩⟩ := vals2 r
  refine min_two_ints (I.ok.hd hc) fun h' tk k => ⟨_, H, I.kept k, ?_, q⟩
  by_cases hj : j < i
  · rw [if_pos hj, if_pos hj]; exact ⟨_, rfl⟩
  · rw [if_neg hj, if_neg hj]; exact ⟨_, rfl⟩
theorem call_int1 : CallR X (.type "int") (fun xs H Q => (∃ i, xs = [.int i] ∧ Q (.int i) H) ∨ ∃ k, xs = [.bl k] ∧ Q (.int (if k then 1 else 0)) H) := by
  intro pins s σ H xs us Q I r h
  rcases h with ⟨i, rfl, q⟩ | ⟨k, rfl, q⟩
  · obtain ⟨u, rfl, t, rfl⟩ := vals1 r
    exact call_int_int ⟨.int i, H, I, ⟨_, rfl⟩, q⟩
  · obtain ⟨u, rfl, r1⟩ := vals1 r
    cases r1
    exact call_int_bool ⟨.int (if k then 1 else 0), H, I.tok _, ⟨_, rfl⟩, q⟩
end
end L2
namespace L2
open PySem PySem.Spec PyProof.Rows
section
variable {prog : Program} {w : World} {A : Around} {E : Value → Shared → Prop} {s : Shared} {K : PySem.W.Frag} {x dx C f : Addr} {mA : Str → Option Value} {name : Str} {v : Value}
end
theorem RelO.some_of {v : V} {o : Option Value} (r : RelO (some v) o) : ∃ u, o = some u ∧ RelV v u := by
  cases o with
  | none => exact (show False from r).elim
  | some u => exact ⟨u, rfl, r⟩
section
variable {P : Program} {w : World} {H H' : Hp} {h h' : Heap} {a C dx : Addr} {fs fs' : List (Str × V)}
end
section
variable {X : Cx} {pins : List (Addr × Obj)} {σ : St} {H : Hp} {s : Shared} {a C dx : Addr} {fs : List (Str × V)} {f : Str} {v : V} {A : Around} {E : Value → Shared → Prop}
end
section
variable {X : Cx} {o e value : Expr} {f : Str} {pos pos' tpos : Pos} {ta tv : TE}
end
section
variable {X : Cx} {pins : List (Addr × Obj)} {σ : St} {H : Hp} {s : Shared} {A : Around} {E : Value → Shared → Prop} {Q : Value → Shared → Prop} {c : Value} {b : Bool}
end
end L2
namespace L2
open PySem PySem.Spec PyProof.Rows
structure Room (k : Nat) (A : Around) : Prop where
  hd : A.handled = none
  dp : A.depth + 3 * k + 5 < recursionLimit
  un : A.units + 16 * k + 200 < cLine
theorem Room.mono {j k : Nat} {A : Around} (r : Room k A) (h : j ≤ k) : Room j A := ⟨r.hd, by have := r.dp; omega, by have := r.un; omega⟩
theorem Room.deeper {k : Nat} {A : Around} (r : Room (k + 1) A) (env : Env) : Room k (A.deeper env) :=
  ⟨r.hd, by have := r.dp; show A.depth + 1 + 3 * k + 5 < _; omega, by have := r.un; show A.units + 3 + 16 * k + 200 < _; omega⟩
theorem Room.depth {k : Nat} {A : Around} (r : Room k A) : A.depth < recursionLimit := by have := r.dp; omega
theorem Room.units {k : Nat} {A : Around} (r : Room k A) : A.units + 64 < cLine := by have := r.un; omega
noncomputable def tNil : TA := fun _ H Q => Q [] H
noncomputable def tCons (ta : TE) (tr : TA) : TA := fun σ H Q => ta σ H fun x H1 => tr σ H1 fun xs H2 => Q (x :: xs) H2
section
variable {X : Cx} {e : Expr} {es : List Expr} {te : TE} {t : TA} {pos : Pos}
theorem pa_nil : PA X [] tNil := fun _ _ _ _ H Q I h => Calls.spliced_nil ⟨[], H, I, .nil, h⟩
theorem pa_cons (ha : PE X e te) (hr : PA X es t) (hs : starEach (e :: es) X.env = (false, eval e X.env) :: starEach es X.env := by rfl) : PA X (e :: es) (tCons te t) := by
  intro pos pins s σ H Q I h
  rw [hs]
  show wpAny _ _ (spliced ((false, eval e X.env) :: backTo pos (starEach es X.env))) _ _ s
  refine Calls.spliced_cons (thn (ha pins s σ H _ I h) fun u s1 hh80 => Zz.b5 hh80 fun x H1 I1 r1 q1 => ?_)
  exact thn (hr pos pins s1 σ H1 _ I1 q1) fun us s2 hh81 => Zz.b5 hh81 fun xs H2 I2 r2 q2 => ⟨x :: xs, H2, I2, .cons r1 r2, q2⟩
noncomputable def tTup (t : TA) : TE := fun σ H Q => t σ H fun xs H1 => xs.length ≤ sizeLine ∧ ∀ p, H1 p = none → Q (.ref p) (upd H1 p (.tup xs))
noncomputable def tLst (t : TA) : TE := fun σ H Q => t σ H fun xs H1 => xs.length ≤ sizeLine ∧ ∀ p, H1 p = none → Q (.ref p) (upd H1 p (.lst xs))
theorem pe_tup {x1} (h : PA X es t) : PE X (.Tuple es x1 pos) (tTup t) := by
  intro pins s σ H Q I hq
  refine wpAny_Tuple_spliced (thn (h pos pins s σ H _ I hq) fun us s1 ⟨xs, H1, I1, r, z, q⟩ => ⟨by rw [← r.length]; exact z, ?_⟩)
  have hf : H1 s1.heap.objs.size = none := I1.hok.fresh (Nat.le_refl _)
  refine ⟨.ref s1.heap.objs.size, upd H1 s1.heap.objs.size (.tup xs), I1.laid (t' := s1.toks) (fun b u e => Heap.get?_push_of_some _ e) (Nat.le_refl _) ?_, rfl, q _ hf⟩
  exact ⟨z, us, r, ⟨_, Heap.get?_push_size _ rfl, rfl, _, rfl⟩⟩
theorem pe_lst (h : PA X es t) : PE X (.List es pos) (tLst t) := by
  intro pins s σ H Q I hq
  refine wpAny_List_spliced (thn (h pos pins s σ H _ I hq) fun us s1 ⟨xs, H1, I1, r, z, q⟩ => ⟨by rw [← r.length]; exact z, ?_⟩)
  have hf : H1 s1.heap.objs.size = none := I1.hok.fresh (Nat.le_refl _)
  refine ⟨.ref s1.heap.objs.size, upd H1 s1.heap.objs.size (.lst xs), I1.laid (t' := s1.toks) (fun b u e => Heap.get?_push_of_some _ e) (Nat.le_refl _) ?_, rfl, q _ hf⟩
  exact ⟨z, us, 0, r, Heap.get?_push_size _ rfl⟩
end
noncomputable abbrev Sp := List V → Hp → VK → XK → Prop
noncomputable abbrev CXT := List Env → Hp → Shared → XK → Value → Shared → Prop
structure Env0 (P : Program) (w : World) (K : PySem.W.Frag) (mg : Str → Option Value) (base : Heap) (A : Around) (outer : List Env) (s : Shared) (H : Hp) : Prop where
  frames : A.frames = some outer
  mod : Mod K mg base
  bs : ∀ b o, base.get? b = some o → s.heap.get? b = some o ∧ H b = none
  bsz : base.objs.size ≤ s.heap.objs.size
  funs : s.heap.FunFrames base outer
  frf : ∀ b ∈ frs outer, H b = none
  hok : HOk P w H s.heap
  bare : AllBare s.gens
noncomputable def CE (outer : List Env) (P : Program) (w : World) (H : Hp) (s : Shared) (Q : VK) (u : Value) (s' : Shared) : Prop :=
  ∃ v H', s'.os = s.os ∧ AllBare s'.gens ∧ Un (frs outer) [] H H' s.heap s'.heap ∧ HOk P w H' s'.heap ∧ RelV v u ∧ Q v H'
noncomputable def CR (CX : CXT) (outer : List Env) (P : Program) (w : World) (H : Hp) (s : Shared) (Q : VK) (E : XK) (r : Result) (s' : Shared) : Prop :=
  match r with
  | .ok (.ret u) => CE outer P w H s Q u s'
  | .ok _ => False
  | .error e => CX outer H s E e s'
structure FnOk (P : Program) (w : World) (K : PySem.W.Frag) (mg : Str → Option Value) (base : Heap) (CX : CXT) (k : Nat) (f : Addr) (fd : FuncData) (ps : List Str) (sp : Sp) : Prop where
  len : ∀ vs H Q E, sp vs H Q E → vs.length = ps.length
  run : ∀ (A : Around) (outer : List Env) (s : Shared) (H : Hp) (args : Args) (us : List Value) (vs : List V) (Q : VK) (E : XK), Room k A → Env0 P w K mg base A outer s H → BindsTo s fd args (ps.zip us) → Vals vs us → sp vs H Q E →
    codeAny (model P w) A (.call (.ref f) args) (CR CX outer P w H s Q E) s
theorem FnOk.imp {P : Program} {w : World} {K : PySem.W.Frag} {mg : Str → Option Value} {base : Heap} {CX : CXT} {k : Nat} {f : Addr} {fd : FuncData} {ps : List Str} {sp sp' : Sp} (F : FnOk P w K mg base CX k f fd ps sp)
    (h : ∀ vs H Q E, sp' vs H Q E → sp vs H Q E) : FnOk P w K mg base CX k f fd ps sp' :=
  ⟨fun vs H Q E q => F.len vs H Q E (h _ _ _ _ q), fun A outer s H args us vs Q E hr he hb hv hs => F.run A outer s H args us vs Q E hr he hb hv (h _ _ _ _ hs)⟩
section
variable {X : Cx} {pins : List (Addr × Obj)} {σ : St} {H : Hp} {s s' : Shared}
theorem Inv.env0 (I : Inv X pins σ H s) : Env0 X.prog X.w X.K X.mg X.base X.A X.stack s H :=
  ⟨I.ok.frames, I.ok.mod, I.bs, Nat.le_trans I.ok.bsz I.sz, I.stack, I.stkFree, I.hok, I.bare⟩
theorem Inv.after {Q : VK} {u : Value} (I : Inv X pins σ H s) (h : CE X.stack X.prog X.w H s Q u s') : EP X pins σ Q u s' := by
  obtain ⟨v, H', os, bare, un, hok, r, q⟩ := h
  obtain ⟨hh, g, d, t, os'⟩ := s'
  obtain rfl : os' = s.os := os
  exact ⟨v, H', I.call (h' := hh) (g' := g) (d' := d) (t' := t) (ch := []) un hok bare (fun b z => absurd z (by simp)), r, q⟩
end
noncomputable def tCall (sp : Sp) (dvs : List V) (E : XK) (t : TA) : TE := fun σ H Q => t σ H fun vs H1 => sp (vs ++ dvs) H1 Q E
noncomputable def Binds (K : PySem.W.Frag) (fd : FuncData) (ps : List Str) (ds : List Value) : Prop :=
  ∀ (s : Shared) (us : List Value), K.In s.heap → (us ++ ds).length = ps.length → BindsTo s fd ⟨us, []⟩ (ps.zip (us ++ ds))
theorem Binds.all {K : PySem.W.Frag} {fd : FuncData} {ps : List Str} (h : ∀ us : List Value, us.length = ps.length → bindArgs fd ⟨us, []⟩ = pure (ps.zip us)) : Binds K fd ps [] := fun s us _ hl => by
  rw [List.append_nil] at hl ⊢
  exact .of_eq (h us hl)
noncomputable def Passes (CX : CXT) (X : Cx) (E : XK) : Prop := ∀ (pins : List (Addr × Obj)) (σ : St) (H : Hp) (s : Shared) (e : Value) (s' : Shared), Inv X pins σ H s → CX X.stack H s E e s' → X.xe e s'
section
variable {X : Cx} {CX : CXT} {k : Nat} {f C : Addr} {fd : FuncData} {ps : List Str} {sp : Sp} {dvs : List V} {ds : List Value} {E : XK} {x m : Str} {p pos apos : Pos} {e o : Expr} {es : List Expr} {ta : TE} {t : TA}
theorem run_fn {pins : List (Addr × Obj)} {σ : St} {H : Hp} {s : Shared} {Q : VK} {us : List Value} {vs : List V} (F : FnOk X.prog X.w X.K X.mg X.base CX k f fd ps sp) (hr : Room k X.A) (hb : Binds X.K fd ps ds) (hd : Vals dvs ds) (hx : Passes CX X E)
    (I : Inv X pins σ H s) (r : Vals vs us) (h : sp (vs ++ dvs) H Q E) : wpAny (model X.prog X.w) X.A (call (.ref f) us) (EP X pins σ Q) X.xe s := by
  have r2 : Vals (vs ++ dvs) (us ++ ds) := r.append hd
  have hl : (us ++ ds).length = ps.length := by rw [← r2.length]; exact F.len _ _ _ _ h
  refine wpAny_call (codeAny_mono (F.run X.A X.stack s H ⟨us, []⟩ (us ++ ds) (vs ++ dvs) Q E hr I.env0 (hb s us I.kIn hl) r2 h) fun r s' hq => ?_)
  cases r with
  | error e => exact hx pins σ H s e s' I hq
  | ok fl =>
    cases fl with
    | ret u => exact I.after hq
    | next => exact False.elim hq
    | brk => exact False.elim hq
    | cont => exact False.elim hq
theorem pe_call (F : FnOk X.prog X.w X.K X.mg X.base CX k f fd ps sp) (hr : Room k X.A) (hg : Gl X x) (hm : X.mg x = some (.ref f)) (hk : PySem.W.keepIn X.K (.ref f) = true) (hb : Binds X.K fd ps ds) (hd : Vals dvs ds) (hx : Passes CX X E)
    (ha : PA X (e :: es) t) (hdb : (x == ("__debug__" : Str)) = false := by decide) (he : starEach (e :: es) X.env = (false, eval e X.env) :: starEach es X.env := by rfl) (hpl : (backTo pos (starEach es X.env)).any (·.1) = false := by rfl) :
    PE X (.Call (.Name x p) (e :: es) [] pos) (tCall sp dvs E t) := by
  intro pins s σ H Q I h
  refine wpAny_Call_Name_kw (ld_glob I hg hm ?_ hdb)
  refine PySem.W.callWith_K (h₀ := X.base) I.ok.mod.kin hk (thn (ha pos pins s σ H _ I h) fun us s1 hh82 => Zz.b5 hh82 fun vs H1 I1 r q => ⟨I1.kIn, ?_⟩) he hpl
  exact run_fn F hr hb hd hx I1 r q
end
section
variable {X : Cx} {CX : CXT} {k : Nat} {f C : Addr} {fd : FuncData} {ps ks : List Str} {sp : Sp} {E : XK} {x m : Str} {p pos apos kpos : Pos} {e o : Expr} {es : List Expr} {kws : List Keyword} {te ta : TE} {t tk : TA} {nm : Option Str}
variable {g : List Value → List Value → List Value} {gV : List V → List V → List V}
end
structure FnScope (N P : List Str) (sc : Scope) : Prop where
  kind : sc.kind = .function
  co : sc.isCoroutine = false
  gen : sc.isGenerator = false
  nd : N.Nodup
  pre : N.take P.length = P
  par : ∀ x ∈ P, sc.names.lookup x = some .local ∨ sc.names.lookup x = some .cell
  nofree : ∀ y ∈ sc.names, y.2 ≠ .free
theorem bindL_out {kindOf : Str → Option NameKind} {x : Str} : ∀ {binds : List (Str × Value)} {m : Str → Option Value}, (∀ v, (x, v) ∉ binds) → bindL kindOf binds m x = m x
  | [], _, _ => rfl
  | (n, v) :: r, m, h => by
    unfold bindL
    rw [bindL_out fun w hw => h w (List.mem_cons_of_mem _ hw)]
    split
    · have : x ≠ n := by rintro rfl; exact h v List.mem_cons_self
      simp [this]
    · rfl
theorem bindC_out {kindOf : Str → Option NameKind} {x : Str} : ∀ {binds : List (Str × Value)} {m : Str → Option Value}, (∀ v, (x, v) ∉ binds) → bindC kindOf binds m x = m x
  | [], _, _ => rfl
  | (n, v) :: r, m, h => by
    unfold bindC
    rw [bindC_out fun w hw => h w (List.mem_cons_of_mem _ hw)]
    split
    · rfl
    · have : x ≠ n := by rintro rfl; exact h v List.mem_cons_self
      simp [this]
theorem bindL_get {kindOf : Str → Option NameKind} {x : Str} {v : Value} : ∀ {P : List Str} {vs : List Value} {i : Nat} {m : Str → Option Value}, P.Nodup → P[i]? = some x → vs[i]? = some v → kindOf x = some .local →
    bindL kindOf (P.zip vs) m x = some v
  | [], _, _, _, _, h, _, _ => by simp at h
  | _ :: _, [], _, _, _, _, h, _ => by simp at h
  | p :: P, w :: vs, 0, m, nd, h1, h2, hk => by
    simp at h1 h2; subst h1; subst h2
    show bindL kindOf ((p, w) :: P.zip vs) m p = _
    unfold bindL
    rw [bindL_out fun v hv => (List.nodup_cons.mp nd).1 (List.of_mem_zip hv).1, if_pos hk]
    simp
  | p :: P, w :: vs, i + 1, m, nd, h1, h2, hk => by
    show bindL kindOf ((p, w) :: P.zip vs) m x = _
    unfold bindL
    exact bindL_get (i := i) (List.nodup_cons.mp nd).2 (by simpa using h1) (by simpa using h2) hk
theorem bindC_get {kindOf : Str → Option NameKind} {x : Str} {v : Value} : ∀ {P : List Str} {vs : List Value} {i : Nat} {m : Str → Option Value}, P.Nodup → P[i]? = some x → vs[i]? = some v → kindOf x ≠ some .local →
    bindC kindOf (P.zip vs) m x = some v
  | [], _, _, _, _, h, _, _ => by simp at h
  | _ :: _, [], _, _, _, _, h, _ => by simp at h
  | p :: P, w :: vs, 0, m, nd, h1, h2, hk => by
    simp at h1 h2; subst h1; subst h2
    show bindC kindOf ((p, w) :: P.zip vs) m p = _
    unfold bindC
    rw [bindC_out fun v hv => (List.nodup_cons.mp nd).1 (List.of_mem_zip hv).1, if_neg hk]
    simp
  | p :: P, w :: vs, i + 1, m, nd, h1, h2, hk => by
    show bindC kindOf ((p, w) :: P.zip vs) m x = _
    unfold bindC
    exact bindC_get (i := i) (List.nodup_cons.mp nd).2 (by simpa using h1) (by simpa using h2) hk
noncomputable def start (N : List Str) (vs : List V) : St := vs.map some ++ List.replicate (N.length - vs.length) none
noncomputable def cxOf (CX : CXT) (P : Program) (w : World) (K : PySem.W.Frag) (mg : Str → Option Value) (base : Heap) (N : List Str) (qual : Str) (scope : Scope) (f : Addr) (cd : Value) (A : Around) (outer : List Env) (s : Shared) (H : Hp) (E : XK) : Cx where
  prog := P
  w := w
  K := K
  mg := mg
  base := base
  A := A.deeper (envOfC qual scope s.heap.objs.size f cd)
  N := N
  s₀ := s
  H₀ := H
  env := envOfC qual scope s.heap.objs.size f cd
  outer := outer
  stack := envOfC qual scope s.heap.objs.size f cd :: outer
  ex := []
  calm := true
  fn := fun _ => true
  pn := []
  xe := fun e s' => wpAny (model P w) (A.deeper (envOfC qual scope s.heap.objs.size f cd)) (leaving (envOfC qual scope s.heap.objs.size f cd) e) (fun _ s'' => CX outer H s E e s'') (fun e' s'' => CX outer H s E e' s'') s'
theorem cell_has {sc : Scope} {n : Nat} {x : Str} (h : sc.names.lookup x = some .cell) : ∃ c, (cellsFrom n sc.names []).lookup x = some c := by
  have q := PySem.W.cellsFrom_some sc.names n [] (.inl h)
  exact Option.isSome_iff_exists.mp q
theorem inv_start {CX : CXT} {P : Program} {w : World} {K : PySem.W.Frag} {mg : Str → Option Value} {base : Heap} {N ps : List Str} {qual : Str} {scope : Scope} {f : Addr} {cd : Value} {A : Around} {outer : List Env} {s s1 : Shared} {H : Hp} {E : XK} {us : List Value} {vs : List V}
    (S : FnScope N ps scope) (hd : A.handled = none) (e0 : Env0 P w K mg base A outer s H) (hl : vs.length = ps.length) (r : Vals vs us)
    (x : InCallC s s.heap.objs.size (bindL (envOfC qual scope s.heap.objs.size f cd).kindOf (ps.zip us) fun _ => none) (cellsFrom (s.heap.objs.size + 1) scope.names []) (bindC (envOfC qual scope s.heap.objs.size f cd).kindOf (ps.zip us) fun _ => none) s1) :
    Inv (cxOf CX P w K mg base N qual scope f cd A outer s H E) [] (start N vs) H s1 := by
  have hpl : ps.length ≤ N.length := by have := congrArg List.length S.pre; rw [List.length_take] at this; omega
  obtain ⟨h1, tk, rfl, hk⟩ := x.done
  have noA : ∀ b : Addr, b ∉ (cxOf CX P w K mg base N qual scope f cd A outer s H E).ex := fun b z => absurd (show b ∈ ([] : List Addr) from z) (by simp)
  refine ⟨⟨e0.mod, S.kind, rfl, rfl, Nat.le_refl _, fun y z c h1 h2 => ?_, fun y hy => ?_, fun y c _ h => ?_, fun _ => hd, Around.frames_deeper e0.frames, .inr ⟨rfl, rfl⟩, fun b z => absurd z (noA b), e0.bs, e0.bsz, fun b _ _ => noA b, fun b z => absurd z (noA b), e0.funs, e0.frf⟩,
    rfl, e0.bare, Un.kept hk, ⟨_, x.toInCall.ns, fun i y v h1 h2 h3 => ?_⟩, fun y c h => ⟨_, x.cell y c h⟩, e0.hok.fresh (Nat.le_refl _), fun y c h => ?_, fun p hp => absurd (show p ∈ ([] : List (Addr × Obj)) from hp) (by simp), e0.hok.kept hk, ?_⟩
  · exact name_of_addr x.apart (PySem.mem_of_lookup h1) (PySem.mem_of_lookup h2)
  · have hy : scope.names.lookup y = some .cell ∨ scope.names.lookup y = some .free := hy
    rcases hy with hy | hy
    · exact cell_has hy
    · exact absurd rfl (S.nofree _ (PySem.mem_of_lookup hy))
  · exact Nat.le_of_lt (x.above y c (PySem.mem_of_lookup h))
  · have hi : i < vs.length := by
      unfold start at h2
      by_cases hi : i < vs.length
      · exact hi
      · rw [List.getElem?_append_right (by simpa using hi)] at h2
        rw [List.getElem?_replicate] at h2
        split at h2 <;> cases h2
    have ha : vs[i]? = some v := by
      unfold start at h2
      rw [List.getElem?_append_left (by simpa using hi), List.getElem?_map] at h2
      cases e : vs[i]? with
      | none => rw [e] at h2; cases h2
      | some a => rw [e] at h2; cases h2; rfl
    obtain ⟨u, hu, rv⟩ := r.get ha
    have hp : ps[i]? = some y := by
      rw [← S.pre, List.getElem?_take_of_lt (by omega)]; exact h1
    have ndP : ps.Nodup := by rw [← S.pre]; exact S.nd.sublist (List.take_sublist _ _)
    refine ⟨u, rv, ?_⟩
    rcases S.par y (List.mem_of_getElem? hp) with k | k
    · exact .inl ⟨k, bindL_get ndP hp hu k⟩
    · obtain ⟨c, e⟩ := cell_has (n := s.heap.objs.size + 1) k
      refine .inr ⟨.inl k, c, e, ?_⟩
      have q := x.cell y c e
      rw [bindC_get ndP hp hu (by show scope.names.lookup y ≠ _; rw [k]; decide)] at q
      exact q
  · exact e0.hok.fresh (Nat.le_of_lt (x.above y c (PySem.mem_of_lookup h)))
  · unfold start
    show _ = N.length
    rw [List.length_append, List.length_map, List.length_replicate]
    omega
theorem fn_of {CX : CXT} {P : Program} {w : World} {K : PySem.W.Frag} {mg : Str → Option Value} {base : Heap} {k : Nat} {f : Addr} {name qual : Str} {params : Arguments} {body : List Stmt} {scope : Scope} {dV kV doc pm cdv ct oc : Value} {an od : Option Addr}
    {osl : Array (Option Value)} {N ps : List Str} {sp : Sp} (lk : K.lookup f = some ⟨oc, od, .func (PySem.W.fnOf name qual params body scope dV kV doc pm an cdv ct), osl⟩) (hcd : PySem.W.codeIn K cdv qual = true) (S : FnScope N ps scope)
    (len : ∀ vs H Q E, sp vs H Q E → vs.length = ps.length)
    (hbody : ∀ (A : Around) (outer : List Env) (s : Shared) (H : Hp) (vs : List V) (Q : VK) (E : XK), Room k (A.deeper (envOfC qual scope s.heap.objs.size f cdv)) → sp vs H Q E →
      ∃ t, PSs (cxOf CX P w K mg base N qual scope f cdv A outer s H E) body t ∧ t { nx := fun _ H' => Q .non H', rt := Q } (start N vs) H) :
    FnOk P w K mg base CX (k + 1) f (PySem.W.fnOf name qual params body scope dV kV doc pm an cdv ct) ps sp := by
  refine ⟨len, fun A outer s H args us vs Q E hr e0 hb r hsp => ?_⟩
  have hl := len _ _ _ _ hsp
  have KX : K.In s.heap := e0.mod.kin.keeps fun b o e => (e0.bs b o e).1
  have lim : s.heap.NoLimit := e0.mod.nolimit.keeps fun b o e => (e0.bs b o e).1
  have hkind : ∀ y ∈ ps.zip us, scope.names.lookup y.1 = some .local ∨ (scope.names.lookup y.1 = some .cell ∧ ((cellsFrom (s.heap.objs.size + 1) scope.names []).lookup y.1).isSome = true) := fun ⟨n, v⟩ hy => by
    rcases S.par n (List.of_mem_zip hy).1 with q | q
    · exact .inl q
    · exact .inr ⟨q, PySem.W.cellsFrom_some _ _ _ (.inl q)⟩
  refine codeAny_call_function hr.depth (KX _ _ lk) rfl S.co S.gen rfl (PySem.W.codeRec_of KX hcd) (hb _ _ _ _ ?_)
  refine wpAny_newFunctionEnv_cells S.kind hkind fun env he s1 x => ?_
  subst he
  refine ⟨lim.keeps x.toInCall.keep, codeAny_func ?_⟩
  obtain ⟨t, ht, hq⟩ := hbody A outer s H vs Q E (hr.deeper _) hsp
  have I : Inv (cxOf CX P w K mg base N qual scope f cdv A outer s H E) [] (start N vs) H s1 := inv_start S hr.hd e0 hl r x
  refine wpAny_mono (ht [] s1 (start N vs) H _ I hq) (fun fl s' hs => ?_) fun e s' hs => hs
  have fin : ∀ {σ' : St} {H' : Hp} {v : V} {u : Value}, Inv (cxOf CX P w K mg base N qual scope f cdv A outer s H E) [] σ' H' s' → RelV v u → Q v H' → CE outer P w H s Q u s' :=
    fun {σ' H' v u} J rv q => ⟨v, H', J.os, J.bare, J.base, J.hok, rv, q⟩
  cases fl with
  | ret u =>
    obtain ⟨v, σ', H', J, rv, q⟩ := hs
    exact fin J rv q
  | next =>
    obtain ⟨σ', H', J, q⟩ := hs
    exact fin (v := V.non) (u := Value.none) J rfl q
  | brk =>
    obtain ⟨_, _, _, q⟩ := hs
    exact False.elim q
  | cont =>
    obtain ⟨_, _, _, q⟩ := hs
    exact False.elim q
end L2
namespace L2
open PySem PySem.Spec PyProof.Rows
section
variable {X : Cx} {x : Str} {p pos : Pos} {e : Expr} {es : List Expr} {t : TA} {id T : String} {r : List V → Hp → VK → Prop}
noncomputable def tCB (r : List V → Hp → VK → Prop) (t : TA) : TE := fun σ H Q => t σ H fun vs H1 => r vs H1 Q
theorem pe_callB (hc : CallR X (.builtin id) r) (hg : Gl X x) (hm : X.mg x = none) (hv : bootBuiltins x = some (.builtin id)) (ha : PA X (e :: es) t) (hn : x ≠ "__name__" := by decide) (hdb : (x == ("__debug__" : Str)) = false := by decide)
    (he : starEach (e :: es) X.env = (false, eval e X.env) :: starEach es X.env := by rfl) (hpl : (backTo pos (starEach es X.env)).any (·.1) = false := by rfl) : PE X (.Call (.Name x p) (e :: es) [] pos) (tCB r t) := by
  intro pins s σ H Q I h
  refine wpAny_Call_Name_kw (ld_blt I hg hm hv ?_ hn hdb)
  exact PyProof.Rows.callWith_builtin1 (thn (ha pos pins s σ H _ I h) fun us s1 hh83 => Zz.b5 hh83 fun vs H1 I1 r1 q1 => hc pins s1 σ H1 vs us Q I1 r1 q1) he hpl
theorem pe_callTy (hc : CallR X (.type T) r) (hg : Gl X x) (hm : X.mg x = none) (hv : bootBuiltins x = some (.type T)) (ha : PA X (e :: es) t) (hn : x ≠ "__name__" := by decide) (hdb : (x == ("__debug__" : Str)) = false := by decide)
    (he : starEach (e :: es) X.env = (false, eval e X.env) :: starEach es X.env := by rfl) (hpl : (backTo pos (starEach es X.env)).any (·.1) = false := by rfl) : PE X (.Call (.Name x p) (e :: es) [] pos) (tCB r t) := by
  intro pins s σ H Q I h
  refine wpAny_Call_Name_kw (ld_blt I hg hm hv ?_ hn hdb)
  exact PyProof.Rows.callWith_type1 (thn (ha pos pins s σ H _ I h) fun us s1 hh84 => Zz.b5 hh84 fun vs H1 I1 r1 q1 => hc pins s1 σ H1 vs us Q I1 r1 q1) he hpl
end
end L2
namespace HT
open PySem PyProof.Rows
section
open PySem.SeqAt
open PySem.AutoSeq1 (wpAny_loadPart')
open PySem.MeetsSeq PySem.MeetsSeq2 PySem.MeetsSeq3
end
section
variable {prog : Program} {w : World} {A : Around} {E : Value → Shared → Prop} {s : Shared}
noncomputable def sIx (n d : Nat) : Option Int → Nat
  | none => d
  | some v => if v < 0 then (v + (n : Int)).toNat else min v.toNat n
theorem sIx_none (n d : Nat) : sIx n d none = d := rfl
theorem sIx_nat (n d k : Nat) : sIx n d (some (k : Int)) = min k n := by
  show (if (k : Int) < 0 then ((k : Int) + (n : Int)).toNat else min (k : Int).toNat n) = min k n
  rw [if_neg (by omega), Int.toNat_natCast]
end
end HT
namespace L2
open PySem PySem.Spec PyProof.Rows
noncomputable abbrev TO := St → Hp → (Option Int → Hp → Prop) → Prop
noncomputable def PO (X : Cx) (e : Option Expr) (t : TO) : Prop :=
  ∀ (pins : List (Addr × Obj)) (s : Shared) (σ : St) (H : Hp) (Q : Option Int → Hp → Prop), Inv X pins σ H s → t σ H Q →
    wpAny (model X.prog X.w) X.A (evalPart e X.env) (fun u s' => ∃ o H', Inv X pins σ H' s' ∧ IsPart u o ∧ Q o H') X.xe s
noncomputable def tNoPart : TO := fun _ H Q => Q none H
noncomputable def tPart (t : TE) : TO := fun σ H Q => t σ H fun x H1 => ∃ i, x = .int i ∧ Q (some i) H1
section
variable {X : Cx} {e : Expr} {te : TE} {lo hi : Option Expr} {tl th : TO} {pos p2 : Pos}
theorem po_none : PO X none tNoPart := by
  intro pins s σ H Q I h
  rw [evalPart_none]
  exact wpAny_pure ⟨none, H, I, .none, h⟩
theorem po_some (h : PE X e te) : PO X (some e) (tPart te) := by
  intro pins s σ H Q I hw
  rw [evalPart_some]
  refine thn (h pins s σ H _ I hw) fun u s1 hh85 => Zz.b5 hh85 fun x H1 I1 r1 q1 => ?_
  obtain ⟨i, rfl, q⟩ := q1
  obtain ⟨t, rfl⟩ := r1
  exact ⟨some i, H1, I1, .int i t, q⟩
noncomputable def SlR (X : Cx) (r : V → Option Int → Option Int → Hp → VK → Prop) : Prop :=
  ∀ (pins : List (Addr × Obj)) (s : Shared) (σ : St) (H : Hp) (x : V) (v vl vu : Value) (lo hi : Option Int) (sl : Addr) (Q : VK), Inv X pins σ H s → RelV x v → s.heap.IsSliceOf sl vl vu .none → IsPart vl lo → IsPart vu hi → r x lo hi H Q →
    ∃ T id, typeLookup (.type T) "__getitem__" = pure (some (.builtin id)) ∧ s.TypeIs v T ∧ wpAny (model X.prog X.w) X.A (getItem v (.ref sl)) (EP X pins σ Q) X.xe s
noncomputable def tSl (r : V → Option Int → Option Int → Hp → VK → Prop) (te : TE) (tl th : TO) : TE := fun σ H Q => te σ H fun x H1 => tl σ H1 fun l H2 => th σ H2 fun u H3 => r x l u H3 Q
theorem pe_slice {r : V → Option Int → Option Int → Hp → VK → Prop} (hr : SlR X r) (he : PE X e te) (hl : PO X lo tl) (hu : PO X hi th) : PE X (.Subscript e (.Slice lo hi none p2) pos) (tSl r te tl th) := by
  intro pins s σ H Q I h
  refine Subscript_ (thn (he pins s σ H _ I h) fun v s1 hh86 => Zz.b5 hh86 fun x H1 I1 r1 q1 => ?_)
  refine wpAny_Slice (thn (hl pins s1 σ H1 _ I1 q1) fun vl s2 ⟨l, H2, I2, pl, q2⟩ => thn (hu pins s2 σ H2 _ I2 q2) fun vu s3 ⟨u, H3, I3, pu, q3⟩ => ?_)
  rw [evalPart_none]
  refine wpAny_pure ?_
  have I4 : Inv X pins σ H3 { s3 with heap := s3.heap.push { cls := .type "slice", data := .fields #[vl, vu, .none] } } := I3.kept (t' := s3.toks) fun b ob q => Heap.get?_push_of_some _ q
  obtain ⟨T, id, hT, ht, hg⟩ := hr pins { s3 with heap := s3.heap.push { cls := .type "slice", data := .fields #[vl, vu, .none] } } σ H3 x v vl vu l u s3.heap.objs.size Q I4 r1 (Heap.IsSliceOf.new ..) pl pu q3
  show wpAny (model X.prog X.w) X.A (subscriptTail e (.Slice lo hi none p2) v (.ref s3.heap.objs.size)) (EP X pins σ Q) X.xe { s3 with heap := s3.heap.push { cls := .type "slice", data := .fields #[vl, vu, .none] } }
  exact tail_any (ops := [.ref s3.heap.objs.size, v]) ht hT hg (by with_unfolding_all rfl)
noncomputable def cutV (xs : List V) (lo hi : Option Int) : List V := (xs.drop (HT.sIx xs.length 0 lo)).take (HT.sIx xs.length xs.length hi - HT.sIx xs.length 0 lo)
theorem cutV_length (xs : List V) (lo hi : Option Int) : (cutV xs lo hi).length ≤ xs.length := by
  unfold cutV
  rw [List.length_take, List.length_drop]
  omega
end
end L2
namespace L2
open PySem PySem.Spec PyProof.Rows
noncomputable def ixN (n : Nat) (i : Int) : Option Nat := if 0 ≤ i then (if i < n then some i.toNat else none) else if -(n : Int) ≤ i then some (i + n).toNat else none
noncomputable def atI {α : Type} (xs : List α) (i : Int) : Option α := (ixN xs.length i).bind fun j => xs[j]?
theorem ixN_seq {n : Nat} {i : Int} {j : Nat} (h : ixN n i = some j) : seqIndex? i n = some j ∧ j < n ∧ -(n : Int) ≤ i ∧ i < n := by
  unfold ixN at h
  by_cases h0 : 0 ≤ i
  · rw [if_pos h0] at h
    by_cases h1 : i < n
    · rw [if_pos h1] at h
      have e : i.toNat = j := Option.some.inj h
      exact ⟨by rw [seqIndex_of h0 h1, e], by omega, by omega, h1⟩
    · rw [if_neg h1] at h; cases h
  · rw [if_neg h0] at h
    by_cases h1 : -(n : Int) ≤ i
    · rw [if_pos h1] at h
      have e : (i + n).toNat = j := Option.some.inj h
      exact ⟨by rw [seqIndex_neg (by omega) h1, e], by omega, h1, by omega⟩
    · rw [if_neg h1] at h; cases h
theorem atI_get {α : Type} {xs : List α} {i : Int} {v : α} (h : atI xs i = some v) : ∃ j, seqIndex? i xs.length = some j ∧ xs[j]? = some v ∧ j < xs.length ∧ -(xs.length : Int) ≤ i ∧ i < xs.length := by
  unfold atI at h
  cases e : ixN xs.length i with
  | none => rw [e] at h; cases h
  | some j =>
    rw [e] at h
    obtain ⟨h1, h2, h3, h4⟩ := ixN_seq e
    exact ⟨j, h1, h, h2, h3, h4⟩
theorem atI_nat {α : Type} {xs : List α} {j : Nat} {v : α} (h : xs[j]? = some v) : atI xs (j : Int) = some v := by
  have hj : j < xs.length := (List.getElem?_eq_some_iff.mp h).1
  have e : ixN xs.length (j : Int) = some j := by
    unfold ixN
    rw [if_pos (by omega), if_pos (by omega)]; simp
  unfold atI; rw [e]; exact h
theorem atI_last {α : Type} (xs : List α) (v : α) : atI (xs ++ [v]) (-1) = some v := by
  have hl : (xs ++ [v]).length = xs.length + 1 := by simp
  have e : ixN (xs ++ [v]).length (-1) = some xs.length := by
    unfold ixN
    rw [hl, if_neg (by decide), if_pos (by omega)]
    congr 1
    omega
  unfold atI
  rw [e]
  show (xs ++ [v])[xs.length]? = some v
  simp
noncomputable def PlainIx (b : Expr) : Prop := ∀ o i, subscripted b false o i = operate [o, i] (getItem o i)
noncomputable def IxR (X : Cx) (r : R2) : Prop :=
  ∀ (value slice : Expr) (pins : List (Addr × Obj)) (s : Shared) (σ : St) (H : Hp) (x y : V) (v u : Value) (Q : VK), Inv X pins σ H s → RelV x v → RelV y u → r x y H Q →
    subscripted slice false v u = operate [v, u] (getItem v u) → wpAny (model X.prog X.w) X.A (subscriptTail value slice v u) (EP X pins σ Q) X.xe s
noncomputable def MtR (X : Cx) (id : String) (r : V → List V → Hp → VK → Prop) : Prop :=
  ∀ (pins : List (Addr × Obj)) (s : Shared) (σ : St) (H : Hp) (x : V) (xs : List V) (v : Value) (us : List Value) (Q : VK), Inv X pins σ H s → RelV x v → Vals xs us → r x xs H Q →
    wpAny (model X.prog X.w) X.A (call (.builtin id) (v :: us)) (EP X pins σ Q) X.xe s
section
variable {X : Cx} {a b : Expr} {ta tb : TE} {pos : Pos}
theorem pe_ix {r : R2} (hr : IxR X r) (ha : PE X a ta) (hb : PE X b tb) (hs : PlainIx b) : PE X (.Subscript a b pos) (tOp r ta tb) := by
  intro pins s σ H Q I h
  exact Subscript_ (binT ha hb I h fun v u s2 x y H2 I2 rx ry q => hr a b pins s2 σ H2 x y v u Q I2 rx ry q (hs _ _))
noncomputable def rIxL (K : PySem.W.Frag) : R2 := fun x y H Q => ∃ p xs i v, x = .ref p ∧ y = .int i ∧ SqL K H p xs ∧ atI xs i = some v ∧ Q v H
noncomputable def rIxT (K : PySem.W.Frag) : R2 := fun x y H Q => ∃ p xs i v, x = .ref p ∧ y = .int i ∧ SqT K H p xs ∧ atI xs i = some v ∧ Q v H
theorem ix_list : IxR X (rIxL X.K) := by
  intro value slice pins s σ H x y v u Q I rx ry h hs
  obtain ⟨p, xs, i, z, rfl, rfl, hq, he, q⟩ := h
  cases rx
  obtain ⟨t, rfl⟩ := ry
  obtain ⟨its, r, pl, hz⟩ := I.list hq
  obtain ⟨j, h1, h2, h3, h4, h5⟩ := atI_get he
  obtain ⟨w, ew, rw'⟩ := r.get h2
  have hl := r.length
  have hn := line63
  have fin : EP X pins σ Q w s := ⟨z, H, I, rw', q⟩
  by_cases h0 : 0 ≤ i
  · have hj : i.toNat = j := by
      rw [seqIndex_of h0 h5] at h1
      exact Option.some.inj h1
    exact item_listR pl.isList h0 (by omega) (by rw [hj]; simpa using ew) fin hs
  · have hj : (i + (its.toArray.size : Int)).toNat = j := by
      rw [seqIndex_neg (by omega) h4] at h1
      rw [List.size_toArray, ← hl]
      exact Option.some.inj h1
    exact subscriptTail_builtinR (x := w) pl.isList.typeIs slot_list_getitem.lookup
      (wpAny_getItem_list_neg (Q := fun r s' => r = w ∧ EP X pins σ Q r s') pl.isList (by omega) (by rw [List.size_toArray] <;> omega) (by omega) (by rw [hj]; simpa using ew) ⟨rfl, fin⟩) hs
theorem ix_tup : IxR X (rIxT X.K) := by
  intro value slice pins s σ H x y v u Q I rx ry h hs
  obtain ⟨p, xs, i, z, rfl, rfl, hq, he, q⟩ := h
  cases rx
  obtain ⟨t, rfl⟩ := ry
  obtain ⟨its, r, pl, hz⟩ := I.tuple hq
  obtain ⟨j, h1, h2, h3, h4, h5⟩ := atI_get he
  obtain ⟨w, ew, rw'⟩ := r.get h2
  have hl := r.length
  have hn := line63
  have fin : EP X pins σ Q w s := ⟨z, H, I, rw', q⟩
  exact subscriptTail_builtinR (x := w) pl.typeIs slot_tuple_getitem.lookup
    (getItem_tuple (j := j) (Q := fun r s' => r = w ∧ EP X pins σ Q r s') pl (by omega) (by omega) (by rw [List.size_toArray, ← hl]; exact h1) (by simpa using ew) ⟨rfl, fin⟩) hs
theorem mapSeq_set (its : List Value) (n j : Nat) (u : Value) : Obj.mapSeq (·.setIfInBounds j u) { cls := .type "list", data := .seq its.toArray n } = { cls := .type "list", data := .seq (its.set j u).toArray n } := by
  simp [Obj.mapSeq]
theorem Inv.lst {pins : List (Addr × Obj)} {σ : St} {H : Hp} {s : Shared} {p : Addr} {xs : List V} (I : Inv X pins σ H s) (h : H p = some (.lst xs)) :
    ∃ (its : List Value) (n : Nat), Vals xs its ∧ s.heap.get? p = some { cls := .type "list", data := .seq its.toArray n } ∧ xs.length ≤ sizeLine := by
  obtain ⟨z, its, n, r, e⟩ := I.hok p _ h
  exact ⟨its, n, r, e, z⟩
theorem Inv.lstUpd {pins : List (Addr × Obj)} {σ : St} {H : Hp} {s : Shared} {p : Addr} {xs ys : List V} {its its' : List Value} {n n' : Nat} {f : Obj → Obj} (I : Inv X pins σ H s) (h : H p = some (.lst xs))
    (ho : s.heap.get? p = some { cls := .type "list", data := .seq its.toArray n }) (hf : f { cls := .type "list", data := .seq its.toArray n } = { cls := .type "list", data := .seq its'.toArray n' }) (r : Vals ys its') (hz : ys.length ≤ sizeLine) (t : Nat) :
    Inv X pins σ (upd H p (.lst ys)) { s with heap := s.heap.update p f, toks := t } := by
  have e : (s.heap.update p f).get? p = some { cls := .type "list", data := .seq its'.toArray n' } := by
    rw [Heap.get?_update_self f ho (by rw [hf] <;> rfl), hf]
  refine I.write (x := p) (e := p) (by rw [h]; trivial) (.inl rfl) (fun b u hb q => (Heap.get?_update_other _ _ (Ne.symm hb)).trans q) ⟨_, e⟩ ?_
  exact ⟨hz, its', n', r, e⟩
noncomputable def rSetL : V → V → V → Hp → (Hp → Prop) → Prop := fun o i v H Q => ∃ p xs k j, o = .ref p ∧ i = .int k ∧ H p = some (.lst xs) ∧ ixN xs.length k = some j ∧ Q (upd H p (.lst (xs.set j v)))
theorem set_list : PSet X rSetL := by
  intro pins s σ H o i v ov iv u Q I ro ri rv h
  obtain ⟨p, xs, k, j, rfl, rfl, hp, hj, q⟩ := h
  cases ro
  obtain ⟨t, rfl⟩ := ri
  obtain ⟨its, n, r, ho, hz⟩ := I.lst hp
  obtain ⟨h1, h2, h3, h4⟩ := ixN_seq hj
  have hl := r.length
  have hn := line63
  have I' : Inv X pins σ (upd H p (.lst (xs.set j v))) { s with heap := s.heap.update p (Obj.mapSeq (·.setIfInBounds j u)) } :=
    I.lstUpd hp ho (mapSeq_set its n j u) (r.set rv j) (by rw [List.length_set]; exact hz) s.toks
  by_cases h0 : 0 ≤ k
  · have hk : k.toNat = j := by
      rw [seqIndex_of h0 h4] at h1
      exact Option.some.inj h1
    exact PySem.W.ki_setAt ho h0 (by omega) (by rw [List.size_toArray, ← hl]; exact h4) (by rw [hk]; exact ⟨_, I', q⟩)
  · have hk : (k + (its.toArray.size : Int)).toNat = j := by
      rw [seqIndex_neg (by omega) h3] at h1
      rw [List.size_toArray, ← hl]
      exact Option.some.inj h1
    exact PySem.W.ki_setBack ho (by omega) (by rw [List.size_toArray, ← hl]; exact h3) (by omega) (by rw [hk]; exact ⟨_, I', q⟩)
theorem slice_bounds (lo hi : Option Int) (n : Nat) : (sliceBounds lo hi none n).1 = ((HT.sIx n 0 lo : Nat) : Int) ∧ (sliceBounds lo hi none n).2.1 = ((HT.sIx n n hi : Nat) : Int) ∧ (sliceBounds lo hi none n).2.2 = 1 := by
  refine ⟨?_, ?_, rfl⟩
  · cases lo with
    | none => simp [sliceBounds, HT.sIx]
    | some i =>
      simp only [sliceBounds, HT.sIx, Option.getD_none, show (1 : Int) > 0 by decide, if_true]
      by_cases h : i < 0
      · simp only [h, if_true] <;> omega
      · simp only [h, if_false] <;> omega
  · cases hi with
    | none => simp [sliceBounds, HT.sIx]
    | some i =>
      simp only [sliceBounds, HT.sIx, Option.getD_none, show (1 : Int) > 0 by decide, if_true]
      by_cases h : i < 0
      · simp only [h, if_true] <;> omega
      · simp only [h, if_false] <;> omega
theorem slicePick_cut (its : List Value) (lo hi : Option Int) : slicePick its.toArray lo hi none = ((its.drop (HT.sIx its.length 0 lo)).take (HT.sIx its.length its.length hi - HT.sIx its.length 0 lo)).toArray := by
  obtain ⟨h1, h2, h3⟩ := slice_bounds lo hi its.toArray.size
  unfold slicePick
  rw [h1, h2, h3]
  simp only [sliceRange_one, pick_run, List.size_toArray] <;> rfl
noncomputable def rSlL (K : PySem.W.Frag) : V → Option Int → Option Int → Hp → VK → Prop := fun x lo hi H Q => ∃ a xs, x = .ref a ∧ SqL K H a xs ∧ ∀ p, H p = none → Q (.ref p) (upd H p (.lst (cutV xs lo hi)))
theorem sl_list : SlR X (rSlL X.K) := by
  intro pins s σ H x v vl vu lo hi sl Q I rx hs pl pu h
  obtain ⟨a, xs, rfl, hx, q⟩ := h
  cases rx
  obtain ⟨its, r, ht, hz⟩ := I.list hx
  have hlen := r.length
  refine ⟨"list", _, slot_list_getitem.lookup, ht.isList.typeIs, ?_⟩
  refine wpAny_getItem_list_slice ht.isList hs pl pu .none (by simp) ?_ (by rw [List.size_toArray] <;> omega)
  rw [slicePick_cut, ← hlen]
  refine ⟨.ref s.heap.objs.size, _, I.laid (t' := s.toks) (o := .lst (cutV xs lo hi)) (fun b ob q => Heap.get?_push_of_some _ q) (Nat.le_refl _) ?_, rfl, q _ (I.hok.fresh (Nat.le_refl _))⟩
  exact ⟨Nat.le_trans (cutV_length xs lo hi) hz, _, 0, (r.drop (HT.sIx xs.length 0 lo)).take (HT.sIx xs.length xs.length hi - HT.sIx xs.length 0 lo), Heap.get?_push_size _ rfl⟩
noncomputable def flatV : V → Bool
  | .non => true
  | .bl _ => true
  | .int _ => true
  | .str _ => true
  | _ => false
noncomputable def eqV : V → V → Bool
  | .non, .non => true
  | .bl a, .bl b => a == b
  | .bl a, .int b => (if a then 1 else 0) == b
  | .int a, .bl b => a == (if b then 1 else 0)
  | .int a, .int b => a == b
  | .str a, .str b => a == b
  | _, _ => false
theorem eqAt_V {A : Around} {s : Shared} {y x : V} {u v : Value} (ry : RelV y u) (rx : RelV x v) (fy : flatV y = true) (fx : flatV x = true) : SeqAt.EqAt A s u v (eqV y x) := by
  cases y with
  | non =>
    cases ry
    cases x with
    | non => cases rx; exact SeqAt.EqAt.same _
    | bl b => cases rx; exact SeqAt.EqAt.none_bool b
    | int b => obtain ⟨t, rfl⟩ := rx; exact SeqAt.EqAt.none_int b t
    | str b => obtain ⟨t, rfl⟩ := rx; exact SeqAt.EqAt.none_str b t
    | _ => exact absurd (show false = true from fx) Bool.false_ne_true
  | bl a =>
    cases ry
    cases x with
    | non => cases rx; exact SeqAt.EqAt.bool_none a
    | bl b => cases rx; exact SeqAt.EqAt.bool_bool a b
    | int b => obtain ⟨t, rfl⟩ := rx; exact SeqAt.EqAt.bool_int a b t
    | str b => obtain ⟨t, rfl⟩ := rx; exact SeqAt.EqAt.bool_str a b t
    | _ => exact absurd (show false = true from fx) Bool.false_ne_true
  | int a =>
    obtain ⟨t', rfl⟩ := ry
    cases x with
    | non => cases rx; exact SeqAt.EqAt.int_none a t'
    | bl b => cases rx; exact SeqAt.EqAt.int_bool a t' b
    | int b => obtain ⟨t, rfl⟩ := rx; exact SeqAt.EqAt.int_int a t' b t
    | str b => obtain ⟨t, rfl⟩ := rx; exact SeqAt.EqAt.int_str a t' b t
    | _ => exact absurd (show false = true from fx) Bool.false_ne_true
  | str a =>
    obtain ⟨t', rfl⟩ := ry
    cases x with
    | non => cases rx; exact SeqAt.EqAt.str_none a t'
    | bl b => cases rx; exact SeqAt.EqAt.str_bool a t' b
    | int b => obtain ⟨t, rfl⟩ := rx; exact SeqAt.EqAt.str_int a t' b t
    | str b => obtain ⟨t, rfl⟩ := rx; exact SeqAt.EqAt.str_str a t' b t
    | _ => exact absurd (show false = true from fx) Bool.false_ne_true
  | _ => exact absurd (show false = true from fy) Bool.false_ne_true
noncomputable def eqU (x : V) (u : Value) : Bool := match u with
  | .none => eqV .non x
  | .bool b => eqV (.bl b) x
  | .int i _ => eqV (.int i) x
  | .str z _ => eqV (.str z) x
  | _ => false
theorem eqU_of {x y : V} {u : Value} (r : RelV y u) (f : flatV y = true) : eqU x u = eqV y x := by
  cases y with
  | non => cases r; rfl
  | bl b => cases r; rfl
  | int i => obtain ⟨t, rfl⟩ := r; rfl
  | str z => obtain ⟨t, rfl⟩ := r; rfl
  | _ => exact absurd (show false = true from f) Bool.false_ne_true
theorem mem_eqAt {A : Around} {s : Shared} {x : V} {v : Value} (rx : RelV x v) (fx : flatV x = true) : ∀ {xs : List V} {us : List Value}, Vals xs us → xs.all flatV = true → ∀ u ∈ us, SeqAt.EqAt A s u v (eqU x u)
  | _, _, .nil, _ => fun u hu => by cases hu
  | y :: xs, u :: us, .cons r t, f => fun u' hu => by
    rw [List.all_cons, Bool.and_eq_true] at f
    rcases List.mem_cons.mp hu with rfl | hu
    · rw [eqU_of r f.1]; exact eqAt_V r rx f.1 fx
    · exact mem_eqAt rx fx t f.2 u' hu
theorem call_len_seq : CallR X (.builtin "len") (fun xs H Q => ∃ p ys, xs = [.ref p] ∧ (SqL X.K H p ys ∨ SqT X.K H p ys) ∧ Q (.int ys.length) H) := by
  intro pins s σ H xs us Q I r h
  obtain ⟨p, ys, rfl, hq, q⟩ := h
  obtain ⟨u, rfl, rx⟩ := vals1 r
  cases rx
  have hn := line63
  rcases hq with hq | hq
  · obtain ⟨its, r', pl, hz⟩ := I.list hq
    have hlen := r'.length
    exact Calls.call_len_list pl.isList (by simp only [List.size_toArray] <;> omega) ⟨.int ys.length, H, I.tok _, ⟨s.toks + 1, by rw [List.size_toArray, hlen]⟩, q⟩
  · obtain ⟨its, r', pl, hz⟩ := I.tuple hq
    have hlen := r'.length
    exact len_tuple pl (by simp only [List.size_toArray] <;> omega) ⟨.int ys.length, H, I.tok _, ⟨s.toks + 1, by rw [List.size_toArray, hlen]⟩, q⟩
theorem call_list_of : CallR X (.type "list") (fun xs H Q => ∃ p ys, xs = [.ref p] ∧ (SqL X.K H p ys ∨ SqT X.K H p ys) ∧ ∀ l, H l = none → Q (.ref l) (upd H l (.lst ys))) := by
  intro pins s σ H xs us Q I r h
  obtain ⟨p, ys, rfl, hq, q⟩ := h
  obtain ⟨u, rfl, rx⟩ := vals1 r
  cases rx
  have fin : ∀ (its : List Value), Vals ys its → ys.length ≤ sizeLine → ∀ (h' : Heap) (c' : Nat), (∀ b o', s.heap.get? b = some o' → h'.get? b = some o') →
      h'.get? s.heap.objs.size = some { cls := .type "list", dict := none, data := .seq its.toArray c', slots := #[] } → EP X pins σ Q (.ref s.heap.objs.size) { s with heap := h' } := fun its r' hz h' c' kp e =>
    ⟨.ref s.heap.objs.size, _, I.laid (t' := s.toks) kp (Nat.le_refl _) (show ObjOk X.prog X.w _ h' _ (.lst ys) from ⟨hz, its, c', r', e⟩), rfl, q _ (I.hok.fresh (Nat.le_refl _))⟩
  rcases hq with hq | hq
  · obtain ⟨its, r', pl, hz⟩ := I.list hq
    have hlen := r'.length
    obtain ⟨o, ho, hc, n, hd⟩ := pl.isList
    exact call_list_seq p (.inl rfl) ho hc hd (fun h' c' kp e => fin its r' hz h' c' kp e) (by simp only [List.size_toArray] <;> omega)
  · obtain ⟨its, r', pl, hz⟩ := I.tuple hq
    have hlen := r'.length
    obtain ⟨o, ho, hc, n, hd⟩ := pl
    exact call_list_seq p (.inr rfl) ho hc hd (fun h' c' kp e => fin its r' hz h' c' kp e) (by simp only [List.size_toArray] <;> omega)
noncomputable def tyV (K : PySem.W.Frag) (T : String) (x : V) (H : Hp) : Prop := match x with
  | .str _ => T = "str"
  | .int _ => T = "int"
  | .ref p => (T = "list" ∧ ∃ xs, SqL K H p xs) ∨ (T = "tuple" ∧ ∃ o, K.lookup p = some o ∧ o.cls = .type "tuple" ∧ o.dict = none) ∨
      (T = "dict" ∧ ((∃ kvs, H p = some (.dK kvs)) ∨ ∃ kvs, H p = some (.dT kvs))) ∨ (T = "set" ∧ ∃ S n, H p = some (.set S n))
  | _ => False
theorem tyV_is {pins : List (Addr × Obj)} {σ : St} {H : Hp} {s : Shared} {T : String} {x : V} {v : Value} (I : Inv X pins σ H s) (r : RelV x v) (ty : tyV X.K T x H) :
    s.TypeIs v T ∧ ∀ a, v = .ref a → ∃ ob, s.heap.get? a = some ob ∧ ob.dict = none := by
  cases x with
  | str z =>
    obtain ⟨t, rfl⟩ := r
    cases (show T = "str" from ty)
    exact ⟨typeIs_str s z t, fun _ e => nomatch e⟩
  | int i =>
    obtain ⟨t, rfl⟩ := r
    cases (show T = "int" from ty)
    exact ⟨typeIs_int s i t, fun _ e => nomatch e⟩
  | ref p =>
    cases r
    rcases ty with ⟨rfl, xs, hq⟩ | ⟨rfl, o, hk, hc, hd⟩ | ⟨rfl, hk⟩ | ⟨rfl, S, n, hk⟩
    · obtain ⟨its, _, pl, _⟩ := I.list hq
      refine ⟨pl.isList.typeIs, fun a e => ?_⟩
      cases e
      obtain ⟨o, n, e, c, hd, _⟩ := pl
      exact ⟨o, e, hd⟩
    · refine ⟨⟨o, I.kIn p o hk, hc⟩, fun a e => ?_⟩
      cases e
      exact ⟨o, I.kIn _ o hk, hd⟩
    · have z : ∃ o, s.heap.get? p = some o ∧ o.ExactDict := by
        rcases hk with ⟨kvs, hk⟩ | ⟨kvs, hk⟩
        · obtain ⟨_, _, _, _, o, _, _, e, ex, _⟩ := I.hok p _ hk
          exact ⟨o, e, ex⟩
        · obtain ⟨_, _, _, _, o, _, _, e, ex, _⟩ := I.hok p _ hk
          exact ⟨o, e, ex⟩
      obtain ⟨o, e, ex⟩ := z
      refine ⟨⟨o, e, ex.1⟩, fun a e2 => ?_⟩
      cases e2
      exact ⟨o, e, ex.2.1⟩
    · obtain ⟨o, _, _, _, e, ex, _⟩ := I.hok p _ hk
      refine ⟨⟨o, e, ex.1⟩, fun a e2 => ?_⟩
      cases e2
      exact ⟨o, e, ex.2.1⟩
  | _ => exact False.elim ty
noncomputable def tBM0 (K : PySem.W.Frag) (T : String) (r : V → List V → Hp → VK → Prop) (to : TE) : TE := fun σ H Q => to σ H fun x H1 => tyV K T x H1 ∧ r x [] H1 Q
noncomputable def tBM (K : PySem.W.Frag) (T : String) (r : V → List V → Hp → VK → Prop) (to : TE) (t : TA) : TE := fun σ H Q => to σ H fun x H1 => tyV K T x H1 ∧ t σ H1 fun xs H2 => r x xs H2 Q
variable {o e : Expr} {es : List Expr} {to : TE} {t : TA} {name : Str} {apos cpos : Pos} {T id : String} {r : V → List V → Hp → VK → Prop}
theorem pe_bm0 (pa : PlainAttrs T) (slot : Slot T name id) (hty : typeOf (.builtin id) = pure (.type "method_descriptor")) (hm : MtR X id r) (ho : PE X o to)
    (hbase : attributeBase o name X.env (eval o X.env) = eval o X.env := by rfl) (hline : (apos.endLine == cpos.line) = true := by rfl) : PE X (.Call (.Attribute o name apos) [] [] cpos) (tBM0 X.K T r to) := by
  intro pins s σ H Q I h
  refine wpAny_Call_method0_late hbase hline (thn (ho pins s σ H _ I h) fun v s1 ⟨x, H1, I1, r1, ty, q1⟩ => ?_)
  obtain ⟨h1, h2⟩ := tyV_is I1 r1 ty
  exact ⟨T, id, pa, slot, hty, h1, h2, Calls.callWith_builtin rfl (PySem.evalArgs_none (hm pins s1 σ H1 x [] v [] Q I1 r1 .nil q1))⟩
theorem pe_bm (pa : PlainAttrs T) (slot : Slot T name id) (hty : typeOf (.builtin id) = pure (.type "method_descriptor")) (hm : MtR X id r) (ho : PE X o to) (ha : PA X (e :: es) t)
    (hbase : attributeBase o name X.env (eval o X.env) = eval o X.env := by rfl)
    (hfew : ((backTo cpos (starEach (e :: es) X.env)).all (fun x => !x.1) && (backToKw cpos (keywordEach [] X.env)).all (fun x => x.1.isSome)
      && decide ((e :: es).length + ([] : List Keyword).length + (if ([] : List Keyword).isEmpty then 0 else 1) < 30)) = true := by rfl)
    (hline : (apos.endLine == cpos.line) = true := by rfl) (hs : starEach (e :: es) X.env = (false, eval e X.env) :: starEach es X.env := by rfl) (hplain : (backTo cpos (starEach es X.env)).any (·.1) = false := by rfl) :
    PE X (.Call (.Attribute o name apos) (e :: es) [] cpos) (tBM X.K T r to t) := by
  intro pins s σ H Q I h
  refine wpAny_Call_method_late hbase hfew hline rfl (thn (ho pins s σ H _ I h) fun v s1 ⟨x, H1, I1, r1, ty, q1⟩ => ?_)
  obtain ⟨h1, h2⟩ := tyV_is I1 r1 ty
  refine ⟨T, id, pa, slot, hty, h1, h2, ?_⟩
  have hA := ha cpos pins s1 σ H1 _ I1 q1
  rw [hs] at hA ⊢
  refine Calls.callWith_builtin (by show (false || (backTo cpos (starEach es X.env)).any (·.1)) = false; rw [hplain] <;> rfl) (Calls.evalArgs_plain ?_)
  exact thn hA fun us s2 hh87 => Zz.b5 hh87 fun vs H2 I2 r2 q2 => hm pins s2 σ H2 x vs v us Q I2 r1 r2 q2
end
end L2
namespace L2
open PySem PySem.Spec PyProof.Rows
noncomputable def MtM (X : Cx) (id : String) (r : V → List V → Hp → VK → Prop) : Prop :=
  ∀ (pins : List (Addr × Obj)) (s : Shared) (σ : St) (H : Hp) (x : V) (xs : List V) (v : Value) (us : List Value) (Q : VK), Inv X pins σ H s → RelV x v → Vals xs us → r x xs H Q →
    wpAny (model X.prog X.w) X.A (call (.builtin id) (v :: us)) (EP X pins σ Q) X.xe s
theorem Vals.one : ∀ {x : V} {us : List Value}, Vals [x] us → ∃ u, us = [u] ∧ RelV x u
  | _, _, .cons r .nil => ⟨_, rfl, r⟩
theorem Vals.two : ∀ {x y : V} {us : List Value}, Vals [x, y] us → ∃ u v, us = [u, v] ∧ RelV x u ∧ RelV y v
  | _, _, _, .cons r (.cons q .nil) => ⟨_, _, rfl, r, q⟩
theorem Vals.zero : ∀ {us : List Value}, Vals [] us → us = []
  | _, .nil => rfl
theorem Vals.dropLast {xs : List V} {us : List Value} (h : Vals xs us) : Vals xs.dropLast us.dropLast := by
  induction h with
  | nil => exact .nil
  | cons r t ih =>
    cases t with
    | nil => exact .nil
    | cons q t' => exact .cons r ih
theorem Vals.rep {xs : List V} {us : List Value} (h : Vals xs us) : ∀ k : Nat, Vals (List.replicate k xs).flatten (List.replicate k us).flatten
  | 0 => .nil
  | k + 1 => by
    rw [List.replicate_succ, List.replicate_succ, List.flatten_cons, List.flatten_cons]
    exact Vals.append h (Vals.rep h k)
theorem erase_last {α : Type} (l : List α) : l.eraseIdx (l.length - 1) = l.dropLast := by
  induction l with
  | nil => rfl
  | cons a r ih =>
    cases r with
    | nil => rfl
    | cons b r =>
      have e : (a :: b :: r).length - 1 = ((b :: r).length - 1) + 1 := by
        have h1 : (a :: b :: r).length = r.length + 2 := rfl
        have h2 : (b :: r).length = r.length + 1 := rfl
        omega
      rw [e, List.eraseIdx_cons_succ, ih]
      all_goals rfl
theorem foldl_rep (its : List Value) : ∀ (k : Nat) (acc : List Value),
    List.foldl (fun x1 x2 => x1 ++ x2) acc.toArray (List.replicate k its.toArray) = (acc ++ (List.replicate k its).flatten).toArray
  | 0, acc => by simp
  | k + 1, acc => by
    have e : acc.toArray ++ its.toArray = (acc ++ its).toArray := by simp
    have e2 : (acc ++ its) ++ (List.replicate k its).flatten = acc ++ (List.replicate (k + 1) its).flatten := by
      rw [List.replicate_succ, List.flatten_cons, List.append_assoc]
    rw [← e2, ← foldl_rep its k (acc ++ its), ← e, List.replicate_succ, List.foldl_cons]
section
variable {X : Cx} {pins : List (Addr × Obj)} {σ : St} {H : Hp} {s : Shared} {l b : Addr} {xs ys zs : List V}
theorem Inv.lset {its its' : List Value} {n : Nat} {f : Array Value → Array Value} {t' : Nat} (I : Inv X pins σ H s) (hH : H l = some (.lst xs))
    (e : s.heap.get? l = some { cls := .type "list", data := .seq its.toArray n }) (hf : f its.toArray = its'.toArray) (hv : Vals ys its') (hz : ys.length ≤ sizeLine) :
    Inv X pins σ (upd H l (.lst ys)) { s with heap := s.heap.update l (Obj.mapSeq f), toks := t' } := by
  have q := PySem.IsL.update e f
  rw [hf] at q
  refine I.write (x := l) (e := l) (by rw [hH]; exact trivial) (.inl rfl) (fun b' u hb hu => (Heap.get?_update_other s.heap (Obj.mapSeq f) (Ne.symm hb)).trans hu) ⟨_, q⟩ ?_
  exact ⟨hz, its', _, hv, q⟩
theorem Inv.lnew {its : List Value} {t' : Nat} (I : Inv X pins σ H s) (hv : Vals ys its) (hz : ys.length ≤ sizeLine) :
    Inv X pins σ (upd H s.heap.objs.size (.lst ys)) { s with heap := s.heap.push { cls := .type "list", data := .seq its.toArray }, toks := t' } :=
  I.laid (fun _ _ q => Heap.get?_push_of_some _ q) (Nat.le_refl _) ⟨hz, its, 0, hv, Heap.get?_push_size _ rfl⟩
theorem Inv.fresh (I : Inv X pins σ H s) : H s.heap.objs.size = none := I.hok.fresh (Nat.le_refl _)
theorem Inv.lstM (I : Inv X pins σ H s) (hH : H l = some (.lst xs)) : xs.length ≤ sizeLine ∧ ∃ (its : List Value) (n : Nat), Vals xs its ∧ xs.length = its.length ∧ s.heap.get? l = some { cls := .type "list", data := .seq its.toArray n } := by
  obtain ⟨z, its, n, r, e⟩ := I.hok l _ hH
  exact ⟨z, its, n, r, r.length, e⟩
theorem notLongL {n : Nat} (h : n ≤ sizeLine) : Builtin.List.listTooLong n = false := by
  unfold Builtin.List.listTooLong
  exact decide_eq_false (by omega)
end
section
variable {X : Cx}
noncomputable def rAppend : V → List V → Hp → VK → Prop := fun x vs H Q => ∃ l xs y, x = .ref l ∧ vs = [y] ∧ H l = some (.lst xs) ∧ xs.length < sizeLine ∧ Q .non (upd H l (.lst (xs ++ [y])))
theorem mt_append : MtM X "list.append" rAppend := by
  intro pins s σ H x vs v us Q I rx rv h
  obtain ⟨l, xs, y, rfl, rfl, hH, hz, q⟩ := h
  cases rx
  obtain ⟨u, rfl, ru⟩ := rv.one
  obtain ⟨z, its, n, r, hl, e⟩ := I.lstM hH
  refine call_meets F.slot_list_append ⟨_, e, rfl⟩ F.entry_list_append (F.args_list_append_2 _ _) (PySem.list_append l its.toArray n u (by rw [List.size_toArray]; omega)) ⟨e, ?_⟩
  refine ⟨.non, _, I.lset (its' := its ++ [u]) hH e (by simp) (r.append (.cons ru .nil)) ?_, rfl, q⟩
  rw [List.length_append, List.length_singleton]
  omega
noncomputable def rExtend : V → List V → Hp → VK → Prop := fun x vs H Q => ∃ l b xs zs, x = .ref l ∧ vs = [.ref b] ∧ H l = some (.lst xs) ∧ H b = some (.lst zs) ∧ xs.length + zs.length ≤ sizeLine ∧ Q .non (upd H l (.lst (xs ++ zs)))
theorem mt_extend : MtM X "list.extend" rExtend := by
  intro pins s σ H x vs v us Q I rx rv h
  obtain ⟨l, b, xs, zs, rfl, rfl, hH, hB, hz, q⟩ := h
  cases rx
  obtain ⟨u, rfl, ru⟩ := rv.one
  cases ru
  obtain ⟨z, its, n, r, hl, e⟩ := I.lstM hH
  obtain ⟨z2, its2, n2, r2, hl2, e2⟩ := I.lstM hB
  have hsz : its.toArray.size + its2.toArray.size ≤ sizeLine := by rw [List.size_toArray, List.size_toArray]; omega
  have hlong : ¬ (!its.toArray.isEmpty && Builtin.List.listTooLong (its.toArray.size + its2.toArray.size)) = true := by
    rw [notLongL hsz, Bool.and_false]
    exact Bool.false_ne_true
  refine call_meets F.slot_list_extend ⟨_, e, rfl⟩ F.entry_list_extend (F.args_list_extend_2 _ _)
    (AutoSeq1.list_extend_list_list_0 l its.toArray n b its2.toArray n2 hlong (by rw [List.size_toArray]; omega) (by omega)) ⟨e, e2, ?_⟩
  refine ⟨.non, _, I.lset (its' := its ++ its2) hH e (by simp) (r.append r2) ?_, rfl, q⟩
  rw [List.length_append]
  omega
noncomputable def rPop : V → List V → Hp → VK → Prop := fun x vs H Q => ∃ l xs y, x = .ref l ∧ vs = [] ∧ H l = some (.lst xs) ∧ xs[xs.length - 1]? = some y ∧ Q y (upd H l (.lst xs.dropLast))
theorem mt_pop : MtM X "list.pop" rPop := by
  intro pins s σ H x vs v us Q I rx rv h
  obtain ⟨l, xs, y, rfl, rfl, hH, hy, q⟩ := h
  cases rx
  have hus := rv.zero
  subst hus
  obtain ⟨z, its, n, r, hl, e⟩ := I.lstM hH
  obtain ⟨u, hu, ru⟩ := r.get hy
  have hy' : its.toArray[its.toArray.size - 1]? = some u := by
    show its.toArray[its.length - 1]? = some u
    rw [← Array.getElem?_toList, ← hl]
    exact hu
  refine call_meets F.slot_list_pop ⟨_, e, rfl⟩ F.entry_list_pop (F.args_list_pop_1 _) (MeetsSeq.list_pop_last l its.toArray n u hy' (by rw [List.size_toArray]; omega)) ⟨e, ?_⟩
  refine ⟨y, _, I.lset (its' := its.dropLast) hH e ?_ r.dropLast ?_, ru, q⟩
  · show its.toArray.eraseIdxIfInBounds (its.toArray.size - 1) = its.dropLast.toArray
    rw [List.size_toArray, List.eraseIdxIfInBounds_toArray, erase_last]
  · rw [List.length_dropLast]
    omega
noncomputable def rCat : R2 := fun x y H Q => ∃ l b xs zs, x = .ref l ∧ y = .ref b ∧ H l = some (.lst xs) ∧ H b = some (.lst zs) ∧ xs.length + zs.length ≤ sizeLine ∧ ∀ p, H p = none → Q (.ref p) (upd H p (.lst (xs ++ zs)))
theorem op_cat : OpR X (binaryOp .Add) rCat := by
  intro pins s σ H x y v u Q I rx ry h
  obtain ⟨l, b, xs, zs, rfl, rfl, hH, hB, hz, q⟩ := h
  cases rx
  cases ry
  obtain ⟨z, its, n, r, hl, e⟩ := I.lstM hH
  obtain ⟨z2, its2, n2, r2, hl2, e2⟩ := I.lstM hB
  refine PySem.P.add_list e e2 ?_ (by rw [List.size_toArray, List.size_toArray]; omega)
  have ea : its.toArray ++ its2.toArray = (its ++ its2).toArray := by simp
  rw [ea]
  exact ⟨.ref _, _, I.lnew (t' := s.toks) (r.append r2) (by rw [List.length_append]; omega), rfl, q _ I.fresh⟩
noncomputable def rRep : R2 := fun x y H Q => ∃ l k xs, x = .ref l ∧ y = .int k ∧ H l = some (.lst xs) ∧ -(2 ^ 63) ≤ k ∧ k < 2 ^ 63 ∧ xs.length * k.toNat ≤ sizeLine ∧
  ∀ p, H p = none → Q (.ref p) (upd H p (.lst (List.replicate k.toNat xs).flatten))
theorem len_rep {α : Type} (xs : List α) (k : Nat) : (List.replicate k xs).flatten.length = k * xs.length := by
  induction k with
  | zero => simp
  | succ k ih => rw [List.replicate_succ, List.flatten_cons, List.length_append, ih, Nat.succ_mul, Nat.add_comm]
theorem op_rep : OpR X (binaryOp .Mult) rRep := by
  intro pins s σ H x y v u Q I rx ry h
  obtain ⟨l, k, xs, rfl, rfl, hH, h1, h2, hz, q⟩ := h
  cases rx
  obtain ⟨t, rfl⟩ := ry
  obtain ⟨z, its, n, r, hl, e⟩ := I.lstM hH
  have hlen : its.toArray.size * k.toNat ≤ sizeLine := by rw [List.size_toArray, ← hl]; exact hz
  have hcap : ¬ its.toArray.size * k.toNat > (2 ^ 63 - 1) / 8 := by
    have : (sizeLine : Nat) ≤ (2 ^ 63 - 1) / 8 := by decide
    omega
  have hfit : ¬ (!Builtin.List.listFitsIndex k) = true := by
    rw [fitsIndex_both h1 h2]
    exact Bool.false_ne_true
  have hlong : ¬ Builtin.List.listTooLong (its.toArray.size * k.toNat) = true := by
    rw [notLongL hlen]
    exact Bool.false_ne_true
  have hnew : List.foldl (fun x1 x2 => x1 ++ x2) #[] (List.replicate (if its.toArray.isEmpty = true then 0 else k.toNat) its.toArray) = (List.replicate k.toNat its).flatten.toArray := by
    have f0 : ∀ m : Nat, List.foldl (fun x1 x2 => x1 ++ x2) #[] (List.replicate m its.toArray) = (List.replicate m its).flatten.toArray := fun m => by
      have := foldl_rep its m []
      rw [List.nil_append] at this
      exact this
    rw [f0]
    cases its with
    | nil => simp
    | cons a r' => rw [if_neg (by simp)]
  refine wpAny_binaryOp_repeat_ref (T := "list") (U := "int") (by decide) ⟨_, e, rfl⟩ (fun s' => typeIs_int s' k t) noFill_list_mul F.fills_int_mul F.slot_int_rmul repeat_list F.slot_int_index.lookup
    (call_meets F.slot_int_rmul (typeIs_int s k t) F.entry_int_rmul (F.args_int_rmul_2 _ _) (int___rmul___int_list k t l its.toArray n)
      ⟨e, rfl, ⟨_, e, rfl⟩, call_meets F.slot_list_mul ⟨_, e, rfl⟩ F.entry_list_mul (F.args_list_mul_2 _ _) (AutoListH.list___mul___list_int_3 l its.toArray n k t hfit hcap hlong) ⟨e, ?_⟩⟩)
  rw [hnew]
  exact ⟨.ref _, _, I.lnew (t' := s.toks) (r.rep k.toNat) (by rw [len_rep, Nat.mul_comm]; exact hz), rfl, q _ I.fresh⟩
end
section
variable {prog : Program} {w : World} {A : Around} {E : Value → Shared → Prop} {s : Shared}
set_option maxRecDepth 100000 in
end
section
variable {X : Cx}
end
end L2
namespace Att
open PySem PySem.W PySem.Calls PyProof.Rows
theorem ints_of_wellAll {P : Params} {h : Heap} : ∀ (ns : List Int) (vs : List Value), WellAll P h vs (ns.map WData.int) → IntsAre vs ns := by
  intro ns
  induction ns with
  | nil =>
    intro vs w
    rw [List.map_nil] at w
    cases w
    exact .nil
  | cons n ns ih =>
    intro vs w
    rw [List.map_cons] at w
    cases w with
    | cons a b =>
      cases a
      exact .cons _ _ (ih _ b)
theorem script_of {l : OpenLaw} {n : Nat} (hn : l.most = some n) {P : Params} {h : Heap} {args : List WData} {vals : List Value}
    (hpre : l.row.toRowW.claim.pre args = true) (hwl : WellAll P h vals args) :
    ∃ a vs ns, vals = [Value.ref a] ∧ args = [WData.list (ns.map WData.int)] ∧ h.get? a = some { cls := .type "list", data := .seq vs.toArray } ∧ IntsAre vs ns ∧ ns.length ≤ n := by
  have hsh : WShape.hasAll [] args [.list .int] = true := (pre_splitW hpre).1
  have hc : l.pre.holds [] { args := args } = true := (pre_splitW hpre).2
  obtain ⟨d, r, rfl, h1, h2⟩ := hasAllW_cons hsh
  obtain rfl := hasAllW_nil h2
  obtain ⟨xs, rfl, h3⟩ := hasW_list h1
  obtain ⟨ns, rfl⟩ := items_int h3
  have hlen : ns.length ≤ n := by
    unfold OpenLaw.pre at hc
    have h4 : (WTm.not (.lt (.lit (.int (n : Int))) (.len (.arg 0)))).holds [] { args := [.list (ns.map .int)] } = true := by
      have h4 := (holds_andW hc).1
      rw [hn] at h4
      exact h4
    have h5 := condW_of h4 (w_not (w_lt w_lit (w_len_list (w_arg rfl))))
    rw [List.length_map] at h5
    refine Nat.le_of_not_lt fun q => ?_
    have q' : (n : Int) < ((ns.length : Nat) : Int) := by omega
    first
      | (rw [decide_eq_true q'] at h5; exact absurd h5 (by decide))
      | (simp at h5; omega)
  cases hwl with
  | cons w1 w2 =>
    cases w2
    cases w1 with
    | list ho hall => exact ⟨_, _, ns, rfl, rfl, ho, ints_of_wellAll ns _ hall, hlen⟩
theorem post_true (l : OpenLaw) (args : List WData) : l.row.toRowW.claim.post args (.bool true) args = true :=
  postW_of (r := l.row.toRowW) (X := (true == true))
    (show WShape.has [] (.bool true) .bool = true by first | rfl | decide | simp [WShape.has, WShape.arms, WShape.armsAll])
    (show (WTm.eq .res (.lit (.bool true))).value [] { args := args, res := some (.bool true), after := args } = some (.bool (true == true)) from w_eq_bool (w_res rfl) w_lit) rfl
theorem attach_call {l : OpenLaw} {n : Nat} {q : Program} {loose : List Str} {XP : (Str → Option Value) → Heap → Prop} {YP : World → Heap → Prop} {d : DefRec}
    (hn : l.most = some n) (hdf : d.params.defaults = [])
    (call : ∀ (w : World) (s₀ s₁ : Shared) (mg mb : Str → Option Value) (fa : Addr) (o : Obj) (pm cd doc : Value) (a : Addr) (vs : List Value) (ns : List Int),
      Ground q loose [] XP w s₀ mg mb s₁.heap → YP w s₁.heap →
      s₁.heap.get? fa = some o → o.data = .func (docDef d.name d.params d.body d.scope pm cd doc) → s₁.heap.CodeRec cd d.name → mg d.name = some (.ref fa) →
      s₁.heap.get? a = some { cls := .type "list", data := .seq vs.toArray } → IntsAre vs ns → ns.length ≤ n → s₁.gens = #[] →
      codeAny (model l.prog w) callerA (.call (.ref fa) ⟨[.ref a], []⟩) (fun r s' => r = .ok (.ret (.bool true)) ∧ OldK s₁.heap s'.heap ∧ s'.os = s₁.os ∧ AllBare s'.gens) s₁) :
    WalkO q loose XP YP l.row.toRowW d [] (fun f vs => PySem.call f vs) := by
  intro w s₀ s₁ mg mb G Y fa o pm cd doc dV kV ho hd hcd hD hmg hg args vals as hpre hlay hrd hwl hlo
  obtain rfl : dV = .none := Dflts.none hD hdf
  obtain rfl : kV = .none := Dflts.noKw hD
  obtain ⟨a, vs, ns, rfl, rfl, hobj, hints, hlen⟩ := script_of hn hpre hwl
  refine enter_call (codeAny_mono (call w s₀ s₁ mg mb fa o pm cd doc a vs ns G Y ho (fd_plain hd) hcd hmg hobj hints hlen hg) fun r s' hq => ?_)
  obtain ⟨rfl, h2, h3, h4⟩ := hq
  exact ⟨.inl ⟨.bool true, .bool true, [], rfl, fun _ => rfl, .bool true, post_true l _, fun _ => ⟨List.Pairwise.nil, fun _ hm => (nomatch hm)⟩⟩, h2, h3, h4⟩
section
variable {prog : Program} {w : World} {A : Around} {E : Value → Shared → Prop} {s : Shared} {K : Frag}
end
end Att
namespace L2
open PySem PySem.Spec PyProof.Rows
theorem vals_ints : ∀ {vs : List Value} {ns : List Int}, IntsAre vs ns → Vals (ns.map V.int) vs
  | _, _, .nil => .nil
  | _, _, .cons n t h => .cons ⟨t, rfl⟩ (vals_ints h)
noncomputable def Only (H : Hp) : Prop := ∀ b, H b = none ∨ ∃ o xs, H b = some (.frz o (.lst xs))
theorem law_call {P : Program} {w : World} {K : PySem.W.Frag} {mg mb : Str → Option Value} {CX : CXT} {k : Nat} {fa a : Addr} {fd : FuncData} {x : Str} {sp : Sp} {s₁ : Shared} {vs : List Value} {ns : List Int}
    (KX : K.In s₁.heap) (hns : s₁.heap.Ns mainGlobals mg) (hb : s₁.heap.Ns builtinsNs mb) (hbb : ∀ x : Str, x ≠ "__name__" → mb x = bootBuiltins x) (hlim : s₁.heap.NoLimit) (hg : s₁.gens = #[])
    (ha : s₁.heap.get? a = some { cls := .type "list", data := .seq vs.toArray }) (hi : IntsAre vs ns) (hl : ns.length ≤ sizeLine) (hr : Room k callerA)
    (F : ∀ base : Heap, K.In base → base.Ns mainGlobals mg → FnOk P w K mg base CX k fa fd [x] sp) (hbind : ∀ (s : Shared) (u : Value), BindsTo s fd ⟨[u], []⟩ [(x, u)])
    (hsp : ∀ H : Hp, Only H → SqL K H a (ns.map V.int) → sp [.ref a] H (fun v _ => v = .bl true) fun _ _ _ => False)
    (hCX : ∀ H e s', CX [] H s₁ (fun _ _ _ => False) e s' → False) :
    codeAny (model P w) callerA (.call (.ref fa) ⟨[.ref a], []⟩) (fun r s' => r = .ok (.ret (.bool true)) ∧ OldK s₁.heap s'.heap ∧ s'.os = s₁.os ∧ AllBare s'.gens) s₁ := by
  have rv := vals_ints hi
  have lenV := hi.length
  have core : ∀ H : Hp, Only H → SqL K H a (ns.map V.int) → HOk P w H s₁.heap → (∀ b, H b ≠ none → b = a) → (H a ≠ none → K.lookup a = none) →
      codeAny (model P w) callerA (.call (.ref fa) ⟨[.ref a], []⟩) (fun r s' => r = .ok (.ret (.bool true)) ∧ OldK s₁.heap s'.heap ∧ s'.os = s₁.os ∧ AllBare s'.gens) s₁ := by
    intro H hO hS hok hA hK
    have base_of : ∀ {b : Addr} {o : Obj}, s₁.heap.get? b = some o → H b = none → (hidT s₁.heap H).get? b = some o := fun e n => hidT_get e n
    have noA : ∀ {b : Addr} {o : Obj} {es : Array DictEntry} {ep : Nat}, s₁.heap.get? b = some o → o.data = .dict es ep → H b = none := fun {b o es ep} e d => by
      cases q : H b with
      | none => rfl
      | some u =>
        have e' : b = a := hA b (by rw [q]; simp)
        subst e'
        rw [ha] at e; cases e
        have d' : Data.seq vs.toArray _ = Data.dict es ep := d
        cases d'
    have nsK : ∀ {b : Addr} {m : Str → Option Value}, s₁.heap.Ns b m → (hidT s₁.heap H).Ns b m := fun {b m} ⟨o, es, ep, e, d, r⟩ => ⟨o, es, ep, base_of e (noA e d), d, r⟩
    have hKb : K.In (hidT s₁.heap H) := fun b o e => base_of (KX b o e) (by
      cases q : H b with
      | none => rfl
      | some u =>
        have e' : b = a := hA b (by rw [q]; simp)
        subst e'
        rw [hK (by rw [q]; simp)] at e; cases e)
    have hM : Mod K mg (hidT s₁.heap H) := ⟨hKb, nsK hns, ⟨mb, nsK hb, hbb⟩, let ⟨mc, h1, h2⟩ := hlim; ⟨mc, nsK h1, h2⟩⟩
    have e0 : Env0 P w K mg (hidT s₁.heap H) callerA [] s₁ H := ⟨rfl, hM, fun b o e => of_hidT e, Nat.le_of_eq (hidT_size _ _), trivial, fun b hb => absurd (show b ∈ ([] : List Addr) from hb) (by simp), hok, .of_eq hg⟩
    refine codeAny_mono ((F _ hKb (nsK hns)).run callerA [] s₁ H ⟨[.ref a], []⟩ [.ref a] [.ref a] _ _ hr e0 (hbind s₁ (.ref a)) (.cons rfl .nil) (hsp H hO hS)) fun r s' h => ?_
    cases r with
    | error e => exact (hCX H e s' h).elim
    | ok fl =>
      cases fl with
      | next => exact False.elim h
      | brk => exact False.elim h
      | cont => exact False.elim h
      | ret u =>
        obtain ⟨v, H', os, bare, un, hok', r', q⟩ := h
        have q' : v = .bl true := q
        subst q'
        obtain rfl : u = Value.bool true := r'
        refine ⟨rfl, OldK.of_keep fun b o e => ?_, os, bare⟩
        cases q : H b with
        | none => exact un.keep b o e q (by intro z; exact absurd (show b ∈ ([] : List Addr) from z) (by simp)) (by simp)
        | some u =>
          rcases hO b with z | ⟨ob, xs, z⟩
          · rw [q] at z; cases z
          · have z2 := un.frzs b ob _ z
            obtain ⟨e1, _⟩ := hok b _ z
            obtain ⟨e2, _⟩ := hok' b _ z2
            rw [e] at e1; cases e1
            exact e2
  cases hk : K.lookup a with
  | some o =>
    have e := KX a o hk
    rw [ha] at e
    cases e
    refine core (fun _ => none) (fun _ => .inl rfl) (.inr ⟨_, vs.toArray, _, hk, rfl, rfl, rfl, by rw [List.size_toArray, lenV]; exact hl, by simpa using rv⟩) (fun b u z => by have z' : (none : Option HO) = some u := z; cases z') (fun b z => absurd rfl z) fun z => absurd rfl z
  | none =>
    refine core (fun b => if b = a then some (.frz { cls := .type "list", data := .seq vs.toArray } (.lst (ns.map V.int))) else none) (fun b => ?_) (.inl (.inr ⟨{ cls := .type "list", data := .seq vs.toArray }, if_pos rfl⟩)) (fun b u z => ?_) (fun b z => ?_) fun _ => hk
    · by_cases hb : b = a
      · exact .inr ⟨_, _, if_pos hb⟩
      · exact .inl (if_neg hb)
    · by_cases hb : b = a
      · have z' := (if_pos hb).symm.trans z
        cases z'
        subst hb
        exact ⟨ha, by rw [List.length_map]; exact hl, vs, _, rv, ha⟩
      · have z' := (if_neg hb).symm.trans z
        cases z'
    · by_cases hb : b = a
      · exact hb
      · exact absurd (if_neg hb) z
end L2
namespace L2
open PySem PySem.Spec PyProof.Rows
theorem walk_of {l : PySem.W.OpenLaw} {n k : Nat} {q : Program} {loose : List Str} {XP : (Str → Option Value) → Heap → Prop} {YP : World → Heap → Prop} {d : DefRec} {K : Params → PySem.W.Frag} {CX : World → CXT} {sp : World → Sp} {x : Str}
    (hn : l.most = some n) (hn2 : n ≤ sizeLine) (hdf : d.params.defaults = []) (hr : Room k callerA)
    (hY : ∀ (w : World) (h : Heap), YP w h → (K w.params).In h)
    (F : ∀ (w : World) (mg : Str → Option Value) (fa : Addr) (h : Heap), (K w.params).In h → h.Ns mainGlobals mg → mg d.name = some (.ref fa) →
      ∃ fd : FuncData, (∀ (s : Shared) (u : Value), BindsTo s fd ⟨[u], []⟩ [(x, u)]) ∧
        ∀ base : Heap, (K w.params).In base → base.Ns mainGlobals mg → FnOk l.prog w (K w.params) mg base (CX w) k fa fd [x] (sp w))
    (hsp : ∀ (w : World) (H : Hp) (a : Addr) (ns : List Int), ns.length ≤ n → Only H → SqL (K w.params) H a (ns.map V.int) → sp w [.ref a] H (fun v _ => v = .bl true) fun _ _ _ => False)
    (hCX : ∀ (w : World) (H : Hp) (s : Shared) (e : Value) (s' : Shared), CX w [] H s (fun _ _ _ => False) e s' → False) :
    PySem.W.WalkO q loose XP YP l.row.toRowW d [] (fun f vs => PySem.call f vs) := by
  refine Att.attach_call hn hdf fun w s₀ s₁ mg mb fa o pm cd doc a vs ns G Y ho hd hcd hmg hobj hints hlen hg => ?_
  have KX := hY w _ Y
  obtain ⟨fd, hb, hF⟩ := F w mg fa _ KX G.T.g hmg
  exact law_call KX G.T.g G.T.b G.T.builtins G.T.nolimit hg hobj hints (Nat.le_trans hlen hn2) hr hF hb (fun H hO hS => hsp w H a ns hlen hO hS) fun H e s' => hCX w H s₁ e s'
end L2
namespace L2
open PySem PySem.Spec PyProof.Rows
noncomputable def defArgs (s : Stmt) : Arguments := match s with
  | .FunctionDef _ a _ _ _ _ _ _ _ _ => a
  | _ => { posonlyargs := [], args := [], vararg := none, kwonlyargs := [], kw_defaults := [], kwarg := none, defaults := [] }
noncomputable def defBody (s : Stmt) : List Stmt := match s with
  | .FunctionDef _ _ b _ _ _ _ _ _ _ => b
  | _ => []
noncomputable def defScope (s : Stmt) : Scope := match s with
  | .FunctionDef _ _ _ _ _ _ sc _ _ _ => sc
  | _ => { kind := .function, names := [], isGenerator := false, isCoroutine := false }
noncomputable abbrev CX0 : CXT := fun _ _ _ _ _ _ => False
noncomputable abbrev E0 : XK := fun _ _ _ => False
theorem pass0 {X : Cx} : Passes CX0 X E0 := fun _ _ _ _ _ _ _ h => h.elim
structure Fun (K : PySem.W.Frag) (x qual : Str) (st : Stmt) (f : Addr) (fd : FuncData) : Prop where
  ex : ∃ (oc : Value) (od : Option Addr) (kV doc pm : Value) (an : Option Addr) (cdv ct : Value) (osl : Array (Option Value)),
    fd = PySem.W.fnOf x qual (defArgs st) (defBody st) (defScope st) .none kV doc pm an cdv ct ∧ K.lookup f = some ⟨oc, od, .func fd, osl⟩ ∧ PySem.W.codeIn K cdv qual = true
  kp : PySem.W.keepIn K (.ref f) = true
section
variable {P : Program} {w : World} {K : PySem.W.Frag} {mg : Str → Option Value} {base : Heap}
theorem Fun.ok {x qual : Str} {st : Stmt} {f : Addr} {fd : FuncData} {N ps : List Str} {k : Nat} {sp : Sp} (F : Fun K x qual st f fd) (S : FnScope N ps (defScope st)) (len : ∀ vs H Q E, sp vs H Q E → vs.length = ps.length)
    (hbody : ∀ (cdv : Value) (A : Around) (outer : List Env) (s : Shared) (H : Hp) (vs : List V) (Q : VK) (E : XK), Room k (A.deeper (envOfC qual (defScope st) s.heap.objs.size f cdv)) → sp vs H Q E →
      ∃ t, PSs (cxOf CX0 P w K mg base N qual (defScope st) f cdv A outer s H E).nox (defBody st) t ∧ t { nx := fun _ H' => Q .non H', rt := Q } (start N vs) H) : FnOk P w K mg base CX0 (k + 1) f fd ps sp := by
  obtain ⟨oc, od, kV, doc, pm, an, cdv, ct, osl, rfl, lk, hcd⟩ := F.ex
  refine fn_of lk hcd S len fun A outer s H vs Q E hr hsp => ?_
  obtain ⟨t, h, q⟩ := hbody cdv A outer s H vs Q E hr hsp
  exact ⟨t, h.nox, q⟩
theorem Fun.binds {x qual : Str} {st : Stmt} {f : Addr} {fd : FuncData} {ps : List Str} (F : Fun K x qual st f fd)
    (h : ∀ (kV doc pm : Value) (an : Option Addr) (cdv ct : Value) (us : List Value), us.length = ps.length → bindArgs (PySem.W.fnOf x qual (defArgs st) (defBody st) (defScope st) .none kV doc pm an cdv ct) ⟨us, []⟩ = pure (ps.zip us)) : Binds K fd ps [] := by
  obtain ⟨oc, od, kV, doc, pm, an, cdv, ct, osl, rfl, lk, hcd⟩ := F.ex
  exact .all (h kV doc pm an cdv ct)
theorem fun_mk {x qual : Str} {st : Stmt} {f : Addr} {oc : Value} {od an : Option Addr} {osl : Array (Option Value)} {kV doc pm cdv ct : Value} (l : K.lookup f = some ⟨oc, od, .func (PySem.W.fnOf x qual (defArgs st) (defBody st) (defScope st) .none kV doc pm an cdv ct), osl⟩)
    (c : PySem.W.codeIn K cdv qual = true) (k : PySem.W.keepIn K (.ref f) = true) : Fun K x qual st f (PySem.W.fnOf x qual (defArgs st) (defBody st) (defScope st) .none kV doc pm an cdv ct) := ⟨⟨oc, od, kV, doc, pm, an, cdv, ct, osl, rfl, l, c⟩, k⟩
end
theorem hu_of {A : Around} {k : Nat} (hr : Room k A) : A.units + 1 < cLine := Nat.lt_of_le_of_lt (Nat.add_le_add_left (by decide : 1 ≤ 64) _) hr.units
theorem small1000 {n : Nat} (h : n ≤ 1000) : n < sizeLine := Nat.lt_of_le_of_lt h (by decide)
section
variable {X : Cx}
end
theorem iteF {A B : Prop} (h : B) : if false = true then A else B := by
  rw [if_neg Bool.false_ne_true]
  exact h
theorem iteT {A B : Prop} (h : A) : if true = true then A else B := by
  rw [if_pos rfl]
  exact h
noncomputable def Same (H H' : Hp) : Prop := ∀ b o, H b = some o → H' b = some o
theorem Same.refl (H : Hp) : Same H H := fun _ _ h => h
theorem Same.trans {H H1 H2 : Hp} (a : Same H H1) (b : Same H1 H2) : Same H H2 := fun c o h => b c o (a c o h)
theorem Same.free {H H' : Hp} (e : Same H H') {l : Addr} (h : H' l = Option.none) : H l = Option.none := by
  cases q : H l with
  | none => rfl
  | some o =>
    rw [e l o q] at h
    cases h
end L2
end
section
namespace L2
open PySem PySem.Spec PyProof.Rows
section
variable {κ : Type} [DecidableEq κ]
noncomputable def valV (kvs : List (κ × V)) (k : κ) : Option V := (kvs.find? fun kv => decide (kv.1 = k)).map (·.2)
noncomputable def putK (kvs : List (κ × V)) (k : κ) (v : V) : List (κ × V) :=
  if (kvs.any fun kv => decide (kv.1 = k)) = true then kvs.map (fun kv => if kv.1 = k then (kv.1, v) else kv) else kvs ++ [(k, v)]
theorem valV_pos {p : κ × V} {r : List (κ × V)} {k : κ} (e : p.1 = k) : valV (p :: r) k = some p.2 := by simp [valV, List.find?_cons, e]
theorem valV_neg {p : κ × V} {r : List (κ × V)} {k : κ} (e : ¬ p.1 = k) : valV (p :: r) k = valV r k := by simp [valV, List.find?_cons, e]
theorem valV_any (k : κ) : ∀ kvs : List (κ × V), (kvs.any fun kv => decide (kv.1 = k)) = (valV kvs k).isSome
  | [] => rfl
  | p :: r => by
    rw [List.any_cons]
    by_cases e : p.1 = k
    · simp only [valV_pos e, decide_eq_true e, Bool.true_or, Option.isSome_some]
    · rw [valV_neg e, decide_eq_false e, Bool.false_or]; exact valV_any k r
theorem length_putK (kvs : List (κ × V)) (k : κ) (v : V) : (putK kvs k v).length ≤ kvs.length + 1 := by
  unfold putK
  split
  · rw [List.length_map]; omega
  · rw [List.length_append, List.length_cons, List.length_nil]; omega
theorem RelO.isSome_eq {o : Option V} {u : Option Value} (r : RelO o u) : o.isSome = u.isSome := by
  cases o with
  | none => cases u with
    | none => rfl
    | some _ => exact (show False from r).elim
  | some _ => cases u with
    | none => exact (show False from r).elim
    | some _ => rfl
theorem KV.val {kvs : List (κ × V)} {vs : List (κ × Value)} (r : KV kvs vs) (k : κ) : RelO (valV kvs k) (valueAt vs k) := by
  unfold KV at r
  induction r with
  | nil => exact True.intro
  | @cons p q ps qs h t ih =>
    obtain ⟨h1, h2⟩ := h
    by_cases e : p.1 = k
    · have e' : q.1 = k := h1.symm.trans e
      have b : valueAt (q :: qs) k = some q.2 := by simp [valueAt, List.find?_cons, e']
      rw [valV_pos e, b]; exact h2
    · have e' : ¬ q.1 = k := fun z => e (h1.trans z)
      have b : valueAt (q :: qs) k = valueAt qs k := by simp [valueAt, List.find?_cons, e']
      rw [valV_neg e, b]; exact ih
theorem KV.any {kvs : List (κ × V)} {vs : List (κ × Value)} (r : KV kvs vs) (k : κ) : (kvs.any fun kv => decide (kv.1 = k)) = vs.any fun kv => decide (kv.1 = k) := by
  unfold KV at r
  induction r with
  | nil => rfl
  | cons h t ih => rw [List.any_cons, List.any_cons, ih, h.1]
theorem KV.repl {kvs : List (κ × V)} {vs : List (κ × Value)} (r : KV kvs vs) (k : κ) {y : V} {u : Value} (ry : RelV y u) :
    KV (kvs.map fun kv => if kv.1 = k then (kv.1, y) else kv) (vs.map fun kv => if kv.1 = k then (kv.1, u) else kv) := by
  unfold KV at r ⊢
  induction r with
  | nil => exact .nil
  | @cons p q ps qs h t ih =>
    rw [List.map_cons, List.map_cons]
    refine .cons ?_ ih
    obtain ⟨h1, h2⟩ := h
    by_cases e : p.1 = k
    · rw [if_pos e, if_pos (h1.symm.trans e)]; exact ⟨h1, ry⟩
    · rw [if_neg e, if_neg (fun z => e (h1.trans z))]; exact ⟨h1, h2⟩
theorem KV.put {kvs : List (κ × V)} {vs : List (κ × Value)} (r : KV kvs vs) (k : κ) {y : V} {u : Value} (ry : RelV y u) : KV (putK kvs k y) (stored vs k u) := by
  unfold putK stored
  rw [r.any k]
  by_cases e : (vs.any fun kv => decide (kv.1 = k)) = true
  · rw [if_pos e, if_pos e]; exact r.repl k ry
  · rw [if_neg e, if_neg e]; exact Paired.snoc r ⟨rfl, ry⟩
theorem KV.length {kvs : List (κ × V)} {vs : List (κ × Value)} (r : KV kvs vs) : kvs.length = vs.length := Paired.length r
end
theorem kV_is {P : Program} {w : World} {k : Key} {u : Value} (r : RelV (kV k) u) : (mixKind P w).is k u = true := by
  cases k with
  | inl i => obtain ⟨t, e⟩ := (show ∃ t, u = Value.int i t from r); subst e; exact mixKind_int P w i t
  | inr x => obtain ⟨t, e⟩ := (show ∃ t, u = Value.str x t from r); subst e; exact mixKind_str P w x t
theorem items_are {P : Program} {w : World} : ∀ {ks : List Key} {us : List Value}, Vals (ks.map kV) us → ItemsAre (mixKind P w) ks us
  | [], _, r => by rw [List.map_nil] at r; cases r; exact .nil
  | k :: ks, _, r => by
    rw [List.map_cons] at r
    cases r with
    | cons h t => exact .cons (kV_is h) (items_are t)
noncomputable abbrev KT (H : Hp) : List (List Key × V) → List (List Key × Addr × Value) → Prop := Paired fun p q => p.1 = q.1 ∧ H q.2.1 = some (.tup (p.1.map kV)) ∧ RelV p.2 q.2.2
theorem KT.val {H : Hp} {kvs : List (List Key × V)} {xs : List (List Key × Addr × Value)} (r : KT H kvs xs) (k : List Key) : RelO (valV kvs k) ((atKey xs k).map (·.2)) := by
  induction r with
  | nil => exact True.intro
  | @cons p q ps qs h t ih =>
    obtain ⟨h1, _, h2⟩ := h
    by_cases e : p.1 = k
    · have e' : q.1 = k := h1.symm.trans e
      have b : atKey (q :: qs) k = some q.2 := by simp [atKey, List.find?_cons, e']
      rw [valV_pos e, b]; exact h2
    · have e' : ¬ q.1 = k := fun z => e (h1.trans z)
      have b : atKey (q :: qs) k = atKey qs k := by simp [atKey, List.find?_cons, e']
      rw [valV_neg e, b]; exact ih
theorem KT.repl {H : Hp} {kvs : List (List Key × V)} {xs : List (List Key × Addr × Value)} (r : KT H kvs xs) (k : List Key) {y : V} {u : Value} (ry : RelV y u) :
    KT H (kvs.map fun kv => if kv.1 = k then (kv.1, y) else kv) (xs.map (putAt k u)) := by
  induction r with
  | nil => exact .nil
  | @cons p q ps qs h t ih =>
    rw [List.map_cons, List.map_cons]
    refine .cons ?_ ih
    obtain ⟨h1, h2, h3⟩ := h
    unfold putAt
    by_cases e : p.1 = k
    · rw [if_pos e, if_pos (h1.symm.trans e)]; exact ⟨h1, h2, ry⟩
    · rw [if_neg e, if_neg (fun z => e (h1.trans z))]; exact ⟨h1, h2, h3⟩
theorem KT.put {H : Hp} {kvs : List (List Key × V)} {xs : List (List Key × Addr × Value)} (r : KT H kvs xs) (k : List Key) {b : Addr} {y : V} {u : Value} (hb : H b = some (.tup (k.map kV))) (ry : RelV y u) :
    KT H (putK kvs k y) (storedH xs k b u) := by
  have e : (kvs.any fun kv => decide (kv.1 = k)) = (atKey xs k).isSome := by
    rw [valV_any, (r.val k).isSome_eq, Option.isSome_map]
  unfold putK storedH
  rw [e]
  by_cases q : (atKey xs k).isSome = true
  · rw [if_pos q, if_pos q]; exact r.repl k ry
  · rw [if_neg q, if_neg q]; exact Paired.snoc r ⟨rfl, hb, ry⟩
theorem KT.keeps {H H' : Hp} {kvs : List (List Key × V)} {xs : List (List Key × Addr × Value)} (r : KT H kvs xs) (ht : ∀ b ys, H b = some (.tup ys) → H' b = some (.tup ys)) : KT H' kvs xs :=
  Paired.mapP r fun _ _ z => ⟨z.1, ht _ _ z.2.1, z.2.2⟩
section
variable {P : Program} {w : World} {H : Hp} {h : Heap} {a : Addr}
theorem rd_of {u : HO} (ok : HOk P w H h) (e : Rd H a u) : ObjOk P w H h a u := e.ok ok
theorem dk_rd {kvs : List (Key × V)} (ok : HOk P w H h) (e : Rd H a (.dK kvs)) : kvs.length ≤ sizeLine ∧ (a == sysModules) = false ∧ ∃ vs, KV kvs vs ∧ h.DictOf (mixKind P w) a vs :=
  show ObjOk P w H h a (.dK kvs) from rd_of ok e
theorem dk_of {kvs : List (Key × V)} (ok : HOk P w H h) (e : H a = some (.dK kvs)) : kvs.length ≤ sizeLine ∧ (a == sysModules) = false ∧ ∃ vs, KV kvs vs ∧ h.DictOf (mixKind P w) a vs := dk_rd ok (.inl e)
theorem key_of {ks : List Key} (ok : HOk P w H h) (e : H a = some (.tup (ks.map kV))) : (tupleKind (mixKind P w)).is h ks a := by
  obtain ⟨_, its, r, o, h1, h2, n, h3⟩ := (show ObjOk P w H h a (.tup (ks.map kV)) from ok a _ e)
  exact ⟨o, its.toArray, n, h1, h2, h3, by simpa using items_are r⟩
theorem dt_rd {kvs : List (List Key × V)} (ok : HOk P w H h) (e : Rd H a (.dT kvs)) : kvs.length ≤ sizeLine ∧ (a == sysModules) = false ∧
    ∃ xs, KT H kvs xs ∧ h.DictOfH (tupleKind (mixKind P w)) a xs := by
  obtain ⟨z, y, xs, r, o, es, ep, h1, h2, h3, h4, h5⟩ := (show ObjOk P w H h a (.dT kvs) from rd_of ok e)
  refine ⟨z, y, xs, r, o, es, ep, h1, h2, h3, h4, fun x hx => ?_, h5⟩
  have all : ∀ {l : List (List Key × V)} {m : List (List Key × Addr × Value)}, KT H l m → ∀ x ∈ m, (tupleKind (mixKind P w)).is h x.1 x.2.1 := by
    intro l m q
    induction q with
    | nil => intro x hx; exact nomatch hx
    | @cons p q ps qs hq t ih =>
      intro x hx
      rcases List.mem_cons.mp hx with e | hx
      · subst e
        exact key_of ok (by rw [← hq.1]; exact hq.2.1)
      · exact ih x hx
  exact all r x hx
theorem dt_of {kvs : List (List Key × V)} (ok : HOk P w H h) (e : H a = some (.dT kvs)) : kvs.length ≤ sizeLine ∧ (a == sysModules) = false ∧
    ∃ xs, KT H kvs xs ∧ h.DictOfH (tupleKind (mixKind P w)) a xs := dt_rd ok (.inl e)
end
noncomputable def DGet (H : Hp) (a : Addr) (y : V) (r : Option V) : Prop :=
  (∃ kvs k, Rd H a (.dK kvs) ∧ y = kV k ∧ r = valV kvs k) ∨ ∃ kvs k b, Rd H a (.dT kvs) ∧ y = .ref b ∧ H b = some (.tup (k.map kV)) ∧ r = valV kvs k
noncomputable def DPut (H : Hp) (a : Addr) (y v : V) (H' : Hp) : Prop :=
  (∃ kvs k, H a = some (.dK kvs) ∧ y = kV k ∧ kvs.length < sizeLine ∧ H' = upd H a (.dK (putK kvs k v))) ∨
  ∃ kvs k b, H a = some (.dT kvs) ∧ y = .ref b ∧ H b = some (.tup (k.map kV)) ∧ kvs.length < sizeLine ∧ H' = upd H a (.dT (putK kvs k v))
theorem DGet.k {H : Hp} {a : Addr} {kvs : List (Key × V)} {k : Key} (e : H a = some (.dK kvs)) : DGet H a (kV k) (valV kvs k) := .inl ⟨kvs, k, .inl e, rfl, rfl⟩
theorem DPut.k {H : Hp} {a : Addr} {kvs : List (Key × V)} {k : Key} {v : V} (e : H a = some (.dK kvs)) (hl : kvs.length < sizeLine) : DPut H a (kV k) v (upd H a (.dK (putK kvs k v))) := .inl ⟨kvs, k, e, rfl, hl, rfl⟩
section
variable {X : Cx} {pins : List (Addr × Obj)} {σ : St} {H : Hp} {s : Shared} {a : Addr} {y v : V} {u r : Value} {o : Option V} {A : Around} {E : Value → Shared → Prop}
theorem Inv.big (I : Inv X pins σ H s) : sysModules < s.heap.objs.size := by
  have h : mainGlobals < s.heap.objs.size := (I.mod.glob.keeps I.bk).lt
  exact Nat.lt_trans (by decide) h
theorem d_getItem {Q : Value → Shared → Prop} (hu : A.units + 1 < cLine) (I : Inv X pins σ H s) (g : DGet H a y (some v)) (ry : RelV y u) (h : ∀ w' s', Inv X pins σ H s' → RelV v w' → Q w' s') :
    wpAny (model X.prog X.w) A (getItem (.ref a) u) Q E s := by
  rcases g with ⟨kvs, k, e, ey, l⟩ | ⟨kvs, k, b, e, ey, eb, l⟩
  · subst ey
    obtain ⟨z, hd, vs, rel, dd⟩ := dk_rd I.hok e
    obtain ⟨w', hw, rw'⟩ := RelO.some_of (v := v) (o := valueAt vs k) (by rw [l]; exact rel.val k)
    exact wpAny_getItem_of (kV_is ry) dd.mapOf hw (h w' _ (I.tok _) rw')
  · subst ey
    cases (show u = Value.ref b from ry)
    obtain ⟨z, hd, xs, rel, dd⟩ := dt_rd I.hok e
    obtain ⟨w', hw, rw'⟩ := RelO.some_of (v := v) (o := (atKey xs k).map (·.2)) (by rw [l]; exact rel.val k)
    obtain ⟨p, hp, hp2⟩ := Option.map_eq_some_iff.mp hw
    refine wpAny_getItem_heap (tupleKind_room_in1 hu) (key_of I.hok eb) dd hp ?_
    rw [hp2]
    exact h w' _ (I.tok _) rw'
theorem d_notIn {Q : Value → Shared → Prop} (hu : A.units + 1 < cLine) (I : Inv X pins σ H s) (g : DGet H a y o) (ry : RelV y u) (h : ∀ s', Inv X pins σ H s' → Q (.bool (!o.isSome)) s') :
    wpAny (model X.prog X.w) A (compareOp .NotIn u (.ref a)) Q E s := by
  rcases g with ⟨kvs, k, e, ey, l⟩ | ⟨kvs, k, b, e, ey, eb, l⟩
  · subst ey
    obtain ⟨z, hd, vs, rel, dd⟩ := dk_rd I.hok e
    refine wpAny_notIn_of (kV_is ry) hd dd.mapOf ?_
    rw [← (rel.val k).isSome_eq, ← l]
    exact h _ (I.tok _)
  · subst ey
    cases (show u = Value.ref b from ry)
    obtain ⟨z, hd, xs, rel, dd⟩ := dt_rd I.hok e
    refine wpAny_notIn_heap (tupleKind_room_in1 hu) (key_of I.hok eb) hd dd ?_
    have q := (rel.val k).isSome_eq
    rw [Option.isSome_map] at q
    rw [← q, ← l]
    exact h _ (I.tok _)
theorem d_write {h' : Heap} {t' : Nat} {ob : HO} (I : Inv X pins σ H s) (mu : Mut (H a)) (hs : Heap.SameBut a s.heap h') (he : ∃ q, h'.get? a = some q) (new : ObjOk X.prog X.w (upd H a ob) h' a ob) :
    Inv X pins σ (upd H a ob) { s with heap := h', toks := t' } :=
  I.write (x := a) (e := a) mu (.inl rfl) (fun b q hb z => (hs.2 b hb).trans z) he new
theorem dk_new {P : Program} {w : World} {H' : Hp} {h' : Heap} {kvs : List (Key × V)} {vs : List (Key × Value)} (z : kvs.length ≤ sizeLine) (hd : (a == sysModules) = false) (rel : KV kvs vs) (dd : h'.DictOf (mixKind P w) a vs) :
    ObjOk P w H' h' a (.dK kvs) := ⟨z, hd, vs, rel, dd⟩
theorem d_setItem {H' : Hp} {Q : Unit → Shared → Prop} (hu : A.units + 1 < cLine) (I : Inv X pins σ H s) (g : DPut H a y v H') (ry : RelV y u) (rv : RelV v r) (h : ∀ s', Inv X pins σ H' s' → Q () s') :
    wpAny (model X.prog X.w) A (setItem (.ref a) u r) Q E s := by
  rcases g with ⟨kvs, k, e, ey, l, eH⟩ | ⟨kvs, k, b, e, ey, eb, l, eH⟩
  · subst ey eH
    obtain ⟨z, hd, vs, rel, dd⟩ := dk_of I.hok e
    have hz : vs.length ≤ sizeLine := by rw [← rel.length]; exact z
    have hl : (putK kvs k v).length ≤ sizeLine := by have := length_putK kvs k v; omega
    refine wpAny_setItem_pairs (hsz := hz) (kV_is ry) dd fun h' dd' hs => h _ ?_
    have he : ∃ q, h'.get? a = some q := let ⟨q, _, _, hq, _⟩ := dd'; ⟨q, hq⟩
    exact d_write I (by rw [e]; exact True.intro) hs he (dk_new hl hd (rel.put k rv) dd')
  · subst ey eH
    cases (show u = Value.ref b from ry)
    obtain ⟨z, hd, xs, rel, dd⟩ := dt_of I.hok e
    have hz : xs.length ≤ sizeLine := by rw [← Paired.length rel]; exact z
    have hl : (putK kvs k v).length ≤ sizeLine := by have := length_putK kvs k v; omega
    refine wpAny_setItem_heap (hsz := hz) (tupleKind_room_in1 hu) (key_of I.hok eb) dd fun h' dd' hs => h _ ?_
    obtain ⟨q, es, ep, hq, h2, h3, h4, _, h5⟩ := dd'
    refine d_write I (by rw [e]; exact True.intro) hs ⟨q, hq⟩ ⟨hl, hd, _, (rel.put k eb rv).keeps fun c ys ec => ?_, q, es, ep, hq, h2, h3, h4, h5⟩
    rw [upd_ne (ne_of ec e (fun z => nomatch z))]
    exact ec
end
section
variable {X : Cx} {pins : List (Addr × Obj)} {σ : St} {H : Hp} {s : Shared} {a : Addr} {kvs : List (Key × V)} {k : Key} {u : Value} {A : Around} {E : Value → Shared → Prop}
end
noncomputable def NoSl (i : Expr) : Prop := ∀ ov iv, subscripted i false ov iv = operate [ov, iv] (getItem ov iv)
theorem subD_of {prog : Program} {w : World} {A : Around} {E : Value → Shared → Prop} {s : Shared} {env : Env} {value slice : Expr} {pos : Pos} {T id : String} {Q : Value → Shared → Prop}
    (hl : typeLookup (.type T) "__getitem__" = pure (some (.builtin id))) (hs : NoSl slice)
    (h : wpAny (model prog w) A (eval value env) (fun o s₁ => wpAny (model prog w) A (eval slice env) (fun i s₂ => s₂.TypeIs o T ∧ wpAny (model prog w) A (getItem o i) Q E s₂) E s₁) E s) :
    wpAny (model prog w) A (eval (.Subscript value slice pos) env) Q E s := by
  refine Subscript_ (wpAny_mono h (fun o s₁ h₁ => wpAny_mono h₁ (fun i s₂ h₂ => ?_) fun _ _ x => x) fun _ _ x => x)
  obtain ⟨hT, h₂⟩ := h₂
  unfold subscriptTail
  refine wpAny_bind ?_
  rw [getitemInPython_of_ne hT.not_modules]
  refine wpAny_bind (wpAny_specialOf hT hl ?_)
  have fin : wpAny (model prog w) A (subscripted slice false o i) (fun r s₃ => wpAny (model prog w) A (letTemporaryGo value o r >>= fun _ => pure r) Q E s₃) E s₂ := by
    rw [hs o i]
    exact wpAny_operating (wpAny_mono h₂ (fun r s₃ h₃ => wpAny_bind (wpAny_letTemporaryGo (wpAny_pure h₃))) fun _ _ x => x)
  first
    | exact wpAny_pure (wpAny_bind fin)
    | exact wpAny_bind (wpAny_pure (wpAny_bind fin))
    | exact wpAny_bind fin
theorem dict_typeIs {X : Cx} {pins : List (Addr × Obj)} {σ : St} {H : Hp} {s : Shared} {a : Addr} {y : V} {o : Option V} (I : Inv X pins σ H s) (g : DGet H a y o) : s.TypeIs (.ref a) "dict" := by
  rcases g with ⟨kvs, k, e, _, _⟩ | ⟨kvs, k, b, e, _, _, _⟩
  · obtain ⟨_, _, vs, _, dd⟩ := dk_rd I.hok e
    exact dd.typeIs
  · obtain ⟨_, _, xs, _, dd⟩ := dt_rd I.hok e
    exact dd.typeIs
noncomputable def tDGet (td ty : TE) : TE := fun σ H Q => td σ H fun x H1 => ty σ H1 fun y H2 => ∃ a v, x = .ref a ∧ DGet H2 a y (some v) ∧ Q v H2
noncomputable def tDNotIn (ty td : TE) : TE := fun σ H Q => ty σ H fun y H1 => td σ H1 fun x H2 => ∃ a o, x = .ref a ∧ DGet H2 a y o ∧ Q (.bl (!o.isSome)) H2
noncomputable def sDPut (td ty tv : TE) : TS := fun D σ H => tv σ H fun v H1 => td σ H1 fun x H2 => ty σ H2 fun y H3 => ∃ a H4, x = .ref a ∧ DPut H3 a y v H4 ∧ D.nx σ H4
section
variable {X : Cx} {o i e value : Expr} {pos pos' tpos : Pos} {td ty tv : TE}
theorem pe_dget (hu : X.A.units + 1 < cLine) (ho : PE X o td) (hi : PE X i ty) (hs : NoSl i) : PE X (.Subscript o i pos) (tDGet td ty) := by
  intro pins s σ H Q I h
  refine subD_of PySem.F.slot_dict_getitem.lookup hs (thn (ho pins s σ H _ I h) fun u s1 ⟨x, H1, I1, rx, q1⟩ => thn (hi pins s1 σ H1 _ I1 q1) fun iv s2 ⟨y, H2, I2, ry, a, v, ex, g, q2⟩ => ?_)
  subst ex
  obtain rfl : u = Value.ref a := rx
  exact ⟨dict_typeIs I2 g, d_getItem hu I2 g ry fun w' s3 I3 rw' => ⟨v, H2, I3, rw', q2⟩⟩
theorem pc_dnotin (hu : X.A.units + 1 < cLine) (hi : PE X i ty) (ho : PE X o td) : PC X .NotIn i o (tDNotIn ty td) := by
  intro pins s σ H Q I h
  refine thn (hi pins s σ H _ I h) fun iv s1 ⟨y, H1, I1, ry, q1⟩ => thn (ho pins s1 σ H1 _ I1 q1) fun u s2 ⟨x, H2, I2, rx, a, ov, ex, g, q2⟩ => ?_
  subst ex
  obtain rfl : u = Value.ref a := rx
  exact d_notIn hu I2 g ry fun s3 I3 => ⟨.bl (!ov.isSome), H2, I3, rfl, q2⟩
theorem ps_dput (hu : X.A.units + 1 < cLine) (ho : PE X o td) (hi : PE X i ty) (hv : PE X value tv) (hs : swapsWith value (some (.Subscript o i pos')) pos.line X.env = pure false) :
    PS X (.Assign [.Subscript o i pos'] value pos) (sDPut td ty tv) := by
  intro pins s σ H D I h
  refine wpAny_Assign_Subscript (thn (hv pins s σ H _ I h) fun r s1 ⟨v, H1, I1, rv, q1⟩ => thn (ho pins s1 σ H1 _ I1 q1) fun u s2 ⟨x, H2, I2, rx, q2⟩ => thn (hi pins s2 σ H2 _ I2 q2) fun iv s3 ⟨y, H3, I3, ry, a, H4, ex, g, q3⟩ => ?_) hs
  subst ex
  obtain rfl : u = Value.ref a := rx
  exact d_setItem hu I3 g ry rv fun s4 I4 => ⟨σ, H4, I4, q3⟩
end
theorem dk_empty {P : Program} {w : World} {H : Hp} (h : Heap) (hb : sysModules < h.objs.size) : ObjOk P w H (h.push { cls := .type "dict", data := .dict #[] }) h.objs.size (.dK []) :=
  ⟨Nat.zero_le _, beq_eq_false_iff_ne.mpr (Ne.symm (Nat.ne_of_lt hb)), [], .nil, Heap.DictOf.new h⟩
noncomputable def tDNewK : TE := fun _ H Q => ∀ p, H p = none → Q (.ref p) (upd H p (.dK []))
section
variable {X : Cx} {pos : Pos}
theorem pe_dnewK : PE X (.Dict [] [] pos) tDNewK := fun pins s σ H Q I h =>
  wpAny_Dict_empty ⟨.ref s.heap.objs.size, _, I.laid (a := s.heap.objs.size) (o := .dK []) (t' := s.toks) (fun _ _ q => Heap.get?_push_of_some _ q) (Nat.le_refl _) (dk_empty s.heap I.big), rfl, h _ (I.hok.fresh (Nat.le_refl _))⟩
end
section
variable {X : Cx} {pins : List (Addr × Obj)} {σ : St} {H : Hp} {s : Shared} {a : Addr} {y d : V} {u r : Value} {o : Option V} {A : Around} {E : Value → Shared → Prop}
end
section
variable {X : Cx} {o e f : Expr} {apos cpos : Pos} {td ty tx : TE}
end
section
variable {X : Cx} {pins : List (Addr × Obj)} {σ : St} {H : Hp} {s : Shared} {a : Addr} {kvs : List (Key × V)} {A : Around} {E : Value → Shared → Prop}
end
section
variable {X : Cx} {pins : List (Addr × Obj)} {σ : St} {H : Hp} {s : Shared} {a : Addr} {y : V} {u : Value} {A : Around} {E : Value → Shared → Prop}
end
end L2
namespace L2
open PySem PySem.Spec PyProof.Rows
section
variable {X : Cx}
end
section
variable {κ : Type} [DecidableEq κ]
end
end L2
end
section
namespace L2
open PySem PySem.Spec PyProof.Rows
theorem big_ne {n c d : Nat} (h1 : n + 2 ≤ c) (h2 : d < n) : c ≠ d := by omega
theorem lt_ne1 {n b : Nat} (h : b < n) : b ≠ n + 1 := by omega
theorem big_ne0 {n c : Nat} (h : n + 2 ≤ c) : c ≠ n := by omega
theorem big_le {n c : Nat} (h : n + 2 ≤ c) : n ≤ c := by omega
theorem cellsFrom_app : ∀ (names : List (Str × NameKind)) (n : Nat) (acc : List (Str × Addr)), cellsFrom n names acc = cellsFrom n names [] ++ acc
  | [], n, acc => rfl
  | (x, k) :: r, n, acc => by
    unfold cellsFrom
    by_cases hk : (k == NameKind.cell) = true
    · rw [if_pos hk, if_pos hk, cellsFrom_app r (n + 1) ((x, n) :: acc), cellsFrom_app r (n + 1) [(x, n)], List.append_assoc]; rfl
    · rw [if_neg hk, if_neg hk]; exact cellsFrom_app r n acc
theorem cellsFrom_mem : ∀ (names : List (Str × NameKind)) (n : Nat) {x : Str} {c : Addr}, (x, c) ∈ cellsFrom n names [] → (x, NameKind.cell) ∈ names
  | [], _, _, _, h => by simp [cellsFrom] at h
  | (y, k) :: r, n, x, c, h => by
    unfold cellsFrom at h
    by_cases hk : (k == NameKind.cell) = true
    · rw [if_pos hk, cellsFrom_app] at h
      rcases List.mem_append.mp h with h | h
      · exact List.mem_cons_of_mem _ (cellsFrom_mem r (n + 1) h)
      · have e : (x, c) = (y, n) := by simpa using h
        cases e
        have : k = .cell := by simpa using hk
        subst this
        exact List.mem_cons_self
    · rw [if_neg hk] at h
      exact List.mem_cons_of_mem _ (cellsFrom_mem r n h)
theorem cellsFrom_has : ∀ (names : List (Str × NameKind)) (n : Nat) {x : Str}, (x, NameKind.cell) ∈ names → ∃ c, (x, c) ∈ cellsFrom n names []
  | [], _, _, h => nomatch h
  | (y, k) :: r, n, x, h => by
    unfold cellsFrom
    by_cases hk : (k == NameKind.cell) = true
    · rw [if_pos hk, cellsFrom_app]
      rcases List.mem_cons.mp h with e | h
      · cases e
        exact ⟨n, List.mem_append_right _ (by simp)⟩
      · obtain ⟨c, hc⟩ := cellsFrom_has r (n + 1) h
        exact ⟨c, List.mem_append_left _ hc⟩
    · rw [if_neg hk]
      rcases List.mem_cons.mp h with e | h
      · cases e
        exact absurd rfl hk
      · exact cellsFrom_has r n h
noncomputable def clos (env : Env) : List (Str × NameKind) → List (Str × Addr) → List (Str × Addr)
  | [], acc => acc
  | (n, k) :: r, acc => clos env r (if k == .free then (n, (env.cells.lookup n).getD 0) :: acc else acc)
theorem clos_app (env : Env) : ∀ (names : List (Str × NameKind)) (acc : List (Str × Addr)), clos env names acc = clos env names [] ++ acc
  | [], acc => rfl
  | (x, k) :: r, acc => by
    unfold clos
    by_cases hk : (k == NameKind.free) = true
    · rw [if_pos hk, if_pos hk, clos_app env r (_ :: acc), clos_app env r [_], List.append_assoc]; rfl
    · rw [if_neg hk, if_neg hk]; exact clos_app env r acc
theorem clos_mem (env : Env) : ∀ (names : List (Str × NameKind)) {x : Str} {c : Addr}, (x, c) ∈ clos env names [] → (x, NameKind.free) ∈ names ∧ c = (env.cells.lookup x).getD 0
  | [], _, _, h => by simp [clos] at h
  | (y, k) :: r, x, c, h => by
    unfold clos at h
    by_cases hk : (k == NameKind.free) = true
    · rw [if_pos hk, clos_app] at h
      rcases List.mem_append.mp h with h | h
      · obtain ⟨h1, h2⟩ := clos_mem env r h
        exact ⟨List.mem_cons_of_mem _ h1, h2⟩
      · have e : (x, c) = (y, (env.cells.lookup y).getD 0) := by simpa using h
        cases e
        have : k = .free := by simpa using hk
        subst this
        exact ⟨List.mem_cons_self, rfl⟩
    · rw [if_neg hk] at h
      obtain ⟨h1, h2⟩ := clos_mem env r h
      exact ⟨List.mem_cons_of_mem _ h1, h2⟩
theorem clos_has (env : Env) : ∀ (names : List (Str × NameKind)) {x : Str}, (x, NameKind.free) ∈ names → (x, (env.cells.lookup x).getD 0) ∈ clos env names []
  | [], _, h => nomatch h
  | (y, k) :: r, x, h => by
    unfold clos
    by_cases hk : (k == NameKind.free) = true
    · rw [if_pos hk, clos_app]
      rcases List.mem_cons.mp h with e | h
      · cases e
        exact List.mem_append_right _ (by simp)
      · exact List.mem_append_left _ (clos_has env r h)
    · rw [if_neg hk]
      rcases List.mem_cons.mp h with e | h
      · cases e
        exact absurd rfl hk
      · exact clos_has env r h
theorem clos_for {env : Env} (f : Str × NameKind → List (Str × Addr) → Sem (ForInStep (List (Str × Addr))))
    (hf : ∀ n k cs, f (n, k) cs = if k == .free then (do let c ← cellOf env n; pure (.yield ((n, c) :: cs))) else pure (.yield cs)) :
    ∀ (names : List (Str × NameKind)) (acc : List (Str × Addr)), (∀ x ∈ names, x.2 = .free → ∃ c, env.cells.lookup x.1 = some c) → forIn names acc f = pure (clos env names acc)
  | [], acc, _ => by rw [List.forIn_nil]; rfl
  | (n, k) :: r, acc, h => by
    rw [List.forIn_cons, hf]
    unfold clos
    by_cases hk : (k == NameKind.free) = true
    · obtain ⟨c, hc⟩ := h (n, k) List.mem_cons_self (by simpa using hk)
      have hc' : env.cells.lookup n = some c := hc
      rw [if_pos hk, if_pos hk]
      have e : cellOf env n = pure c := by unfold cellOf; rw [hc']
      rw [e, hc', pure_bind, pure_bind]
      exact clos_for f hf r _ fun x hx => h x (List.mem_cons_of_mem _ hx)
    · rw [if_neg hk, if_neg hk, pure_bind]
      exact clos_for f hf r _ fun x hx => h x (List.mem_cons_of_mem _ hx)
theorem closureFor_eq {scope : Scope} {env : Env} (h : ∀ x ∈ scope.names, x.2 = .free → ∃ c, env.cells.lookup x.1 = some c) : closureFor scope env = pure (clos env scope.names []) := by
  simp only [closureFor]
  rw [clos_for _ (fun n k cs => by cases hk : k == NameKind.free <;> simp [hk]) scope.names [] h]
  rfl
theorem lookup_of {α : Type} {x : Str} {c : α} : ∀ {l : List (Str × α)}, (x, c) ∈ l → (∀ c', (x, c') ∈ l → c' = c) → l.lookup x = some c
  | [], h, _ => nomatch h
  | (y, d) :: r, h, u => by
    rw [List.lookup_cons]
    cases hb : x == y with
    | true =>
      have e : x = y := beq_iff_eq.mp hb
      subst e
      exact congrArg some (u d List.mem_cons_self)
    | false =>
      rcases List.mem_cons.mp h with e | h
      · cases e
        rw [beq_self_eq_true] at hb
        cases hb
      · exact lookup_of h fun c' hc' => u c' (List.mem_cons_of_mem _ hc')
theorem kinds_one {names : List (Str × NameKind)} (nd : (names.map (·.1)).Nodup) {x : Str} {k k' : NameKind} (h : (x, k) ∈ names) (h' : (x, k') ∈ names) : k = k' := by
  induction names with
  | nil => exact nomatch h
  | cons p r ih =>
    rw [List.map_cons, List.nodup_cons] at nd
    rcases List.mem_cons.mp h with e | h <;> rcases List.mem_cons.mp h' with e' | h'
    · rw [← e'] at e; exact congrArg Prod.snd e
    · exact absurd (List.mem_map.mpr ⟨_, h', by rw [← e]⟩) nd.1
    · exact absurd (List.mem_map.mpr ⟨_, h, by rw [← e']⟩) nd.1
    · exact ih nd.2 h h'
theorem relabel_lookup (scope : Scope) (env : Env) (x : Str) : (relabel scope env).names.lookup x =
    (scope.names.lookup x).map fun k => if (k == NameKind.free && env.scope.kind == .function && env.kindOf x == some .cell) = true then NameKind.cell else k := by
  show List.lookup x (scope.names.map fun (n, k) => if (k == NameKind.free && env.scope.kind == .function && env.kindOf n == some .cell) = true then (n, NameKind.cell) else (n, k)) = _
  induction scope.names with
  | nil => rfl
  | cons p r ih =>
    obtain ⟨n, k⟩ := p
    rw [List.map_cons]
    show List.lookup x ((if (k == NameKind.free && env.scope.kind == .function && env.kindOf n == some .cell) = true then (n, NameKind.cell) else (n, k)) :: _) = _
    cases hx : x == n with
    | true =>
      have e : x = n := beq_iff_eq.mp hx
      subst e
      by_cases hc : (k == NameKind.free && env.scope.kind == .function && env.kindOf x == some .cell) = true
      · rw [if_pos hc]
        simp only [List.lookup_cons, beq_self_eq_true]
        exact congrArg some (if_pos hc).symm
      · rw [if_neg hc]
        simp only [List.lookup_cons, beq_self_eq_true]
        exact congrArg some (if_neg hc).symm
    | false =>
      by_cases hc : (k == NameKind.free && env.scope.kind == .function && env.kindOf n == some .cell) = true
      · rw [if_pos hc]; simp only [List.lookup_cons, hx]; exact ih
      · rw [if_neg hc]; simp only [List.lookup_cons, hx]; exact ih
noncomputable def compX (X : Cx) (scope : Scope) (C : Addr) (s2 : Shared) (H2 : Hp) (fp : List Addr) : Cx where
  prog := X.prog
  w := X.w
  K := X.K
  mg := X.mg
  base := X.base
  A := X.A
  N := X.N
  s₀ := s2
  H₀ := H2
  env := { scope := relabel scope X.env, locals := C, globals := X.env.globals, cells := cellsFrom (C + 1) scope.names (clos X.env scope.names []), qual := X.env.qual, func := none, code := X.env.code, frame := X.env.frame, builtins := X.env.builtins }
  outer := X.stack
  stack := X.stack
  ex := fp
  fn := fun x => decide (scope.names.lookup x = some .cell)
  calm := X.calm
  pn := []
  xe := fun _ _ => False
structure CompScope (X : Cx) (scope : Scope) (is : List Nat) : Prop where
  kind : scope.kind = .function
  nd : (scope.names.map (·.1)).Nodup
  fr : ∀ p ∈ scope.names, p.2 = .free → X.env.scope.names.lookup p.1 = some .cell ∨ X.env.scope.names.lookup p.1 = some .free
  own : ∀ p ∈ X.N.zipIdx, (scope.names.lookup p.1 = some .local ∨ scope.names.lookup p.1 = some .cell) → p.2 ∈ is
noncomputable def blank : List Nat → St → St
  | [], σ => σ
  | i :: r, σ => blank r (σ.set i none)
theorem blank_length : ∀ (is : List Nat) (σ : St), (blank is σ).length = σ.length
  | [], _ => rfl
  | i :: r, σ => by unfold blank; rw [blank_length r, List.length_set]
theorem set_none_weak {σ : St} {j i : Nat} {v : V} (h : (σ.set j none)[i]? = some (some v)) : σ[i]? = some (some v) := by
  rw [List.getElem?_set] at h
  split at h
  · split at h
    · simp at h
    · cases h
  · exact h
theorem blank_weak : ∀ (is : List Nat) {σ : St} {i : Nat} {v : V}, (blank is σ)[i]? = some (some v) → σ[i]? = some (some v)
  | [], _, _, _, h => h
  | j :: r, σ, i, v, h => set_none_weak (blank_weak r h)
theorem blank_at : ∀ (is : List Nat) {σ : St} {i : Nat} {v : V}, i ∈ is → (blank is σ)[i]? ≠ some (some v)
  | [], _, _, _, h, _ => nomatch h
  | j :: r, σ, i, v, h, e => by
    rcases List.mem_cons.mp h with rfl | h
    · have := blank_weak r e
      rw [List.getElem?_set] at this
      simp at this
    · exact blank_at r h e
section
variable {X : Cx} {pins : List (Addr × Obj)} {σ : St} {H2 : Hp} {s2 : Shared} {scope : Scope} {is : List Nat} {fp : List Addr}
theorem CompScope.closed (S : CompScope X scope is) (ok : X.Ok) : ∀ x ∈ scope.names, x.2 = .free → ∃ c, X.env.cells.lookup x.1 = some c := fun x hx hf => ok.has x.1 (S.fr x hx hf)
noncomputable abbrev accHeap (s2 : Shared) : Heap := s2.heap.push { cls := .type "list", data := .seq ([] : List Value).toArray }
noncomputable abbrev blockHeap (s2 : Shared) (scope : Scope) : Heap := pushCells ((accHeap s2).push { cls := .type "dict", data := .dict #[] }) scope.names
theorem inv_comp (I : Inv X pins σ H2 s2) (S : CompScope X scope is) (hf : ∀ b ∈ fp, FpOk X pins H2 b) (ho : ∀ b ∈ fp, ∃ o, s2.heap.get? b = some o) :
    Inv (compX X scope (accHeap s2).objs.size s2 H2 fp) [] (blank is σ) (upd H2 s2.heap.objs.size (.lst [])) { s2 with heap := blockHeap s2 scope } := by
  have hC : (accHeap s2).objs.size = s2.heap.objs.size + 1 := Heap.size_push ..
  have hk : ∀ b u, s2.heap.get? b = some u → (blockHeap s2 scope).get? b = some u := fun b u e => pushCells_keeps _ _ b u (Heap.get?_push_of_some _ (Heap.get?_push_of_some _ e))
  have hD : (blockHeap s2 scope).get? s2.heap.objs.size = some { cls := .type "list", data := .seq ([] : List Value).toArray } :=
    pushCells_keeps _ _ _ _ (Heap.get?_push_of_some _ (Heap.get?_push_size _ rfl))
  have I3 : Inv X pins σ (upd H2 s2.heap.objs.size (.lst [])) { s2 with heap := blockHeap s2 scope } :=
    I.laid (t' := s2.toks) hk (Nat.le_refl _) ⟨Nat.zero_le _, [], 0, .nil, hD⟩
  have ck := cellsFrom_ok scope.names ((accHeap s2).push { cls := .type "dict", data := .dict #[] }) ((accHeap s2).objs.size + 1) [] ⟨fun _ _ hm => (nomatch hm), List.Pairwise.nil⟩ (Nat.le_of_eq (Heap.size_push ..).symm)
  rw [show ((accHeap s2).push { cls := .type "dict", data := .dict #[] }).objs.size = (accHeap s2).objs.size + 1 from Heap.size_push ..] at ck
  have hcl := S.closed I.ok
  have split : ∀ {x : Str} {c : Addr}, (x, c) ∈ cellsFrom ((accHeap s2).objs.size + 1) scope.names (clos X.env scope.names []) →
      ((x, c) ∈ cellsFrom ((accHeap s2).objs.size + 1) scope.names [] ∧ (x, NameKind.cell) ∈ scope.names) ∨ ((x, NameKind.free) ∈ scope.names ∧ X.env.cells.lookup x = some c) := fun {x c} h => by
    rw [cellsFrom_app] at h
    rcases List.mem_append.mp h with h | h
    · exact .inl ⟨h, cellsFrom_mem _ _ h⟩
    · obtain ⟨h1, h2⟩ := clos_mem _ _ h
      obtain ⟨c', hc'⟩ := hcl _ h1 rfl
      have hc'' : X.env.cells.lookup x = some c' := hc'
      rw [hc''] at h2
      cases h2
      exact .inr ⟨h1, hc''⟩
  have small : ∀ {x : Str} {c : Addr}, X.env.cells.lookup x = some c → c < s2.heap.objs.size := fun {x c} e => by obtain ⟨v, q⟩ := I.cell x c e; exact q.lt
  have big : ∀ {x : Str} {c : Addr}, (x, c) ∈ cellsFrom ((accHeap s2).objs.size + 1) scope.names [] → s2.heap.objs.size + 2 ≤ c := fun {x c} h => by
    have := (ck.empty x c h).2
    rw [hC] at this
    exact this
  have freeAt : ∀ {x : Str}, (x, NameKind.free) ∈ scope.names → ∀ {c}, X.env.cells.lookup x = some c → (cellsFrom ((accHeap s2).objs.size + 1) scope.names (clos X.env scope.names [])).lookup x = some c := fun {x} h {c} e => by
    refine lookup_of ?_ fun c' hc' => ?_
    · rw [cellsFrom_app]
      have := clos_has X.env scope.names h
      rw [e] at this
      exact List.mem_append_right _ this
    · rcases split hc' with ⟨_, q⟩ | ⟨_, q⟩
      · exact absurd (kinds_one S.nd h q) (by decide)
      · rw [e] at q; exact (Option.some.inj q).symm
  have ofKind : ∀ {x : Str} {k : NameKind}, (relabel scope X.env).names.lookup x = some k → (k = .local → (x, NameKind.local) ∈ scope.names) ∧ ((k = .cell ∨ k = .free) → (x, NameKind.cell) ∈ scope.names ∨ (x, NameKind.free) ∈ scope.names) := fun {x k} h => by
    rw [relabel_lookup] at h
    cases q : scope.names.lookup x with
    | none => rw [q] at h; cases h
    | some k0 =>
      rw [q] at h
      have hm := PySem.mem_of_lookup q
      have h' : (if (k0 == NameKind.free && X.env.scope.kind == .function && X.env.kindOf x == some .cell) = true then NameKind.cell else k0) = k := Option.some.inj h
      by_cases hc : (k0 == NameKind.free && X.env.scope.kind == .function && X.env.kindOf x == some .cell) = true
      · rw [if_pos hc] at h'
        have hk0 : k0 = .free := by
          rw [Bool.and_eq_true, Bool.and_eq_true] at hc
          simpa using hc.1.1
        subst hk0
        subst h'
        exact ⟨fun z => (nomatch z), fun _ => .inr hm⟩
      · rw [if_neg hc] at h'
        subst h'
        refine ⟨fun z => by rw [z] at hm; exact hm, fun z => ?_⟩
        rcases z with z | z
        · rw [z] at hm; exact .inl hm
        · rw [z] at hm; exact .inr hm
  have ownAt : ∀ {i : Nat} {x : Str} {k : NameKind}, X.N[i]? = some x → (x, k) ∈ scope.names → (k = .local ∨ k = .cell) → i ∈ is := fun {i x k} hN hm hkk => by
    refine S.own (x, i) ?_ ?_
    · rw [List.mem_zipIdx_iff_getElem?]; exact hN
    · have q : scope.names.lookup x = some k := lookup_of hm fun k' hk' => kinds_one S.nd hk' hm
      rcases hkk with z | z
      · subst z; exact .inl q
      · subst z; exact .inr q
  refine ⟨⟨I.ok.mod, S.kind, I.ok.glob, I.ok.blt, ?_, fun x y c h1 h2 => ?_, fun x hx => ?_, fun x c hx h => ?_, I.ok.hd, I.ok.frames, .inl rfl, fun b hb => ⟨?_, fun x c h => ?_⟩, I.bs, Nat.le_trans I.ok.bsz I.sz, fun b o e hb => ?_, fun b hb hx => ?_, I.stack, I.stkFree⟩,
    rfl, I.bare, Un.laid hk (Nat.le_refl _) I.fresh, ⟨fun _ => none, ?_, fun i x v h1 h2 h3 => ?_⟩, fun x c h => ?_, ?_, fun x c h => ?_, fun p hp => (nomatch hp), I3.hok, ?_⟩
  · show s2.heap.objs.size ≤ (accHeap s2).objs.size
    rw [hC]; exact Nat.le_succ _
  · -- inj
    have h1' := PySem.mem_of_lookup h1
    have h2' := PySem.mem_of_lookup h2
    rcases split h1' with ⟨a1, _⟩ | ⟨_, b1⟩ <;> rcases split h2' with ⟨a2, _⟩ | ⟨_, b2⟩
    · exact name_of_addr ck.apart a1 a2
    · exact absurd rfl (big_ne (big a1) (small b2))
    · exact absurd rfl (big_ne (big a2) (small b1))
    · exact I.ok.inj x y c b1 b2
  · -- has
    have hx' : (relabel scope X.env).names.lookup x = some .cell ∨ (relabel scope X.env).names.lookup x = some .free := hx
    have hh : (x, NameKind.cell) ∈ scope.names ∨ (x, NameKind.free) ∈ scope.names := by
      rcases hx' with q | q
      · exact (ofKind q).2 (.inl rfl)
      · exact (ofKind q).2 (.inr rfl)
    rcases hh with q | q
    · obtain ⟨c, hc⟩ := cellsFrom_has scope.names ((accHeap s2).objs.size + 1) q
      refine ⟨c, lookup_of (by show (x, c) ∈ cellsFrom _ _ _; rw [cellsFrom_app]; exact List.mem_append_left _ hc) fun c' hc' => ?_⟩
      rcases split hc' with ⟨a1, _⟩ | ⟨b1, _⟩
      · have hnd : ∀ {l : List (Str × NameKind)} {n : Nat} {c c' : Addr}, (l.map (·.1)).Nodup → (x, c) ∈ cellsFrom n l [] → (x, c') ∈ cellsFrom n l [] → c' = c := by
          intro l
          induction l with
          | nil => intro n c c' _ h _; exact (by simp [cellsFrom] at h)
          | cons p r ih =>
            intro n c c' nd h h'
            obtain ⟨y, k⟩ := p
            rw [List.map_cons, List.nodup_cons] at nd
            unfold cellsFrom at h h'
            by_cases hk : (k == NameKind.cell) = true
            · rw [if_pos hk, cellsFrom_app] at h h'
              rcases List.mem_append.mp h with g | g <;> rcases List.mem_append.mp h' with g' | g'
              · exact ih nd.2 g g'
              · have e : (x, c') = (y, n) := by simpa using g'
                have e1 : x = y := congrArg Prod.fst e
                exact absurd (List.mem_map.mpr ⟨_, cellsFrom_mem _ _ g, e1⟩) nd.1
              · have e : (x, c) = (y, n) := by simpa using g
                have e1 : x = y := congrArg Prod.fst e
                exact absurd (List.mem_map.mpr ⟨_, cellsFrom_mem _ _ g', e1⟩) nd.1
              · have e : (x, c) = (y, n) := by simpa using g
                have e' : (x, c') = (y, n) := by simpa using g'
                exact (congrArg Prod.snd e').trans (congrArg Prod.snd e).symm
            · rw [if_neg hk] at h h'
              exact ih nd.2 h h'
        exact hnd S.nd hc a1
      · exact absurd (kinds_one S.nd q b1) (by decide)
    · obtain ⟨c, hc⟩ := hcl _ q rfl
      exact ⟨c, freeAt q hc⟩
  · -- cab
    have hx' : scope.names.lookup x = some .cell := of_decide_eq_true hx
    rcases split (PySem.mem_of_lookup h) with ⟨a1, _⟩ | ⟨b1, _⟩
    · exact big_le (big a1)
    · exact absurd (kinds_one S.nd (PySem.mem_of_lookup hx') b1) (by decide)
  · -- exf
    obtain ⟨o, e⟩ := ho b hb
    show b ≠ (accHeap s2).objs.size
    rw [hC]; exact lt_ne1 (Heap.lt_size e)
  · obtain ⟨o, e⟩ := ho b hb
    have hlt := Heap.lt_size e
    rcases split (PySem.mem_of_lookup h) with ⟨a1, _⟩ | ⟨_, b1⟩
    · exact big_ne (big a1) hlt
    · exact (hf b hb).2.2.2.2.1 x c b1
  · -- noex
    rcases (hf b hb).2.2.2.1 with z | z
    · exact I.ok.noex b o e z
    · have h1 := Heap.lt_size e
      have h2 := I.ok.bsz
      exact absurd (Nat.lt_of_lt_of_le h1 (Nat.le_trans h2 z)) (Nat.lt_irrefl _)
  · -- exfs
    rcases List.mem_cons.mp (I.stkSub b hx) with e | e
    · exact (hf b hb).2.1 e
    · exact (hf b hb).2.2.1 e
  · -- the block's names
    show (blockHeap s2 scope).Ns (accHeap s2).objs.size fun _ => none
    exact (Heap.Ns.new (accHeap s2) (.type "dict")).keeps (pushCells_keeps _ _)
  · -- loc
    have hv := blank_weak is h2
    have nown : ∀ k, (k = .local ∨ k = .cell) → (x, k) ∉ scope.names := fun k hkk hm => blank_at is (ownAt h1 hm hkk) h2
    have h3' : (relabel scope X.env).names.lookup x = some .local ∨ (relabel scope X.env).names.lookup x = some .cell ∨ (relabel scope X.env).names.lookup x = some .free := h3
    have hfree : (x, NameKind.free) ∈ scope.names := by
      rcases h3' with q | q | q
      · exact absurd ((ofKind q).1 rfl) (nown _ (.inl rfl))
      · exact ((ofKind q).2 (.inl rfl)).resolve_left (nown _ (.inr rfl))
      · exact ((ofKind q).2 (.inr rfl)).resolve_left (nown _ (.inr rfl))
    have hkind := S.fr _ hfree rfl
    obtain ⟨m, _, hl⟩ := I.loc
    obtain ⟨u, r, l⟩ := hl i x v h1 hv (.inr hkind)
    refine ⟨u, r, .inr ⟨?_, ?_⟩⟩
    · rcases h3' with q | q
      · exact absurd ((ofKind q).1 rfl) (nown _ (.inl rfl))
      · exact q
    · rcases l with ⟨k, _⟩ | ⟨_, c, e, z⟩
      · have k' : X.env.scope.names.lookup x = some .local := k
        rcases hkind with q | q <;> (rw [k'] at q; cases q)
      · exact ⟨c, freeAt hfree e, z.keeps hk⟩
  · -- cell
    rcases split (PySem.mem_of_lookup h) with ⟨a1, _⟩ | ⟨_, b1⟩
    · exact ⟨none, (ck.empty x c a1).1⟩
    · obtain ⟨v, z⟩ := I.cell x c b1
      exact ⟨v, z.keeps hk⟩
  · show upd H2 s2.heap.objs.size (.lst []) (accHeap s2).objs.size = none
    rw [upd_ne (by rw [hC]; exact Nat.succ_ne_self _)]
    exact I.hok.fresh (by rw [hC]; exact Nat.le_succ _)
  · -- freeC
    show upd H2 s2.heap.objs.size (.lst []) c = none
    rcases split (PySem.mem_of_lookup h) with ⟨a1, _⟩ | ⟨_, b1⟩
    · rw [upd_ne (big_ne0 (big a1))]
      exact I.hok.fresh (big_le (big a1))
    · rw [upd_ne (Nat.ne_of_lt (small b1))]
      exact I.freeC x c b1
  · show (blank is σ).length = X.N.length
    rw [blank_length]; exact I.len
theorem comp_done {C : Addr} {pins' : List (Addr × Obj)} {σ' : St} {H' : Hp} {s' : Shared} (I : Inv X pins σ H2 s2) (hf : ∀ b ∈ fp, FpOk X pins H2 b) (J : Inv (compX X scope C s2 H2 fp) pins' σ' H' s') : Inv X pins σ H' s' :=
  I.call' J.os J.base J.hok J.bare fun b hb => let ⟨_, f1, _, f3, f4, f5⟩ := hf b hb; ⟨f3, f1, f4, f5⟩
end
theorem newEnv_comp {M : Model} {A : Around} {E : Value → Shared → Prop} {s : Shared} {scope : Scope} {g : Addr} {cl : List (Str × Addr)} {qual : Str} {env : Env} {Q : Env → Shared → Prop}
    (h : Q { scope := scope, locals := s.heap.objs.size, globals := g, cells := cellsFrom (s.heap.objs.size + 1) scope.names cl, qual := qual, func := none, code := env.code, frame := env.frame, builtins := env.builtins }
      { s with heap := pushCells (s.heap.push { cls := .type "dict", data := .dict #[] }) scope.names }) :
    wpAny M A (newFunctionEnv scope g cl [] qual none .none (some env)) Q E s := by
  simp only [newFunctionEnv, Option.isSome_some, if_true]
  refine wpAny_bind (wpAny_alloc ?_)
  refine wpAny_bind (wpAny_layCells _ (fun name kind cells => by cases hkc : kind == NameKind.cell <;> simp [hkc]) _ _ _ _ ?_)
  rw [show ({ s with heap := s.heap.push { cls := .type "dict", data := .dict #[] } } : Shared).heap.objs.size = s.heap.objs.size + 1 from Heap.size_push ..]
  refine wpAny_bind ?_
  rw [List.forIn_nil]
  exact wpAny_pure (wpAny_pure h)
noncomputable def PIfs (X : Cx) (ifs : List Expr) (t : TT) : Prop :=
  ∀ (pins : List (Addr × Obj)) (s : Shared) (σ : St) (H : Hp) (Q : Bool → Hp → Prop), Inv X pins σ H s → t σ H Q →
    wpAny (model X.prog X.w) X.A (forIn ifs true fun c r => if r = true then do let ok ← isTrue c X.env (eval c X.env); pure (ForInStep.yield ok) else pure (ForInStep.yield r)) (TP X pins σ Q) X.xe s
noncomputable def tYes : TT := fun _ H Q => Q true H
theorem pifs_nil {X : Cx} : PIfs X [] tYes := fun _ _ _ H _ I h => wpAny_tests_nil ⟨H, I, h⟩
theorem pifs_one {X : Cx} {c : Expr} {t : TT} (h : PT X c t) : PIfs X [c] t := fun pins s σ H Q I hw => wpAny_tests_one (h pins s σ H Q I hw)
theorem compLoop_own {prog : Program} {w : World} {A : Around} {R : Result → Shared → Prop} {s : Shared} {elt target iter : Expr} {ifs : List Expr} {scope : Scope} {pos : Pos} {it acc : Value} {env : Env} (I : Nat → Shared → Prop)
    (turn : ∀ n s, I n s → wpAny (model prog w) A (pyNext it) (fun r s₁ => match r with
      | none => R (.ok .next) s₁
      | some v => wpAny (model prog w) A (letOwnedTupleGo target it v) (fun _ s₀ => wpAny (model prog w) A (assign target env v) (fun _ s₂ =>
          wpAny (model prog w) A (forIn ifs true fun c r => if r = true then do let ok ← isTrue c env (eval c env); pure (ForInStep.yield ok) else pure (ForInStep.yield r)) (fun ok s₃ =>
            if ok = true then wpAny (model prog w) A (eval elt env) (fun x s₄ =>
              wpAny (model prog w) A (call (.builtin "list.append") [acc, x]) (fun _ s₅ => ∃ m, m < n ∧ I m s₅) (fun _ _ => False) s₄) (fun _ _ => False) s₃
            else ∃ m, m < n ∧ I m s₃) (fun _ _ => False) s₂) (fun _ _ => False) s₀) (fun _ _ => False) s₁) (fun _ _ => False) s)
    (n : Nat) (h : I n s) :
    codeAny (model prog w) A (.compLoop (.ListComp elt [⟨target, iter, ifs, 0⟩] scope pos) 0 it acc env) R s := by
  refine codeAny_loop rfl I (fun n s hI => ?_) n h
  show wpAny _ A ((compTurn (.ListComp elt [⟨target, iter, ifs, 0⟩] scope pos) 0 it acc env).onRaise (fun x => do noteFrame x env; theTreesLotGoes x)) _ _ s
  refine wpAny_noted ?_
  rw [compTurn_list]
  refine wpAny_bind (wpAny_standAt (wpAny_bind (wpAny_mono (turn n s hI) (fun r s₁ h₁ => ?_) fun _ _ h' => h'.elim)))
  cases r with
  | none => exact wpAny_pure h₁
  | some v =>
    refine wpAny_bind (wpAny_mono h₁ (fun _ s₀ h₀ => ?_) fun _ _ h' => h'.elim)
    refine wpAny_bind (wpAny_mono h₀ (fun _ s₂ h₂ => wpAny_bind (wpAny_mono h₂ (fun ok s₃ h₃ => ?_) fun _ _ h' => h'.elim)) fun _ _ h' => h'.elim)
    cases ok with
    | false => exact wpAny_pure ⟨rfl, h₃⟩
    | true =>
      exact wpAny_bind (wpAny_bind (wpAny_mono h₃ (fun x s₄ h₄ => wpAny_bind (wpAny_mono h₄ (fun _ s₅ h₅ => wpAny_pure (wpAny_pure ⟨rfl, h₅⟩)) fun _ _ h' => h'.elim)) fun _ _ h' => h'.elim))
noncomputable def Wk (σ σ' : St) : Prop := σ'.length = σ.length ∧ ∀ (i : Nat) (v : V), σ[i]? = some (some v) → σ'[i]? = some (some v)
noncomputable def tComp (wi : TI) (is : List Nat) (g : TG) (tt : TT) (te : TE) : TE := fun σ H Q => wi σ H fun J H1 => ∀ D, H1 D = none → ∃ W : Nat → Nat → Hp → Prop, (∃ m, W 0 m (upd H1 D (.lst []))) ∧ ∀ i m H, W i m H →
  (J.stop i H ∧ Q (.ref D) H) ∨ (J.go i H ∧ ∀ x H', J.yld i H x H' → g x (blank is σ) H' fun σ2 H2 => Wk (blank is σ) σ2 ∧ tt σ2 H2 fun k H3 =>
    if k = true then te σ2 H3 fun v H4 => ∃ vs, H4 D = some (.lst vs) ∧ vs.length < sizeLine ∧ ∃ m', m' < m ∧ W (i + 1) m' (upd H4 D (.lst (vs ++ [v]))) else ∃ m', m' < m ∧ W (i + 1) m' H3)
section
variable {X : Cx} {tg iter elt : Expr} {ifs : List Expr} {scope : Scope} {pos : Pos} {wi : TI} {is : List Nat} {g : TG} {tt : TT} {te : TE}
theorem comp_core {use : Option (Value → Sem Unit)} {Qr : Value → Shared → Prop} {cpos : Pos} (hc : X.calm = true) (S : CompScope X scope is) (hi : PI X tg iter wi)
    (hb : ∀ C s2 H2 fp, PG (compX X scope C s2 H2 fp) tg g ∧ PIfs (compX X scope C s2 H2 fp) ifs tt ∧ PE (compX X scope C s2 H2 fp) elt te)
    (hs : ∀ x, foldedSetIterable iter X.env x = pure x)
    {pins : List (Addr × Obj)} {s : Shared} {σ : St} {H : Hp} {Q : VK} (I : Inv X pins σ H s) (h : tComp wi is g tt te σ H Q)
    (fin : ∀ D C H' s', Inv X pins σ H' s' → (∃ m, s'.heap.Ns C m) → FpOk X pins H' C → Q (.ref D) H' → compPost (model X.prog X.w) X.A X.xe use Qr (.ref D) C (.ok .next) s') :
    wpAny (model X.prog X.w) X.A (comprehension (.ListComp elt [⟨tg, iter, ifs, 0⟩] scope pos) scope X.env cpos (newList []) false (eval iter X.env) use) Qr X.xe s := by
  have hnames : ∀ x ∈ scope.names, x.2 = .local → scope.names.lookup x.1 = some .local := fun x hx hl => by
    obtain ⟨n, k⟩ := x
    have hl' : k = .local := hl
    subst hl'
    exact lookup_of hx fun k' hk' => kinds_one S.nd hk' hx
  refine wpAny_comprehension_free (use := use) rfl hs (closureFor_eq (S.closed I.ok)) S.kind hnames (thn (hi pins s σ H _ I h) fun v s1 h1 => thn h1 fun itv s2 h2 => ?_)
  obtain ⟨it, fp, tn, J, H2, e, I2, T, st2, f2, R⟩ := h2
  subst e
  obtain ⟨W, ⟨m0, w0⟩, turn⟩ := R s2.heap.objs.size I2.fresh
  refine wpAny_newObj_type (newEnv_comp ?_)
  have hobj : ∀ b ∈ fp, ∃ o, s2.heap.get? b = some o := fun b hb => let ⟨o, e, _⟩ := T.obj 0 _ st2 b hb; ⟨o, e⟩
  have J0 := inv_comp (scope := scope) I2 S f2 hobj
  have hk : ∀ b u, s2.heap.get? b = some u → (blockHeap s2 scope).get? b = some u := fun b u e => pushCells_keeps _ _ b u (Heap.get?_push_of_some _ (Heap.get?_push_of_some _ e))
  have hC : (accHeap s2).objs.size = s2.heap.objs.size + 1 := Heap.size_push ..
  obtain ⟨hg, ht, he⟩ := hb (accHeap s2).objs.size s2 H2 fp
  have stat : ∀ {H' : Hp}, (∀ b ∈ fp, H' b = none) → ∀ b ∈ fp, FpOk (compX X scope (accHeap s2).objs.size s2 H2 fp) [] H' b := fun hn b hb =>
    ⟨hn b hb, (J0.ok.exf b hb).1, J0.ok.exfs b hb, .inl hb, (J0.ok.exf b hb).2, fun p hp => (nomatch hp)⟩
  have st4 : tn 0 (blockHeap s2 scope) := T.keep _ _ _ st2 fun b _ o e => hk b o e
  have fr4 : ∀ b ∈ fp, upd H2 s2.heap.objs.size (.lst []) b = none := fun b hb => by
    obtain ⟨o, e⟩ := hobj b hb
    rw [upd_ne (Nat.ne_of_lt (Heap.lt_size e))]
    exact (f2 b hb).1
  have loop : codeAny (model X.prog X.w) X.A (.compLoop (.ListComp elt [⟨tg, iter, ifs, 0⟩] scope pos) 0 (.ref it) (.ref s2.heap.objs.size) (compX X scope (accHeap s2).objs.size s2 H2 fp).env)
      (compPost (model X.prog X.w) X.A X.xe use Qr (.ref s2.heap.objs.size) (accHeap s2).objs.size) { s2 with heap := blockHeap s2 scope } := by
    refine compLoop_own (fun n s' => ∃ i H', Inv (compX X scope (accHeap s2).objs.size s2 H2 fp) [] (blank is σ) H' s' ∧ tn i s'.heap ∧ (∀ b ∈ fp, H' b = none) ∧ W i n H') ?_ m0 ⟨0, _, J0, st4, fr4, w0⟩
    rintro n s3 ⟨i, H3, I3, st3, fr3, w3⟩
    rcases turn i n H3 w3 with ⟨stop, qn⟩ | ⟨go, step⟩
    · refine thn (T.done (compX X scope (accHeap s2).objs.size s2 H2 fp) rfl rfl rfl hc i [] s3 _ H3 (fun _ _ => False) I3 (stat fr3) st3 stop) fun r s4 ⟨hr, I4⟩ => ?_
      subst hr
      obtain ⟨m, hn, _⟩ := I4.loc
      have hlt : ∀ {b : Addr} {o : Obj}, s2.heap.get? b = some o → b ≠ (accHeap s2).objs.size := fun e => by
        rw [hC]; exact lt_ne1 (Heap.lt_size e)
      refine fin s2.heap.objs.size (accHeap s2).objs.size H3 s4 (comp_done I2 f2 I4) ⟨m, hn⟩ ?_ qn
      refine ⟨I4.free, ?_, I2.nofs (by rw [hC]; exact Nat.le_succ _), .inr (Nat.le_trans I2.sz (by rw [hC]; exact Nat.le_succ _)), fun x c e z => ?_, fun p hp => ?_⟩
      · rw [hC]; exact (lt_ne1 I2.lt).symm
      · obtain ⟨v, q⟩ := I2.cell x c e
        rw [hC] at z
        exact lt_ne1 q.lt z
      · exact hlt (I2.pin p hp).1
    · refine thn (T.item (compX X scope (accHeap s2).objs.size s2 H2 fp) rfl rfl rfl hc i [] s3 _ H3 (fun _ _ => False) I3 (stat fr3) st3 go) fun r s4 ⟨u, hr, h4⟩ => ?_
      subst hr
      refine thn h4 fun _ s5 ⟨x, H5, I5, r5, y5, st5, fr5⟩ => ?_
      have I5' := I5.pinned (stat fr5) (T.obj _ _ st5)
      refine thn (hg _ s5 _ H5 x u _ I5' r5 (step x H5 y5)) fun _ s6 ⟨σ6, H6, I6, wk6, q6⟩ => ?_
      refine thn (ht _ s6 σ6 H6 _ I6 q6) fun ok s7 ⟨H7, I7, q7⟩ => ?_
      have again : ∀ {H8 : Hp} {s8 : Shared}, Inv (compX X scope (accHeap s2).objs.size s2 H2 fp) ([] ++ pinsAt fp s5.heap) σ6 H8 s8 → (∃ m', m' < n ∧ W (i + 1) m' H8) →
          ∃ m, m < n ∧ ∃ i H', Inv (compX X scope (accHeap s2).objs.size s2 H2 fp) [] (blank is σ) H' s8 ∧ tn i s8.heap ∧ (∀ b ∈ fp, H' b = none) ∧ W i m H' := fun {H8 s8} I8 hw => by
        obtain ⟨m', hm, w8⟩ := hw
        refine ⟨m', hm, i + 1, H8, I8.unpinned.weak wk6.1.symm wk6.2, T.keep _ _ _ st5 fun b hb o e => (I8.pin (b, o) (List.mem_append_right _ (List.mem_append_right _ (mem_pinsAt hb e)))).1, fun b hb => ?_, w8⟩
        obtain ⟨o, e, d⟩ := T.obj _ _ st5 b hb
        exact (I8.pin (b, o) (List.mem_append_right _ (List.mem_append_right _ (mem_pinsAt hb e)))).2.1
      cases ok with
      | false => exact again I7 q7
      | true =>
        refine thn (he _ s7 σ6 H7 _ I7 q7) fun y s8 ⟨v, H8, I8, r8, vs, e8, z8, q8⟩ => ?_
        refine thn (mt_append (X := compX X scope (accHeap s2).objs.size s2 H2 fp) _ s8 σ6 H8 (.ref s2.heap.objs.size) [v] (.ref s2.heap.objs.size) [y] (fun _ H9 => ∃ m', m' < n ∧ W (i + 1) m' H9) I8 rfl (.cons r8 .nil) ⟨_, vs, v, rfl, rfl, e8, z8, q8⟩) fun _ s9 ⟨_, H9, I9, _, q9⟩ => ?_
        exact again I9 q9
  exact codeAny_compStart_list loop (T.self _ 0 _ _ _ st4 loop)
theorem pe_lcomp (hc : X.calm = true) (S : CompScope X scope is) (hi : PI X tg iter wi)
    (hb : ∀ C s2 H2 fp, PG (compX X scope C s2 H2 fp) tg g ∧ PIfs (compX X scope C s2 H2 fp) ifs tt ∧ PE (compX X scope C s2 H2 fp) elt te)
    (hs : ∀ x, foldedSetIterable iter X.env x = pure x := by intro _; rfl) : PE X (.ListComp elt [⟨tg, iter, ifs, 0⟩] scope pos) (tComp wi is g tt te) := by
  intro pins s σ H Q I h
  rw [eval_ListComp]
  refine comp_core (use := none) (Qr := EP X pins σ Q) hc S hi hb hs I h fun D C H' s' I' ⟨m, hn⟩ f q => ?_
  exact ⟨m, hn, fun h' hsb => ⟨.ref D, H', I'.turned (t' := s'.toks) (fun b o hb e => hsb.extBut b o hb e) f.1 f.2.1 f.2.2.2.1 f.2.2.2.2.1 f.2.2.2.2.2, rfl, q⟩⟩
theorem ps_setComp {j : Nat} {y : Str} {py spos : Pos} (hc : X.calm = true) (S : CompScope X scope is) (hi : PI X tg iter wi)
    (hb : ∀ C s2 H2 fp, PG (compX X scope C s2 H2 fp) tg g ∧ PIfs (compX X scope C s2 H2 fp) ifs tt ∧ PE (compX X scope C s2 H2 fp) elt te)
    (hN : X.N.Nodup) (hj : X.N[j]? = some y) (hy : X.env.scope.names.lookup y = some .local)
    (hsw : swapsWith (.ListComp elt [⟨tg, iter, ifs, 0⟩] scope pos) (some (.Name y py)) spos.line X.env = pure true)
    (hs : ∀ x, foldedSetIterable iter X.env x = pure x := by intro _; rfl) :
    PS X (.Assign [.Name y py] (.ListComp elt [⟨tg, iter, ifs, 0⟩] scope pos) spos) (tAsg (tComp wi is g tt te) (gName j)) := by
  intro pins s σ H D I h
  rw [exec_Assign_Name_used _ _ _ _ hsw]
  refine wpAny_bind (wpAny_standAt (wpAny_bind ?_))
  show wpAny _ _ (do let _ ← comprehension (.ListComp elt [⟨tg, iter, ifs, 0⟩] scope pos) scope X.env _ (newList []) false (eval iter X.env) (some (assign (.Name y py) X.env))) _ _ s
  refine wpAny_bind (wpAny_mono (comp_core (use := some (assign (.Name y py) X.env)) (Qr := fun _ s' => SP X pins D .next s') hc S hi hb hs I h fun A C H' s' I' hn f q => ?_) (fun _ s' hq => wpAny_pure (wpAny_pure hq)) fun _ _ e => e)
  obtain ⟨m, hn⟩ := hn
  show wpAny _ _ (assign (.Name y py) X.env (.ref A)) _ _ _
  obtain ⟨oC, es, ep, hoC, hdC, hrest⟩ := id hn
  have I'' := I'.pinned (fp := [C]) (fun b hb => by
    have e : b = C := by simpa using hb
    subst e; exact f) (fun b hb => by
    have e : b = C := by simpa using hb
    subst e
    exact ⟨oC, hoC, fun v z => by rw [hdC] at z; cases z⟩)
  refine wpAny_assign_Name (store_ok I'' hN hj (.inl hy) (v := .ref A) rfl (fun s'' J => ?_) (.inr hy))
  have hC : s''.heap.get? C = some oC := (J.pin (C, oC) (List.mem_append_right _ (List.mem_append_right _ (mem_pinsAt (by simp) hoC)))).1
  refine ⟨m, ⟨oC, es, ep, hC, hdC, hrest⟩, fun h' hsb => ⟨_, H', J.unpinned.turned (t' := s''.toks) (fun b o hb e => hsb.extBut b o hb e) f.1 f.2.1 f.2.2.2.1 f.2.2.2.2.1 f.2.2.2.2.2, q⟩⟩
end
end L2
end
section
namespace L2
open PySem PySem.Spec PyProof.Rows
noncomputable def scr (ns : List Int) : PyData := .dict [(.none, .list (ns.map PyData.int))]
theorem scr_inj {ns ms : List Int} (h : scr ns = scr ms) : ns = ms := by
  have h' : (ns.map PyData.int) = ms.map PyData.int := by
    injection h with h1
    injection h1 with h2 _
    injection h2 with _ h3
    injection h3
  induction ns generalizing ms with
  | nil => cases ms with
    | nil => rfl
    | cons _ _ => cases h'
  | cons n r ih => cases ms with
    | nil => cases h'
    | cons m r' =>
      rw [List.map_cons, List.map_cons] at h'
      injection h' with h1 h2
      injection h1 with h3
      subst h3
      rw [ih (by unfold scr; rw [h2]) h2]
noncomputable def ScL (K : PySem.W.Frag) (H : Hp) (a : Addr) (xs : List V) : Prop :=
  (∃ o, H a = some (.frz o (.lst xs))) ∨
    ∃ (o : Obj) (its : Array Value) (n : Nat), K.lookup a = some o ∧ o.cls = .type "list" ∧ o.dict = none ∧ o.data = .seq its n ∧ its.size ≤ sizeLine ∧ Vals xs its.toList
theorem ScL.sq {K : PySem.W.Frag} {H : Hp} {a : Addr} {vs : List V} (h : ScL K H a vs) : SqL K H a vs := h.imp .inr id
noncomputable def keyOf : PyData → Option Key
  | .int n => some (.inl n)
  | .str x => some (.inr x)
  | _ => none
noncomputable def excD (C : Addr) : PyData := .dict [(.list [], .int (C : Nat))]
noncomputable def xcP (a C : Addr) : Heap → Prop := fun h => ∃ oe, h.get? a = some oe ∧ oe.cls = .ref C
mutual
noncomputable def Rep (K : PySem.W.Frag) (A : Addr → Prop) (H : Hp) : PyData → V → Prop
  | .none, v => v = .non
  | .bool b, v => v = .bl b
  | .int i, v => v = .int i
  | .str x, v => v = .str x
  | .list xs, v => ∃ a vs, v = .ref a ∧ ¬ A a ∧ H a = some (.lst vs) ∧ Reps K A H xs vs
  | .tuple xs, v => ∃ a vs, v = .ref a ∧ H a = some (.tup vs) ∧ Reps K A H xs vs
  | .dict kvs, v => (∃ a ns, v = .ref a ∧ PyData.dict kvs = scr ns ∧ ScL K H a (ns.map V.int)) ∨ (∃ a us o, v = .ref a ∧ H a = some (.frz o (.dK us)) ∧ RepsK K A H kvs us) ∨ (∃ a C o, v = .ref a ∧ PyData.dict kvs = excD C ∧ H a = some (.frz o (.ext (xcP a C))))
noncomputable def Reps (K : PySem.W.Frag) (A : Addr → Prop) (H : Hp) : List PyData → List V → Prop
  | [], vs => vs = []
  | x :: xs, vs => ∃ v r, vs = v :: r ∧ Rep K A H x v ∧ Reps K A H xs r
noncomputable def RepsK (K : PySem.W.Frag) (A : Addr → Prop) (H : Hp) : List (PyData × PyData) → List (Key × V) → Prop
  | [], us => us = []
  | p :: r, us => ∃ κ v us', us = (κ, v) :: us' ∧ keyOf p.1 = some κ ∧ RepP K A H p v ∧ RepsK K A H r us'
noncomputable def RepP (K : PySem.W.Frag) (A : Addr → Prop) (H : Hp) : PyData × PyData → V → Prop
  | (_, x), v => Rep K A H x v
end
variable {K : PySem.W.Frag} {A A' : Addr → Prop} {H H' : Hp}
structure Kp (A A' : Addr → Prop) (H H' : Hp) : Prop where
  l : ∀ a vs, ¬ A a → H a = some (.lst vs) → ¬ A' a ∧ H' a = some (.lst vs)
  t : ∀ a vs, H a = some (.tup vs) → H' a = some (.tup vs)
  f : ∀ a o u, H a = some (.frz o u) → H' a = some (.frz o u)
mutual
theorem Rep.kp (k : Kp A A' H H') : ∀ (d : PyData) (v : V), Rep K A H d v → Rep K A' H' d v
  | .none, _, h => h
  | .bool _, _, h => h
  | .int _, _, h => h
  | .str _, _, h => h
  | .list xs, _, h => by
    obtain ⟨a, vs, h1, h2, h3, h4⟩ := h
    exact ⟨a, vs, h1, (k.l a vs h2 h3).1, (k.l a vs h2 h3).2, Reps.kp k xs vs h4⟩
  | .tuple xs, _, h => by
    obtain ⟨a, vs, h1, h3, h4⟩ := h
    exact ⟨a, vs, h1, k.t a vs h3, Reps.kp k xs vs h4⟩
  | .dict kvs, _, h => by
    rcases h with ⟨a, ns, h1, h2, h3⟩ | ⟨a, us, o, h1, h3, h4⟩ | ⟨a, C, o, h1, h2, h3⟩
    · exact .inl ⟨a, ns, h1, h2, h3.imp (fun ⟨o, z⟩ => ⟨o, k.f _ _ _ z⟩) id⟩
    · exact .inr (.inl ⟨a, us, o, h1, k.f _ _ _ h3, RepsK.kp k kvs us h4⟩)
    · exact .inr (.inr ⟨a, C, o, h1, h2, k.f _ _ _ h3⟩)
theorem Reps.kp (k : Kp A A' H H') : ∀ (ds : List PyData) (vs : List V), Reps K A H ds vs → Reps K A' H' ds vs
  | [], _, h => h
  | x :: xs, _, h => by
    obtain ⟨v, r, h1, h2, h3⟩ := h
    exact ⟨v, r, h1, Rep.kp k x v h2, Reps.kp k xs r h3⟩
theorem RepsK.kp (k : Kp A A' H H') : ∀ (ds : List (PyData × PyData)) (us : List (Key × V)), RepsK K A H ds us → RepsK K A' H' ds us
  | [], _, h => h
  | p :: r, _, h => by
    obtain ⟨κ, v, us', h1, h2, h3, h4⟩ := h
    exact ⟨κ, v, us', h1, h2, RepP.kp k p v h3, RepsK.kp k r us' h4⟩
theorem RepP.kp (k : Kp A A' H H') : ∀ (p : PyData × PyData) (v : V), RepP K A H p v → RepP K A' H' p v
  | (_, x), v, h => Rep.kp k x v h
end
theorem Kp.mono (e : Same H H') : Kp A A H H' := ⟨fun a _ h q => ⟨h, e a _ q⟩, fun a _ q => e a _ q, fun a _ _ q => e a _ q⟩
theorem Kp.avoid (e : ∀ a, A' a → A a) : Kp A A' H H := ⟨fun a _ h q => ⟨fun z => h (e a z), q⟩, fun a _ q => q, fun a _ _ q => q⟩
noncomputable def MutO : HO → Prop
  | .lst _ => True
  | .dK _ => True
  | _ => False
theorem Kp.upd {a : Addr} {o u : HO} (hA : A a) (ha : H a = some u) (hm : MutO u) : Kp A A H (L2.upd H a o) :=
  ⟨fun b _ h q => ⟨h, by rw [upd_ne (fun z : b = a => h (z ▸ hA))]; exact q⟩,
    fun b _ q => by rw [upd_ne (fun z : b = a => by rw [z, ha] at q; cases q; exact hm)]; exact q, fun b _ _ q => by rw [upd_ne (fun z : b = a => by rw [z, ha] at q; cases q; exact hm)]; exact q⟩
theorem Kp.fresh {a : Addr} (hn : H a = none) : Kp A (fun b => A b ∨ b = a) H H :=
  ⟨fun b _ h q => ⟨fun z => z.elim h fun y => (by rw [y, hn] at q; cases q), q⟩, fun a _ q => q, fun a _ _ q => q⟩
theorem Rep.mono (e : Same H H') : ∀ (d : PyData) (v : V), Rep K A H d v → Rep K A H' d v := Rep.kp (.mono e)
theorem Reps.mono (e : Same H H') : ∀ (d : List PyData) (v : List V), Reps K A H d v → Reps K A H' d v := Reps.kp (.mono e)
theorem Rep.avoid (e : ∀ a, A' a → A a) : ∀ (d : PyData) (v : V), Rep K A H d v → Rep K A' H d v := Rep.kp (.avoid e)
theorem Reps.avoid (e : ∀ a, A' a → A a) : ∀ (d : List PyData) (v : List V), Reps K A H d v → Reps K A' H d v := Reps.kp (.avoid e)
theorem Rep.upd {a : Addr} {o u : HO} (hA : A a) (ha : H a = some u) (hm : MutO u := by trivial) : ∀ (d : PyData) (v : V), Rep K A H d v → Rep K A (L2.upd H a o) d v := Rep.kp (.upd hA ha hm)
theorem Reps.upd {a : Addr} {o u : HO} (hA : A a) (ha : H a = some u) (hm : MutO u := by trivial) : ∀ (d : List PyData) (v : List V), Reps K A H d v → Reps K A (L2.upd H a o) d v := Reps.kp (.upd hA ha hm)
theorem RepsK.upd {a : Addr} {o u : HO} (hA : A a) (ha : H a = some u) (hm : MutO u := by trivial) : ∀ (d : List (PyData × PyData)) (v : List (Key × V)), RepsK K A H d v → RepsK K A (L2.upd H a o) d v := RepsK.kp (.upd hA ha hm)
theorem Rep.fresh {a : Addr} (hn : H a = none) : ∀ (d : PyData) (v : V), Rep K A H d v → Rep K (fun b => A b ∨ b = a) H d v := Rep.kp (.fresh hn)
theorem Reps.fresh {a : Addr} (hn : H a = none) : ∀ (d : List PyData) (v : List V), Reps K A H d v → Reps K (fun b => A b ∨ b = a) H d v := Reps.kp (.fresh hn)
theorem Rep.up {d : PyData} {v : V} (h : Rep K A H d v) (e : Same H H') : Rep K A H' d v := Rep.mono e d v h
theorem Reps.up {d : List PyData} {v : List V} (h : Reps K A H d v) (e : Same H H') : Reps K A H' d v := Reps.mono e d v h
theorem RepsK.up {d : List (PyData × PyData)} {v : List (Key × V)} (h : RepsK K A H d v) (e : Same H H') : RepsK K A H' d v := RepsK.kp (.mono e) d v h
theorem Rep.av {d : PyData} {v : V} (h : Rep K A H d v) (e : ∀ a, A' a → A a) : Rep K A' H d v := Rep.avoid e d v h
theorem Reps.av {d : List PyData} {v : List V} (h : Reps K A H d v) (e : ∀ a, A' a → A a) : Reps K A' H d v := Reps.avoid e d v h
theorem RepsK.av {d : List (PyData × PyData)} {v : List (Key × V)} (h : RepsK K A H d v) (e : ∀ a, A' a → A a) : RepsK K A' H d v := RepsK.kp (.avoid e) d v h
theorem Reps.length : ∀ {ds : List PyData} {vs : List V}, Reps K A H ds vs → ds.length = vs.length
  | [], _, h => by cases h; rfl
  | x :: xs, _, h => by
    obtain ⟨v, r, rfl, h2, h3⟩ := h
    rw [List.length_cons, List.length_cons, Reps.length h3]
theorem RepsK.length : ∀ {ds : List (PyData × PyData)} {vs : List (Key × V)}, RepsK K A H ds vs → ds.length = vs.length
  | [], _, h => by cases h; rfl
  | x :: xs, _, h => by
    obtain ⟨κ, v, r, rfl, h2, h3, h4⟩ := h
    rw [List.length_cons, List.length_cons, RepsK.length h4]
theorem RepsK.append : ∀ {ds es : List (PyData × PyData)} {vs ws : List (Key × V)}, RepsK K A H ds vs → RepsK K A H es ws → RepsK K A H (ds ++ es) (vs ++ ws)
  | [], _, _, _, h, h' => by cases h; exact h'
  | x :: xs, _, _, _, h, h' => by
    obtain ⟨κ, v, r, rfl, h2, h3, h4⟩ := h
    exact ⟨κ, v, _, rfl, h2, h3, RepsK.append h4 h'⟩
theorem Reps.get : ∀ {ds : List PyData} {vs : List V} {i : Nat} {v : V}, Reps K A H ds vs → vs[i]? = some v → ∃ d, ds[i]? = some d ∧ Rep K A H d v
  | [], _, _, _, h, e => by cases h; cases e
  | x :: xs, _, i, v, h, e => by
    obtain ⟨w, r, rfl, h2, h3⟩ := h
    cases i with
    | zero => cases e; exact ⟨x, rfl, h2⟩
    | succ i => exact Reps.get (i := i) h3 (by simpa using e)
theorem Reps.at : ∀ {ds : List PyData} {vs : List V} {i : Nat} {d : PyData}, Reps K A H ds vs → ds[i]? = some d → ∃ v, vs[i]? = some v ∧ Rep K A H d v
  | [], _, _, _, h, e => by cases e
  | x :: xs, _, i, d, h, e => by
    obtain ⟨w, r, rfl, h2, h3⟩ := h
    cases i with
    | zero => cases e; exact ⟨w, rfl, h2⟩
    | succ i => exact Reps.at (i := i) h3 (by simpa using e)
theorem Reps.append : ∀ {ds es : List PyData} {vs ws : List V}, Reps K A H ds vs → Reps K A H es ws → Reps K A H (ds ++ es) (vs ++ ws)
  | [], _, _, _, h, h' => by cases h; exact h'
  | x :: xs, _, _, _, h, h' => by
    obtain ⟨v, r, rfl, h2, h3⟩ := h
    exact ⟨v, _, rfl, h2, Reps.append h3 h'⟩
theorem Reps.one {d : PyData} {v : V} (h : Rep K A H d v) : Reps K A H [d] [v] := ⟨v, [], rfl, h, rfl⟩
theorem Reps.take : ∀ {ds : List PyData} {vs : List V} (n : Nat), Reps K A H ds vs → Reps K A H (ds.take n) (vs.take n)
  | [], _, n, h => by cases h; rw [List.take_nil, List.take_nil]; rfl
  | x :: xs, _, 0, h => rfl
  | x :: xs, _, n + 1, h => by
    obtain ⟨v, r, rfl, h2, h3⟩ := h
    exact ⟨v, _, rfl, h2, Reps.take n h3⟩
theorem Reps.drop : ∀ {ds : List PyData} {vs : List V} (n : Nat), Reps K A H ds vs → Reps K A H (ds.drop n) (vs.drop n)
  | [], _, n, h => by cases h; rw [List.drop_nil, List.drop_nil]; rfl
  | x :: xs, _, 0, h => h
  | x :: xs, _, n + 1, h => by
    obtain ⟨v, r, rfl, h2, h3⟩ := h
    exact Reps.drop n h3
theorem Reps.set : ∀ {ds : List PyData} {vs : List V} (n : Nat) {d : PyData} {v : V}, Reps K A H ds vs → Rep K A H d v → Reps K A H (ds.set n d) (vs.set n v)
  | [], _, n, _, _, h, _ => by cases h; rfl
  | x :: xs, _, 0, _, _, h, h' => by
    obtain ⟨v, r, rfl, h2, h3⟩ := h
    exact ⟨_, r, rfl, h', h3⟩
  | x :: xs, _, n + 1, _, _, h, h' => by
    obtain ⟨v, r, rfl, h2, h3⟩ := h
    exact ⟨v, _, rfl, h2, Reps.set n h3 h'⟩
noncomputable def iD (ns : List Int) : List PyData := ns.map .int
theorem Reps.iD : ∀ (ns : List Int), Reps K A H (L2.iD ns) (ns.map V.int)
  | [] => rfl
  | n :: r => ⟨_, _, rfl, rfl, Reps.iD r⟩
theorem Reps.iD_eq : ∀ {ns : List Int} {vs : List V}, Reps K A H (L2.iD ns) vs → vs = ns.map V.int
  | [], _, h => h
  | n :: r, _, h => by
    obtain ⟨v, s, rfl, h2, h3⟩ := h
    rw [Reps.iD_eq h3, h2]; rfl
section
variable {X : Cx} {pins : List (Addr × Obj)} {σ : St} {s : Shared}
mutual
theorem rep_reads (I : Inv X pins σ H s) : ∀ (d : PyData) (v : V) (u : Value), d.canLay0 = true → Rep X.K A H d v → RelV v u → ∃ as, Reads s.heap u d as
  | .none, _, _, _, h, r => by cases h; cases r; exact ⟨_, .none⟩
  | .bool _, _, _, _, h, r => by cases h; cases r; exact ⟨_, .bool _⟩
  | .int _, _, _, _, h, r => by cases h; obtain ⟨t, rfl⟩ := r; exact ⟨_, .int _ _⟩
  | .str _, _, _, _, h, r => by cases h; obtain ⟨t, rfl⟩ := r; exact ⟨_, .str _ _⟩
  | .list xs, _, _, c, h, r => by
    obtain ⟨a, vs, rfl, _, h3, h4⟩ := h
    cases r
    obtain ⟨its, rv, ⟨o, n, e, hc, hd, hs⟩, _⟩ := I.list (SqL.of h3)
    obtain ⟨as, q⟩ := reps_reads I xs vs its c h4 rv
    exact ⟨_, .list e hc hs (by simpa using q)⟩
  | .tuple xs, _, _, c, h, r => by
    obtain ⟨a, vs, rfl, h3, h4⟩ := h
    cases r
    obtain ⟨its, rv, ⟨o, e, hc, n, hs⟩, _⟩ := I.tuple (SqT.of h3)
    obtain ⟨as, q⟩ := reps_reads I xs vs its c h4 rv
    exact ⟨_, .tuple e hc hs (by simpa using q)⟩
  | .dict _, _, _, c, _, _ => nomatch c
theorem reps_reads (I : Inv X pins σ H s) : ∀ (ds : List PyData) (vs : List V) (us : List Value), PyData.canLayAll0 ds = true → Reps X.K A H ds vs → Vals vs us → ∃ as, ReadsAll s.heap us ds as
  | [], _, _, _, h, r => by cases h; cases r; exact ⟨_, .nil⟩
  | x :: xs, _, _, c, h, r => by
    have c' : x.canLay0 = true ∧ PyData.canLayAll0 xs = true := by simpa [PyData.canLayAll0] using c
    obtain ⟨v, w, rfl, h2, h3⟩ := h
    cases r with
    | cons r1 r2 =>
      obtain ⟨as, q⟩ := rep_reads I x v _ c'.1 h2 r1
      obtain ⟨bs, q'⟩ := reps_reads I xs w _ c'.2 h3 r2
      exact ⟨_, .cons q q'⟩
end
end
inductive OT where
  | sh (d : PyData)
  | l (xs : List OT)
  | t (xs : List OT)
  | d (kvs : List (PyData × OT))
inductive Cont where
  | l (xs : List PyData)
  | d (kvs : List (PyData × PyData))
  | n (t : OT)
inductive Ent where
  | no
  | sh (d : PyData)
  /-- a thing that no one else holds: it may be written; where it stands, if that is asked -/
  | own (oa : Option Addr) (c : Cont)
noncomputable abbrev Ent.ow (xs : List PyData) : Ent := .own none (.l xs)
noncomputable abbrev Ent.od (kvs : List (PyData × PyData)) : Ent := .own none (.d kvs)
noncomputable abbrev Dn := List Ent
mutual
noncomputable def RepO (K : PySem.W.Frag) (A : Addr → Prop) (H : Hp) : OT → V → List Addr → Prop
  | .sh d, v, as => as = [] ∧ Rep K A H d v
  | .l xs, v, as => ∃ a vs bs, v = .ref a ∧ as = a :: bs ∧ H a = some (.lst vs) ∧ RepOs K A H xs vs bs
  | .t xs, v, as => ∃ a vs, v = .ref a ∧ H a = some (.tup vs) ∧ RepOs K A H xs vs as
  | .d kvs, v, as => ∃ a us bs, v = .ref a ∧ as = a :: bs ∧ H a = some (.dK us) ∧ RepOK K A H kvs us bs
noncomputable def RepOs (K : PySem.W.Frag) (A : Addr → Prop) (H : Hp) : List OT → List V → List Addr → Prop
  | [], vs, as => vs = [] ∧ as = []
  | x :: xs, vs, as => ∃ v r bs cs, vs = v :: r ∧ as = bs ++ cs ∧ RepO K A H x v bs ∧ RepOs K A H xs r cs
noncomputable def RepOK (K : PySem.W.Frag) (A : Addr → Prop) (H : Hp) : List (PyData × OT) → List (Key × V) → List Addr → Prop
  | [], us, as => us = [] ∧ as = []
  | p :: r, us, as => ∃ κ v us' bs cs, us = (κ, v) :: us' ∧ as = bs ++ cs ∧ keyOf p.1 = some κ ∧ RepOP K A H p v bs ∧ RepOK K A H r us' cs
noncomputable def RepOP (K : PySem.W.Frag) (A : Addr → Prop) (H : Hp) : PyData × OT → V → List Addr → Prop
  | (_, x), v, as => RepO K A H x v as
end
mutual
theorem RepO.kp (k : Kp A A' H H') : ∀ (t : OT) (v : V) (as : List Addr), (∀ a ∈ as, ∀ o, H a = some o → H' a = some o) → RepO K A H t v as → RepO K A' H' t v as
  | .sh d, v, as, _, h => ⟨h.1, Rep.kp k d v h.2⟩
  | .l xs, _, _, q, h => by
    obtain ⟨a, vs, bs, h1, rfl, h3, h4⟩ := h
    exact ⟨a, vs, bs, h1, rfl, q a List.mem_cons_self _ h3, RepOs.kp k xs vs bs (fun b hb => q b (List.mem_cons_of_mem _ hb)) h4⟩
  | .t xs, _, _, q, h => by
    obtain ⟨a, vs, h1, h3, h4⟩ := h
    exact ⟨a, vs, h1, k.t a vs h3, RepOs.kp k xs vs _ q h4⟩
  | .d kvs, _, _, q, h => by
    obtain ⟨a, us, bs, h1, rfl, h3, h4⟩ := h
    exact ⟨a, us, bs, h1, rfl, q a List.mem_cons_self _ h3, RepOK.kp k kvs us bs (fun b hb => q b (List.mem_cons_of_mem _ hb)) h4⟩
theorem RepOs.kp (k : Kp A A' H H') : ∀ (ts : List OT) (vs : List V) (as : List Addr), (∀ a ∈ as, ∀ o, H a = some o → H' a = some o) → RepOs K A H ts vs as → RepOs K A' H' ts vs as
  | [], _, _, _, h => h
  | x :: xs, _, _, q, h => by
    obtain ⟨v, r, bs, cs, h1, rfl, h2, h3⟩ := h
    exact ⟨v, r, bs, cs, h1, rfl, RepO.kp k x v bs (fun a ha => q a (List.mem_append_left _ ha)) h2, RepOs.kp k xs r cs (fun a ha => q a (List.mem_append_right _ ha)) h3⟩
theorem RepOK.kp (k : Kp A A' H H') : ∀ (ts : List (PyData × OT)) (us : List (Key × V)) (as : List Addr), (∀ a ∈ as, ∀ o, H a = some o → H' a = some o) → RepOK K A H ts us as → RepOK K A' H' ts us as
  | [], _, _, _, h => h
  | p :: r, _, _, q, h => by
    obtain ⟨κ, v, us', bs, cs, h1, rfl, h2, h3, h4⟩ := h
    exact ⟨κ, v, us', bs, cs, h1, rfl, h2, RepOP.kp k p v bs (fun a ha => q a (List.mem_append_left _ ha)) h3, RepOK.kp k r us' cs (fun a ha => q a (List.mem_append_right _ ha)) h4⟩
theorem RepOP.kp (k : Kp A A' H H') : ∀ (p : PyData × OT) (v : V) (as : List Addr), (∀ a ∈ as, ∀ o, H a = some o → H' a = some o) → RepOP K A H p v as → RepOP K A' H' p v as
  | (_, x), v, as, q, h => RepO.kp k x v as q h
end
mutual
theorem RepO.muts : ∀ (t : OT) (v : V) (as : List Addr), RepO K A H t v as → ∀ a ∈ as, ∃ o, H a = some o ∧ MutO o
  | .sh d, v, as, h, a, ha => by rw [h.1] at ha; cases ha
  | .l xs, _, _, h, a, ha => by
    obtain ⟨b, vs, bs, h1, rfl, h3, h4⟩ := h
    rcases List.mem_cons.mp ha with rfl | ha
    · exact ⟨_, h3, trivial⟩
    · exact RepOs.muts xs vs bs h4 a ha
  | .t xs, _, _, h, a, ha => by
    obtain ⟨b, vs, h1, h3, h4⟩ := h
    exact RepOs.muts xs vs _ h4 a ha
  | .d kvs, _, _, h, a, ha => by
    obtain ⟨b, us, bs, h1, rfl, h3, h4⟩ := h
    rcases List.mem_cons.mp ha with rfl | ha
    · exact ⟨_, h3, trivial⟩
    · exact RepOK.muts kvs us bs h4 a ha
theorem RepOs.muts : ∀ (ts : List OT) (vs : List V) (as : List Addr), RepOs K A H ts vs as → ∀ a ∈ as, ∃ o, H a = some o ∧ MutO o
  | [], _, _, h, a, ha => by rw [h.2] at ha; cases ha
  | x :: xs, _, _, h, a, ha => by
    obtain ⟨v, r, bs, cs, h1, rfl, h2, h3⟩ := h
    rcases List.mem_append.mp ha with ha | ha
    · exact RepO.muts x v bs h2 a ha
    · exact RepOs.muts xs r cs h3 a ha
theorem RepOK.muts : ∀ (ts : List (PyData × OT)) (us : List (Key × V)) (as : List Addr), RepOK K A H ts us as → ∀ a ∈ as, ∃ o, H a = some o ∧ MutO o
  | [], _, _, h, a, ha => by rw [h.2] at ha; cases ha
  | p :: r, _, _, h, a, ha => by
    obtain ⟨κ, v, us', bs, cs, h1, rfl, h2, h3, h4⟩ := h
    rcases List.mem_append.mp ha with ha | ha
    · exact RepOP.muts p v bs h3 a ha
    · exact RepOK.muts r us' cs h4 a ha
theorem RepOP.muts : ∀ (p : PyData × OT) (v : V) (as : List Addr), RepOP K A H p v as → ∀ a ∈ as, ∃ o, H a = some o ∧ MutO o
  | (_, x), v, as, h, a, ha => RepO.muts x v as h a ha
end
mutual
noncomputable def OT.dat : OT → Option PyData
  | .sh z => some z
  | .l xs => (OT.dats xs).map .list
  | .t xs => (OT.dats xs).map .tuple
  | .d _ => none
noncomputable def OT.dats : List OT → Option (List PyData)
  | [] => some []
  | x :: xs => match OT.dat x, OT.dats xs with
    | some z, some zs => some (z :: zs)
    | _, _ => none
end
mutual
theorem RepO.rep : ∀ (t : OT) (d : PyData) (v : V) (as : List Addr), t.dat = some d → RepO K A H t v as → (∀ a ∈ as, ¬ A a) → Rep K A H d v
  | .sh _, d, v, as, e, h, _ => by cases e; exact h.2
  | .l xs, d, v, as, e, h, na => by
    rw [OT.dat] at e
    obtain ⟨ds, e1, rfl⟩ := Option.map_eq_some_iff.mp e
    obtain ⟨a, vs, bs, rfl, rfl, h3, h4⟩ := h
    exact ⟨a, vs, rfl, na a List.mem_cons_self, h3, RepOs.rep xs ds vs bs e1 h4 fun b hb => na b (List.mem_cons_of_mem _ hb)⟩
  | .t xs, d, v, as, e, h, na => by
    rw [OT.dat] at e
    obtain ⟨ds, e1, rfl⟩ := Option.map_eq_some_iff.mp e
    obtain ⟨a, vs, rfl, h3, h4⟩ := h
    exact ⟨a, vs, rfl, h3, RepOs.rep xs ds vs as e1 h4 na⟩
  | .d _, _, _, _, e, _, _ => by cases e
theorem RepOs.rep : ∀ (ts : List OT) (ds : List PyData) (vs : List V) (as : List Addr), OT.dats ts = some ds → RepOs K A H ts vs as → (∀ a ∈ as, ¬ A a) → Reps K A H ds vs
  | [], _, _, _, e, h, _ => by cases e; exact h.1
  | x :: xs, ds, vs, as, e, h, na => by
    obtain ⟨v, r, bs, cs, rfl, rfl, h2, h3⟩ := h
    rw [OT.dats] at e
    cases e1 : OT.dat x with
    | none => rw [e1] at e; cases e
    | some d =>
      cases e2 : OT.dats xs with
      | none => rw [e1, e2] at e; cases e
      | some es =>
        rw [e1, e2] at e
        cases e
        exact ⟨v, r, rfl, RepO.rep x d v bs e1 h2 fun a ha => na a (List.mem_append_left _ ha), RepOs.rep xs es r cs e2 h3 fun a ha => na a (List.mem_append_right _ ha)⟩
end
noncomputable def Cont.dat : Cont → Option PyData
  | .l xs => some (.list xs)
  | .d _ => none
  | .n t => t.dat
noncomputable def RepC (K : PySem.W.Frag) (A : Addr → Prop) (H : Hp) : Cont → V → List Addr → Prop
  | .l xs, v, as => ∃ a vs, v = .ref a ∧ as = [a] ∧ H a = some (.lst vs) ∧ Reps K A H xs vs
  | .d kvs, v, as => ∃ a us, v = .ref a ∧ as = [a] ∧ H a = some (.dK us) ∧ RepsK K A H kvs us
  | .n t, v, as => RepO K A H t v as
theorem RepC.muts {c : Cont} {v : V} {as : List Addr} (h : RepC K A H c v as) : ∀ a ∈ as, ∃ o, H a = some o ∧ MutO o := by
  intro b hb
  cases c with
  | l xs => obtain ⟨a, vs, _, rfl, h1, _⟩ := h; rw [List.mem_singleton.mp hb]; exact ⟨_, h1, trivial⟩
  | d kvs => obtain ⟨a, vs, _, rfl, h1, _⟩ := h; rw [List.mem_singleton.mp hb]; exact ⟨_, h1, trivial⟩
  | n t => exact RepO.muts t v as h b hb
theorem RepC.kp (k : Kp A A' H H') {c : Cont} {v : V} {as : List Addr} (q : ∀ a ∈ as, ∀ o, H a = some o → H' a = some o) (h : RepC K A H c v as) : RepC K A' H' c v as := by
  cases c with
  | l xs => obtain ⟨a, vs, e, rfl, h1, r⟩ := h; exact ⟨a, vs, e, rfl, q a List.mem_cons_self _ h1, Reps.kp k _ _ r⟩
  | d kvs => obtain ⟨a, vs, e, rfl, h1, r⟩ := h; exact ⟨a, vs, e, rfl, q a List.mem_cons_self _ h1, RepsK.kp k _ _ r⟩
  | n t => exact RepO.kp k t v as q h
theorem RepC.up {c : Cont} {v : V} {as : List Addr} (h : RepC K A H c v as) (e : Same H H') : RepC K A H' c v as := h.kp (.mono e) fun a _ o z => e a o z
theorem RepC.av {c : Cont} {v : V} {as : List Addr} (h : RepC K A H c v as) (e : ∀ a, A' a → A a) : RepC K A' H c v as := h.kp (.avoid e) fun _ _ _ z => z
theorem RepC.rep {c : Cont} {d : PyData} {v : V} {as : List Addr} (e : c.dat = some d) (h : RepC K A H c v as) (na : ∀ a ∈ as, ¬ A a) : Rep K A H d v := by
  cases c with
  | l xs => cases e; obtain ⟨a, vs, rfl, rfl, ha, r⟩ := h; exact ⟨a, vs, rfl, na a List.mem_cons_self, ha, r⟩
  | d kvs => cases e
  | n t => exact RepO.rep t d v as e h na
noncomputable def Av (own : Nat → List Addr) (B : Addr → Prop) : Addr → Prop := fun a => B a ∨ ∃ i, a ∈ own i
structure EnvO (K : PySem.W.Frag) (Hb : Hp) (own : Nat → List Addr) (B : Addr → Prop) (H : Hp) (σ : St) (δ : Dn) : Prop where
  base : Same Hb H
  len : σ.length = δ.length
  bb : ∀ a, B a → Hb a ≠ none
  ofr : ∀ i a, a ∈ own i → Hb a = none
  oex : ∀ (i : Nat) (a : Addr), a ∈ own i → ∃ oa c, δ[i]? = some (Ent.own oa c)
  ond : ∀ i, (own i).Nodup
  inj : ∀ i j a, a ∈ own i → a ∈ own j → i = j
  sh : ∀ (i : Nat) (d : PyData), δ[i]? = some (Ent.sh d) → ∃ v, σ[i]? = some (some v) ∧ Rep K (Av own B) H d v
  ow : ∀ (i : Nat) (oa : Option Addr) (c : Cont), δ[i]? = some (Ent.own oa c) → ∃ v, σ[i]? = some (some v) ∧ (∀ b, oa = some b → v = .ref b) ∧ RepC K (Av own B) H c v (own i)
section
variable {Hb : Hp} {own : Nat → List Addr} {B : Addr → Prop} {σ : St} {δ : Dn}
theorem EnvO.owl (E : EnvO K Hb own B H σ δ) {i : Nat} {oa : Option Addr} {xs : List PyData} (h : δ[i]? = some (Ent.own oa (.l xs))) : ∃ a vs, a ∈ own i ∧ σ[i]? = some (some (.ref a)) ∧ H a = some (.lst vs) ∧ Reps K (Av own B) H xs vs := by
  obtain ⟨v, h1, _, a, vs, rfl, h2, h3, h4⟩ := E.ow i oa _ h
  exact ⟨a, vs, by rw [h2]; simp, h1, h3, h4⟩
theorem EnvO.owd (E : EnvO K Hb own B H σ δ) {i : Nat} {oa : Option Addr} {xs : List (PyData × PyData)} (h : δ[i]? = some (Ent.own oa (.d xs))) : ∃ a vs, a ∈ own i ∧ σ[i]? = some (some (.ref a)) ∧ H a = some (.dK vs) ∧ RepsK K (Av own B) H xs vs := by
  obtain ⟨v, h1, _, a, vs, rfl, h2, h3, h4⟩ := E.ow i oa _ h
  exact ⟨a, vs, by rw [h2]; simp, h1, h3, h4⟩
theorem EnvO.mono (E : EnvO K Hb own B H σ δ) (e : Same H H') : EnvO K Hb own B H' σ δ :=
  ⟨E.base.trans e, E.len, E.bb, E.ofr, E.oex, E.ond, E.inj, fun i d h => let ⟨v, h1, h2⟩ := E.sh i d h; ⟨v, h1, h2.up e⟩,
    fun i oa c h => let ⟨v, h1, h2, h3⟩ := E.ow i oa c h; ⟨v, h1, h2, h3.up e⟩⟩
theorem EnvO.muts (E : EnvO K Hb own B H σ δ) : ∀ i a, a ∈ own i → ∃ o, H a = some o ∧ MutO o := fun i a h => by
  obtain ⟨oa, c, q⟩ := E.oex i a h
  obtain ⟨v, _, _, h4⟩ := E.ow i oa c q
  exact h4.muts a h
theorem EnvO.alive (E : EnvO K Hb own B H σ δ) {a : Addr} (h : Av own B a) : H a ≠ none := by
  intro z
  rcases h with h | ⟨i, h⟩
  · exact E.bb a h (E.base.free z)
  · obtain ⟨o, e, _⟩ := E.muts i a h
    rw [z] at e; cases e
theorem EnvO.new (E : EnvO K Hb own B H σ δ) {a : Addr} (h : H a = none) : ¬ Av own B a := fun z => E.alive z h
noncomputable def unown (own : Nat → List Addr) (i : Nat) : Nat → List Addr := fun j => if j = i then [] else own j
theorem unown_some {own : Nat → List Addr} {i j : Nat} {a : Addr} (h : a ∈ unown own i j) : j ≠ i ∧ a ∈ own j := by
  unfold unown at h
  by_cases e : j = i
  · rw [if_pos e] at h; cases h
  · rw [if_neg e] at h; exact ⟨e, h⟩
theorem unown_ne {own : Nat → List Addr} {i j : Nat} (h : j ≠ i) : unown own i j = own j := if_neg h
theorem unown_nd {own : Nat → List Addr} (h : ∀ i, (own i).Nodup) (i : Nat) : ∀ j, (unown own i j).Nodup := fun j => by
  unfold unown
  split
  · exact List.nodup_nil
  · exact h j
theorem unown_av {own : Nat → List Addr} {B : Addr → Prop} {i : Nat} : ∀ a, Av (unown own i) B a → Av own B a := fun a h => by
  rcases h with h | ⟨j, h⟩
  · exact .inl h
  · exact .inr ⟨j, (unown_some h).2⟩
theorem EnvO.setSh (E : EnvO K Hb own B H σ δ) {i : Nat} {v : V} {d : PyData} (r : Rep K (Av own B) H d v) : EnvO K Hb (unown own i) B H (σ.set i (some v)) (δ.set i (.sh d)) := by
  refine ⟨E.base, by rw [List.length_set, List.length_set]; exact E.len, E.bb, fun j a h => E.ofr j a (unown_some h).2, fun j a h => ?_, unown_nd E.ond i, fun j k a h h' => E.inj j k a (unown_some h).2 (unown_some h').2, fun j e h => ?_, fun j oa c h => ?_⟩
  · obtain ⟨oa, c, q⟩ := E.oex j a (unown_some h).2
    exact ⟨oa, c, by rw [List.getElem?_set_ne (Ne.symm (unown_some h).1)]; exact q⟩
  · by_cases ji : j = i
    · subst ji
      by_cases hl : j < δ.length
      · rw [List.getElem?_set_self hl] at h
        cases h
        exact ⟨v, by rw [List.getElem?_set_self (by rw [E.len]; exact hl)], r.av unown_av⟩
      · rw [List.getElem?_eq_none (by rw [List.length_set]; omega)] at h
        cases h
    · rw [List.getElem?_set_ne (Ne.symm ji)] at h
      obtain ⟨w, h1, h2⟩ := E.sh j e h
      exact ⟨w, by rw [List.getElem?_set_ne (Ne.symm ji)]; exact h1, h2.av unown_av⟩
  · by_cases ji : j = i
    · subst ji
      by_cases hl : j < δ.length
      · rw [List.getElem?_set_self hl] at h
        cases h
      · rw [List.getElem?_eq_none (by rw [List.length_set]; omega)] at h
        cases h
    · rw [List.getElem?_set_ne (Ne.symm ji)] at h
      obtain ⟨v, h1, h2, h3⟩ := E.ow j oa c h
      exact ⟨v, by rw [List.getElem?_set_ne (Ne.symm ji)]; exact h1, h2, by rw [unown_ne ji]; exact h3.av unown_av⟩
noncomputable def hold (own : Nat → List Addr) (i : Nat) (as : List Addr) : Nat → List Addr := fun j => if j = i then as else own j
theorem EnvO.setOwC {H0 : Hp} (E : EnvO K Hb own B H0 σ δ) (e : Same H0 H) {i : Nat} {v : V} {as : List Addr} {c : Cont} (hi : i < δ.length) (hn : ∀ a ∈ as, H0 a = none) (hnd : as.Nodup)
    (r : RepC K (fun b => Av own B b ∨ b ∈ as) H c v as) : EnvO K Hb (hold own i as) B H (σ.set i (some v)) (δ.set i (.own none c)) := by
  have av : ∀ b, Av (hold own i as) B b → Av own B b ∨ b ∈ as := fun b h => by
    rcases h with h | ⟨j, h⟩
    · exact .inl (.inl h)
    · unfold hold at h
      by_cases e : j = i
      · rw [if_pos e] at h; exact .inr h
      · rw [if_neg e] at h; exact .inl (.inr ⟨j, h⟩)
  have tk : ∀ j b, b ∈ hold own i as j → (j = i ∧ b ∈ as) ∨ (j ≠ i ∧ b ∈ own j) := fun j b h => by
    unfold hold at h
    by_cases e : j = i
    · rw [if_pos e] at h; exact .inl ⟨e, h⟩
    · rw [if_neg e] at h; exact .inr ⟨e, h⟩
  have nw : ∀ b ∈ as, ¬ Av own B b := fun b hb => E.new (hn b hb)
  have kf : Kp (Av own B) (fun b => Av own B b ∨ b ∈ as) H0 H0 := ⟨fun b _ h q => ⟨fun z => z.elim h fun y => (by rw [hn b y] at q; cases q), q⟩, fun a _ q => q, fun a _ _ q => q⟩
  refine ⟨E.base.trans e, by rw [List.length_set, List.length_set]; exact E.len, E.bb, fun j b h => ?_, fun j b h => ?_, fun j => ?_, fun j k b h h' => ?_, fun j d h => ?_, fun j oa' c' h => ?_⟩
  · rcases tk j b h with ⟨_, h⟩ | ⟨_, h⟩
    · exact E.base.free (hn b h)
    · exact E.ofr j b h
  · rcases tk j b h with ⟨rfl, _⟩ | ⟨ne, h⟩
    · exact ⟨none, c, by rw [List.getElem?_set_self hi]⟩
    · obtain ⟨oa, ys, q⟩ := E.oex j b h
      exact ⟨oa, ys, by rw [List.getElem?_set_ne (Ne.symm ne)]; exact q⟩
  · unfold hold
    split
    · exact hnd
    · exact E.ond j
  · rcases tk j b h with ⟨rfl, hb⟩ | ⟨ne, hj⟩
    · rcases tk k _ h' with ⟨rfl, _⟩ | ⟨ne', h'⟩
      · rfl
      · exact absurd (.inr ⟨k, h'⟩) (nw b hb)
    · rcases tk k _ h' with ⟨rfl, z⟩ | ⟨ne', h'⟩
      · exact absurd (.inr ⟨j, hj⟩) (nw b z)
      · exact E.inj j k b hj h'
  · by_cases ji : j = i
    · subst ji
      rw [List.getElem?_set_self hi] at h
      cases h
    · rw [List.getElem?_set_ne (Ne.symm ji)] at h
      obtain ⟨w, h1, h2⟩ := E.sh j d h
      exact ⟨w, by rw [List.getElem?_set_ne (Ne.symm ji)]; exact h1, ((Rep.kp kf _ _ h2).up e).av av⟩
  · by_cases ji : j = i
    · subst ji
      rw [List.getElem?_set_self hi] at h
      cases h
      exact ⟨v, by rw [List.getElem?_set_self (by rw [E.len]; exact hi)], fun _ z => (nomatch z), by unfold hold; rw [if_pos rfl]; exact r.av av⟩
    · rw [List.getElem?_set_ne (Ne.symm ji)] at h
      obtain ⟨w, h1, h2, h3⟩ := E.ow j oa' c' h
      exact ⟨w, by rw [List.getElem?_set_ne (Ne.symm ji)]; exact h1, h2, by unfold hold; rw [if_neg ji]; exact ((h3.kp kf fun _ _ _ z => z).up e).av av⟩
theorem EnvO.setOw {H0 : Hp} (E : EnvO K Hb own B H0 σ δ) (e : Same H0 H) {i : Nat} {a : Addr} {xs : List PyData} {vs : List V} (hi : i < δ.length) (hn : H0 a = none) (ha : H a = some (.lst vs))
    (r : Reps K (fun b => Av own B b ∨ b = a) H xs vs) : EnvO K Hb (hold own i [a]) B H (σ.set i (some (.ref a))) (δ.set i (.ow xs)) :=
  E.setOwC e (c := .l xs) hi (fun b hb => by rw [List.mem_singleton.mp hb]; exact hn) (by simp) ⟨a, vs, rfl, rfl, ha, r.av fun b h => h.imp id fun z => List.mem_singleton.mp z⟩
theorem EnvO.writeN (E : EnvO K Hb own B H σ δ) {i : Nat} {a : Addr} {oa : Option Addr} {c c' : Cont} {v : V} {o : HO} (hi : δ[i]? = some (.own oa c)) (hv : σ[i]? = some (some v)) (ho : a ∈ own i) (r : RepC K (Av own B) (L2.upd H a o) c' v (own i)) :
    EnvO K Hb own B (L2.upd H a o) σ (δ.set i (.own oa c')) := by
  obtain ⟨v', h1, h1', h4⟩ := E.ow i oa c hi
  rw [hv] at h1; cases h1
  have hA : Av own B a := .inr ⟨i, ho⟩
  obtain ⟨u, hu, hm⟩ := E.muts i a ho
  have hl : i < δ.length := (List.getElem?_eq_some_iff.mp hi).1
  have kp : Kp (Av own B) (Av own B) H (L2.upd H a o) := .upd hA hu hm
  refine ⟨fun b o q => ?_, by rw [List.length_set]; exact E.len, E.bb, E.ofr, fun j b h => ?_, E.ond, E.inj, fun j d h => ?_, fun j oa2 c2 h => ?_⟩
  · have ne : b ≠ a := fun z => by rw [z, E.ofr i a ho] at q; cases q
    rw [upd_ne ne]; exact E.base b o q
  · by_cases ji : j = i
    · subst ji; exact ⟨oa, c', by rw [List.getElem?_set_self hl]⟩
    · obtain ⟨oa2, c2, q⟩ := E.oex j b h
      exact ⟨oa2, c2, by rw [List.getElem?_set_ne (Ne.symm ji)]; exact q⟩
  · by_cases ji : j = i
    · subst ji
      rw [List.getElem?_set_self hl] at h
      cases h
    · rw [List.getElem?_set_ne (Ne.symm ji)] at h
      obtain ⟨w, k1, k2⟩ := E.sh j d h
      exact ⟨w, k1, Rep.kp kp d w k2⟩
  · by_cases ji : j = i
    · subst ji
      rw [List.getElem?_set_self hl] at h
      cases h
      exact ⟨v, hv, h1', r⟩
    · rw [List.getElem?_set_ne (Ne.symm ji)] at h
      obtain ⟨w, k1, k2, k4⟩ := E.ow j oa2 c2 h
      refine ⟨w, k1, k2, k4.kp kp fun b hb o q => ?_⟩
      have ne : b ≠ a := fun z => ji (E.inj j i a (z ▸ hb) ho)
      rw [upd_ne ne]; exact q
theorem EnvO.write (E : EnvO K Hb own B H σ δ) {i : Nat} {a : Addr} {oa : Option Addr} {xs ys : List PyData} {ws : List V} (hi : δ[i]? = some (.own oa (.l xs))) (ho : a ∈ own i) (r : Reps K (Av own B) H ys ws) :
    EnvO K Hb own B (L2.upd H a (.lst ws)) σ (δ.set i (.own oa (.l ys))) := by
  obtain ⟨v, h1, _, b, vs, rfl, h2, h3, h4⟩ := E.ow i oa _ hi
  have hb : a = b := by rw [h2] at ho; exact List.mem_singleton.mp ho
  subst hb
  exact E.writeN hi h1 ho ⟨a, ws, rfl, h2, upd_same, Reps.upd (A := Av own B) (.inr ⟨i, ho⟩) h3 trivial _ _ r⟩
theorem EnvO.writeD (E : EnvO K Hb own B H σ δ) {i : Nat} {a : Addr} {oa : Option Addr} {xs ys : List (PyData × PyData)} {ws : List (Key × V)} (hi : δ[i]? = some (.own oa (.d xs))) (ho : a ∈ own i) (r : RepsK K (Av own B) H ys ws) :
    EnvO K Hb own B (L2.upd H a (.dK ws)) σ (δ.set i (.own oa (.d ys))) := by
  obtain ⟨v, h1, _, b, vs, rfl, h2, h3, h4⟩ := E.ow i oa _ hi
  have hb : a = b := by rw [h2] at ho; exact List.mem_singleton.mp ho
  subst hb
  exact E.writeN hi h1 ho ⟨a, ws, rfl, h2, upd_same, RepsK.upd (A := Av own B) (.inr ⟨i, ho⟩) h3 trivial _ _ r⟩
theorem EnvO.forget (E : EnvO K Hb own B H σ δ) {i : Nat} : EnvO K Hb (unown own i) B H (σ.set i none) (δ.set i .no) := by
  refine ⟨E.base, by rw [List.length_set, List.length_set]; exact E.len, E.bb, fun j a h => E.ofr j a (unown_some h).2, fun j a h => ?_, unown_nd E.ond i, fun j k a h h' => E.inj j k a (unown_some h).2 (unown_some h').2, fun j e h => ?_, fun j oa c h => ?_⟩
  · obtain ⟨oa, xs, q⟩ := E.oex j a (unown_some h).2
    exact ⟨oa, xs, by rw [List.getElem?_set_ne (Ne.symm (unown_some h).1)]; exact q⟩
  · by_cases ji : j = i
    · subst ji
      by_cases hl : j < δ.length
      · rw [List.getElem?_set_self hl] at h; cases h
      · rw [List.getElem?_eq_none (by rw [List.length_set]; omega)] at h; cases h
    · rw [List.getElem?_set_ne (Ne.symm ji)] at h
      obtain ⟨w, h1, h2⟩ := E.sh j e h
      exact ⟨w, by rw [List.getElem?_set_ne (Ne.symm ji)]; exact h1, h2.av unown_av⟩
  · by_cases ji : j = i
    · subst ji
      by_cases hl : j < δ.length
      · rw [List.getElem?_set_self hl] at h; cases h
      · rw [List.getElem?_eq_none (by rw [List.length_set]; omega)] at h; cases h
    · rw [List.getElem?_set_ne (Ne.symm ji)] at h
      obtain ⟨v, h1, h2, h3⟩ := E.ow j oa c h
      exact ⟨v, by rw [List.getElem?_set_ne (Ne.symm ji)]; exact h1, h2, by rw [unown_ne ji]; exact h3.av unown_av⟩
noncomputable def keepB (own : Nat → List Addr) (H : Hp) : Hp := fun b => open Classical in if ∃ i, b ∈ own i then none else H b
theorem keepB_some {own : Nat → List Addr} {b : Addr} {o : HO} (h : keepB own H b = some o) : H b = some o ∧ ∀ i, b ∉ own i := by
  unfold keepB at h
  by_cases e : ∃ i, b ∈ own i
  · rw [if_pos e] at h; cases h
  · rw [if_neg e] at h; exact ⟨h, fun i z => e ⟨i, z⟩⟩
theorem keepB_of {own : Nat → List Addr} {b : Addr} {o : HO} (h : H b = some o) (n : ∀ i, b ∉ own i) : keepB own H b = some o := by
  unfold keepB
  rw [if_neg (fun ⟨i, z⟩ => n i z)]; exact h
theorem EnvO.rebase (E : EnvO K Hb own B H σ δ) : EnvO K (keepB own H) own B H σ δ := by
  refine ⟨fun b o h => (keepB_some h).1, E.len, fun a hB z => ?_, fun i a h => ?_, E.oex, E.ond, E.inj, E.sh, E.ow⟩
  · obtain ⟨o, q⟩ := Option.ne_none_iff_exists'.mp (E.bb a hB)
    have := keepB_of (own := own) (E.base a o q) fun i hi => by rw [E.ofr i a hi] at q; cases q
    rw [z] at this; cases this
  · unfold keepB
    rw [if_pos ⟨i, h⟩]
theorem EnvO.unbase {own' : Nat → List Addr} {σ' : St} {δ' : Dn} {H1 : Hp} (E : EnvO K Hb own B H σ δ) (E' : EnvO K (keepB own H) own' B H1 σ' δ') (hf : ∀ i a, a ∈ own' i → Hb a = none) : EnvO K Hb own' B H1 σ' δ' := by
  refine ⟨fun b o q => E'.base b o (keepB_of (E.base b o q) fun i hi => by rw [E.ofr i b hi] at q; cases q), E'.len, E.bb, hf, E'.oex, E'.ond, E'.inj, E'.sh, E'.ow⟩
theorem EnvO.unbase' {own' : Nat → List Addr} {σ' : St} {δ' : Dn} {H1 : Hp} (E : EnvO K Hb own B H σ δ) (E' : EnvO K (keepB own H) own' B H1 σ' δ') : EnvO K Hb own' B H1 σ' δ' :=
  E.unbase E' fun i a h => by
    have := E'.ofr i a h
    cases q : Hb a with
    | none => rfl
    | some o =>
      rw [keepB_of (E.base a o q) fun j hj => by rw [E.ofr j a hj] at q; cases q] at this
      cases this
end
end L2
end
section
namespace L2
open PySem PySem.Spec PyProof.Rows
noncomputable def tD (K : PySem.W.Frag) (δ : Dn) (d : PyData) : TE := fun σ H Q => ∃ Hb own B, EnvO K Hb own B H σ δ ∧ ∀ v H', Same H H' → Rep K (Av own B) H' d v → Q v H'
noncomputable def tF (K : PySem.W.Frag) (δ : Dn) (xs : List PyData) : TE := fun σ H Q => ∃ Hb own B, EnvO K Hb own B H σ δ ∧
  ∀ a vs H', Same H H' → H a = none → H' a = some (.lst vs) → Reps K (fun b => Av own B b ∨ b = a) H' xs vs → Q (.ref a) H'
noncomputable def tT (K : PySem.W.Frag) (δ : Dn) (b : Bool) : TT := fun σ H Q => ∃ Hb own B, EnvO K Hb own B H σ δ ∧ ∀ H', Same H H' → Q b H'
noncomputable def tL (K : PySem.W.Frag) (δ : Dn) (ds : List PyData) : TA := fun σ H Q => ∃ Hb own B, EnvO K Hb own B H σ δ ∧ ∀ vs H', Same H H' → Reps K (Av own B) H' ds vs → Q vs H'
noncomputable def EvD (X : Cx) (δ : Dn) (e : Expr) (d : PyData) : Prop := PE X e (tD X.K δ d)
noncomputable def EvF (X : Cx) (δ : Dn) (e : Expr) (xs : List PyData) : Prop := PE X e (tF X.K δ xs)
noncomputable def EtD (X : Cx) (δ : Dn) (e : Expr) (b : Bool) : Prop := PT X e (tT X.K δ b)
noncomputable def EwD (X : Cx) (δ : Dn) (e : Expr) (b : Bool) : Prop := PW X e (tT X.K δ b)
noncomputable def EaD (X : Cx) (δ : Dn) (es : List Expr) (ds : List PyData) : Prop := PA X es (tL X.K δ ds)
section
variable {X : Cx} {δ : Dn} {a b c e : Expr} {d da db : PyData} {pos : Pos} {xs ys : List PyData}
theorem ev_of {t : TE} (h : PE X e t) (ht : ∀ Hb own B σ H Q, EnvO X.K Hb own B H σ δ → (∀ v H', Same H H' → Rep X.K (Av own B) H' d v → Q v H') → t σ H Q) : EvD X δ e d :=
  fun pins s σ H Q I hh1 => Zz.a5 hh1 fun Hb own B E q => h pins s σ H Q I (ht Hb own B σ H Q E q)
theorem ef_of {t : TE} (h : PE X e t) (ht : ∀ Hb own B σ H Q, EnvO X.K Hb own B H σ δ → (∀ a vs H', Same H H' → H a = none → H' a = some (.lst vs) → Reps X.K (fun b => Av own B b ∨ b = a) H' xs vs → Q (.ref a) H') → t σ H Q) : EvF X δ e xs :=
  fun pins s σ H Q I hh2 => Zz.a5 hh2 fun Hb own B E q => h pins s σ H Q I (ht Hb own B σ H Q E q)
theorem et_of {t : TT} {k : Bool} (h : PT X e t) (ht : ∀ Hb own B σ H Q, EnvO X.K Hb own B H σ δ → (∀ H', Same H H' → Q k H') → t σ H Q) : EtD X δ e k :=
  fun pins s σ H Q I hh3 => Zz.a5 hh3 fun Hb own B E q => h pins s σ H Q I (ht Hb own B σ H Q E q)
theorem ev_f (h : EvF X δ e xs) : EvD X δ e (.list xs) := ev_of h fun Hb own B σ H Q E q => ⟨Hb, own, B, E, fun a vs H' s1 hn ha r => q _ _ s1 ⟨a, vs, rfl, E.new hn, ha, r.av fun _ z => .inl z⟩⟩
theorem ev_eq {d' : PyData} (h : EvD X δ e d) (q : d = d') : EvD X δ e d' := q ▸ h
theorem ef_eq (h : EvF X δ e xs) (q : xs = ys) : EvF X δ e ys := q ▸ h
theorem et_eq {k k' : Bool} (h : EtD X δ e k) (q : k = k') : EtD X δ e k' := q ▸ h
theorem ev_var (i : Nat) {x : Str} (hδ : δ[i]? = some (.sh d)) (hN : X.N[i]? = some x := by rfl) (hv : Vis X.env.scope x := by first | exact Or.inl rfl | exact Or.inr (Or.inl rfl) | exact Or.inr (Or.inr rfl)) (hd : (x == ("__debug__" : Str)) = false := by decide)
    (hcd : (x == ("__classdict__" : Str)) = false := by decide) : EvD X δ (.Name x pos) d :=
  ev_of (pe_var hN hv hd hcd) fun Hb own B σ H Q E q => let ⟨v, h1, h2⟩ := E.sh i d hδ; ⟨v, h1, q v H (Same.refl H) h2⟩
theorem ev_int {i j} : EvD X δ (.Constant (.int i) j pos) (.int i) := ev_of pe_int fun Hb own B σ H Q E q => q _ H (Same.refl H) rfl
theorem ev_bl {k j} : EvD X δ (.Constant (.bool k) j pos) (.bool k) := ev_of pe_bl fun Hb own B σ H Q E q => q _ H (Same.refl H) rfl
theorem ev_non {j} : EvD X δ (.Constant .none j pos) .none := ev_of pe_non fun Hb own B σ H Q E q => q _ H (Same.refl H) rfl
theorem ev_str {x j} : EvD X δ (.Constant (.str x) j pos) (.str x) := ev_of pe_str fun Hb own B σ H Q E q => q _ H (Same.refl H) rfl
theorem ev_bin {op : Operator} {r : R2} (ho : OpR X (binaryOp op) r) (ha : EvD X δ a da) (hb : EvD X δ b db)
    (hr : ∀ A x y H Q, Rep X.K A H da x → Rep X.K A H db y → (∀ v H', Same H H' → Rep X.K A H' d v → Q v H') → r x y H Q) : EvD X δ (.BinOp a op b pos) d :=
  ev_of (pe_op ho ha hb) fun Hb own B σ H Q E q => ⟨Hb, own, B, E, fun x H1 s1 rx => ⟨Hb, own, B, E.mono s1, fun y H2 s2 ry => hr _ x y H2 Q (rx.up s2) ry fun v H' s3 rv => q v H' ((s1.trans s2).trans s3) rv⟩⟩
theorem ev_i2 {op : Operator} {C : Int → Int → Prop} {g : Int → Int → Int} {i j : Int} (ho : OpR X (binaryOp op) (rI C fun i j => .int (g i j))) (ha : EvD X δ a (.int i)) (hb : EvD X δ b (.int j)) (hc : C i j) : EvD X δ (.BinOp a op b pos) (.int (g i j)) :=
  ev_bin ho ha hb fun A x y H Q rx ry q => ⟨i, j, rx, ry, hc, q _ H (Same.refl H) rfl⟩
theorem ev_i0 {op : Operator} {g : Int → Int → Int} {i j : Int} (ho : OpR X (binaryOp op) (rI0 fun i j => .int (g i j))) (ha : EvD X δ a (.int i)) (hb : EvD X δ b (.int j)) : EvD X δ (.BinOp a op b pos) (.int (g i j)) :=
  ev_bin ho ha hb fun A x y H Q rx ry q => ⟨i, j, rx, ry, q _ H (Same.refl H) rfl⟩
theorem ev_add {i j : Int} (ha : EvD X δ a (.int i)) (hb : EvD X δ b (.int j)) : EvD X δ (.BinOp a .Add b pos) (.int (i + j)) := ev_i0 op_add ha hb
theorem ev_sub {i j : Int} (ha : EvD X δ a (.int i)) (hb : EvD X δ b (.int j)) : EvD X δ (.BinOp a .Sub b pos) (.int (i - j)) := ev_i0 op_sub ha hb
theorem ev_mul {i j : Int} (ha : EvD X δ a (.int i)) (hb : EvD X δ b (.int j)) (hc : CMul i j) : EvD X δ (.BinOp a .Mult b pos) (.int (i * j)) := ev_i2 op_mul ha hb hc
theorem ev_mod {i j : Int} (ha : EvD X δ a (.int i)) (hb : EvD X δ b (.int j)) (hc : 0 < j) : EvD X δ (.BinOp a .Mod b pos) (.int (i % j)) := ev_i2 op_mod ha hb hc
theorem ev_fdiv {i j : Int} (ha : EvD X δ a (.int i)) (hb : EvD X δ b (.int j)) (hc : CDiv i j) : EvD X δ (.BinOp a .FloorDiv b pos) (.int (i / j)) := ev_i2 op_fdiv ha hb hc
theorem ev_neg {i : Int} (ha : EvD X δ a (.int i)) : EvD X δ (.UnaryOp .USub a pos) (.int (-i)) :=
  ev_of (pe_un un_neg ha) fun Hb own B σ H Q E q => ⟨Hb, own, B, E, fun x H1 s1 rx => ⟨i, rx, q _ H1 s1 rfl⟩⟩
theorem ev_cmp {op : CmpOp} {r : R2} (ho : OpR X (compareOp op) r) (ha : EvD X δ a da) (hb : EvD X δ b db) (hm : behindInMarks op b = false)
    (hr : ∀ A x y H Q, Rep X.K A H da x → Rep X.K A H db y → (∀ v H', Same H H' → Rep X.K A H' d v → Q v H') → r x y H Q) : EvD X δ (.Compare a [op] [b] pos) d :=
  ev_of (pe_cmpR ho ha hb hm) fun Hb own B σ H Q E q => ⟨Hb, own, B, E, fun x H1 s1 rx => ⟨Hb, own, B, E.mono s1, fun y H2 s2 ry => hr _ x y H2 Q (rx.up s2) ry fun v H' s3 rv => q v H' ((s1.trans s2).trans s3) rv⟩⟩
theorem et_cmp {op : CmpOp} {r : R2} {k : Bool} (ho : OpR X (compareOp op) r) (ha : EvD X δ a da) (hb : EvD X δ b db) (hm : behindInMarks op b = false)
    (hr : ∀ A x y H Q, Rep X.K A H da x → Rep X.K A H db y → (∀ v H', Same H H' → Rep X.K A H' (.bool k) v → Q v H') → r x y H Q) : EtD X δ (.Compare a [op] [b] pos) k :=
  et_of (pt_cmpR ho ha hb hm) fun Hb own B σ H Q E q => ⟨Hb, own, B, E, fun x H1 s1 rx => ⟨Hb, own, B, E.mono s1, fun y H2 s2 ry => hr _ x y H2 _ (rx.up s2) ry fun v H' s3 rv => ⟨k, rv, q H' ((s1.trans s2).trans s3)⟩⟩⟩
theorem cmp_i {g : Int → Int → Bool} {i j : Int} {A : Addr → Prop} {x y : V} {H : Hp} {Q : VK} (rx : Rep X.K A H (.int i) x) (ry : Rep X.K A H (.int j) y) (q : ∀ v H', Same H H' → Rep X.K A H' (.bool (g i j)) v → Q v H') : rI0 (fun i j => .bl (g i j)) x y H Q :=
  ⟨i, j, rx, ry, q _ H (Same.refl H) rfl⟩
theorem et_lt {i j : Int} (ha : EvD X δ a (.int i)) (hb : EvD X δ b (.int j)) : EtD X δ (.Compare a [.Lt] [b] pos) (decide (i < j)) := et_cmp op_lt ha hb (nomark _) fun _ _ _ _ _ rx ry q => cmp_i rx ry q
theorem et_gt {i j : Int} (ha : EvD X δ a (.int i)) (hb : EvD X δ b (.int j)) : EtD X δ (.Compare a [.Gt] [b] pos) (decide (j < i)) := et_cmp op_gt ha hb (nomark _) fun _ _ _ _ _ rx ry q => cmp_i (g := fun i j => decide (j < i)) rx ry q
noncomputable def rEqD (K : PySem.W.Frag) (u : Nat) (neg : Bool) : R2 := fun x y H Q => ∃ A da db, Rep K A H da x ∧ Rep K A H db y ∧ da.canLay0 = true ∧ db.canLay0 = true ∧ u + min da.depth db.depth < cLine ∧ Q (.bl (if neg then !PyData.eqv da db else PyData.eqv da db)) H
theorem op_eqD : OpR X (compareOp .Eq) (rEqD X.K X.A.units false) := by
  intro pins s σ H x y v u Q I rx ry h
  obtain ⟨A, da, db, h1, h2, c1, c2, hu, q⟩ := h
  obtain ⟨as, r1⟩ := rep_reads I da x v c1 h1 rx
  obtain ⟨bs, r2⟩ := rep_reads I db y u c2 h2 ry
  exact PySem.SeqAt.compareEq_reads r1 r2 c1 c2 hu (fin_bl I q rfl)
theorem et_val {k : Bool} (h : EvD X δ e (.bool k)) (he : ∀ whole, isTrue e X.env whole = (do let v ← whole; standAt e.pos; holding [v] (truthy v)) := by intro _; rfl) : EtD X δ e k :=
  et_of (pt_val h he) fun Hb own B σ H Q E q => ⟨Hb, own, B, E, fun v H' s1 r => ⟨k, r, q H' s1⟩⟩
theorem et_not {k : Bool} (h : EtD X δ e k) : EtD X δ (.UnaryOp .Not e pos) (!k) :=
  et_of (pt_not h) fun Hb own B σ H Q E q => ⟨Hb, own, B, E, fun H' s1 => q H' s1⟩
theorem et_w {k : Bool} (h : EwD X δ e k) : EtD X δ e k := fun pins s σ H Q I q => h _ pins s σ H Q I q
theorem ew_of {t : TT} {k : Bool} (h : PW X e t) (ht : ∀ Hb own B σ H Q, EnvO X.K Hb own B H σ δ → (∀ H', Same H H' → Q k H') → t σ H Q) : EwD X δ e k :=
  fun wh pins s σ H Q I hh4 => Zz.a5 hh4 fun Hb own B E q => h wh pins s σ H Q I (ht Hb own B σ H Q E q)
theorem ew_and1 {k : Bool} (h : EtD X δ a k) : EwD X δ (.BoolOp .And [a] pos) k := pw_and1 h
theorem ew_or1 {k : Bool} (h : EtD X δ a k) : EwD X δ (.BoolOp .Or [a] pos) k := pw_or1 h
theorem ew_and {k m : Bool} {rest : List Expr} (h : EtD X δ a k) (h2 : k = true → EwD X δ (.BoolOp .And (b :: rest) pos) m) : EwD X δ (.BoolOp .And (a :: b :: rest) pos) (k && m) := by
  cases k with
  | true => exact ew_of (pw_and h (h2 rfl)) fun Hb own B σ H Q E q => ⟨Hb, own, B, E, fun H' s1 => iteT (⟨Hb, own, B, E.mono s1, fun H2 s2 => q H2 (s1.trans s2)⟩)⟩
  | false =>
    refine ew_of (pw_and h (tB' := fun _ _ _ => False) fun _ _ _ _ _ _ _ z => z.elim) fun Hb own B σ H Q E q => ⟨Hb, own, B, E, fun H' s1 => iteF (q H' s1)⟩
theorem ew_or {k m : Bool} {rest : List Expr} (h : EtD X δ a k) (h2 : k = false → EwD X δ (.BoolOp .Or (b :: rest) pos) m) : EwD X δ (.BoolOp .Or (a :: b :: rest) pos) (k || m) := by
  cases k with
  | false => exact ew_of (pw_or h (h2 rfl)) fun Hb own B σ H Q E q => ⟨Hb, own, B, E, fun H' s1 => iteF (⟨Hb, own, B, E.mono s1, fun H2 s2 => q H2 (s1.trans s2)⟩)⟩
  | true =>
    refine ew_of (pw_or h (tB' := fun _ _ _ => False) fun _ _ _ _ _ _ _ z => z.elim) fun Hb own B σ H Q E q => ⟨Hb, own, B, E, fun H' s1 => iteT (q H' s1)⟩
theorem et_and {k m : Bool} (h : EtD X δ a k) (h2 : k = true → EtD X δ b m) : EtD X δ (.BoolOp .And [a, b] pos) (k && m) := et_w (ew_and h fun z => ew_and1 (h2 z))
theorem et_or {k m : Bool} (h : EtD X δ a k) (h2 : k = false → EtD X δ b m) : EtD X δ (.BoolOp .Or [a, b] pos) (k || m) := et_w (ew_or h fun z => ew_or1 (h2 z))
theorem et_and3 {k m n : Bool} (h : EtD X δ a k) (h2 : k = true → EtD X δ b m) (h3 : k = true → m = true → EtD X δ c n) : EtD X δ (.BoolOp .And [a, b, c] pos) (k && (m && n)) :=
  et_w (ew_and h fun z => ew_and (h2 z) fun y => ew_and1 (h3 z y))
theorem ev_and {k m : Bool} {rest : List Expr} (h : EvD X δ a (.bool k)) (h2 : k = true → EvD X δ (.BoolOp .And (b :: rest) pos) (.bool m)) : EvD X δ (.BoolOp .And (a :: b :: rest) pos) (.bool (k && m)) := by
  cases k with
  | true => exact ev_of (pe_and h (h2 rfl)) fun Hb own B σ H Q E q => ⟨Hb, own, B, E, fun v H' s1 r => ⟨true, r, iteT (⟨Hb, own, B, E.mono s1, fun w H2 s2 r2 => q w H2 (s1.trans s2) r2⟩)⟩⟩
  | false => exact ev_of (pe_and h (tb := fun _ _ _ => False) fun _ _ _ _ _ _ z => z.elim) fun Hb own B σ H Q E q => ⟨Hb, own, B, E, fun v H' s1 r => ⟨false, r, iteF (q _ H' s1 rfl)⟩⟩
theorem ev_one {op} (h : EvD X δ a d) : EvD X δ (.BoolOp op [a] pos) d := pe_one h
theorem ea_nil : EaD X δ [] [] := fun pos pins s σ H Q I hh5 => Zz.a5 hh5 fun Hb own B E q => pa_nil pos pins s σ H Q I (q [] H (Same.refl H) rfl)
theorem ea_cons {es : List Expr} {ds : List PyData} (h : EvD X δ e d) (hr : EaD X δ es ds) (hs : starEach (e :: es) X.env = (false, eval e X.env) :: starEach es X.env := by rfl) : EaD X δ (e :: es) (d :: ds) :=
  fun pos pins s σ H Q I hh6 => Zz.a5 hh6 fun Hb own B E q => pa_cons h hr hs pos pins s σ H Q I ⟨Hb, own, B, E, fun v H1 s1 r1 => ⟨Hb, own, B, E.mono s1, fun vs H2 s2 r2 => q _ H2 (s1.trans s2) ⟨v, vs, rfl, r1.up s2, r2⟩⟩⟩
theorem ef_list {es : List Expr} {ds : List PyData} (h : EaD X δ es ds) (hl : ds.length ≤ 1000 := by exact Nat.le_of_ble_eq_true rfl) : EvF X δ (.List es pos) ds :=
  ef_of (pe_lst h) fun Hb own B σ H Q E q => ⟨Hb, own, B, E, fun vs H1 s1 r => ⟨by rw [← r.length]; exact Nat.le_of_lt (small1000 hl), fun p hp => by
    have e1 : Same H1 (upd H1 p (.lst vs)) := fun b u z => by rw [upd_ne (ne_of_none z hp)]; exact z
    exact q p vs _ (s1.trans e1) (s1.free hp) upd_same ((Reps.fresh hp _ _ r).up e1)⟩⟩
end
end L2
end
section
namespace L2
open PySem PySem.Spec PyProof.Rows
section
variable {X : Cx} {δ : Dn} {a b c e : Expr} {d da db : PyData} {pos : Pos} {xs ys : List PyData}
theorem op_neD : OpR X (compareOp .NotEq) (rEqD X.K X.A.units true) := by
  intro pins s σ H x y v u Q I rx ry h
  obtain ⟨A, da, db, h1, h2, c1, c2, hu, q⟩ := h
  obtain ⟨as, r1⟩ := rep_reads I da x v c1 h1 rx
  obtain ⟨bs, r2⟩ := rep_reads I db y u c2 h2 ry
  exact PySem.SeqAt.compareNe_reads r1 r2 c1 c2 hu (fin_bl I q rfl)
noncomputable def rInD (K : PySem.W.Frag) (u : Nat) (neg : Bool) : R2 := fun x y H Q => ∃ A d xs, Rep K A H d x ∧ Rep K A H (.list xs) y ∧ d.canLay0 = true ∧ PyData.canLayAll0 xs = true ∧ u + 1 + min (PyData.depthAll xs) d.depth < cLine ∧
  Q (.bl (if neg then !xs.any fun y => PyData.eqv y d else xs.any fun y => PyData.eqv y d)) H
theorem op_inD : OpR X (compareOp .In) (rInD X.K X.A.units false) := by
  intro pins s σ H x y v u Q I rx ry h
  obtain ⟨A, d, xs, h1, h2, c1, c2, hu, q⟩ := h
  obtain ⟨as, r1⟩ := rep_reads I d x v c1 h1 rx
  obtain ⟨bs, r2⟩ := rep_reads I (.list xs) y u c2 h2 ry
  exact PySem.SeqAt.in_list_reads r2 r1 c2 c1 hu (fin_bl I q rfl)
theorem op_notInD : OpR X (compareOp .NotIn) (rInD X.K X.A.units true) := by
  intro pins s σ H x y v u Q I rx ry h
  obtain ⟨A, d, xs, h1, h2, c1, c2, hu, q⟩ := h
  obtain ⟨as, r1⟩ := rep_reads I d x v c1 h1 rx
  obtain ⟨bs, r2⟩ := rep_reads I (.list xs) y u c2 h2 ry
  exact PySem.SeqAt.notIn_list_reads r2 r1 c2 c1 hu (fin_bl I q rfl)
structure Sm (d : PyData) : Prop where
  lay : d.canLay0 = true
  dep : d.depth ≤ 20
theorem room20 {k : Nat} {A : Around} (hr : Room k A) {a b : Nat} (h : a ≤ 20) : A.units + min a b < cLine := by
  have := hr.units
  have := Nat.min_le_left a b
  omega
theorem room20' {k : Nat} {A : Around} (hr : Room k A) {a b : Nat} (h : b ≤ 20) : A.units + 1 + min a b < cLine := by
  have := hr.units
  have := Nat.min_le_right a b
  omega
variable {k : Nat}
theorem ev_eqD (hr : Room k X.A) (ha : EvD X δ a da) (hb : EvD X δ b db) (sa : Sm da) (sb : db.canLay0 = true) : EvD X δ (.Compare a [.Eq] [b] pos) (.bool (PyData.eqv da db)) :=
  ev_cmp op_eqD ha hb (nomark _) fun A x y H Q rx ry q => ⟨A, da, db, rx, ry, sa.lay, sb, room20 hr sa.dep, q _ H (Same.refl H) rfl⟩
theorem ev_neD (hr : Room k X.A) (ha : EvD X δ a da) (hb : EvD X δ b db) (sa : Sm da) (sb : db.canLay0 = true) : EvD X δ (.Compare a [.NotEq] [b] pos) (.bool (!PyData.eqv da db)) :=
  ev_cmp op_neD ha hb (nomark _) fun A x y H Q rx ry q => ⟨A, da, db, rx, ry, sa.lay, sb, room20 hr sa.dep, q _ H (Same.refl H) rfl⟩
theorem et_eqD (hr : Room k X.A) (ha : EvD X δ a da) (hb : EvD X δ b db) (sa : Sm da) (sb : db.canLay0 = true) : EtD X δ (.Compare a [.Eq] [b] pos) (PyData.eqv da db) :=
  et_cmp op_eqD ha hb (nomark _) fun A x y H Q rx ry q => ⟨A, da, db, rx, ry, sa.lay, sb, room20 hr sa.dep, q _ H (Same.refl H) rfl⟩
theorem et_neD (hr : Room k X.A) (ha : EvD X δ a da) (hb : EvD X δ b db) (sa : Sm da) (sb : db.canLay0 = true) : EtD X δ (.Compare a [.NotEq] [b] pos) (!PyData.eqv da db) :=
  et_cmp op_neD ha hb (nomark _) fun A x y H Q rx ry q => ⟨A, da, db, rx, ry, sa.lay, sb, room20 hr sa.dep, q _ H (Same.refl H) rfl⟩
theorem ev_inD (hr : Room k X.A) (ha : EvD X δ a d) (hb : EvD X δ b (.list xs)) (sa : Sm d) (sb : PyData.canLayAll0 xs = true) (hm : behindInMarks .In b = false := by with_unfolding_all rfl) : EvD X δ (.Compare a [.In] [b] pos) (.bool (xs.any fun y => PyData.eqv y d)) :=
  ev_cmp op_inD ha hb hm fun A x y H Q rx ry q => ⟨A, d, xs, rx, ry, sa.lay, sb, room20' hr sa.dep, q _ H (Same.refl H) rfl⟩
theorem et_inD (hr : Room k X.A) (ha : EvD X δ a d) (hb : EvD X δ b (.list xs)) (sa : Sm d) (sb : PyData.canLayAll0 xs = true) (hm : behindInMarks .In b = false := by with_unfolding_all rfl) : EtD X δ (.Compare a [.In] [b] pos) (xs.any fun y => PyData.eqv y d) :=
  et_cmp op_inD ha hb hm fun A x y H Q rx ry q => ⟨A, d, xs, rx, ry, sa.lay, sb, room20' hr sa.dep, q _ H (Same.refl H) rfl⟩
theorem et_notInD (hr : Room k X.A) (ha : EvD X δ a d) (hb : EvD X δ b (.list xs)) (sa : Sm d) (sb : PyData.canLayAll0 xs = true) (hm : behindInMarks .NotIn b = false := by with_unfolding_all rfl) : EtD X δ (.Compare a [.NotIn] [b] pos) (!xs.any fun y => PyData.eqv y d) :=
  et_cmp op_notInD ha hb hm fun A x y H Q rx ry q => ⟨A, d, xs, rx, ry, sa.lay, sb, room20' hr sa.dep, q _ H (Same.refl H) rfl⟩
noncomputable def isN : PyData → Bool
  | .none => true
  | _ => false
theorem rep_isN {K : PySem.W.Frag} {A : Addr → Prop} {H : Hp} {d : PyData} {x : V} (h : Rep K A H d x) : decide (x = .non) = isN d := by
  cases d with
  | none => cases h; rfl
  | bool _ => cases h; rfl
  | int _ => cases h; rfl
  | str _ => cases h; rfl
  | list _ => obtain ⟨_, _, rfl, _⟩ := h; rfl
  | tuple _ => obtain ⟨_, _, rfl, _⟩ := h; rfl
  | dict _ => rcases h with ⟨_, _, rfl, _⟩ | ⟨_, _, _, rfl, _⟩ | ⟨_, _, _, rfl, _⟩ <;> rfl
theorem et_isN {j p'} (ha : EvD X δ a d) : EtD X δ (.Compare a [.Is] [.Constant .none j p'] pos) (isN d) :=
  et_of (pt_cmp (pc_isN ha)) fun Hb own B σ H Q E q => ⟨Hb, own, B, E, fun v H' s1 r => by show ∃ c, V.bl (decide (v = .non)) = .bl c ∧ Q c H'; rw [rep_isN r]; exact ⟨_, rfl, q H' s1⟩⟩
theorem et_notN {j p'} (ha : EvD X δ a d) : EtD X δ (.Compare a [.IsNot] [.Constant .none j p'] pos) (!isN d) :=
  et_of (pt_cmp (pc_notN ha)) fun Hb own B σ H Q E q => ⟨Hb, own, B, E, fun v H' s1 r => by show ∃ c, V.bl (!decide (v = .non)) = .bl c ∧ Q c H'; rw [rep_isN r]; exact ⟨_, rfl, q H' s1⟩⟩
theorem et_list (ha : EvD X δ a (.list xs)) (he : ∀ whole, isTrue a X.env whole = (do let v ← whole; standAt a.pos; holding [v] (truthy v)) := by intro _; rfl) : EtD X δ a (!xs.isEmpty) :=
  et_of (pt_truth ha he) fun Hb own B σ H Q E q => ⟨Hb, own, B, E, fun v H' s1 r => by
    obtain ⟨p, vs, rfl, _, h3, h4⟩ := r
    refine ⟨!vs.isEmpty, ?_, ?_⟩
    · first | exact .inl ⟨vs, SqL.of h3, rfl⟩ | exact ⟨vs, .inl (SqL.of h3), rfl⟩ | exact ⟨_, .inl (SqL.of h3), rfl⟩
    · have : vs.isEmpty = xs.isEmpty := by
        have hl := h4.length
        cases vs <;> cases xs <;> first | rfl | cases hl
      rw [this]
      exact q H' s1⟩
theorem atI_of {α : Type} {vs : List α} {i : Int} {v : α} (h0 : 0 ≤ i) (h : vs[i.toNat]? = some v) : atI vs i = some v := by
  have e : i = ((i.toNat : Nat) : Int) := by omega
  rw [e]; exact atI_nat h
theorem ev_ix {i : Int} (ha : EvD X δ a (.list xs)) (hb : EvD X δ b (.int i)) (h0 : 0 ≤ i) (hd : xs[i.toNat]? = some d) (hs : PlainIx b := by exact fun _ _ => rfl) : EvD X δ (.Subscript a b pos) d :=
  ev_of (pe_ix ix_list ha hb hs) fun Hb own B σ H Q E q => ⟨Hb, own, B, E, fun x H1 s1 rx => ⟨Hb, own, B, E.mono s1, fun y H2 s2 ry => by
    obtain ⟨p, vs, rfl, _, h3, h4⟩ := rx.up s2
    obtain ⟨v, hv, rv⟩ := h4.at hd
    exact ⟨p, vs, i, v, rfl, ry, SqL.of h3, atI_of h0 hv, q v H2 (s1.trans s2) rv⟩⟩⟩
theorem ev_ixT {i : Int} (ha : EvD X δ a (.tuple xs)) (hb : EvD X δ b (.int i)) (h0 : 0 ≤ i) (hd : xs[i.toNat]? = some d) (hs : PlainIx b := by exact fun _ _ => rfl) : EvD X δ (.Subscript a b pos) d :=
  ev_of (pe_ix ix_tup ha hb hs) fun Hb own B σ H Q E q => ⟨Hb, own, B, E, fun x H1 s1 rx => ⟨Hb, own, B, E.mono s1, fun y H2 s2 ry => by
    obtain ⟨p, vs, rfl, h3, h4⟩ := rx.up s2
    obtain ⟨v, hv, rv⟩ := h4.at hd
    exact ⟨p, vs, i, v, rfl, ry, SqT.of h3, atI_of h0 hv, q v H2 (s1.trans s2) rv⟩⟩⟩
theorem rep_scr {K : PySem.W.Frag} {A : Addr → Prop} {H : Hp} {ns : List Int} {x : V} (h : Rep K A H (scr ns) x) : ∃ p, x = .ref p ∧ SqL K H p (ns.map V.int) := by
  rcases h with ⟨p, ms, rfl, e, h3⟩ | ⟨a, us, _, _, _, κ, _, _, _, z, _⟩ | ⟨_, _, _, _, z, _⟩
  · have e' : ns = ms := scr_inj e
    subst e'
    exact ⟨p, rfl, h3.sq⟩
  · cases z
  · cases z
theorem ev_ixS {i : Int} {ns : List Int} {n : Int} (ha : EvD X δ a (scr ns)) (hb : EvD X δ b (.int i)) (h0 : 0 ≤ i) (hd : ns[i.toNat]? = some n) (hs : PlainIx b := by exact fun _ _ => rfl) : EvD X δ (.Subscript a b pos) (.int n) :=
  ev_of (pe_ix ix_list ha hb hs) fun Hb own B σ H Q E q => ⟨Hb, own, B, E, fun x H1 s1 rx => ⟨Hb, own, B, E.mono s1, fun y H2 s2 ry => by
    obtain ⟨p, rfl, h3⟩ := rep_scr (rx.up s2)
    exact ⟨p, _, i, .int n, rfl, ry, h3, atI_of h0 (by rw [List.getElem?_map, hd]; rfl), q _ H2 (s1.trans s2) rfl⟩⟩⟩
noncomputable def EoD (X : Cx) (δ : Dn) (e : Option Expr) (o : Option Int) : Prop := PO X e (fun σ H Q => ∃ Hb own B, EnvO X.K Hb own B H σ δ ∧ ∀ H', Same H H' → Q o H')
theorem eo_none : EoD X δ none none := fun pins s σ H Q I hh7 => Zz.a5 hh7 fun Hb own B E q => po_none pins s σ H Q I (q H (Same.refl H))
theorem eo_some {i : Int} (h : EvD X δ e (.int i)) : EoD X δ (some e) (some i) := fun pins s σ H Q I hh8 => Zz.a5 hh8 fun Hb own B E q => po_some h pins s σ H Q I ⟨Hb, own, B, E, fun v H' s1 r => ⟨i, r, q H' s1⟩⟩
noncomputable def cutL {α : Type} (xs : List α) (lo hi : Option Int) : List α := (xs.drop (HT.sIx xs.length 0 lo)).take (HT.sIx xs.length xs.length hi - HT.sIx xs.length 0 lo)
theorem reps_cut {K : PySem.W.Frag} {A : Addr → Prop} {H : Hp} {ds : List PyData} {vs : List V} (h : Reps K A H ds vs) (lo hi : Option Int) : Reps K A H (cutL ds lo hi) (cutV vs lo hi) := by
  unfold cutL cutV
  rw [h.length]
  exact (h.drop _).take _
theorem same_new {H : Hp} {p : Addr} (h : H p = none) (o : HO) : Same H (upd H p o) := fun b u q => by rw [upd_ne (ne_of_none q h)]; exact q
theorem ef_slice {lo hi : Option Expr} {l u : Option Int} {p2 : Pos} (ha : EvD X δ a (.list xs)) (hl : EoD X δ lo l) (hu : EoD X δ hi u) : EvF X δ (.Subscript a (.Slice lo hi none p2) pos) (cutL xs l u) :=
  ef_of (pe_slice sl_list ha hl hu) fun Hb own B σ H Q E q => ⟨Hb, own, B, E, fun x H1 s1 rx => ⟨Hb, own, B, E.mono s1, fun H2 s2 => ⟨Hb, own, B, E.mono (s1.trans s2), fun H3 s3 => by
    obtain ⟨p, vs, rfl, _, h3, h4⟩ := (rx.up s2).up s3
    refine ⟨p, vs, rfl, SqL.of h3, fun r hr => ?_⟩
    have e1 := same_new hr (.lst (cutV vs l u))
    exact q r _ _ (((s1.trans s2).trans s3).trans e1) (((s1.trans s2).trans s3).free hr) upd_same ((Reps.fresh hr _ _ (reps_cut h4 l u)).up e1)⟩⟩⟩
theorem ef_cat (ha : EvD X δ a (.list xs)) (hb : EvD X δ b (.list ys)) (hl : xs.length + ys.length ≤ 1000) : EvF X δ (.BinOp a .Add b pos) (xs ++ ys) :=
  ef_of (pe_op op_cat ha hb) fun Hb own B σ H Q E q => ⟨Hb, own, B, E, fun x H1 s1 rx => ⟨Hb, own, B, E.mono s1, fun y H2 s2 ry => by
    obtain ⟨p, vs, rfl, _, h3, h4⟩ := rx.up s2
    obtain ⟨p', vs', rfl, _, h3', h4'⟩ := ry
    refine ⟨p, p', vs, vs', rfl, rfl, h3, h3', by rw [← h4.length, ← h4'.length]; exact Nat.le_of_lt (small1000 hl), fun r hr => ?_⟩
    have e1 := same_new hr (.lst (vs ++ vs'))
    exact q r _ _ ((s1.trans s2).trans e1) ((s1.trans s2).free hr) upd_same ((Reps.fresh hr _ _ (h4.append h4')).up e1)⟩⟩
theorem ev_callB {id : String} {x : Str} {p : Pos} {es : List Expr} {ds : List PyData} {r : List V → Hp → VK → Prop} (hc : CallR X (.builtin id) r) (hg : Gl X x) (hm : X.mg x = none) (hv : bootBuiltins x = some (.builtin id)) (ha : EaD X δ (e :: es) ds)
    (hr : ∀ A vs H Q, Reps X.K A H ds vs → (∀ v H', Same H H' → Rep X.K A H' d v → Q v H') → r vs H Q) (hn : x ≠ "__name__" := by decide) (hdb : (x == ("__debug__" : Str)) = false := by decide)
    (he : starEach (e :: es) X.env = (false, eval e X.env) :: starEach es X.env := by rfl) (hpl : (backTo pos (starEach es X.env)).any (·.1) = false := by rfl) : EvD X δ (.Call (.Name x p) (e :: es) [] pos) d :=
  ev_of (pe_callB hc hg hm hv ha hn hdb he hpl) fun Hb own B σ H Q E q => ⟨Hb, own, B, E, fun vs H1 s1 rv => hr _ vs H1 Q rv fun v H' s2 r2 => q v H' (s1.trans s2) r2⟩
theorem ev_len {p : Pos} (hg : Gl X "len") (hm : X.mg "len" = none) (ha : EvD X δ e (.list xs)) (he : starEach [e] X.env = [(false, eval e X.env)] := by rfl) : EvD X δ (.Call (.Name "len" p) [e] [] pos) (.int xs.length) :=
  ev_callB call_len_seq hg hm PySem.boot_len (ea_cons ha ea_nil (by rw [he]; rfl)) (fun A vs H Q rv q => by
    obtain ⟨v, r, rfl, ⟨a, us, rfl, _, h3, h4⟩, e2⟩ := rv
    cases e2
    exact ⟨a, us, rfl, .inl (SqL.of h3), q _ H (Same.refl H) (by rw [← h4.length]; rfl)⟩) (he := by rw [he]; rfl)
theorem ev_lenS {p : Pos} {ns : List Int} (hg : Gl X "len") (hm : X.mg "len" = none) (ha : EvD X δ e (scr ns)) (he : starEach [e] X.env = [(false, eval e X.env)] := by rfl) : EvD X δ (.Call (.Name "len" p) [e] [] pos) (.int ns.length) :=
  ev_callB call_len_seq hg hm PySem.boot_len (ea_cons ha ea_nil (by rw [he]; rfl)) (fun A vs H Q rv q => by
    obtain ⟨v, r, rfl, h1, e2⟩ := rv
    cases e2
    obtain ⟨a, rfl, h3⟩ := rep_scr h1
    exact ⟨a, _, rfl, .inl h3, q _ H (Same.refl H) (by rw [List.length_map]; rfl)⟩) (he := by rw [he]; rfl)
theorem ef_listOf {p : Pos} (hg : Gl X "list") (hm : X.mg "list" = none) (ha : EvD X δ e (.list xs)) (he : starEach [e] X.env = [(false, eval e X.env)] := by rfl) : EvF X δ (.Call (.Name "list" p) [e] [] pos) xs :=
  ef_of (pe_callTy call_list_of hg hm (by first | exact PySem.boot_list | rfl) (ea_cons ha ea_nil (by rw [he]; rfl)) (he := by rw [he]; rfl)) fun Hb own B σ H Q E q => ⟨Hb, own, B, E, fun vs H1 s1 rv => by
    obtain ⟨v, r, rfl, ⟨a, us, rfl, _, h3, h4⟩, e2⟩ := rv
    cases e2
    refine ⟨a, us, rfl, .inl (SqL.of h3), fun l hl => ?_⟩
    have e1 := same_new hl (.lst us)
    exact q l _ _ (s1.trans e1) (s1.free hl) upd_same ((Reps.fresh hl _ _ h4).up e1)⟩
theorem ev_max {p : Pos} {i j : Int} (hc : X.calm = true) (hg : Gl X "max") (hm : X.mg "max" = none) (ha : EvD X δ a (.int i)) (hb : EvD X δ b (.int j)) (hs : starEach [a, b] X.env = [(false, eval a X.env), (false, eval b X.env)] := by rfl) (hs2 : starEach [b] X.env = [(false, eval b X.env)] := by rfl) :
    EvD X δ (.Call (.Name "max" p) [a, b] [] pos) (.int (if j > i then j else i)) :=
  ev_callB (call_max2 hc) hg hm (by first | exact PySem.boot_max | rfl) (ea_cons ha (ea_cons hb ea_nil (by rw [hs2]; rfl)) (by rw [hs, hs2])) (fun A vs H Q rv q => by
    obtain ⟨v, r, rfl, h1, w, r', rfl, h2, e2⟩ := rv
    cases e2; cases h1; cases h2
    exact ⟨i, j, rfl, q _ H (Same.refl H) rfl⟩) (he := by rw [hs, hs2]) (hpl := by rw [hs2]; rfl)
theorem ev_min {p : Pos} {i j : Int} (hc : X.calm = true) (hg : Gl X "min") (hm : X.mg "min" = none) (ha : EvD X δ a (.int i)) (hb : EvD X δ b (.int j)) (hs : starEach [a, b] X.env = [(false, eval a X.env), (false, eval b X.env)] := by rfl) (hs2 : starEach [b] X.env = [(false, eval b X.env)] := by rfl) :
    EvD X δ (.Call (.Name "min" p) [a, b] [] pos) (.int (if j < i then j else i)) :=
  ev_callB (call_min2 hc) hg hm (by first | exact PySem.boot_min | rfl) (ea_cons ha (ea_cons hb ea_nil (by rw [hs2]; rfl)) (by rw [hs, hs2])) (fun A vs H Q rv q => by
    obtain ⟨v, r, rfl, h1, w, r', rfl, h2, e2⟩ := rv
    cases e2; cases h1; cases h2
    exact ⟨i, j, rfl, q _ H (Same.refl H) rfl⟩) (he := by rw [hs, hs2]) (hpl := by rw [hs2]; rfl)
theorem bl_at {bs : List Bool} {its : List Value} (r : Vals (bs.map V.bl) its) {i : Nat} {v : Value} (h : its[i]? = some v) : v = .bool (bs.getD i false) := by
  induction bs generalizing its i with
  | nil => cases r; cases h
  | cons b bs ih =>
    cases r with
    | cons r1 r2 =>
      cases i with
      | zero => cases h; exact r1
      | succ i => exact ih r2 (by simpa using h)
theorem range_any {bs : List Bool} : ((List.range bs.length).any fun i => bs.getD i false) = bs.any id := by
  rw [Bool.eq_iff_iff, List.any_eq_true, List.any_eq_true]
  constructor
  · rintro ⟨i, h1, h2⟩
    have hi : i < bs.length := List.mem_range.mp h1
    refine ⟨bs[i], List.getElem_mem hi, ?_⟩
    rw [List.getD_eq_getElem?_getD, List.getElem?_eq_getElem hi] at h2
    exact h2
  · rintro ⟨x, h1, h2⟩
    obtain ⟨i, hi, rfl⟩ := List.mem_iff_getElem.mp h1
    exact ⟨i, List.mem_range.mpr hi, by rw [List.getD_eq_getElem?_getD, List.getElem?_eq_getElem hi]; exact h2⟩
theorem walk_bools {pins : List (Addr × Obj)} {σ : St} {H : Hp} {s : Shared} {p : Addr} {bs : List Bool} (I : Inv X pins σ H s) (hc : X.calm = true) (hp : SqL X.K H p (bs.map V.bl)) {Q : Value → Shared → Prop} {E : Value → Shared → Prop} {R : Nat → (Nat → Bool) → Bool}
    (hQ : ∀ h' tk, (∀ b o, s.heap.get? b = some o → h'.get? b = some o) → Q (.bool (R bs.length fun i => bs.getD i false)) { s with heap := h', toks := tk }) :
    wpAny (model X.prog X.w) X.A.in1 (pyIter (.ref p)) (fun it s₂ => ∃ I fp wr n P St tr, it = .ref I ∧ Walks X.prog X.w X.A.in1 I fp wr n P St ∧ St 0 s₂.heap ∧ TruthOf X.prog X.w X.A.in1 P tr ∧
      ∀ h' tk, (∀ b o, b ∉ wr → s₂.heap.get? b = some o → h'.get? b = some o) → Q (.bool (R n tr)) { s₂ with heap := h', toks := tk }) E s := by
  obtain ⟨its, rv, pl, _⟩ := I.list hp
  have hl := rv.length
  rw [List.length_map] at hl
  refine wpAny_pyIter_list pl.isList ?_
  obtain ⟨o, n, ho, _⟩ := id pl
  have hlt := Heap.lt_size ho
  refine ⟨s.heap.objs.size, _, _, its.toArray.size, _, _, fun i => bs.getD i false, rfl, Walks.list (by first | exact I.ok.hd hc | (show X.A.handled = none; exact I.ok.hd hc)) s.heap.objs.size p (Nat.ne_of_lt hlt) its.toArray, ⟨⟨_, Heap.get?_push_size _ rfl, rfl, rfl⟩, pl.isList.push _⟩, fun i v s Q E hv hq => ?_, fun h' tk hk => ?_⟩
  · have hv' : its[i]? = some v := by simpa using hv
    rw [bl_at rv hv']
    exact wpAny_truthy_bool hq
  · have e : its.toArray.size = bs.length := by simp [hl]
    rw [e]
    exact hQ h' tk fun b o e => hk b o (fun z => by
      have : b = s.heap.objs.size := by simpa using z
      exact absurd (Heap.lt_size e) (by rw [this]; exact Nat.lt_irrefl _)) (Heap.get?_push_of_some _ e)
theorem call_anyB (hc : X.calm = true) : CallR X (.builtin "any") (fun xs H Q => ∃ (p : Addr) (bs : List Bool), xs = [.ref p] ∧ SqL X.K H p (bs.map V.bl) ∧ Q (.bl (bs.any id)) H) := by
  intro pins s σ H xs us Q I rv h
  obtain ⟨p, bs, rfl, hp, q⟩ := h
  obtain ⟨u, rfl, ru⟩ := rv.one
  cases ru
  refine PySem.call_any_walk (walk_bools (R := fun n tr => (List.range n).any tr) I hc hp fun h' tk hk => ?_)
  rw [range_any]
  exact ⟨.bl _, H, I.kept hk, rfl, q⟩
noncomputable def bD (bs : List Bool) : List PyData := bs.map .bool
theorem Reps.bD_eq {K : PySem.W.Frag} {A : Addr → Prop} {H : Hp} : ∀ {bs : List Bool} {vs : List V}, Reps K A H (bD bs) vs → vs = bs.map V.bl
  | [], _, h => h
  | n :: r, _, h => by
    obtain ⟨v, s, rfl, h2, h3⟩ := h
    rw [Reps.bD_eq h3, h2]; rfl
theorem ev_any {p : Pos} {bs : List Bool} (hc : X.calm = true) (hg : Gl X "any") (hm : X.mg "any" = none) (ha : EvD X δ e (.list (bD bs))) (he : starEach [e] X.env = [(false, eval e X.env)] := by rfl) : EvD X δ (.Call (.Name "any" p) [e] [] pos) (.bool (bs.any id)) :=
  ev_callB (call_anyB hc) hg hm (by rfl) (ea_cons ha ea_nil (by rw [he]; rfl)) (fun A vs H Q rv q => by
    obtain ⟨v, r, rfl, ⟨a, us, rfl, _, h3, h4⟩, e2⟩ := rv
    cases e2
    rw [h4.bD_eq] at h3
    exact ⟨a, bs, rfl, SqL.of h3, q _ H (Same.refl H) rfl⟩) (he := by rw [he]; rfl)
end
end L2
end
section
namespace L2
open PySem PySem.Spec PyProof.Rows
structure Walk (K : PySem.W.Frag) (A : Addr → Prop) (J : It) (Hk : Hp) (ds : List PyData) : Prop where
  go : ∀ (i : Nat) (H : Hp), Same Hk H → i < ds.length → J.go i H
  yld : ∀ (i : Nat) (H : Hp) (x : V) (H' : Hp), Same Hk H → i < ds.length → J.yld i H x H' → H' = H ∧ ∃ d, ds[i]? = some d ∧ Rep K A Hk d x
  stop : ∀ (i : Nat) (H : Hp), Same Hk H → ds.length ≤ i → J.stop i H
theorem Kp.keep {own : Nat → List Addr} {B : Addr → Prop} {H : Hp} (ho : ∀ i a, a ∈ own i → ∃ o, H a = some o ∧ MutO o) : Kp (Av own B) (Av own B) H (keepB own H) :=
  ⟨fun a _ h q => ⟨h, keepB_of q fun i hi => h (.inr ⟨i, hi⟩)⟩,
    fun a _ q => keepB_of q fun i hi => by obtain ⟨o, z, m⟩ := ho i a hi; rw [q] at z; cases z; exact m,
    fun a _ _ q => keepB_of q fun i hi => by obtain ⟨o, z, m⟩ := ho i a hi; rw [q] at z; cases z; exact m⟩
theorem Reps.keep {K : PySem.W.Frag} {own : Nat → List Addr} {B : Addr → Prop} {H : Hp} (ho : ∀ i a, a ∈ own i → ∃ o, H a = some o ∧ MutO o) (ds : List PyData) (vs : List V) (h : Reps K (Av own B) H ds vs) : Reps K (Av own B) (keepB own H) ds vs := Reps.kp (.keep ho) ds vs h
theorem EnvO.lists {K : PySem.W.Frag} {Hb : Hp} {own : Nat → List Addr} {B : Addr → Prop} {H : Hp} {σ : St} {δ : Dn} (E : EnvO K Hb own B H σ δ) : ∀ i a, a ∈ own i → ∃ o, H a = some o ∧ MutO o := E.muts
noncomputable def tI (K : PySem.W.Frag) (δ : Dn) (ds : List PyData) : TI := fun σ H R => ∃ Hb own B, EnvO K Hb own B H σ δ ∧ ∀ J H1, Same H H1 → Walk K (Av own B) J (keepB own H1) ds → R J H1
noncomputable def EiD (X : Cx) (δ : Dn) (tg iter : Expr) (ds : List PyData) : Prop := PI X tg iter (tI X.K δ ds)
section
variable {X : Cx} {δ : Dn} {a b c e tg : Expr} {d da db : PyData} {pos : Pos} {xs ys : List PyData}
theorem ei_list (h : EvD X δ e (.list xs)) : EiD X δ tg e xs := fun pins s σ H R I hh9 => Zz.a5 hh9 fun Hb own B E q => pi_list h pins s σ H R I ⟨Hb, own, B, E, fun v H1 s1 r => by
  obtain ⟨p, vs, rfl, h2, h3, h4⟩ := r
  have kp : keepB own H1 p = some (.lst vs) := keepB_of h3 fun i hi => h2 (.inr ⟨i, hi⟩)
  have rk := Reps.keep (E.mono s1).lists _ _ h4
  have hl := h4.length
  refine ⟨p, rfl, ⟨vs, SqL.of h3⟩, q _ H1 s1 ⟨fun i H s hi => ?_, fun i H x H' s hi hy => ?_, fun i H s hi => ⟨vs, SqL.of (s _ _ kp), by omega⟩⟩⟩
  · exact ⟨vs, vs[i]'(by omega), SqL.of (s _ _ kp), List.getElem?_eq_getElem _⟩
  · obtain ⟨rfl, hy⟩ := hy
    have hx := hy vs (SqL.of (s _ _ kp))
    obtain ⟨d, hd, rd⟩ := rk.get hx
    exact ⟨rfl, d, hd, rd⟩⟩
noncomputable def rgD (lo : Int) (n : Nat) : List PyData := (List.range n).map fun (i : Nat) => .int (lo + i)
theorem walk_rng {K : PySem.W.Frag} {A : Addr → Prop} {Hk : Hp} (lo : Int) (n : Nat) : Walk K A (Itr lo n) Hk (rgD lo n) := by
  have hl : (rgD lo n).length = n := by simp [rgD]
  refine ⟨fun i H s hi => by rw [hl] at hi; exact hi, fun i H x H' s hi hy => ?_, fun i H s hi => by rw [hl] at hi; exact hi⟩
  obtain ⟨rfl, rfl⟩ := hy
  rw [hl] at hi
  exact ⟨rfl, .int (lo + i), by simp [rgD, hi], rfl⟩
theorem ei_range1 {p : Pos} {n : Int} (hg : Gl X "range") (hm : X.mg "range" = none) (ha : EvD X δ a (.int n)) (h1 : -(2 ^ 62) ≤ n) (h2 : n < 2 ^ 62) (hs : starEach [a] X.env = [(false, eval a X.env)] := by rfl) : EiD X δ tg (.Call (.Name "range" p) [a] [] pos) (rgD 0 n.toNat) :=
  fun pins s σ H R I hh10 => Zz.a5 hh10 fun Hb own B E q => pi_range1 hg hm (ea_cons ha ea_nil (by rw [hs]; rfl)) hs pins s σ H R I ⟨Hb, own, B, E, fun vs H1 s1 r => by
    obtain ⟨v, r', rfl, h3, e2⟩ := r
    cases e2; cases h3
    exact ⟨n, rfl, h1, h2, q _ H1 s1 (walk_rng 0 n.toNat)⟩⟩
theorem EnvO.guard {K : PySem.W.Frag} {Hb : Hp} {own : Nat → List Addr} {B : Addr → Prop} {H H' : Hp} {σ : St} {δ : Dn} (E : EnvO K Hb own B H σ δ) {D : Addr} {vs : List V} (hn : H D = none) (e : Same H H') (hD : H' D = some (.lst vs)) :
    EnvO K (keepB own H') own (fun b => B b ∨ b = D) H' σ δ := by
  have hno : ∀ i, D ∉ own i := fun i hi => E.new hn (.inr ⟨i, hi⟩)
  have av : ∀ a, Av own (fun b => B b ∨ b = D) a → Av own B a ∨ a = D := fun a h => by
    rcases h with (h | h) | h
    · exact .inl (.inl h)
    · exact .inr h
    · exact .inl (.inr h)
  have E' := (E.mono e).rebase
  refine ⟨E'.base, E'.len, fun a h => ?_, E'.ofr, E'.oex, E'.ond, E'.inj, fun i d h => ?_, fun i oa c h => ?_⟩
  · rcases h with h | h
    · exact E'.bb a h
    · rw [h, keepB_of hD hno]; exact fun z => by cases z
  · obtain ⟨v, h1, h2⟩ := E.sh i d h
    exact ⟨v, h1, ((Rep.fresh hn _ _ h2).up e).av av⟩
  · obtain ⟨v, h1, h2, h4⟩ := E.ow i oa c h
    exact ⟨v, h1, h2, ((h4.kp (.fresh hn) fun _ _ _ z => z).up e).av av⟩
noncomputable def EfD (X : Cx) (δ : Dn) (ifs : List Expr) (k : Bool) : Prop := PIfs X ifs (tT X.K δ k)
theorem efs_nil : EfD X δ [] true := fun pins s σ H Q I hh11 => Zz.a5 hh11 fun Hb own B E q => pifs_nil pins s σ H Q I (q H (Same.refl H))
theorem efs_one {k : Bool} (h : EtD X δ c k) : EfD X δ [c] k := fun pins s σ H Q I q => pifs_one h pins s σ H Q I q
theorem filter_take {α : Type} {p : α → Bool} {ds : List α} {i : Nat} {d : α} (h : ds[i]? = some d) : (ds.take (i + 1)).filter p = (ds.take i).filter p ++ (if p d then [d] else []) := by
  rw [List.take_add_one, h, List.filter_append]
  cases hp : p d <;> simp [hp]
theorem wk_blank {σ : St} {i : Nat} {v : V} : Wk (σ.set i none) ((σ.set i none).set i (some v)) := by
  refine ⟨by rw [List.length_set], fun j w h => ?_⟩
  by_cases ji : j = i
  · subst ji
    rw [List.getElem?_set] at h
    split at h
    · split at h
      · simp at h
      · cases h
    · exact absurd rfl (by assumption)
  · rw [List.getElem?_set_ne (Ne.symm ji)]; exact h
noncomputable def tTs {α : Type} (K : PySem.W.Frag) (δ : Dn) (i : Nat) (emb : α → PyData) (ts : List α) (p : α → Bool) : TT := fun σ H Q => ∃ t, t ∈ ts ∧ tT K ((δ.set i .no).set i (.sh (emb t))) (p t) σ H Q
noncomputable def tEs {α : Type} (K : PySem.W.Frag) (δ : Dn) (i : Nat) (emb : α → PyData) (ts : List α) (p : α → Bool) (f : α → PyData) : TE := fun σ H Q => ∃ t, t ∈ ts ∧ p t = true ∧ tD K ((δ.set i .no).set i (.sh (emb t))) (f t) σ H Q
theorem tcomp_of {K : PySem.W.Frag} {Hb : Hp} {own : Nat → List Addr} {B : Addr → Prop} {σ : St} {H : Hp} {Q : VK} {i : Nat} {α : Type} {emb : α → PyData} {ts : List α} {p : α → Bool} {f : α → PyData} (hz : ts.length ≤ 1000) (hno : ∀ oa c, δ[i]? ≠ some (.own oa c)) (E : EnvO K Hb own B H σ δ)
    (q : ∀ a vs H', Same H H' → H a = none → H' a = some (.lst vs) → Reps K (fun b => Av own B b ∨ b = a) H' ((ts.filter p).map f) vs → Q (.ref a) H') : tComp (tI K δ (ts.map emb)) [i] (gName i) (tTs K δ i emb ts p) (tEs K δ i emb ts p f) σ H Q := by
  have hdl : (ts.map emb).length = ts.length := List.length_map _
  refine ⟨Hb, own, B, E, fun J H1 s1 w D hD => ?_⟩
  have E1 := E.mono s1
  have ho : own i = [] := List.eq_nil_iff_forall_not_mem.mpr fun a z => by
    obtain ⟨oa, ys, hj⟩ := E.oex i a z
    exact absurd hj (hno oa ys)
  have hu : unown own i = own := by
    funext j
    unfold unown
    by_cases ji : j = i
    · rw [if_pos ji, ji, ho]
    · rw [if_neg ji]
  refine ⟨fun n m H' => m = ts.length - n ∧ n ≤ ts.length ∧ Same H1 H' ∧ ∃ vs, H' D = some (.lst vs) ∧ Reps K (fun b => Av own B b ∨ b = D) H' (((ts.take n).filter p).map f) vs,
    ⟨ts.length, rfl, Nat.zero_le _, same_new hD _, [], upd_same, rfl⟩, ?_⟩
  rintro n m H2 ⟨rfl, hn, s2, vs, e2, r2⟩
  have sk : Same (keepB own H1) H2 := fun b o z => s2 b o (keepB_some z).1
  by_cases hlt : n < ts.length
  · refine .inr ⟨w.go n H2 sk (by rw [hdl]; exact hlt), fun x H' hy => ?_⟩
    obtain ⟨eH, d, hd, rd⟩ := w.yld n H2 x H' sk (by rw [hdl]; exact hlt) hy
    subst H'
    obtain ⟨t, ht, rfl⟩ : ∃ t, ts[n]? = some t ∧ d = emb t := by
      rw [List.getElem?_map] at hd
      cases z : ts[n]? with
      | none => rw [z] at hd; cases hd
      | some t => rw [z] at hd; cases hd; exact ⟨t, rfl, rfl⟩
    have hm : t ∈ ts := List.mem_of_getElem? ht
    have G := E1.guard hD s2 e2
    have av : ∀ a, Av own (fun b => B b ∨ b = D) a → Av own B a ∨ a = D := fun a h => by
      rcases h with (h | h) | h
      · exact .inl (.inl h)
      · exact .inr h
      · exact .inl (.inr h)
    have va : ∀ a, Av own B a ∨ a = D → Av own (fun b => B b ∨ b = D) a := fun a h => by
      rcases h with (h | h) | h
      · exact .inl (.inl h)
      · exact .inr h
      · exact .inl (.inr h)
    have rdG : Rep K (Av own fun b => B b ∨ b = D) H2 (emb t) x := by
      have hk : keepB own H1 D = none := by
        cases z : keepB own H1 D with
        | none => rfl
        | some o => rw [(keepB_some z).1] at hD; cases hD
      exact ((Rep.fresh hk _ _ rd).up sk).av av
    have F := (G.forget (i := i)).setSh (i := i) (v := x) (d := emb t) (rdG.av unown_av)
    rw [hu, hu] at F
    refine ⟨wk_blank, t, hm, _, _, _, F, fun H3 s3 => ?_⟩
    have F3 := F.mono s3
    cases hp : p t with
    | true =>
      refine iteT ⟨t, hm, hp, _, _, _, F3, fun v H4 s4 rv => ?_⟩
      have e4 : H4 D = some (.lst vs) := s4 _ _ (s3 _ _ e2)
      have hvl : vs.length < sizeLine := by
        have h1 := r2.length
        rw [List.length_map] at h1
        have h2 := List.length_filter_le p (ts.take n)
        rw [List.length_take] at h2
        exact small1000 (by omega)
      refine ⟨vs, e4, hvl, ts.length - (n + 1), by omega, rfl, hlt, ?_, vs ++ [v], upd_same, ?_⟩
      · intro b o z
        rw [upd_ne (ne_of_none z hD)]
        exact s4 _ _ (s3 _ _ (s2 _ _ z))
      · rw [filter_take ht, hp, List.map_append]
        have hAD : (fun b => Av own B b ∨ b = D) D := .inr rfl
        refine Reps.upd hAD e4 trivial _ _ ((r2.up (s3.trans s4)).append ?_)
        refine Reps.one (rv.av fun a h => ?_)
        exact va a h
    | false =>
      refine iteF ⟨ts.length - (n + 1), by omega, rfl, hlt, s2.trans s3, vs, s3 _ _ e2, ?_⟩
      rw [filter_take ht, hp]
      simpa using r2.up s3
  · have en : n = ts.length := by omega
    subst en
    refine .inl ⟨w.stop _ H2 sk (Nat.le_of_eq hdl), ?_⟩
    rw [List.take_length] at r2
    exact q D vs H2 (s1.trans s2) (s1.free hD) e2 r2
section
variable {iter elt : Expr} {ifs : List Expr} {scope : Scope} {x : Str} {px : Pos} {α : Type}
theorem ef_comp (i : Nat) (emb : α → PyData) (ts : List α) (p : α → Bool) (f : α → PyData) (hc : X.calm = true) (S : CompScope X scope [i]) (hN : X.N.Nodup) (hi : EiD X δ (.Name x px) iter (ts.map emb)) (hz : ts.length ≤ 1000)
    (ht : ∀ C s2 H2 fp t, t ∈ ts → EfD (compX X scope C s2 H2 fp) ((δ.set i .no).set i (.sh (emb t))) ifs (p t))
    (he : ∀ C s2 H2 fp t, t ∈ ts → p t = true → EvD (compX X scope C s2 H2 fp) ((δ.set i .no).set i (.sh (emb t))) elt (f t))
    (hno : ∀ oa c, δ[i]? ≠ some (.own oa c) := by intro _ _ z; cases z)
    (hx : X.N[i]? = some x := by rfl) (hl : Loc (relabel scope X.env) x := by first | exact Or.inl rfl | exact Or.inr rfl)
    (hf : decide (scope.names.lookup x = some .cell) = true ∨ (relabel scope X.env).names.lookup x = some .local := by first | exact Or.inr rfl | exact Or.inl rfl)
    (hs : ∀ x, foldedSetIterable iter X.env x = pure x := by intro _; rfl) : EvF X δ (.ListComp elt [⟨.Name x px, iter, ifs, 0⟩] scope pos) ((ts.filter p).map f) :=
  ef_of (pe_lcomp (is := [i]) (g := gName i) (tt := tTs X.K δ i emb ts p) (te := tEs X.K δ i emb ts p f) hc S hi (fun C s2 H2 fp => ⟨pg_name (X := compX X scope C s2 H2 fp) hN hx hl hf,
    fun pins s σ H Q I ⟨t, h, q⟩ => ht C s2 H2 fp t h pins s σ H Q I q, fun pins s σ H Q I ⟨t, h, hp, q⟩ => he C s2 H2 fp t h hp pins s σ H Q I q⟩) hs) fun Hb own B σ H Q E q => tcomp_of hz hno E q
end
theorem EnvO.share {K : PySem.W.Frag} {Hb : Hp} {own : Nat → List Addr} {B : Addr → Prop} {H : Hp} {σ : St} (E : EnvO K Hb own B H σ δ) {i : Nat} {oa : Option Addr} {c : Cont} {d : PyData} (hδ : δ[i]? = some (.own oa c)) (hd : c.dat = some d := by rfl) : EnvO K Hb (unown own i) B H σ (δ.set i (.sh d)) := by
  obtain ⟨v, h2, _, h4⟩ := E.ow i oa _ hδ
  have na : ∀ a ∈ own i, ¬ Av (unown own i) B a := fun a h1 z => by
    rcases z with z | ⟨j, z⟩
    · exact E.bb a z (E.ofr i a h1)
    · exact (unown_some z).1 (E.inj j i a (unown_some z).2 h1)
  refine ⟨E.base, by rw [List.length_set]; exact E.len, E.bb, fun j a h => E.ofr j a (unown_some h).2, fun j a h => ?_, unown_nd E.ond i, fun j k a h h' => E.inj j k a (unown_some h).2 (unown_some h').2, fun j e h => ?_, fun j oa2 c2 h => ?_⟩
  · obtain ⟨oa2, ys, q⟩ := E.oex j a (unown_some h).2
    exact ⟨oa2, ys, by rw [List.getElem?_set_ne (Ne.symm (unown_some h).1)]; exact q⟩
  · by_cases ji : j = i
    · subst ji
      rw [List.getElem?_set_self (List.getElem?_eq_some_iff.mp hδ).1] at h
      cases h
      exact ⟨v, h2, (h4.av unown_av).rep hd na⟩
    · rw [List.getElem?_set_ne (Ne.symm ji)] at h
      obtain ⟨w, k1, k2⟩ := E.sh j e h
      exact ⟨w, k1, k2.av unown_av⟩
  · by_cases ji : j = i
    · subst ji
      rw [List.getElem?_set_self (List.getElem?_eq_some_iff.mp hδ).1] at h
      cases h
    · rw [List.getElem?_set_ne (Ne.symm ji)] at h
      obtain ⟨w, k1, k2, k4⟩ := E.ow j oa2 c2 h
      exact ⟨w, k1, k2, by rw [unown_ne ji]; exact k4.av unown_av⟩
noncomputable def scalD : PyData → Bool
  | .none => true
  | .bool _ => true
  | .int _ => true
  | .str _ => true
  | _ => false
theorem rep_scal {K : PySem.W.Frag} {A A' : Addr → Prop} {H : Hp} {d : PyData} {v : V} (hs : scalD d = true) (h : Rep K A H d v) : Rep K A' H d v := by
  cases d <;> first | exact h | cases hs
theorem reps_scal {K : PySem.W.Frag} {A A' : Addr → Prop} {H : Hp} : ∀ {ds : List PyData} {vs : List V}, ds.all scalD = true → Reps K A H ds vs → Reps K A' H ds vs
  | [], _, _, h => h
  | x :: xs, _, hs, h => by
    rw [List.all_cons, Bool.and_eq_true] at hs
    obtain ⟨v, r, h1, h2, h3⟩ := h
    exact ⟨v, r, h1, rep_scal hs.1 h2, reps_scal hs.2 h3⟩
theorem ev_share (i : Nat) {oa : Option Addr} (hδ : δ[i]? = some (.own oa (.l xs))) (h : EvD X (δ.set i (.sh (.list xs))) e d) (hs : scalD d = true := by rfl) : EvD X δ e d :=
  ev_of h fun Hb own B σ H Q E q => ⟨Hb, _, B, E.share hδ, fun v H' s1 r => q v H' s1 (rep_scal hs r)⟩
theorem et_share (i : Nat) {k : Bool} {oa : Option Addr} (hδ : δ[i]? = some (.own oa (.l xs))) (h : EtD X (δ.set i (.sh (.list xs))) e k) : EtD X δ e k :=
  et_of h fun Hb own B σ H Q E q => ⟨Hb, _, B, E.share hδ, q⟩
theorem ef_share (i : Nat) {oa : Option Addr} (hδ : δ[i]? = some (.own oa (.l xs))) (h : EvF X (δ.set i (.sh (.list xs))) e ys) (hs : ys.all scalD = true) : EvF X δ e ys :=
  ef_of h fun Hb own B σ H Q E q => ⟨Hb, _, B, E.share hδ, fun a vs H' s1 hn ha r => q a vs H' s1 hn ha (reps_scal hs r)⟩
end
end L2
end
section
namespace L2
open PySem PySem.Spec PyProof.Rows
inductive Out where
  | nx (δ : Dn)
  | rt (d : PyData)
  /-- a new list is handed back -/
  | rf (xs : List PyData)
  /-- handed back, what is owned still known -/
  | rw (δ : Dn) (d : PyData)
  /-- a new thing with parts of its own is handed back -/
  | rn (t : OT)
  | bk (δ : Dn)
  | ct (δ : Dn)
noncomputable def Post (K : PySem.W.Frag) (Hb : Hp) (B : Addr → Prop) (D : Ends) : Out → Prop
  | .nx δ => ∀ own σ H, EnvO K Hb own B H σ δ → D.nx σ H
  | .bk δ => ∀ own σ H, EnvO K Hb own B H σ δ → D.bk σ H
  | .ct δ => ∀ own σ H, EnvO K Hb own B H σ δ → D.ct σ H
  | .rt d => ∀ v H, Same Hb H → Rep K B H d v → D.rt v H
  | .rf xs => ∀ a vs H, Same Hb H → Hb a = none → H a = some (.lst vs) → Reps K (fun b => B b ∨ b = a) H xs vs → D.rt (.ref a) H
  | .rw δ d => ∀ own σ H v, EnvO K Hb own B H σ δ → Rep K (Av own B) H d v → D.rt v H
  | .rn t => ∀ v as H, Same Hb H → (∀ a ∈ as, Hb a = none) → as.Nodup → RepO K (fun b => B b ∨ b ∈ as) H t v as → D.rt v H
noncomputable def tS (K : PySem.W.Frag) (δ : Dn) (o : Out) : TS := fun D σ H => ∃ Hb own B, EnvO K Hb own B H σ δ ∧ Post K Hb B D o
noncomputable def SR (X : Cx) (δ : Dn) (st : List Stmt) (o : Out) : Prop := PSs X st (tS X.K δ o)
noncomputable def S1 (X : Cx) (δ : Dn) (st : Stmt) (o : Out) : Prop := PS X st (tS X.K δ o)
theorem Post.rebase {K : PySem.W.Frag} {Hb : Hp} {own : Nat → List Addr} {B : Addr → Prop} {H : Hp} {σ : St} {δ : Dn} {D : Ends} {o : Out} (E : EnvO K Hb own B H σ δ) (P : Post K Hb B D o) : Post K (keepB own H) B D o := by
  have sb : Same Hb (keepB own H) := fun b u q => keepB_of (E.base b u q) fun i hi => by rw [E.ofr i b hi] at q; cases q
  cases o with
  | nx δ' => exact fun own' σ' H' E' => P own' σ' H' (E.unbase' E')
  | bk δ' => exact fun own' σ' H' E' => P own' σ' H' (E.unbase' E')
  | ct δ' => exact fun own' σ' H' E' => P own' σ' H' (E.unbase' E')
  | rt d => exact fun v H' s r => P v H' (sb.trans s) r
  | rf xs => exact fun a vs H' s hn ha r => P a vs H' (sb.trans s) (sb.free hn) ha r
  | rw δ' d => exact fun own' σ' H' v E' r => P own' σ' H' v (E.unbase' E') r
  | rn t => exact fun v as H' s hn nd r => P v as H' (sb.trans s) (fun a ha => sb.free (hn a ha)) nd r
section
variable {X : Cx} {δ δ1 : Dn} {a b c e tg : Expr} {d da db : PyData} {pos : Pos} {xs ys : List PyData} {st : Stmt} {rest body els : List Stmt} {o : Out} {x y : Str} {i j : Nat}
theorem sr_nil : SR X δ [] (.nx δ) := fun pins s σ H D I hh12 => Zz.a5 hh12 fun Hb own B E P => pss_nil pins s σ H D I (P own σ H E)
theorem sr_cons (h1 : S1 X δ st (.nx δ1)) (h2 : SR X δ1 rest o) : SR X δ (st :: rest) o :=
  fun pins s σ H D I hh13 => Zz.a5 hh13 fun Hb own B E P => pss_cons h1 h2 pins s σ H D I ⟨Hb, own, B, E, fun own' σ' H' E' => ⟨Hb, own', B, E', P⟩⟩
theorem sr_one (h1 : S1 X δ st o) : SR X δ [st] o := pss_one h1
theorem sr_rt (h1 : S1 X δ st (.rt d)) : SR X δ (st :: rest) (.rt d) := fun pins s σ H D I hh14 => Zz.a5 hh14 fun Hb own B E P => pss_cons h1 (pss_never (sts := rest)) pins s σ H D I ⟨Hb, own, B, E, P⟩
theorem sr_rf (h1 : S1 X δ st (.rf xs)) : SR X δ (st :: rest) (.rf xs) := fun pins s σ H D I hh15 => Zz.a5 hh15 fun Hb own B E P => pss_cons h1 (pss_never (sts := rest)) pins s σ H D I ⟨Hb, own, B, E, P⟩
theorem sr_eq {o' : Out} (h : SR X δ body o) (q : o = o') : SR X δ body o' := q ▸ h
theorem s1_eq {o' : Out} (h : S1 X δ st o) (q : o = o') : S1 X δ st o' := q ▸ h
theorem s1_if {k : Bool} (hc : EtD X δ c k) (h1 : k = true → SR X δ body o) (h2 : k = false → SR X δ els o) : S1 X δ (.If c body els pos) o := by
  cases k with
  | true => exact fun pins s σ H D I hh16 => Zz.a5 hh16 fun Hb own B E P => ps_if hc (h1 rfl) (pss_never (sts := els)) pins s σ H D I ⟨Hb, own, B, E, fun H' s1 => iteT ⟨Hb, own, B, E.mono s1, P⟩⟩
  | false => exact fun pins s σ H D I hh17 => Zz.a5 hh17 fun Hb own B E P => ps_if hc (pss_never (sts := body)) (h2 rfl) pins s σ H D I ⟨Hb, own, B, E, fun H' s1 => iteF ⟨Hb, own, B, E.mono s1, P⟩⟩
theorem sr_if_out {k : Bool} (hc : EtD X δ c k) (h1 : k = true → SR X δ body o) (h2 : k = false → SR X δ rest o) (hn : ∀ δ', o ≠ .nx δ' := by intro _ z; cases z) : SR X δ (.If c body [] pos :: rest) o := by
  cases k with
  | true =>
    intro pins s σ H D I ⟨Hb, own, B, E, P⟩
    refine pss_cons (s1_if (els := []) hc (fun _ => h1 rfl) (fun z => nomatch z)) (pss_never (sts := rest)) pins s σ H D I ⟨Hb, own, B, E, ?_⟩
    cases o with
    | nx δ' => exact absurd rfl (hn δ')
    | _ => exact P
  | false => exact sr_cons (s1_if (els := []) hc (fun z => nomatch z) fun _ => sr_nil) (h2 rfl)
theorem s1_set (i : Nat) {px : Pos} (hN : X.N.Nodup) (he : EvD X δ e d) (hi : X.N[i]? = some x := by rfl) (hx : Loc X.env.scope x := by first | exact Or.inl rfl | exact Or.inr rfl) (hs : swapsWith e (some (.Name x px)) pos.line X.env = pure false := by rfl) (hf : X.fn x = true ∨ X.env.scope.names.lookup x = some .local := by first | exact .inl rfl | exact .inr rfl | assumption) :
    S1 X δ (.Assign [.Name x px] e pos) (.nx (δ.set i (.sh d))) :=
  fun pins s σ H D I hh18 => Zz.a5 hh18 fun Hb own B E P => ps_set hN hi hx he hs hf pins s σ H D I ⟨Hb, own, B, E, fun v H' s1 r => P _ _ _ ((E.mono s1).setSh r)⟩
theorem s1_setF (i : Nat) {px : Pos} (hN : X.N.Nodup) (he : EvF X δ e xs) (hl : i < δ.length := by exact Nat.le_of_ble_eq_true rfl) (hi : X.N[i]? = some x := by rfl) (hx : Loc X.env.scope x := by first | exact Or.inl rfl | exact Or.inr rfl) (hs : swapsWith e (some (.Name x px)) pos.line X.env = pure false := by rfl) (hf : X.fn x = true ∨ X.env.scope.names.lookup x = some .local := by first | exact .inl rfl | exact .inr rfl | assumption) :
    S1 X δ (.Assign [.Name x px] e pos) (.nx (δ.set i (.ow xs))) :=
  fun pins s σ H D I hh19 => Zz.a5 hh19 fun Hb own B E P => ps_set hN hi hx he hs hf pins s σ H D I ⟨Hb, own, B, E, fun a vs H' s1 hn ha r => P _ _ _ (E.setOw s1 hl hn ha r)⟩
theorem s1_setC {α : Type} (j i : Nat) (emb : α → PyData) (ts : List α) (p : α → Bool) (f : α → PyData) {iter elt : Expr} {ifs : List Expr} {scope : Scope} {px py cpos : Pos} (hc : X.calm = true) (S : CompScope X scope [i]) (hN : X.N.Nodup) (hi : EiD X δ (.Name x px) iter (ts.map emb)) (hz : ts.length ≤ 1000)
    (ht : ∀ C s2 H2 fp t, t ∈ ts → EfD (compX X scope C s2 H2 fp) ((δ.set i .no).set i (.sh (emb t))) ifs (p t))
    (he : ∀ C s2 H2 fp t, t ∈ ts → p t = true → EvD (compX X scope C s2 H2 fp) ((δ.set i .no).set i (.sh (emb t))) elt (f t))
    (hno : ∀ oa c, δ[i]? ≠ some (.own oa c) := by intro _ _ z; cases z) (hjl : j < δ.length := by exact Nat.le_of_ble_eq_true rfl)
    (hx : X.N[i]? = some x := by rfl) (hl : Loc (relabel scope X.env) x := by first | exact Or.inl rfl | exact Or.inr rfl)
    (hf : decide (scope.names.lookup x = some .cell) = true ∨ (relabel scope X.env).names.lookup x = some .local := by first | exact Or.inr rfl | exact Or.inl rfl)
    (hj : X.N[j]? = some y := by rfl) (hy : X.env.scope.names.lookup y = some .local := by rfl)
    (hsw : swapsWith (.ListComp elt [⟨.Name x px, iter, ifs, 0⟩] scope cpos) (some (.Name y py)) pos.line X.env = pure true := by rfl)
    (hs : ∀ x, foldedSetIterable iter X.env x = pure x := by intro _; rfl) : S1 X δ (.Assign [.Name y py] (.ListComp elt [⟨.Name x px, iter, ifs, 0⟩] scope cpos) pos) (.nx (δ.set j (.ow ((ts.filter p).map f)))) :=
  fun pins s σ H D I hh20 => Zz.a5 hh20 fun Hb own B E P => ps_setComp (is := [i]) (g := gName i) (tt := tTs X.K δ i emb ts p) (te := tEs X.K δ i emb ts p f) hc S hi (fun C s2 H2 fp => ⟨pg_name (X := compX X scope C s2 H2 fp) hN hx hl hf,
    fun pins s σ H Q I ⟨t, h, q⟩ => ht C s2 H2 fp t h pins s σ H Q I q, fun pins s σ H Q I ⟨t, h, hp, q⟩ => he C s2 H2 fp t h hp pins s σ H Q I q⟩) hN hj hy hsw hs pins s σ H D I
    (tcomp_of hz hno E fun a vs H' s1 hn ha r => P _ _ _ (E.setOw s1 hjl hn ha r))
theorem s1_ret (he : EvD X δ e d) : S1 X δ (.Return (some e) pos) (.rt d) :=
  fun pins s σ H D I hh21 => Zz.a5 hh21 fun Hb own B E P => ps_ret he pins s σ H D I ⟨Hb, own, B, E, fun v H' s1 r => P v H' (E.base.trans s1) (r.av fun _ h => .inl h)⟩
theorem s1_retW (he : EvD X δ e d) : S1 X δ (.Return (some e) pos) (.rw δ d) :=
  fun pins s σ H D I hh22 => Zz.a5 hh22 fun Hb own B E P => ps_ret he pins s σ H D I ⟨Hb, own, B, E, fun v H' s1 r => P own σ H' v (E.mono s1) r⟩
theorem sr_rw (h1 : S1 X δ st (.rw δ1 d)) : SR X δ (st :: rest) (.rw δ1 d) := fun pins s σ H D I hh23 => Zz.a5 hh23 fun Hb own B E P => pss_cons h1 (pss_never (sts := rest)) pins s σ H D I ⟨Hb, own, B, E, P⟩
theorem sr_rn {t : OT} (h1 : S1 X δ st (.rn t)) : SR X δ (st :: rest) (.rn t) := fun pins s σ H D I hh24 => Zz.a5 hh24 fun Hb own B E P => pss_cons h1 (pss_never (sts := rest)) pins s σ H D I ⟨Hb, own, B, E, P⟩
theorem s1_retF (he : EvF X δ e xs) : S1 X δ (.Return (some e) pos) (.rf xs) :=
  fun pins s σ H D I hh25 => Zz.a5 hh25 fun Hb own B E P => ps_ret he pins s σ H D I ⟨Hb, own, B, E, fun a vs H' s1 hn ha r => P a vs H' (E.base.trans s1) (E.base.free hn) ha (r.av fun b h => h.imp .inl id)⟩
theorem s1_retO (i : Nat) {px : Pos} {oa : Option Addr} (hδ : δ[i]? = some (.own oa (.l xs))) (hN : X.N[i]? = some x := by rfl) (hv : Vis X.env.scope x := by first | exact Or.inl rfl | exact Or.inr (Or.inl rfl) | exact Or.inr (Or.inr rfl)) (hd : (x == ("__debug__" : Str)) = false := by decide)
    (hcd : (x == ("__classdict__" : Str)) = false := by decide) : S1 X δ (.Return (some (.Name x px)) pos) (.rf xs) :=
  fun pins s σ H D I hh26 => Zz.a5 hh26 fun Hb own B E P => ps_ret (pe_var hN hv hd hcd) pins s σ H D I (by
    obtain ⟨a, vs, h1, h2, h3, h4⟩ := E.owl hδ
    exact ⟨_, h2, P a vs H E.base (E.ofr i a h1) h3 (h4.av fun b h => h.elim (fun z => .inl z) fun z => .inr ⟨i, by rw [z]; exact h1⟩)⟩)
theorem sr_share (i : Nat) {oa : Option Addr} (hδ : δ[i]? = some (.own oa (.l xs))) (h : SR X (δ.set i (.sh (.list xs))) body o) : SR X δ body o := fun pins s σ H D I hh27 => Zz.a5 hh27 fun Hb own B E P => h pins s σ H D I ⟨Hb, _, B, E.share hδ, P⟩
theorem s1_append (i : Nat) {px apos cpos : Pos} {oa : Option Addr} (hδ : δ[i]? = some (.own oa (.l xs))) (he : EvD X δ e d) (hz : xs.length < 1000) (hN : X.N[i]? = some x := by rfl) (hv : Vis X.env.scope x := by first | exact Or.inl rfl | exact Or.inr (Or.inl rfl) | exact Or.inr (Or.inr rfl)) (hd : (x == ("__debug__" : Str)) = false := by decide)
    (hcd : (x == ("__classdict__" : Str)) = false := by decide) (hst : starEach [e] X.env = [(false, eval e X.env)] := by rfl)
    (hb : ∀ {te : TE} {t : TA}, PE X (.Name x px) te → PA X [e] t → PE X (.Call (.Attribute (.Name x px) "append" apos) [e] [] cpos) (tBM X.K "list" rAppend te t) := by exact fun h1 h2 => pe_bm PySem.F.plainAttrs_list PySem.F.slot_list_append PySem.F.type_list_append mt_append h1 h2)
    (hsw : swapsWith (.Call (.Attribute (.Name x px) "append" apos) [e] [] cpos) none pos.line X.env = pure false := by rfl) :
    S1 X δ (.Expr (.Call (.Attribute (.Name x px) "append" apos) [e] [] cpos) pos) (.nx (δ.set i (.own oa (.l (xs ++ [d]))))) :=
  fun pins s σ H D I hh28 => Zz.a5 hh28 fun Hb own B E P => ps_expr (hb (pe_var hN hv hd hcd) (ea_cons he ea_nil (by rw [hst]; rfl))) hsw pins s σ H D I (by
    obtain ⟨a, vs, h1, h2, h3, h4⟩ := E.owl hδ
    refine ⟨_, h2, .inl ⟨rfl, vs, SqL.of h3⟩, Hb, own, B, E, fun us H' s1 r => ?_⟩
    obtain ⟨v, r', rfl, rv, e2⟩ := r
    cases e2
    exact ⟨a, vs, v, rfl, rfl, s1 _ _ h3, by rw [← h4.length]; exact small1000 (Nat.le_of_lt hz), P _ _ _ ((E.mono s1).write hδ h1 ((h4.up s1).append (Reps.one rv)))⟩)
theorem Kp.young {A A' : Addr → Prop} {Hk : Hp} (av : ∀ a, A' a → A a ∨ Hk a = none) : Kp A A' Hk Hk :=
  ⟨fun a _ h q => ⟨fun z => (av a z).elim h fun y => (by rw [y] at q; cases q), q⟩, fun _ _ q => q, fun _ _ _ q => q⟩
theorem Rep.young {K : PySem.W.Frag} {A A' : Addr → Prop} {Hk H : Hp} {d : PyData} {v : V} (av : ∀ a, A' a → A a ∨ Hk a = none) (h : Rep K A Hk d v) (e : Same Hk H) : Rep K A' H d v := (Rep.kp (.young av) d v h).up e
theorem drop_cons {α : Type} {l : List α} {n : Nat} {d : α} (h : l[n]? = some d) : l.drop n = d :: l.drop (n + 1) := by
  obtain ⟨h1, rfl⟩ := List.getElem?_eq_some_iff.mp h
  exact List.drop_eq_getElem_cons h1
theorem sr_skip (hc : EtD X δ c false) (h : SR X δ rest o) : SR X δ (.If c body [] pos :: rest) o := sr_cons (s1_if (els := []) hc (fun z => nomatch z) fun _ => sr_nil) h
end
end L2
end
section
namespace L2
open PySem PySem.Spec PyProof.Rows
noncomputable def spP (K : PySem.W.Frag) (R : List PyData → PyData → Prop) : Sp := fun vs H Q _ => ∃ B ds d, (∀ a, B a → H a ≠ none) ∧ Reps K B H ds vs ∧ R ds d ∧ ∀ v H', Same H H' → Rep K B H' d v → Q v H'
noncomputable def spL (K : PySem.W.Frag) (R : List PyData → List PyData → Prop) : Sp := fun vs H Q _ => ∃ B ds xs, (∀ a, B a → H a ≠ none) ∧ Reps K B H ds vs ∧ R ds xs ∧
  ∀ a us H', Same H H' → H a = none → H' a = some (.lst us) → Reps K (fun b => B b ∨ b = a) H' xs us → Q (.ref a) H'
structure Fn (P : Program) (w : World) (K : PySem.W.Frag) (mg : Str → Option Value) (base : Heap) (name : Str) (k : Nat) (ps : List Str) (sp : Sp) : Prop where
  ex : ∃ f fd, FnOk P w K mg base CX0 k f fd ps sp ∧ mg name = some (.ref f) ∧ PySem.W.keepIn K (.ref f) = true ∧ Binds K fd ps []
section
variable {X : Cx} {δ : Dn} {e : Expr} {es : List Expr} {d : PyData} {ds xs : List PyData} {p pos : Pos} {name : Str} {k j : Nat} {ps : List Str}
theorem ev_call {R : List PyData → PyData → Prop} (G : Fn X.prog X.w X.K X.mg X.base name j ps (spP X.K R)) (hr : Room k X.A) (hjk : j ≤ k) (hg : Gl X name) (ha : EaD X δ (e :: es) ds) (hR : R ds d) (hdb : (name == ("__debug__" : Str)) = false := by decide)
    (he : starEach (e :: es) X.env = (false, eval e X.env) :: starEach es X.env := by rfl) (hpl : (backTo pos (starEach es X.env)).any (·.1) = false := by rfl) : EvD X δ (.Call (.Name name p) (e :: es) [] pos) d := by
  obtain ⟨f, fd, h1, h2, h3, h4⟩ := G.ex
  refine ev_of (pe_call h1 (hr.mono hjk) hg h2 h3 h4 .nil pass0 ha hdb he hpl) fun Hb own B σ H Q E q => ⟨Hb, own, B, E, fun vs H1 s1 rv => ?_⟩
  show spP X.K R (vs ++ []) H1 Q E0
  rw [List.append_nil]
  exact ⟨Av own B, ds, d, fun a z => (E.mono s1).alive z, rv, hR, fun v H' s2 r => q v H' (s1.trans s2) r⟩
theorem ef_call {R : List PyData → List PyData → Prop} (G : Fn X.prog X.w X.K X.mg X.base name j ps (spL X.K R)) (hr : Room k X.A) (hjk : j ≤ k) (hg : Gl X name) (ha : EaD X δ (e :: es) ds) (hR : R ds xs) (hdb : (name == ("__debug__" : Str)) = false := by decide)
    (he : starEach (e :: es) X.env = (false, eval e X.env) :: starEach es X.env := by rfl) (hpl : (backTo pos (starEach es X.env)).any (·.1) = false := by rfl) : EvF X δ (.Call (.Name name p) (e :: es) [] pos) xs := by
  obtain ⟨f, fd, h1, h2, h3, h4⟩ := G.ex
  refine ef_of (pe_call h1 (hr.mono hjk) hg h2 h3 h4 .nil pass0 ha hdb he hpl) fun Hb own B σ H Q E q => ⟨Hb, own, B, E, fun vs H1 s1 rv => ?_⟩
  show spL X.K R (vs ++ []) H1 Q E0
  rw [List.append_nil]
  exact ⟨Av own B, ds, xs, fun a z => (E.mono s1).alive z, rv, hR, fun a us H' s2 hn ha r => q a us H' (s1.trans s2) (s1.free hn) ha r⟩
end
noncomputable def startD (N : List Str) (ds : List PyData) : Dn := ds.map .sh ++ List.replicate (N.length - ds.length) .no
theorem env_start {K : PySem.W.Frag} {H : Hp} {B : Addr → Prop} {N : List Str} {ds : List PyData} {vs : List V} (hB : ∀ a, B a → H a ≠ none) (r : Reps K B H ds vs) : EnvO K H (fun _ => []) B H (start N vs) (startD N ds) := by
  have hl := r.length
  have av : ∀ a, Av (fun _ => []) B a → B a := fun a h => h.elim id fun ⟨_, z⟩ => (nomatch z)
  refine ⟨Same.refl H, by simp [start, startD, hl], hB, fun _ _ z => (nomatch z), fun _ _ z => (nomatch z), fun _ => List.nodup_nil, fun _ _ _ z => (nomatch z), fun i d h => ?_, fun i oa c h => ?_⟩
  · unfold startD at h
    by_cases hi : i < ds.length
    · rw [List.getElem?_append_left (by simpa using hi), List.getElem?_map] at h
      cases q : ds[i]? with
      | none => rw [q] at h; cases h
      | some d' =>
        rw [q] at h
        cases h
        obtain ⟨v, hv, rv⟩ := r.at q
        refine ⟨v, ?_, rv.av av⟩
        unfold start
        rw [List.getElem?_append_left (by rw [List.length_map, ← hl]; exact hi), List.getElem?_map, hv]
        rfl
    · rw [List.getElem?_append_right (by simpa using hi), List.getElem?_replicate] at h
      split at h <;> cases h
  · unfold startD at h
    by_cases hi : i < ds.length
    · rw [List.getElem?_append_left (by simpa using hi), List.getElem?_map] at h
      cases q : ds[i]? with
      | none => rw [q] at h; cases h
      | some d' => rw [q] at h; cases h
    · rw [List.getElem?_append_right (by simpa using hi), List.getElem?_replicate] at h
      split at h <;> cases h
noncomputable abbrev bx (P : Program) (w : World) (K : PySem.W.Frag) (mg : Str → Option Value) (base : Heap) (N : List Str) (qual : Str) (st : Stmt) (f : Addr) (cdv : Value) (A : Around) (outer : List Env) (s : Shared) (H : Hp) (E : XK) : Cx :=
  (cxOf CX0 P w K mg base N qual (defScope st) f cdv A outer s H E).nox
section
variable {P : Program} {w : World} {K : PySem.W.Frag} {mg : Str → Option Value} {base : Heap} {x qual : Str} {st : Stmt} {f : Addr} {fd : FuncData} {N ps : List Str} {k : Nat}
theorem fn_P {R : List PyData → PyData → Prop} (F : Fun K x qual st f fd) (S : FnScope N ps (defScope st)) (hm : mg x = some (.ref f)) (hb : Binds K fd ps []) (hl : ∀ ds d, R ds d → ds.length = ps.length)
    (body : ∀ cdv A outer s H E, Room k (bx P w K mg base N qual st f cdv A outer s H E).A → ∀ ds d, R ds d → SR (bx P w K mg base N qual st f cdv A outer s H E) (startD N ds) (defBody st) (.rt d) ∨ (SR (bx P w K mg base N qual st f cdv A outer s H E) (startD N ds) (defBody st) (.rf (match d with | .list xs => xs | _ => [])) ∧ ∃ xs, d = .list xs)) :
    Fn P w K mg base x (k + 1) ps (spP K R) := by
  refine ⟨f, fd, F.ok S (fun vs H Q E h => ?_) (fun cdv A outer s H vs Q E hr h => ?_), hm, F.kp, hb⟩
  · obtain ⟨B, ds, d, _, r, hR, _⟩ := h
    rw [← r.length]; exact hl ds d hR
  · obtain ⟨B, ds, d, hB, r, hR, q⟩ := h
    rcases body cdv A outer s H E hr ds d hR with h | ⟨h, xs, rfl⟩
    · exact ⟨_, h, H, _, B, env_start hB r, fun v H' s1 rv => q v H' s1 rv⟩
    · exact ⟨_, h, H, _, B, env_start hB r, fun a vs H' s1 hn ha rv => q _ H' s1 ⟨a, vs, rfl, fun z => hB a z hn, ha, rv.av fun _ z => .inl z⟩⟩
theorem fn_L {R : List PyData → List PyData → Prop} (F : Fun K x qual st f fd) (S : FnScope N ps (defScope st)) (hm : mg x = some (.ref f)) (hb : Binds K fd ps []) (hl : ∀ ds d, R ds d → ds.length = ps.length)
    (body : ∀ cdv A outer s H E, Room k (bx P w K mg base N qual st f cdv A outer s H E).A → ∀ ds xs, R ds xs → SR (bx P w K mg base N qual st f cdv A outer s H E) (startD N ds) (defBody st) (.rf xs)) :
    Fn P w K mg base x (k + 1) ps (spL K R) := by
  refine ⟨f, fd, F.ok S (fun vs H Q E h => ?_) (fun cdv A outer s H vs Q E hr h => ?_), hm, F.kp, hb⟩
  · obtain ⟨B, ds, d, _, r, hR, _⟩ := h
    rw [← r.length]; exact hl ds d hR
  · obtain ⟨B, ds, xs, hB, r, hR, q⟩ := h
    exact ⟨_, body cdv A outer s H E hr ds xs hR, H, _, B, env_start hB r, fun a vs H' s1 hn ha rv => q a vs H' s1 hn ha rv⟩
end
noncomputable def spLaw (K : PySem.W.Frag) : Sp := fun vs H Q _ => ∃ (a : Addr) (ns : List Int), vs = [.ref a] ∧ ScL K H a (ns.map V.int) ∧ ns.length ≤ 63 ∧ ∀ H', Q (.bl true) H'
structure Blt (mg : Str → Option Value) : Prop where
  len : mg "len" = none
  list : mg "list" = none
  range : mg "range" = none
  any : mg "any" = none
  all : mg "all" = none
  isinstance : mg "isinstance" = none
  int : mg "int" = none
  bool : mg "bool" = none
  max : mg "max" = none
  min : mg "min" = none
  sorted : mg "sorted" = none
  tuple : mg "tuple" = none
  set : mg "set" = none
  enumerate : mg "enumerate" = none
  sum : mg "sum" = none
  str : mg "str" = none
  dict : mg "dict" = none
  ValueError : mg "ValueError" = none
end L2
end
section
namespace L2
open PySem PySem.Spec PyProof.Rows
section
variable {X : Cx} {δ : Dn} {a b c e tg : Expr} {d da db : PyData} {pos : Pos} {xs ys : List PyData} {k : Nat}
noncomputable def rgI (lo : Int) (n : Nat) : List Int := (List.range n).map fun (i : Nat) => lo + i
theorem rgD_eq (lo : Int) (n : Nat) : rgD lo n = (rgI lo n).map .int := by simp [rgD, rgI]
theorem rgI_len (lo : Int) (n : Nat) : (rgI lo n).length = n := by simp [rgI]
theorem mem_rgI {lo : Int} {n : Nat} {i : Int} : i ∈ rgI lo n ↔ lo ≤ i ∧ i < lo + n := by
  simp only [rgI, List.mem_map, List.mem_range]
  constructor
  · rintro ⟨j, hj, rfl⟩; omega
  · rintro ⟨h1, h2⟩; exact ⟨(i - lo).toNat, by omega, by omega⟩
theorem sm_int (i : Int) : Sm (.int i) := ⟨rfl, by show 0 ≤ 20; decide⟩
theorem layAll {xs : List PyData} (h : ∀ x ∈ xs, x.canLay0 = true) : PyData.canLayAll0 xs = true := by
  induction xs with
  | nil => rfl
  | cons x r ih =>
    rw [PyData.canLayAll0, h x List.mem_cons_self, ih fun y hy => h y (List.mem_cons_of_mem _ hy)]; rfl
theorem depAll {xs : List PyData} {n : Nat} (h : ∀ x ∈ xs, x.depth ≤ n) : PyData.depthAll xs ≤ n := by
  induction xs with
  | nil => exact Nat.zero_le _
  | cons x r ih =>
    rw [PyData.depthAll]
    exact Nat.max_le.mpr ⟨h x List.mem_cons_self, ih fun y hy => h y (List.mem_cons_of_mem _ hy)⟩
theorem lay_iD (ns : List Int) : PyData.canLayAll0 (iD ns) = true := layAll fun x hx => by obtain ⟨i, _, rfl⟩ := List.mem_map.mp hx; rfl
theorem dep_iD (ns : List Int) : PyData.depthAll (iD ns) ≤ 0 := depAll fun x hx => by obtain ⟨i, _, rfl⟩ := List.mem_map.mp hx; exact Nat.le_refl _
theorem sm_iD (ns : List Int) : Sm (.list (iD ns)) := ⟨lay_iD ns, by show PyData.depthAll (iD ns) + 1 ≤ 20; have := dep_iD ns; omega⟩
noncomputable def rowD (r : List Int) : PyData := .list (iD r)
noncomputable def rwD (rs : List (List Int)) : List PyData := rs.map rowD
theorem lay_rwD (rs : List (List Int)) : PyData.canLayAll0 (rwD rs) = true := layAll fun x hx => by obtain ⟨i, _, rfl⟩ := List.mem_map.mp hx; exact lay_iD i
theorem dep_rwD (rs : List (List Int)) : PyData.depthAll (rwD rs) ≤ 1 := depAll fun x hx => by
  obtain ⟨i, _, rfl⟩ := List.mem_map.mp hx
  show PyData.depthAll (iD i) + 1 ≤ 1
  have := dep_iD i
  omega
theorem eqv_int (i j : Int) : PyData.eqv (.int i) (.int j) = decide (i = j) := by
  show (i == j) = decide (i = j)
  by_cases h : i = j
  · subst h; simp
  · simp [h]
theorem eqvAll_iD : ∀ (a b : List Int), PyData.eqvAll (iD a) (iD b) = decide (a = b)
  | [], [] => rfl
  | [], _ :: _ => rfl
  | _ :: _, [] => rfl
  | x :: a, y :: b => by
    show (PyData.eqv (.int x) (.int y) && PyData.eqvAll (iD a) (iD b)) = _
    rw [eqv_int, eqvAll_iD a b]
    by_cases h : x = y <;> by_cases h' : a = b <;> simp [h, h']
theorem eqv_iD (a b : List Int) : PyData.eqv (.list (iD a)) (.list (iD b)) = decide (a = b) := eqvAll_iD a b
theorem any_iD (ns : List Int) (i : Int) : ((iD ns).any fun y => PyData.eqv y (.int i)) = decide (i ∈ ns) := by
  induction ns with
  | nil => rfl
  | cons n r ih =>
    show (PyData.eqv (.int n) (.int i) || (iD r).any fun y => PyData.eqv y (.int i)) = _
    rw [ih, eqv_int]
    by_cases h : n = i
    · subst h; simp
    · have h' : ¬ i = n := fun z => h z.symm
      simp [h, h']
theorem iD_len (ns : List Int) : (iD ns).length = ns.length := List.length_map _
theorem iD_get {ns : List Int} {i : Nat} {n : Int} (h : ns[i]? = some n) : (iD ns)[i]? = some (.int n) := by unfold iD; rw [List.getElem?_map, h]; rfl
theorem rwD_get {rs : List (List Int)} {i : Nat} {r : List Int} (h : rs[i]? = some r) : (rwD rs)[i]? = some (rowD r) := by unfold rwD; rw [List.getElem?_map, h]; rfl
theorem et_eqI {i j : Int} (hr : Room k X.A) (ha : EvD X δ a (.int i)) (hb : EvD X δ b (.int j)) : EtD X δ (.Compare a [.Eq] [b] pos) (decide (i = j)) := et_eq (et_eqD hr ha hb (sm_int i) rfl) (eqv_int i j)
theorem ev_inI {i : Int} {ns : List Int} (hr : Room k X.A) (ha : EvD X δ a (.int i)) (hb : EvD X δ b (.list (iD ns))) (hm : behindInMarks .In b = false := by with_unfolding_all rfl) : EvD X δ (.Compare a [.In] [b] pos) (.bool (decide (i ∈ ns))) :=
  ev_eq (ev_inD hr ha hb (sm_int i) (lay_iD ns) hm) (congrArg PyData.bool (any_iD ns i))
theorem et_inI {i : Int} {ns : List Int} (hr : Room k X.A) (ha : EvD X δ a (.int i)) (hb : EvD X δ b (.list (iD ns))) (hm : behindInMarks .In b = false := by with_unfolding_all rfl) : EtD X δ (.Compare a [.In] [b] pos) (decide (i ∈ ns)) :=
  et_eq (et_inD hr ha hb (sm_int i) (lay_iD ns) hm) (any_iD ns i)
theorem et_notInI {i : Int} {ns : List Int} (hr : Room k X.A) (ha : EvD X δ a (.int i)) (hb : EvD X δ b (.list (iD ns))) (hm : behindInMarks .NotIn b = false := by with_unfolding_all rfl) : EtD X δ (.Compare a [.NotIn] [b] pos) (!decide (i ∈ ns)) :=
  et_eq (et_notInD hr ha hb (sm_int i) (lay_iD ns) hm) (congrArg not (any_iD ns i))
theorem ei_rangeI {p : Pos} {n : Int} (hg : Gl X "range") (hm : X.mg "range" = none) (ha : EvD X δ a (.int n)) (h1 : -(2 ^ 62) ≤ n) (h2 : n < 2 ^ 62) (hs : starEach [a] X.env = [(false, eval a X.env)] := by rfl) : EiD X δ tg (.Call (.Name "range" p) [a] [] pos) ((rgI 0 n.toNat).map .int) :=
  rgD_eq 0 n.toNat ▸ ei_range1 hg hm ha h1 h2 hs
end
end L2
namespace L2
open PySem PySem.Spec PyProof.Rows
noncomputable def csOk (sc : Scope) (N : List Str) (scope : Scope) (is : List Nat) : Bool :=
  (scope.kind == .function) && decide (scope.names.map (·.1)).Nodup
    && scope.names.all (fun p => !(p.2 == .free) || (sc.names.lookup p.1 == some .cell) || (sc.names.lookup p.1 == some .free))
    && N.zipIdx.all fun p => !((scope.names.lookup p.1 == some .local) || (scope.names.lookup p.1 == some .cell)) || is.contains p.2
theorem cs_mk {X : Cx} {scope : Scope} {is : List Nat} (sc : Scope) (N : List Str) (hsc : X.env.scope = sc) (hN : X.N = N) (h : csOk sc N scope is = true) : CompScope X scope is := by
  unfold csOk at h
  rw [Bool.and_eq_true, Bool.and_eq_true, Bool.and_eq_true] at h
  obtain ⟨⟨⟨h1, h2⟩, h3⟩, h4⟩ := h
  refine ⟨by simpa using h1, of_decide_eq_true h2, fun p hp hf => ?_, fun p hp ho => ?_⟩
  · have := List.all_eq_true.mp h3 p hp
    rw [hsc]
    rw [hf] at this
    simpa using this
  · rw [hN] at hp
    have := List.all_eq_true.mp h4 p hp
    rcases ho with z | z
    · rw [z] at this; simpa using this
    · rw [z] at this; simpa using this
end L2
namespace L2
open PySem PySem.Spec PyProof.Rows
theorem ei_rangeN {X : Cx} {δ : Dn} {a tg : Expr} {p pos : Pos} {n : Nat} (hg : Gl X "range") (hm : X.mg "range" = none) (ha : EvD X δ a (.int n)) (h2 : n ≤ 1000) (hs : starEach [a] X.env = [(false, eval a X.env)] := by rfl) : EiD X δ tg (.Call (.Name "range" p) [a] [] pos) ((rgI 0 n).map .int) :=
  ei_rangeI (n := (n : Int)) hg hm ha (by omega) (by omega) hs
end L2
namespace L2
open PySem PySem.Spec PyProof.Rows
inductive Wkn : Dn → Dn → Prop where
  | nil : Wkn [] []
  | keep {e : Ent} {δ δ' : Dn} : Wkn δ δ' → Wkn (e :: δ) (e :: δ')
  | lose {e : Ent} {δ δ' : Dn} : Wkn δ δ' → Wkn (e :: δ) (.no :: δ')
  | share {oa : Option Addr} {xs : List PyData} {δ δ' : Dn} : Wkn δ δ' → Wkn (.own oa (.l xs) :: δ) (.sh (.list xs) :: δ')
  | shareN {oa : Option Addr} {c : Cont} {d : PyData} {δ δ' : Dn} (h : c.dat = some d) : Wkn δ δ' → Wkn (.own oa c :: δ) (.sh d :: δ')
  | hide {oa : Option Addr} {c : Cont} {δ δ' : Dn} : Wkn δ δ' → Wkn (.own oa c :: δ) (.own none c :: δ')
theorem Wkn.len {δ δ' : Dn} (w : Wkn δ δ') : δ'.length = δ.length := by induction w <;> simp_all
theorem Wkn.at {δ δ' : Dn} (w : Wkn δ δ') : ∀ (i : Nat) (e : Ent), δ'[i]? = some e → e = .no ∨ δ[i]? = some e ∨ (∃ oa c d, e = .sh d ∧ c.dat = some d ∧ δ[i]? = some (.own oa c)) ∨ ∃ oa c, e = .own none c ∧ δ[i]? = some (.own oa c) := by
  induction w with
  | nil => intro i e h; cases h
  | keep w ih =>
    intro i e h
    cases i with
    | zero => exact .inr (.inl h)
    | succ i => exact ih i e (by simpa using h)
  | lose w ih =>
    intro i e h
    cases i with
    | zero => cases h; exact .inl rfl
    | succ i => exact ih i e (by simpa using h)
  | share w ih =>
    intro i e h
    cases i with
    | zero => cases h; exact .inr (.inr (.inl ⟨_, _, _, rfl, rfl, rfl⟩))
    | succ i => exact ih i e (by simpa using h)
  | shareN hd w ih =>
    intro i e h
    cases i with
    | zero => cases h; exact .inr (.inr (.inl ⟨_, _, _, rfl, hd, rfl⟩))
    | succ i => exact ih i e (by simpa using h)
  | hide w ih =>
    intro i e h
    cases i with
    | zero => cases h; exact .inr (.inr (.inr ⟨_, _, rfl, rfl⟩))
    | succ i => exact ih i e (by simpa using h)
noncomputable def ownAt (own : Nat → List Addr) (δ : Dn) : Nat → List Addr := fun i => match δ[i]? with
  | some (.own _ _) => own i
  | _ => []
theorem ownAt_some {own : Nat → List Addr} {δ : Dn} {i : Nat} {a : Addr} (h : a ∈ ownAt own δ i) : a ∈ own i ∧ ∃ oa c, δ[i]? = some (.own oa c) := by
  unfold ownAt at h
  split at h
  · rename_i oa c q; exact ⟨h, oa, c, q⟩
  · cases h
theorem EnvO.weaken {K : PySem.W.Frag} {Hb : Hp} {own : Nat → List Addr} {B : Addr → Prop} {H : Hp} {σ : St} {δ δ' : Dn} (E : EnvO K Hb own B H σ δ) (w : Wkn δ δ') : EnvO K Hb (ownAt own δ') B H σ δ' := by
  have av : ∀ a, Av (ownAt own δ') B a → Av own B a := fun a h => h.imp id fun ⟨i, z⟩ => ⟨i, (ownAt_some z).1⟩
  have nd : ∀ i, (ownAt own δ' i).Nodup := fun i => by
    unfold ownAt
    split
    · exact E.ond i
    · exact List.nodup_nil
  refine ⟨E.base, by rw [w.len]; exact E.len, E.bb, fun i a h => E.ofr i a (ownAt_some h).1, fun i a h => (ownAt_some h).2, nd, fun i j a h h' => E.inj i j a (ownAt_some h).1 (ownAt_some h').1, fun i d h => ?_, fun i oa c h => ?_⟩
  · rcases w.at i _ h with z | z | ⟨oa, c, d', z, hd, q⟩ | ⟨oa, c, z, q⟩
    · cases z
    · obtain ⟨v, h1, h2⟩ := E.sh i d z
      exact ⟨v, h1, h2.av av⟩
    · cases z
      obtain ⟨v, h2, _, h4⟩ := E.ow i oa _ q
      refine ⟨v, h2, (h4.av av).rep hd fun a h1 z => ?_⟩
      rcases z with z | ⟨j, z⟩
      · exact E.bb a z (E.ofr i a h1)
      · obtain ⟨z1, oa2, ys, z2⟩ := ownAt_some z
        have : j = i := E.inj j i a z1 h1
        subst this
        rw [h] at z2; cases z2
    · cases z
  · rcases w.at i _ h with z | z | ⟨_, _, _, z, _⟩ | ⟨oa2, c2, z, q⟩
    · cases z
    · obtain ⟨v, h1, h2, h4⟩ := E.ow i oa c z
      exact ⟨v, h1, h2, by unfold ownAt; rw [h]; exact h4.av av⟩
    · cases z
    · cases z
      obtain ⟨v, h1, h2, h4⟩ := E.ow i oa2 _ q
      exact ⟨v, h1, fun _ z => (nomatch z), by unfold ownAt; rw [h]; exact h4.av av⟩
section
variable {X : Cx} {δ δ1 δ2 : Dn} {st : Stmt} {body : List Stmt} {o : Out}
variable {iter elt e : Expr} {ifs : List Expr} {scope : Scope} {x y : Str} {px py pos cpos : Pos} {α : Type}
theorem ef_map (i : Nat) (emb : α → PyData) (ts : List α) (f : α → PyData) (hc : X.calm = true) (S : CompScope X scope [i]) (hN : X.N.Nodup) (hi : EiD X δ (.Name x px) iter (ts.map emb)) (hz : ts.length ≤ 1000)
    (he : ∀ C s2 H2 fp t, t ∈ ts → EvD (compX X scope C s2 H2 fp) ((δ.set i .no).set i (.sh (emb t))) elt (f t))
    (hno : ∀ oa c, δ[i]? ≠ some (.own oa c) := by intro _ _ z; cases z)
    (hx : X.N[i]? = some x := by rfl) (hl : Loc (relabel scope X.env) x := by first | exact Or.inl rfl | exact Or.inr rfl)
    (hf : decide (scope.names.lookup x = some .cell) = true ∨ (relabel scope X.env).names.lookup x = some .local := by first | exact Or.inr rfl | exact Or.inl rfl)
    (hs : ∀ x, foldedSetIterable iter X.env x = pure x := by intro _; rfl) : EvF X δ (.ListComp elt [⟨.Name x px, iter, [], 0⟩] scope pos) (ts.map f) := by
  have := ef_comp (pos := pos) (ifs := []) i emb ts (fun _ => true) f hc S hN hi hz (fun _ _ _ _ _ _ => efs_nil) (fun C s2 H2 fp t h _ => he C s2 H2 fp t h) hno hx hl hf hs
  rw [List.filter_eq_self.mpr (by intros; rfl)] at this
  exact this
theorem ei_ints {tg : Expr} {ns : List Int} (h : EvD X δ e (.list (iD ns))) : EiD X δ tg e (ns.map .int) := ei_list h
theorem ei_rows {tg : Expr} {rs : List (List Int)} (h : EvD X δ e (.list (rwD rs))) : EiD X δ tg e (rs.map rowD) := ei_list h
end
end L2
namespace L2
open PySem PySem.Spec PyProof.Rows
theorem fn_law {P : Program} {w : World} {K : PySem.W.Frag} {mg : Str → Option Value} {base : Heap} {x qual : Str} {st : Stmt} {f : Addr} {fd : FuncData} {N : List Str} {k : Nat} (F : Fun K x qual st f fd) (S : FnScope N ["script"] (defScope st))
    (body : ∀ cdv A outer s H E, Room k (bx P w K mg base N qual st f cdv A outer s H E).A → ∀ ns : List Int, ns.length ≤ 63 → SR (bx P w K mg base N qual st f cdv A outer s H E) (startD N [scr ns]) (defBody st) (.rt (.bool true))) :
    FnOk P w K mg base CX0 (k + 1) f fd ["script"] (spLaw K) := by
  refine F.ok S (fun vs H Q E h => ?_) (fun cdv A outer s H vs Q E hr h => ?_)
  · obtain ⟨a, ns, rfl, _⟩ := h; rfl
  · obtain ⟨a, ns, rfl, hS, hl, q⟩ := h
    refine ⟨_, body cdv A outer s H E hr ns hl, H, _, fun _ => False, env_start (fun _ z => z.elim) ⟨.ref a, [], rfl, .inl ⟨a, ns, rfl, rfl, hS⟩, rfl⟩, fun v H' s1 rv => ?_⟩
    cases rv
    exact q H'
theorem scl_of {K : PySem.W.Frag} {H : Hp} {a : Addr} {xs : List V} (hO : Only H) (h : SqL K H a xs) : ScL K H a xs := by
  rcases h with (h | ⟨o, h⟩) | h
  · rcases hO a with z | ⟨o, ys, z⟩
    · rw [z] at h; cases h
    · rw [z] at h; cases h
  · exact .inl ⟨o, h⟩
  · exact .inr h
theorem law_walk {l : PySem.W.OpenLaw} {k : Nat} {q : Program} {loose : List Str} {XP : (Str → Option Value) → Heap → Prop} {YP : World → Heap → Prop} {d : DefRec} {K : Params → PySem.W.Frag} (hn : l.most = some 63) (hdf : d.params.defaults = []) (hr : Room k callerA)
    (hY : ∀ (w : World) (h : Heap), YP w h → (K w.params).In h)
    (F : ∀ (w : World) (mg : Str → Option Value) (fa : Addr) (h : Heap), (K w.params).In h → h.Ns mainGlobals mg → mg d.name = some (.ref fa) →
      ∃ fd : FuncData, (∀ (s : Shared) (u : Value), BindsTo s fd ⟨[u], []⟩ [("script", u)]) ∧ ∀ base : Heap, (K w.params).In base → base.Ns mainGlobals mg → FnOk l.prog w (K w.params) mg base CX0 k fa fd ["script"] (spLaw (K w.params))) :
    PySem.W.WalkO q loose XP YP l.row.toRowW d [] (fun f vs => PySem.call f vs) :=
  L2.walk_of (n := 63) (k := k) (x := "script") (CX := fun _ => CX0) (sp := fun w => spLaw (K w.params)) hn (by decide) hdf hr hY F (fun _ _ a ns hl hO hS => ⟨a, ns, rfl, scl_of hO hS, hl, fun _ => rfl⟩) fun _ _ _ _ _ z => z
end L2
end
section
namespace L2
open PySem PySem.Spec PyProof.Rows
section
variable {X : Cx} {δ : Dn} {a b c e tg : Expr} {d da db : PyData} {pos : Pos} {xs ys : List PyData} {k : Nat}
noncomputable def rInsert : V → List V → Hp → VK → Prop := fun x vs H Q => ∃ l xs i y, x = .ref l ∧ vs = [.int i, y] ∧ H l = some (.lst xs) ∧ 0 ≤ i ∧ i ≤ (xs.length : Int) ∧ xs.length < sizeLine ∧ Q .non (upd H l (.lst (xs.take i.toNat ++ y :: xs.drop i.toNat)))
theorem mt_insert : MtM X "list.insert" rInsert := by
  intro pins s σ H x vs v us Q I rx rv h
  obtain ⟨l, xs, i, y, rfl, rfl, hH, h0, h1, hz, q⟩ := h
  cases rx
  obtain ⟨u, u', rfl, ⟨t, rfl⟩, ru⟩ := rv.two
  obtain ⟨z, its, n, r, hl, e⟩ := I.lstM hH
  have hlt : (xs.length : Int) < 2 ^ 63 := by have := line63; omega
  have hfit : ¬ (!Builtin.List.listFitsIndex i) = true := by rw [fitsIndex_both (by omega) (by omega)]; decide
  refine call_meets F.slot_list_insert ⟨_, e, rfl⟩ F.entry_list_insert (F.args_list_insert_3 _ _ _) (AutoSeq1.list_insert_list_int_val_1 l its.toArray n i t u' hfit (by rw [List.size_toArray]; omega)) ⟨e, ?_⟩
  refine ⟨.non, _, I.lset (its' := its.take i.toNat ++ u' :: its.drop i.toNat) hH e ?_ ((r.take _).append (.cons ru (r.drop _))) ?_, rfl, q⟩
  · have hk : (if i < 0 then (i + (its.toArray.size : Int)).toNat else min i.toNat its.toArray.size) = i.toNat := by
      rw [if_neg (by omega), List.size_toArray]
      omega
    show (its.toArray.extract 0 (if i < 0 then (i + (its.toArray.size : Int)).toNat else min i.toNat its.toArray.size)).push u' ++ its.toArray.extract (if i < 0 then (i + (its.toArray.size : Int)).toNat else min i.toNat its.toArray.size) = _
    rw [hk]
    simp
    exact List.take_of_length_le (by rw [List.length_drop]; exact Nat.le_refl _)
  · rw [List.length_append, List.length_cons, List.length_take, List.length_drop]; omega
theorem s1_insert (i : Nat) {x : Str} {px apos cpos : Pos} {m : Int} {oa : Option Addr} (hδ : δ[i]? = some (.own oa (.l xs))) (ha : EvD X δ a (.int m)) (he : EvD X δ e d) (h0 : 0 ≤ m) (h1 : m ≤ xs.length) (hz : xs.length < 1000) (hN : X.N[i]? = some x := by rfl) (hv : Vis X.env.scope x := by first | exact Or.inl rfl | exact Or.inr (Or.inl rfl) | exact Or.inr (Or.inr rfl)) (hd : (x == ("__debug__" : Str)) = false := by decide)
    (hcd : (x == ("__classdict__" : Str)) = false := by decide) (hst : starEach [a, e] X.env = [(false, eval a X.env), (false, eval e X.env)] := by rfl) (hst2 : starEach [e] X.env = [(false, eval e X.env)] := by rfl)
    (hb : ∀ {te : TE} {t : TA}, PE X (.Name x px) te → PA X [a, e] t → PE X (.Call (.Attribute (.Name x px) "insert" apos) [a, e] [] cpos) (tBM X.K "list" rInsert te t) := by exact fun h1 h2 => pe_bm PySem.F.plainAttrs_list PySem.F.slot_list_insert PySem.F.type_list_insert mt_insert h1 h2)
    (hsw : swapsWith (.Call (.Attribute (.Name x px) "insert" apos) [a, e] [] cpos) none pos.line X.env = pure false := by rfl) :
    S1 X δ (.Expr (.Call (.Attribute (.Name x px) "insert" apos) [a, e] [] cpos) pos) (.nx (δ.set i (.own oa (.l (xs.take m.toNat ++ d :: xs.drop m.toNat))))) :=
  fun pins s σ H D I hh29 => Zz.a5 hh29 fun Hb own B E P => ps_expr (hb (pe_var hN hv hd hcd) (ea_cons ha (ea_cons he ea_nil (by rw [hst2]; rfl)) (by rw [hst, hst2]))) hsw pins s σ H D I (by
    obtain ⟨l, vs, h1', h2, h3, h4⟩ := E.owl hδ
    refine ⟨_, h2, .inl ⟨rfl, vs, SqL.of h3⟩, Hb, own, B, E, fun us H' s1 r => ?_⟩
    obtain ⟨v, r', rfl, rv, w, r'', rfl, rw', e2⟩ := r
    cases e2; cases rv
    have hl := h4.length
    exact ⟨l, vs, m, w, rfl, rfl, s1 _ _ h3, h0, by rw [← hl]; exact h1, by rw [← hl]; exact small1000 (Nat.le_of_lt hz), P _ _ _ ((E.mono s1).write hδ h1' (((h4.up s1).take _).append ⟨w, _, rfl, rw', (h4.up s1).drop _⟩))⟩)
end
end L2
namespace L2
open PySem PySem.Spec PyProof.Rows
noncomputable def After (X : Cx) (rest : List Stmt) (o : Out) : Out → Prop
  | .nx δ => SR X δ rest o
  | .rt d => o = .rt d
  | .rf xs => o = .rf xs
  | .rw δ d => o = .rw δ d
  | .rn t => o = .rn t
  | .bk _ => False
  | .ct _ => False
theorem sr_after {X : Cx} {δ : Dn} {st : Stmt} {rest : List Stmt} {o o1 : Out} (h1 : S1 X δ st o1) (h2 : After X rest o o1) : SR X δ (st :: rest) o := by
  cases o1 with
  | nx δ1 => exact sr_cons h1 h2
  | rt d => cases (show o = .rt d from h2); exact sr_rt h1
  | rf xs => cases (show o = .rf xs from h2); exact sr_rf h1
  | rw δ1 d => cases (show o = .rw δ1 d from h2); exact sr_rw h1
  | rn t => cases (show o = .rn t from h2); exact sr_rn h1
  | bk _ => exact h2.elim
  | ct _ => exact h2.elim
end L2
end
section
namespace L2
open PySem PySem.Spec PyProof.Rows
noncomputable def getK (kvs : List (PyData × PyData)) (κ : Key) : Option PyData := (kvs.find? fun p => decide (keyOf p.1 = some κ)).map (·.2)
noncomputable def putD (kvs : List (PyData × PyData)) (κ : Key) (kd d : PyData) : List (PyData × PyData) :=
  if (kvs.any fun p => decide (keyOf p.1 = some κ)) = true then kvs.map (fun p => if keyOf p.1 = some κ then (p.1, d) else p) else kvs ++ [(kd, d)]
section
variable {K : PySem.W.Frag} {A : Addr → Prop} {H : Hp}
theorem repP_eq {p : PyData × PyData} {v : V} : RepP K A H p v ↔ Rep K A H p.2 v := by obtain ⟨a, b⟩ := p; exact Iff.rfl
theorem repsK_get {κ : Key} : ∀ {kvs : List (PyData × PyData)} {us : List (Key × V)}, RepsK K A H kvs us → (getK kvs κ = none ∧ valV us κ = none) ∨ ∃ d v, getK kvs κ = some d ∧ valV us κ = some v ∧ Rep K A H d v
  | [], _, h => by cases h; exact .inl ⟨rfl, rfl⟩
  | p :: r, _, h => by
    obtain ⟨κ', v, us', rfl, hk, hv, hr⟩ := h
    by_cases e : κ' = κ
    · subst e
      refine .inr ⟨p.2, v, ?_, valV_pos rfl, repP_eq.mp hv⟩
      unfold getK
      rw [List.find?_cons]
      simp [hk]
    · have ih := repsK_get (κ := κ) hr
      have e1 : getK (p :: r) κ = getK r κ := by
        unfold getK
        rw [List.find?_cons]
        have : decide (keyOf p.1 = some κ) = false := decide_eq_false (by rw [hk]; intro z; exact e (Option.some.inj z))
        rw [this]
      have e2 : valV ((κ', v) :: us') κ = valV us' κ := valV_neg e
      rw [e1, e2]
      exact ih
theorem repsK_any {κ : Key} : ∀ {kvs : List (PyData × PyData)} {us : List (Key × V)}, RepsK K A H kvs us → (kvs.any fun p => decide (keyOf p.1 = some κ)) = us.any fun p => decide (p.1 = κ)
  | [], _, h => by cases h; rfl
  | p :: r, _, h => by
    obtain ⟨κ', v, us', rfl, hk, hv, hr⟩ := h
    rw [List.any_cons, List.any_cons, repsK_any hr, hk]
    congr 1
    by_cases e : κ' = κ <;> simp [e]
theorem repsK_map {κ : Key} {d : PyData} {v : V} (hd : Rep K A H d v) : ∀ {kvs : List (PyData × PyData)} {us : List (Key × V)}, RepsK K A H kvs us →
    RepsK K A H (kvs.map fun p => if keyOf p.1 = some κ then (p.1, d) else p) (us.map fun p => if p.1 = κ then (p.1, v) else p)
  | [], _, h => by cases h; rfl
  | p :: r, _, h => by
    obtain ⟨κ', w, us', rfl, hk, hv, hr⟩ := h
    rw [List.map_cons, List.map_cons]
    have ih := repsK_map (κ := κ) hd hr
    by_cases e : κ' = κ
    · subst e
      rw [if_pos hk, if_pos rfl]
      exact ⟨κ', v, _, rfl, hk, hd, ih⟩
    · rw [if_neg (by rw [hk]; intro z; exact e (Option.some.inj z)), if_neg e]
      exact ⟨κ', w, _, rfl, hk, hv, ih⟩
theorem repsK_put {κ : Key} {kd d : PyData} {v : V} (hk : keyOf kd = some κ) (hd : Rep K A H d v) {kvs : List (PyData × PyData)} {us : List (Key × V)} (h : RepsK K A H kvs us) : RepsK K A H (putD kvs κ kd d) (putK us κ v) := by
  unfold putD putK
  rw [repsK_any h]
  split
  · exact repsK_map hd h
  · exact h.append ⟨κ, v, [], rfl, hk, hd, rfl⟩
theorem putD_new {kvs : List (PyData × PyData)} {κ : Key} {kd d : PyData} (h : getK kvs κ = none) : putD kvs κ kd d = kvs ++ [(kd, d)] := by
  unfold putD
  rw [if_neg]
  intro z
  rw [List.any_eq_true] at z
  obtain ⟨p, hp, hz⟩ := z
  unfold getK at h
  rw [Option.map_eq_none_iff, List.find?_eq_none] at h
  exact h p hp hz
theorem rep_key {kd : PyData} {κ : Key} {y : V} (hk : keyOf kd = some κ) (h : Rep K A H kd y) : y = kV κ := by
  cases kd with
  | int n => cases hk; exact h
  | str x => cases hk; exact h
  | _ => cases hk
theorem key_rep {kd : PyData} {κ : Key} (hk : keyOf kd = some κ) : Rep K A H kd (kV κ) := by
  cases kd with
  | int n => cases hk; rfl
  | str x => cases hk; rfl
  | _ => cases hk
theorem rep_dict {kvs : List (PyData × PyData)} {x : V} (hn : ∀ p ∈ kvs, keyOf p.1 ≠ none) (h : Rep K A H (.dict kvs) x) : ∃ a us o, x = .ref a ∧ H a = some (.frz o (.dK us)) ∧ RepsK K A H kvs us := by
  rcases h with ⟨a, ns, _, h2, _⟩ | h
  · exfalso
    unfold scr at h2
    injection h2 with h3
    exact hn (.none, .list (ns.map PyData.int)) (by rw [h3]; simp) rfl
  · rcases h with h | ⟨a, C, o, _, h2, _⟩
    · exact h
    · exfalso
      unfold excD at h2
      injection h2 with h3
      exact hn (.list [], .int (C : Nat)) (by rw [h3]; simp) rfl
end
noncomputable def dD (m : List (Int × Int)) : List (PyData × PyData) := m.map fun p => (.int p.1, .int p.2)
theorem dD_keys (m : List (Int × Int)) : ∀ p ∈ dD m, keyOf p.1 ≠ none := by
  intro p hp
  obtain ⟨q, _, rfl⟩ := List.mem_map.mp hp
  intro z; cases z
theorem dD_get (m : List (Int × Int)) (n : Int) : getK (dD m) (.inl n) = (m.find? fun p => decide (p.1 = n)).map fun p => .int p.2 := by
  unfold getK dD
  induction m with
  | nil => rfl
  | cons p r ih =>
    rw [List.map_cons, List.find?_cons, List.find?_cons]
    by_cases e : p.1 = n
    · have : decide (keyOf (PyData.int p.1) = some (.inl n)) = true := decide_eq_true (by rw [e]; rfl)
      rw [this, decide_eq_true e]; rfl
    · have : decide (keyOf (PyData.int p.1) = some (.inl n)) = false := decide_eq_false (by intro z; injection z with z; injection z with z; exact e z)
      rw [this, decide_eq_false e]; exact ih
theorem dD_len (m : List (Int × Int)) : (dD m).length = m.length := List.length_map _
section
variable {X : Cx} {pins : List (Addr × Obj)} {σ : St} {H : Hp} {s : Shared}
theorem Inv.freeze (I : Inv X pins σ H s) {a : Addr} {us : List (Key × V)} (h : H a = some (.dK us)) : ∃ o, Inv X pins σ (upd H a (.frz o (.dK us))) s := by
  obtain ⟨z, hd, vs, rel, o, es, ep, ho, r⟩ := dk_of I.hok h
  refine ⟨o, ?_⟩
  have mu : Mut (H a) := by rw [h]; trivial
  have nown : ∀ b, H b = some (.own a) → upd H a (.frz o (.dK us)) b = some (.own a) := fun b q => by rw [upd_ne (fun z : b = a => by rw [z, h] at q; cases q)]; exact q
  have ntup : ∀ b xs, H b = some (.tup xs) → upd H a (.frz o (.dK us)) b = some (.tup xs) := fun b xs q => by rw [upd_ne (fun z : b = a => by rw [z, h] at q; cases q)]; exact q
  exact I.un (t' := s.toks) (h' := s.heap) (Un.write (o := .frz o (.dK us)) mu (.inl rfl) (fun _ _ _ q => q) ⟨o, ho⟩)
    (HOk.write I.hok mu (.inl rfl) (fun _ _ _ q => q) ⟨o, ho⟩ ⟨ho, (I.hok a _ h).stay (fun _ _ _ q => q) nown ntup⟩)
end
section
variable {X : Cx} {δ : Dn} {a b c e tg : Expr} {d da db : PyData} {pos : Pos} {xs ys : List PyData} {k : Nat} {kvs : List (PyData × PyData)} {x : Str} {κ : Key} {kd : PyData}
theorem s1_retD (i : Nat) {px : Pos} {oa : Option Addr} (hδ : δ[i]? = some (.own oa (.d kvs))) (hN : X.N[i]? = some x := by rfl) (hv : Vis X.env.scope x := by first | exact Or.inl rfl | exact Or.inr (Or.inl rfl) | exact Or.inr (Or.inr rfl)) (hd : (x == ("__debug__" : Str)) = false := by decide)
    (hcd : (x == ("__classdict__" : Str)) = false := by decide) : S1 X δ (.Return (some (.Name x px)) pos) (.rt (.dict kvs)) := by
  have hf : PE X (.Name x px) (fun σ H Q => ∃ a us, σ[i]? = some (some (.ref a)) ∧ H a = some (.dK us) ∧ ∀ o, Q (.ref a) (upd H a (.frz o (.dK us)))) := by
    intro pins s σ H Q I ⟨a, us, h1, h2, q⟩
    refine thn (pe_var hN hv hd hcd pins s σ H (fun v H' => v = .ref a ∧ H' = H) I ⟨_, h1, rfl, rfl⟩) fun u s1 ⟨v, H1, I1, r1, e1, e2⟩ => ?_
    subst e1 e2
    obtain ⟨o, I2⟩ := I1.freeze h2
    exact ⟨.ref a, _, I2, r1, q o⟩
  intro pins s σ H D I ⟨Hb, own, B, E, P⟩
  refine ps_ret hf pins s σ H D I ?_
  obtain ⟨a, us, h1, h2, h3, h4⟩ := E.owd hδ
  refine ⟨a, us, h2, h3, fun o => P _ _ (fun b u q => ?_) (.inr (.inl ⟨a, us, o, rfl, upd_same, ?_⟩))⟩
  · rw [upd_ne (fun z : b = a => by rw [z, E.ofr i a h1] at q; cases q)]
    exact E.base b u q
  · exact (RepsK.upd (A := Av own B) (.inr ⟨i, h1⟩) h3 trivial _ _ h4).av fun _ z => .inl z
theorem s1_setD (i : Nat) {px p2 : Pos} (hN : X.N.Nodup) (hl : i < δ.length := by exact Nat.le_of_ble_eq_true rfl) (hi : X.N[i]? = some x := by rfl) (hx : Loc X.env.scope x := by first | exact Or.inl rfl | exact Or.inr rfl) (hs : swapsWith (.Dict [] [] p2) (some (.Name x px)) pos.line X.env = pure false := by rfl) (hf : X.fn x = true ∨ X.env.scope.names.lookup x = some .local := by first | exact .inl rfl | exact .inr rfl | assumption) :
    S1 X δ (.Assign [.Name x px] (.Dict [] [] p2) pos) (.nx (δ.set i (.od []))) :=
  fun pins s σ H D I hh30 => Zz.a5 hh30 fun Hb own B E P => ps_set hN hi hx pe_dnewK hs hf pins s σ H D I fun p hp => P _ _ _ (E.setOwC (c := .d []) (same_new hp (.dK [])) hl (fun b hb => by rw [List.mem_singleton.mp hb]; exact hp) (by simp) ⟨p, [], rfl, rfl, upd_same, rfl⟩)
theorem s1_dput (i : Nat) {px pos' : Pos} {oa : Option Addr} (hr : Room k X.A) (hδ : δ[i]? = some (.own oa (.d kvs))) (hk : EvD X δ a kd) (hκ : keyOf kd = some κ) (hv : EvD X δ e d) (hz : kvs.length < 1000) (hN : X.N[i]? = some x := by rfl) (hvs : Vis X.env.scope x := by first | exact Or.inl rfl | exact Or.inr (Or.inl rfl) | exact Or.inr (Or.inr rfl)) (hdb : (x == ("__debug__" : Str)) = false := by decide)
    (hcd : (x == ("__classdict__" : Str)) = false := by decide) (hs : swapsWith e (some (.Subscript (.Name x px) a pos')) pos.line X.env = pure false := by rfl) :
    S1 X δ (.Assign [.Subscript (.Name x px) a pos'] e pos) (.nx (δ.set i (.own oa (.d (putD kvs κ kd d))))) :=
  fun pins s σ H D I hh31 => Zz.a5 hh31 fun Hb own B E P => ps_dput (hu_of hr) (pe_var hN hvs hdb hcd) hk hv hs pins s σ H D I ⟨Hb, own, B, E, fun v H1 s1 rv => by
    obtain ⟨a, us, h1, h2, h3, h4⟩ := (E.mono s1).owd hδ
    refine ⟨_, h2, Hb, own, B, E.mono s1, fun y H2 s2 ry => ?_⟩
    have ey := rep_key hκ ry
    subst ey
    exact ⟨a, _, rfl, DPut.k (s2 _ _ h3) (by rw [← h4.length]; exact small1000 (Nat.le_of_lt hz)), P _ _ _ (((E.mono s1).mono s2).writeD hδ h1 (repsK_put hκ (rv.up s2) (h4.up s2)))⟩⟩
theorem et_oNotIn (i : Nat) {px : Pos} {oa : Option Addr} (hr : Room k X.A) (hk : EvD X δ a kd) (hκ : keyOf kd = some κ) (hδ : δ[i]? = some (.own oa (.d kvs))) (hN : X.N[i]? = some x := by rfl) (hvs : Vis X.env.scope x := by first | exact Or.inl rfl | exact Or.inr (Or.inl rfl) | exact Or.inr (Or.inr rfl)) (hdb : (x == ("__debug__" : Str)) = false := by decide)
    (hcd : (x == ("__classdict__" : Str)) = false := by decide) : EtD X δ (.Compare a [.NotIn] [.Name x px] pos) (!(getK kvs κ).isSome) :=
  et_of (pt_cmp (pc_dnotin (hu_of hr) hk (pe_var hN hvs hdb hcd))) fun Hb own B σ H Q E q => ⟨Hb, own, B, E, fun y H1 s1 ry => by
    obtain ⟨p, us, h1, h2, h3, h4⟩ := (E.mono s1).owd hδ
    have ey := rep_key hκ ry
    subst ey
    refine ⟨_, h2, p, valV us κ, rfl, DGet.k h3, _, rfl, ?_⟩
    have e : (valV us κ).isSome = (getK kvs κ).isSome := by rcases repsK_get (κ := κ) h4 with ⟨h1, h2⟩ | ⟨d, v, h1, h2, _⟩ <;> rw [h1, h2] <;> rfl
    rw [e]
    exact q H1 s1⟩
theorem ev_dGet (hr : Room k X.A) (ha : EvD X δ a (.dict kvs)) (hn : ∀ p ∈ kvs, keyOf p.1 ≠ none) (hk : EvD X δ b kd) (hκ : keyOf kd = some κ) (hg : getK kvs κ = some d) (hs : NoSl b := by exact fun _ _ => rfl) : EvD X δ (.Subscript a b pos) d :=
  ev_of (pe_dget (hu_of hr) ha hk hs) fun Hb own B σ H Q E q => ⟨Hb, own, B, E, fun x H1 s1 rx => ⟨Hb, own, B, E.mono s1, fun y H2 s2 ry => by
    obtain ⟨p, us, o, rfl, hp, hu⟩ := rep_dict hn (rx.up s2)
    have ey := rep_key hκ ry
    subst ey
    rcases repsK_get (κ := κ) hu with ⟨h1, _⟩ | ⟨d', v, h1, h2, h3⟩
    · rw [h1] at hg; cases hg
    · rw [h1] at hg; cases hg
      exact ⟨p, v, rfl, .inl ⟨us, κ, .inr ⟨o, hp⟩, rfl, h2.symm⟩, q v H2 (s1.trans s2) h3⟩⟩⟩
noncomputable def Itd (a : Addr) (o : Obj) (us : List (Key × V)) : It :=
  ⟨fun i H => H a = some (.frz o (.dK us)) ∧ i < us.length, fun i H x H' => H' = H ∧ ∃ p, us[i]? = some p ∧ x = kV p.1, fun i H => H a = some (.frz o (.dK us)) ∧ us.length ≤ i⟩
theorem is_kV {P : Program} {w : World} {κ : Key} {u : Value} (h : (mixKind P w).is κ u = true) : RelV (kV κ) u := by
  rcases keyIs_shape h with ⟨i, t, rfl, rfl⟩ | ⟨x, t, rfl, rfl⟩
  · exact ⟨t, rfl⟩
  · exact ⟨t, rfl⟩
theorem dict_frz {pins : List (Addr × Obj)} {σ : St} {H : Hp} {s : Shared} (I : Inv X pins σ H s) {a : Addr} {o : Obj} {us : List (Key × V)} (h : H a = some (.frz o (.dK us))) : (a == sysModules) = false ∧ ∃ vs es ep, KV us vs ∧ o.data = .dict es ep ∧ s.heap.DictAt (mixKind X.prog X.w) a vs ep := by
  obtain ⟨ho, z, hd, vs, rel, o', es, ep, ho', r⟩ := I.hok a _ h
  rw [ho] at ho'
  cases ho'
  exact ⟨hd, vs, es, ep, rel, r.2.1, o, es, ho, r⟩
theorem turn_dict {P : Program} {w : World} {K : PySem.W.Frag} {tg : Expr} {a it : Addr} {o : Obj} {us : List (Key × V)} {es : Array DictEntry} {ep : Nat} (hep : o.data = .dict es ep) : Turn P w K tg (Itd a o us) [it] it (fun i h => h.IsKeyIter it a i us.length ep) where
  mem := by simp
  obj := fun i h st b hb => by
    have e : b = it := by simpa using hb
    subst e
    obtain ⟨o, e, c, d⟩ := st
    exact ⟨o, e, fun v z => by rw [d] at z; cases z⟩
  keep := fun i h h' st k => st.at fun o e => k it (by simp) o e
  item := by
    intro X hP hw hK hc i pins s σ H E I hf st hg
    subst hP hw hK
    obtain ⟨ha, hi⟩ := hg
    obtain ⟨_, vs, es', ep', rel, hd', dat⟩ := dict_frz I ha
    rw [hep] at hd'
    cases hd'
    obtain ⟨f0, f1, f2, f3, f4, f5⟩ := hf it (by simp)
    have hl : us.length = vs.length := rel.length
    have st' : s.heap.IsKeyIter it a i vs.length ep := by rw [← hl]; exact st
    have hx : vs[i]? = some vs[i] := List.getElem?_eq_getElem (by omega)
    obtain ⟨p, hp, hpk⟩ : ∃ p, us[i]? = some p ∧ p.1 = (vs[i]'(by omega)).1 := by
      have hu : us[i]? = some us[i] := List.getElem?_eq_getElem hi
      refine ⟨us[i], hu, ?_⟩
      have : ∀ {us : List (Key × V)} {vs : List (Key × Value)} {i : Nat} {p q}, KV us vs → us[i]? = some p → vs[i]? = some q → p.1 = q.1 := by
        intro us vs i p q r
        unfold KV at r
        induction r generalizing i with
        | nil => intro z; cases z
        | cons h t ih =>
          cases i with
          | zero => intro z z'; cases z; cases z'; exact h.1
          | succ i => intro z z'; exact ih (by simpa using z) (by simpa using z')
      exact this rel hu hx
    refine wpAny_pyNext_dict_item st' dat (k := (vs[i]'(by omega)).1) (v := (vs[i]'(by omega)).2) (by rw [hx]) fun key h' hkey hit' hs' => ?_
    have I1 : Inv X pins σ H { s with heap := h' } := I.turned (t' := s.toks) (fun b o hb e => (hs'.2 b hb).trans e) f0 f1 f3 f4 f5
    obtain ⟨o2, e2, c2, d2⟩ := id hit'
    have rk : RelV (kV p.1) key := by rw [hpk]; exact is_kV hkey
    exact ⟨key, rfl, go_of (s := { s with heap := h' }) e2 c2 d2 (by decide) ⟨kV p.1, H, I1, rk, ⟨rfl, p, hp, rfl⟩, by rw [hl]; exact hit', fun b hb => (hf b hb).1⟩⟩
  done := by
    intro X hP hw hK hc i pins s σ H E I hf st hg
    subst hP hw hK
    obtain ⟨ha, hi⟩ := hg
    obtain ⟨_, vs, es', ep', rel, hd', dat⟩ := dict_frz I ha
    rw [hep] at hd'
    cases hd'
    obtain ⟨f0, f1, f2, f3, f4, f5⟩ := hf it (by simp)
    have hl : us.length = vs.length := rel.length
    have st' : s.heap.IsKeyIter it a i vs.length ep := by rw [← hl]; exact st
    exact wpAny_pyNext_dict_end (I.ok.hd hc) st' dat (List.getElem?_eq_none (by have hi2 : us.length ≤ i := hi; omega)) fun h' eb => ⟨rfl, I.turned (t' := s.toks) (fun b o hb e => eb b o hb e) f0 f1 f3 f4 f5⟩
  self := fun _ _ _ _ _ st h => wpAny_pyIter_keyiter st h
noncomputable def iDict (tl : TE) : TI := fun σ H R => tl σ H fun x H1 => ∃ a o us, x = .ref a ∧ H1 a = some (.frz o (.dK us)) ∧ R (Itd a o us) H1
theorem pi_dict {l : Expr} {tl : TE} (hl : PE X l tl) : PI X tg l (iDict tl) := by
  intro pins s σ H R I h
  refine thn (hl pins s σ H _ I h) fun v s1 hh88 => Zz.b5 hh88 fun x H1 I1 r1 q1 => ?_
  obtain ⟨a, o, us, e, hq, q⟩ := q1
  subst e
  cases r1
  obtain ⟨hd, vs, es, ep, rel, he, dat⟩ := dict_frz I1 hq
  refine wpAny_pyIter_dict hd dat ?_
  refine ⟨s1.heap.objs.size, [s1.heap.objs.size], _, _, H1, rfl, I1.kept (t' := s1.toks) fun b o e => Heap.get?_push_of_some _ e, turn_dict (a := a) (us := us) he, ⟨_, Heap.get?_push_size _ rfl, rfl, ?_⟩, fun b hb => ?_, q⟩
  · rw [rel.length]; rfl
  · have e : b = s1.heap.objs.size := by simpa using hb
    subst e
    exact I1.fpOk (Nat.le_refl _) (I1.hok.fresh (Nat.le_refl _))
theorem ei_dict (h : EvD X δ e (.dict kvs)) (hn : ∀ p ∈ kvs, keyOf p.1 ≠ none) : EiD X δ tg e (kvs.map (·.1)) := fun pins s σ H R I hh32 => Zz.a5 hh32 fun Hb own B E q => pi_dict h pins s σ H R I ⟨Hb, own, B, E, fun v H1 s1 r => by
  obtain ⟨p, us, o, rfl, hp, hu⟩ := rep_dict hn r
  have kp : keepB own H1 p = some (.frz o (.dK us)) := keepB_of hp fun i hi => by
    obtain ⟨o', z, m⟩ := (E.mono s1).muts i p hi
    rw [hp] at z; cases z; exact m
  have hl := hu.length
  refine ⟨p, o, us, rfl, hp, q _ H1 s1 ⟨fun i H s hi => ⟨s _ _ kp, by rw [List.length_map] at hi; omega⟩, fun i H x H' s hi hy => ?_, fun i H s hi => ⟨s _ _ kp, by rw [List.length_map] at hi; omega⟩⟩⟩
  obtain ⟨rfl, u, hu1, rfl⟩ := hy
  have key : ∀ {kvs : List (PyData × PyData)} {us : List (Key × V)} {i : Nat} {u : Key × V}, RepsK X.K (Av own B) H1 kvs us → us[i]? = some u → ∃ p, kvs[i]? = some p ∧ keyOf p.1 = some u.1 := by
    intro kvs
    induction kvs with
    | nil => intro us i u h z; cases h; cases z
    | cons p r ih =>
      intro us i u h z
      obtain ⟨κ, v, us', rfl, hk, hv, hr⟩ := h
      cases i with
      | zero => cases z; exact ⟨p, rfl, hk⟩
      | succ i => exact ih hr (by simpa using z)
  obtain ⟨pp, h1, h2⟩ := key hu hu1
  exact ⟨rfl, pp.1, by rw [List.getElem?_map, h1]; rfl, key_rep h2⟩⟩
end
end L2
end
section
namespace L2
open PySem PySem.Spec PyProof.Rows
theorem ixN_nat' {n : Nat} {i : Int} (h0 : 0 ≤ i) (h : i.toNat < n) : ixN n i = some i.toNat := by
  unfold ixN
  rw [if_pos h0, if_pos (by omega)]
section
variable {X : Cx} {δ : Dn} {a b c e tg : Expr} {d da db : PyData} {pos : Pos} {xs ys : List PyData} {k : Nat} {x y : Str}
theorem s1_pop (i j : Nat) {px py apos cpos : Pos} {oa : Option Addr} (hN : X.N.Nodup) (hij : i ≠ j) (hδ : δ[i]? = some (.own oa (.l xs))) (hl : xs.getLast? = some d) (hi : X.N[i]? = some x := by rfl) (hj : X.N[j]? = some y := by rfl) (hv : Vis X.env.scope x := by first | exact Or.inl rfl | exact Or.inr (Or.inl rfl) | exact Or.inr (Or.inr rfl)) (hd : (x == ("__debug__" : Str)) = false := by decide)
    (hcd : (x == ("__classdict__" : Str)) = false := by decide) (hy : Loc X.env.scope y := by first | exact Or.inl rfl | exact Or.inr rfl)
    (hb : ∀ {te : TE}, PE X (.Name x px) te → PE X (.Call (.Attribute (.Name x px) "pop" apos) [] [] cpos) (tBM0 X.K "list" rPop te) := by exact fun h1 => pe_bm0 PySem.F.plainAttrs_list PySem.F.slot_list_pop PySem.F.type_list_pop mt_pop h1)
    (hs : swapsWith (.Call (.Attribute (.Name x px) "pop" apos) [] [] cpos) (some (.Name y py)) pos.line X.env = pure false := by rfl) (hf : X.fn y = true ∨ X.env.scope.names.lookup y = some .local := by first | exact .inl rfl | exact .inr rfl | assumption) :
    S1 X δ (.Assign [.Name y py] (.Call (.Attribute (.Name x px) "pop" apos) [] [] cpos) pos) (.nx ((δ.set i (.own oa (.l xs.dropLast))).set j (.sh d))) :=
  fun pins s σ H D I hh33 => Zz.a5 hh33 fun Hb own B E P => ps_set hN hj hy (hb (pe_var hi hv hd hcd)) hs hf pins s σ H D I (by
    obtain ⟨a, vs, h1, h2, h3, h4⟩ := E.owl hδ
    have hlen := h4.length
    obtain ⟨xs', rfl⟩ : ∃ xs', xs = xs' ++ [d] := by
      rcases List.eq_nil_or_concat xs with rfl | ⟨q, z, rfl⟩
      · cases hl
      · simp at hl
        subst hl
        exact ⟨q, by simp⟩
    obtain ⟨v, hv1, hv2⟩ := h4.at (i := xs'.length) (d := d) (by simp)
    have hvl : vs.length - 1 = xs'.length := by rw [← hlen]; simp
    have hr : Reps X.K (Av own B) H (xs' ++ [d]).dropLast vs.dropLast := by
      have e1 : (xs' ++ [d]).dropLast = (xs' ++ [d]).take xs'.length := by simp
      have e2 : vs.dropLast = vs.take xs'.length := by rw [List.dropLast_eq_take, hvl]
      rw [e1, e2]
      exact h4.take _
    have W := E.write hδ h1 hr
    have hA : Av own B a := .inr ⟨i, h1⟩
    exact ⟨_, h2, .inl ⟨rfl, vs, SqL.of h3⟩, a, vs, v, rfl, rfl, h3, by rw [hvl]; exact hv1, P _ _ _ (W.setSh (Rep.upd hA h3 trivial _ _ hv2))⟩)
theorem s1_setIx (i : Nat) {px pos' : Pos} {oa : Option Addr} {n : Int} (hδ : δ[i]? = some (.own oa (.l xs))) (he : EvD X δ e d) (ha : EvD X δ a (.int n)) (h0 : 0 ≤ n) (hn : n.toNat < xs.length) (hN : X.N[i]? = some x := by rfl) (hvs : Vis X.env.scope x := by first | exact Or.inl rfl | exact Or.inr (Or.inl rfl) | exact Or.inr (Or.inr rfl)) (hdb : (x == ("__debug__" : Str)) = false := by decide)
    (hcd : (x == ("__classdict__" : Str)) = false := by decide) (hs : swapsWithSole [.Subscript (.Name x px) a pos'] e pos.line X.env = pure false := by rfl) (hw : swappedStores [.Subscript (.Name x px) a pos'] e X.env = pure none := by rfl)
    (hg : ∀ {to ti : TE}, PE X (.Name x px) to → PE X a ti → PG X (.Subscript (.Name x px) a pos') (gSub to ti rSetL) := by exact fun h1 h2 => pg_sub h1 h2 set_list) :
    S1 X δ (.Assign [.Subscript (.Name x px) a pos'] e pos) (.nx (δ.set i (.own oa (.l (xs.set n.toNat d))))) :=
  fun pins s σ H D I hh34 => Zz.a5 hh34 fun Hb own B E P => ps_asg he (hg (pe_var hN hvs hdb hcd) ha) hs hw rfl pins s σ H D I ⟨Hb, own, B, E, fun v H1 s1 rv => by
    obtain ⟨l, vs, h1, h2, h3, h4⟩ := (E.mono s1).owl hδ
    refine ⟨_, h2, Hb, own, B, E.mono s1, fun y H2 s2 ry => ?_⟩
    cases ry
    have hl := h4.length
    exact ⟨l, vs, n, n.toNat, rfl, rfl, s2 _ _ h3, ixN_nat' h0 (by omega), P _ _ _ (((E.mono s1).mono s2).write hδ h1 ((h4.up s2).set _ (rv.up s2)))⟩⟩
noncomputable def flatD : PyData → Bool
  | .none => true
  | .bool _ => true
  | .int _ => true
  | .str _ => true
  | _ => false
noncomputable def flatOf : PyData → V
  | .none => .non
  | .bool b => .bl b
  | .int i => .int i
  | .str x => .str x
  | _ => .non
theorem rep_flat {K : PySem.W.Frag} {A : Addr → Prop} {H : Hp} {d : PyData} {v : V} (f : flatD d = true) (h : Rep K A H d v) : v = flatOf d ∧ flatV v = true := by
  cases d with
  | none => cases h; exact ⟨rfl, rfl⟩
  | bool _ => cases h; exact ⟨rfl, rfl⟩
  | int _ => cases h; exact ⟨rfl, rfl⟩
  | str _ => cases h; exact ⟨rfl, rfl⟩
  | _ => cases f
theorem reps_flat {K : PySem.W.Frag} {A : Addr → Prop} {H : Hp} : ∀ {ds : List PyData} {vs : List V}, ds.all flatD = true → Reps K A H ds vs → vs = ds.map flatOf ∧ vs.all flatV = true
  | [], _, _, h => by cases h; exact ⟨rfl, rfl⟩
  | x :: xs, _, f, h => by
    rw [List.all_cons, Bool.and_eq_true] at f
    obtain ⟨v, r, rfl, h2, h3⟩ := h
    obtain ⟨e1, e2⟩ := rep_flat f.1 h2
    obtain ⟨e3, e4⟩ := reps_flat f.2 h3
    exact ⟨by rw [List.map_cons, ← e1, ← e3], by rw [List.all_cons, e2, e4]; rfl⟩
noncomputable def rIndex (K : PySem.W.Frag) : V → List V → Hp → VK → Prop := fun x vs H Q => ∃ l xs y j, x = .ref l ∧ vs = [y] ∧ SqL K H l xs ∧ flatV y = true ∧ xs.all flatV = true ∧ xs.findIdx? (fun z => eqV z y) = some j ∧ Q (.int (j : Nat)) H
theorem mt_index : MtM X "list.index" (rIndex X.K) := by
  intro pins s σ H x vs v us Q I rx rv h
  obtain ⟨l, xs, y, j, rfl, rfl, hH, fy, fs, hj, q⟩ := h
  cases rx
  obtain ⟨u, rfl, ru⟩ := rv.one
  obtain ⟨its, r, pl, hz⟩ := I.list hH
  obtain ⟨o, n, ho, hc, hd, hs⟩ := id pl
  have hl := r.length
  rw [List.findIdx?_eq_some_iff_getElem] at hj
  obtain ⟨hjl, hj1, hj2⟩ := hj
  have hz' : xs.length ≤ sizeLine := hz
  have hjz : (j : Int) < 2 ^ 63 - 1 := by have := line63; omega
  have eo : o = { cls := .type "list", dict := o.dict, data := .seq its.toArray n, slots := o.slots } := by
    obtain ⟨oc, od, odt, os⟩ := o
    simp only at hc hs ⊢
    rw [hc, hs]
  have at' : ∀ (i : Nat) (h1 : i < xs.length) (h2 : i < its.length), eqU y its[i] = eqV xs[i] y := fun i h1 h2 => by
    obtain ⟨u', hu', ru'⟩ := r.get (List.getElem?_eq_getElem h1)
    rw [List.getElem?_eq_getElem h2] at hu'
    cases hu'
    exact eqU_of ru' (List.all_eq_true.mp fs _ (List.getElem_mem h1))
  refine call_meets PySem.F.slot_list_index ⟨_, ho, hc⟩ PySem.F.entry_list_index (PySem.F.args_list_index_2 _ _)
    (SeqAt.list_indexAt l its.toArray n o.dict o.slots u (eqU y) j (by simp; omega) hjz (by simpa using (at' j hjl (by omega)).trans hj1) (fun m hm hlt => by
      have := hj2 m hlt
      have h3 := at' m (by omega) (by simpa using hm)
      simp only [List.getElem_toArray]
      rw [h3]
      simpa using this)) ⟨by rw [← eo]; exact ho, fun w hw => mem_eqAt ru fy r fs w (by simpa using hw), ?_⟩
  exact ⟨.int (j : Nat), H, I.tok _, ⟨_, rfl⟩, q⟩
theorem ev_index {j : Nat} {apos cpos : Pos} (ha : EvD X δ a (.list xs)) (he : EvD X δ e d) (f1 : flatD d = true) (f2 : xs.all flatD = true) (hj : (xs.map flatOf).findIdx? (fun z => eqV z (flatOf d)) = some j) (hst : starEach [e] X.env = [(false, eval e X.env)] := by rfl)
    (hb : ∀ {te : TE} {t : TA}, PE X a te → PA X [e] t → PE X (.Call (.Attribute a "index" apos) [e] [] cpos) (tBM X.K "list" (rIndex X.K) te t) := by exact fun h1 h2 => pe_bm PySem.F.plainAttrs_list PySem.F.slot_list_index PySem.F.type_list_index mt_index h1 h2) :
    EvD X δ (.Call (.Attribute a "index" apos) [e] [] cpos) (.int (j : Nat)) :=
  ev_of (hb ha (ea_cons he ea_nil (by rw [hst]; rfl))) fun Hb own B σ H Q E q => ⟨Hb, own, B, E, fun x H1 s1 rx => by
    obtain ⟨p, vs, rfl, hA, h3, h4⟩ := rx
    refine ⟨.inl ⟨rfl, vs, SqL.of h3⟩, Hb, own, B, E.mono s1, fun us H2 s2 ru => ?_⟩
    obtain ⟨v, r', rfl, rv, e2⟩ := ru
    cases e2
    obtain ⟨e3, e4⟩ := rep_flat f1 rv
    obtain ⟨e5, e6⟩ := reps_flat f2 h4
    exact ⟨p, vs, v, j, rfl, rfl, SqL.of (s2 _ _ h3), e4, e6, by rw [e5, e3]; exact hj, q _ H2 (s1.trans s2) rfl⟩⟩
theorem ef_rep {n : Int} (ha : EvD X δ a (.list xs)) (hb : EvD X δ b (.int n)) (h0 : 0 ≤ n) (hz : xs.length * n.toNat ≤ 1000) (h1 : n ≤ 1000) : EvF X δ (.BinOp a .Mult b pos) (List.replicate n.toNat xs).flatten :=
  ef_of (pe_op op_rep ha hb) fun Hb own B σ H Q E q => ⟨Hb, own, B, E, fun x H1 s1 rx => ⟨Hb, own, B, E.mono s1, fun y H2 s2 ry => by
    obtain ⟨p, vs, rfl, _, h3, h4⟩ := rx.up s2
    cases ry
    refine ⟨p, n, vs, rfl, rfl, h3, by omega, by omega, by rw [← h4.length]; exact Nat.le_of_lt (small1000 hz), fun r hr => ?_⟩
    have e1 := same_new hr (.lst (List.replicate n.toNat vs).flatten)
    refine q r _ _ ((s1.trans s2).trans e1) ((s1.trans s2).free hr) upd_same ((Reps.fresh hr _ _ ?_).up e1)
    generalize n.toNat = m
    induction m with
    | zero => rfl
    | succ m ih => rw [List.replicate_succ, List.replicate_succ, List.flatten_cons, List.flatten_cons]; exact h4.append ih⟩⟩
noncomputable def insI (n : Int) : List Int → List Int
  | [] => [n]
  | m :: r => if n ≤ m then n :: m :: r else m :: insI n r
noncomputable def sortI : List Int → List Int
  | [] => []
  | n :: r => insI n (sortI r)
theorem insI_perm (n : Int) : ∀ l, (insI n l).Perm (n :: l)
  | [] => .refl _
  | m :: r => by
    unfold insI
    split
    · exact .refl _
    · exact ((insI_perm n r).cons m).trans (.swap n m r)
theorem sortI_perm : ∀ l, (sortI l).Perm l
  | [] => .refl _
  | n :: r => (insI_perm n _).trans ((sortI_perm r).cons n)
theorem insI_sorted (n : Int) : ∀ l : List Int, l.Pairwise (· ≤ ·) → (insI n l).Pairwise (· ≤ ·)
  | [], _ => List.pairwise_singleton _ _
  | m :: r, h => by
    rw [List.pairwise_cons] at h
    unfold insI
    split
    · rename_i hle
      refine List.pairwise_cons.mpr ⟨fun x hx => ?_, List.pairwise_cons.mpr h⟩
      rcases List.mem_cons.mp hx with rfl | hx
      · exact hle
      · exact Int.le_trans hle (h.1 x hx)
    · rename_i hle
      refine List.pairwise_cons.mpr ⟨fun x hx => ?_, insI_sorted n r h.2⟩
      rcases List.mem_cons.mp ((insI_perm n r).mem_iff.mp hx) with rfl | hx
      · omega
      · exact h.1 x hx
theorem sortI_sorted : ∀ l, (sortI l).Pairwise (· ≤ ·)
  | [] => .nil
  | n :: r => insI_sorted n _ (sortI_sorted r)
theorem sorted_one : ∀ {a b : List Int}, a.Perm b → a.Pairwise (· ≤ ·) → b.Pairwise (· ≤ ·) → a = b
  | [], b, p, _, _ => (p.nil_eq).symm ▸ rfl
  | x :: a, [], p, _, _ => by have := p.length_eq; cases this
  | x :: a, y :: b, p, ha, hb => by
    rw [List.pairwise_cons] at ha hb
    have hxy : x = y := by
      have h1 : x ∈ y :: b := p.mem_iff.mp List.mem_cons_self
      have h2 : y ∈ x :: a := p.mem_iff.mpr List.mem_cons_self
      rcases List.mem_cons.mp h1 with h1 | h1
      · exact h1
      · rcases List.mem_cons.mp h2 with h2 | h2
        · exact h2.symm
        · have := ha.1 y h2; have := hb.1 x h1; omega
    subst hxy
    rw [sorted_one (List.Perm.cons_inv p) ha.2 hb.2]
theorem valsI_are : ∀ {ns : List Int} {us : List Value}, Vals (ns.map V.int) us → IntsAre us ns
  | [], _, h => by cases h; exact .nil
  | n :: r, _, h => by
    cases h with
    | cons h1 h2 => obtain ⟨t, rfl⟩ := h1; exact .cons n t (valsI_are h2)
theorem ints_vals : ∀ {ns : List Int} {us : List Value}, IntsAre us ns → Vals (ns.map V.int) us
  | _, _, .nil => .nil
  | _, _, .cons n t h => .cons ⟨t, rfl⟩ (ints_vals h)
theorem call_sortedI : CallR X (.builtin "sorted") (fun xs H Q => ∃ (p : Addr) (ns : List Int), xs = [.ref p] ∧ SqL X.K H p (ns.map V.int) ∧ ns.length < 64 ∧ ∀ l, H l = none → Q (.ref l) (upd H l (.lst ((sortI ns).map V.int)))) := by
  intro pins s σ H xs us Q I rv h
  obtain ⟨p, ns, rfl, hp, hz, q⟩ := h
  obtain ⟨u, rfl, ru⟩ := rv.one
  cases ru
  obtain ⟨its, r, pl, _⟩ := I.list hp
  have hl := r.length
  rw [List.length_map] at hl
  refine sorted_ints (vs := its) pl.isList (valsI_are r) (by omega) fun out ns' a1 a2 a3 => ?_
  have e : ns' = sortI ns := sorted_one (a2.trans (sortI_perm ns).symm) a3 (sortI_sorted ns)
  subst e
  obtain ⟨ep, he⟩ := sortedAll_at s.heap its out
  have hk : ∀ b o, s.heap.get? b = some o → (sortedAll s.heap its out).get? b = some o := fun b o => sortedAll_old
  refine ⟨.ref (s.heap.objs.size + 1), _, I.laid (a := s.heap.objs.size + 1) (o := .lst ((sortI ns).map V.int)) (t' := s.toks) hk (Nat.le_succ _) ⟨?_, out.toList, ep, ints_vals a1, by simpa [seqObj] using he⟩, rfl, q _ (I.hok.fresh (Nat.le_succ _))⟩
  rw [List.length_map, (sortI_perm ns).length_eq]
  exact Nat.le_of_lt (small1000 (by omega))
theorem ef_sorted {p : Pos} {ns : List Int} (hg : Gl X "sorted") (hm : X.mg "sorted" = none) (ha : EvD X δ e (.list (iD ns))) (hz : ns.length < 64) (he : starEach [e] X.env = [(false, eval e X.env)] := by rfl) : EvF X δ (.Call (.Name "sorted" p) [e] [] pos) (iD (sortI ns)) :=
  ef_of (pe_callB call_sortedI hg hm (by rfl) (ea_cons ha ea_nil (by rw [he]; rfl)) (he := by rw [he]; rfl)) fun Hb own B σ H Q E q => ⟨Hb, own, B, E, fun vs H1 s1 rv => by
    obtain ⟨v, r, rfl, ⟨a, us, rfl, _, h3, h4⟩, e2⟩ := rv
    cases e2
    rw [h4.iD_eq] at h3
    refine ⟨a, ns, rfl, SqL.of h3, hz, fun l hl => ?_⟩
    have e1 := same_new hl (.lst ((sortI ns).map V.int))
    exact q l _ _ (s1.trans e1) (s1.free hl) upd_same (Reps.iD _)⟩
noncomputable def runW {S : Type} (tst : S → Bool) (nxt : S → S) : Nat → S → S
  | 0, s => s
  | k + 1, s => if tst s = true then runW tst nxt k (nxt s) else s
theorem s1_while {S : Type} {body : List Stmt} (emb : S → Dn) (tst : S → Bool) (nxt : S → S) (J : Nat → S → Prop) (m : Nat) (s0 : S) (hp : PassesOwn (model X.prog X.w) X.A X.env X.xe) (h0 : J m s0)
    (ht : ∀ n s, J n s → EtD X (emb s) c (tst s)) (hb : ∀ n s, J n s → tst s = true → ∃ n' δ', n = n' + 1 ∧ SR X (emb s) body (.nx δ') ∧ Wkn δ' (emb (nxt s)) ∧ J n' (nxt s)) :
    S1 X (emb s0) (.While c body [] pos) (.nx (emb (runW tst nxt m s0))) := by
  have hT : PT X c (fun σ H Q => ∃ n s, J n s ∧ tT X.K (emb s) (tst s) σ H Q) := fun pins s σ H Q I ⟨n, t, hJ, q⟩ => ht n t hJ pins s σ H Q I q
  have hB : PSs X body (fun D σ H => ∃ n s δ', J n s ∧ tst s = true ∧ SR X (emb s) body (.nx δ') ∧ tS X.K (emb s) (.nx δ') D σ H) := fun pins s σ H D I ⟨n, t, δ', _, _, h, q⟩ => h pins s σ H D I q
  intro pins s σ H D I ⟨Hb, own, B, E, P⟩
  refine ps_while hp hT hB pins s σ H D I ⟨fun n σ' H' => ∃ own' t, EnvO X.K Hb own' B H' σ' (emb t) ∧ J n t ∧ runW tst nxt n t = runW tst nxt m s0, ⟨m, own, s0, E, h0, rfl⟩, ?_⟩
  rintro n σ2 H2 ⟨own2, t, E2, hJ, hR⟩
  refine ⟨n, t, hJ, Hb, own2, B, E2, fun H3 s3 => ?_⟩
  cases htt : tst t with
  | true =>
    obtain ⟨n', δ', hn', hS, hw, hJ'⟩ := hb n t hJ htt
    refine iteT ⟨fun σ' H' => ∃ own', EnvO X.K Hb own' B H' σ' δ', fun σ' H' ⟨own', E'⟩ => ⟨n', by omega, _, nxt t, E'.weaken hw, hJ', ?_⟩, n, t, δ', hJ, htt, hS, Hb, own2, B, E2.mono s3, fun own' σ' H' E' => ⟨own', E'⟩⟩
    rw [← hR, hn', runW, if_pos htt]
  | false =>
    refine iteF (P own2 σ2 H3 ?_)
    have : runW tst nxt n t = t := by cases n with
      | zero => rfl
      | succ n => rw [runW, if_neg (by rw [htt]; decide)]
    rw [← hR, this]
    exact E2.mono s3
inductive Res (S : Type) where
  | nx (s : S)
  | br (s : S)
  | out (o : Out)
noncomputable def loopR {S α : Type} (F : α → S → Res S) : List α → S → Res S
  | [], s => .nx s
  | t :: r, s => match F t s with
    | .nx s' => loopR F r s'
    | .br s' => .br s'
    | .out o => .out o
noncomputable def TurnOk {S : Type} (X : Cx) (emb : S → Dn) (δ : Dn) (body : List Stmt) : Res S → Prop
  | .nx s => ∃ δ', SR X δ body (.nx δ') ∧ Wkn δ' (emb s)
  | .br s => ∃ δ', SR X δ body (.bk δ') ∧ Wkn δ' (emb s)
  | .out o => SR X δ body o ∧ (∀ δ', o ≠ .nx δ') ∧ (∀ δ', o ≠ .bk δ') ∧ ∀ δ', o ≠ .ct δ'
noncomputable def Res.fin {S : Type} (emb : S → Dn) : Res S → Out
  | .nx s => .nx (emb s)
  | .br s => .nx (emb s)
  | .out o => o
theorem s1_forR {S α : Type} {body : List Stmt} (i : Nat) (emb : S → Dn) (it : α → PyData) (ts : List α) (F : α → S → Res S) (J : Nat → S → Prop) {iter : Expr} {px : Pos} {s0 : S} (hp : PassesOwn (model X.prog X.w) X.A X.env X.xe) (hc : X.calm = true) (hN : X.N.Nodup) (hi : EiD X (emb s0) (.Name x px) iter (ts.map it)) (h0 : J 0 s0)
    (turn : ∀ (n : Nat) t s, ts[n]? = some t → J n s → TurnOk X emb ((emb s).set i (.sh (it t))) body (F t s)) (keep : ∀ (n : Nat) t s s', ts[n]? = some t → J n s → F t s = .nx s' → J (n + 1) s')
    (hx : X.N[i]? = some x := by rfl) (hl : Loc X.env.scope x := by first | exact Or.inl rfl | exact Or.inr rfl) (hf : X.fn x = true ∨ X.env.scope.names.lookup x = some .local := by first | exact .inl rfl | exact .inr rfl)
    (hs : ∀ x, foldedSetIterable iter X.env x = pure x := by intro _; rfl) : S1 X (emb s0) (.For (.Name x px) iter body [] pos) ((loopR F ts s0).fin emb) := by
  have hB : PSs X body (fun D σ H => ∃ (δ : Dn) (o : Out), SR X δ body o ∧ tS X.K δ o D σ H) := fun pins s σ H D I ⟨δ, o, h, q⟩ => h pins s σ H D I q
  intro pins s σ H D I ⟨Hb, own, B, E, P⟩
  refine ps_for hp hc hi (pg_name hN hx hl hf) hB hs pins s σ H D I ⟨Hb, own, B, E, fun Jt H1 s1 w => ?_⟩
  have E1 := E.mono s1
  have R1 := E1.rebase
  have P1 := Post.rebase E1 P
  have hdl : (ts.map it).length = ts.length := List.length_map _
  refine ⟨fun n m σ' H' => m = ts.length - n ∧ n ≤ ts.length ∧ ∃ own' s', EnvO X.K (keepB own H1) own' B H' σ' (emb s') ∧ J n s' ∧ loopR F (ts.drop n) s' = loopR F ts s0, ⟨ts.length, rfl, Nat.zero_le _, own, s0, R1, h0, rfl⟩, ?_⟩
  rintro n m σ2 H2 ⟨rfl, hn, own2, s2, E2, hJ, hO⟩
  by_cases hlt : n < ts.length
  · refine .inr ⟨w.go n H2 E2.base (by rw [hdl]; exact hlt), ?_⟩
    have ht0 : ts[n]? = some ts[n] := List.getElem?_eq_getElem hlt
    have hd0 : (ts.map it)[n]? = some (it ts[n]) := by rw [List.getElem?_map, ht0]; rfl
    rw [drop_cons ht0] at hO
    have T := turn n ts[n] s2 ht0 hJ
    refine ⟨fun σ' H' => ∃ own' s', EnvO X.K (keepB own H1) own' B H' σ' (emb s') ∧ F ts[n] s2 = .nx s', fun σ' H' ⟨own', s', E', hF⟩ => ⟨ts.length - (n + 1), by omega, rfl, hlt, own', s', E', keep _ _ _ _ ht0 hJ hF, ?ka⟩, fun v H' hy => ?kb⟩
    case ka =>
      rw [← hO]
      show _ = match F ts[n] s2 with
        | .nx s' => loopR F (ts.drop (n + 1)) s'
        | .br s' => .br s'
        | .out o => .out o
      rw [hF]
    case kb =>
      obtain ⟨eH, d, hd, rd⟩ := w.yld n H2 v H' E2.base (by rw [hdl]; exact hlt) hy
      rw [hd0] at hd
      cases hd
      subst H'
      have av : ∀ a, Av own2 B a → Av own B a ∨ keepB own H1 a = none := fun a h => by
        rcases h with h | ⟨j, h⟩
        · exact .inl (.inl h)
        · exact .inr (E2.ofr j a h)
      have rd2 : Rep X.K (Av own2 B) H2 (it ts[n]) v := Rep.young (Hk := keepB own H1) (fun a h => av a h) rd E2.base
      have ES := E2.setSh (i := i) rd2
      have hO' : loopR F ts s0 = match F ts[n] s2 with
        | .nx s' => loopR F (ts.drop (n + 1)) s'
        | .br s' => .br s'
        | .out o => .out o := hO.symm
      cases hF : F ts[n] s2 with
      | nx s' =>
        rw [hF] at T
        obtain ⟨δ', hS, hw⟩ := T
        exact ⟨_, _, hS, _, _, _, ES, fun own' σ' H' E' => ⟨_, s', E'.weaken hw, rfl⟩⟩
      | br s' =>
        rw [hF] at T hO'
        obtain ⟨δ', hS, hw⟩ := T
        rw [hO'] at P1
        exact ⟨_, _, hS, _, _, _, ES, fun own' σ' H' E' => P1 _ _ _ (E'.weaken hw)⟩
      | out o =>
        rw [hF] at T hO'
        obtain ⟨hS, z1, z2, z3⟩ := T
        rw [hO'] at P1
        refine ⟨_, _, hS, _, _, _, ES, ?_⟩
        cases o with
        | nx δ' => exact absurd rfl (z1 δ')
        | bk δ' => exact absurd rfl (z2 δ')
        | ct δ' => exact absurd rfl (z3 δ')
        | rt d => exact P1
        | rf ys => exact P1
        | rw δ' ys => exact P1
        | rn t => exact P1
  · have en : n = ts.length := by omega
    subst en
    rw [List.drop_length] at hO
    refine .inl ⟨w.stop _ H2 E2.base (Nat.le_of_eq hdl), ?_⟩
    rw [← hO] at P1
    exact P1 own2 σ2 H2 E2
theorem out_rt {S : Type} {emb : S → Dn} {body : List Stmt} (h : SR X δ body (.rt d)) : TurnOk X emb δ body (.out (.rt d)) := ⟨h, fun _ z => (nomatch z), fun _ z => (nomatch z), fun _ z => (nomatch z)⟩
theorem loopR_fold {S α : Type} (f : α → S → S) : ∀ (ts : List α) (s : S), loopR (fun t s => .nx (f t s)) ts s = .nx (ts.foldl (fun s t => f t s) s)
  | [], _ => rfl
  | t :: r, s => loopR_fold f r (f t s)
end
end L2
end
section
namespace L2
open PySem PySem.Spec PyProof.Rows
inductive AE where
  | d (d : PyData)
  /-- the own thing of name i -/
  | sl (i : Nat) (oa : Option Addr) (c : Cont)
  /-- a new list -/
  | f (xs : List PyData)
noncomputable def AE.ent (a : Addr) : AE → Ent
  | .d x => .sh x
  | .sl _ _ c => .own (some a) c
  | .f x => .own (some a) (.l x)
noncomputable def AE.entB (a : Addr) (c' : Cont) : AE → Ent
  | .sl _ _ _ => .own (some a) c'
  | _ => .no
noncomputable def mkA : (Nat → Addr) → List AE → List Ent
  | _, [] => []
  | ad, x :: r => x.ent (ad 0) :: mkA (fun n => ad (n + 1)) r
noncomputable def mkB : (Nat → Addr) → (Nat → Cont) → List AE → List Ent
  | _, _, [] => []
  | ad, cs, x :: r => x.entB (ad 0) (cs 0) :: mkB (fun n => ad (n + 1)) (fun n => cs (n + 1)) r
noncomputable def updS : Dn → (Nat → Cont) → List AE → Dn
  | δ, _, [] => δ
  | δ, cs, .sl i oa _ :: r => updS (δ.set i (.own oa (cs 0))) (fun n => cs (n + 1)) r
  | δ, cs, .d _ :: r => updS δ (fun n => cs (n + 1)) r
  | δ, cs, .f _ :: r => updS δ (fun n => cs (n + 1)) r
noncomputable def slots : List AE → List Nat
  | [] => []
  | .sl i _ _ :: r => i :: slots r
  | .d _ :: r => slots r
  | .f _ :: r => slots r
noncomputable def SlOk (δ : Dn) : List AE → Prop
  | [] => True
  | .sl i oa c :: r => δ[i]? = some (.own oa c) ∧ SlOk δ r
  | .d _ :: r => SlOk δ r
  | .f _ :: r => SlOk δ r
theorem mem_slots : ∀ {l : List AE} {j i : Nat} {oa : Option Addr} {c : Cont}, l[j]? = some (.sl i oa c) → i ∈ slots l
  | [], _, _, _, _, h => by cases h
  | x :: r, 0, i, oa, c, h => by cases h; exact List.mem_cons_self
  | x :: r, j + 1, i, oa, c, h => by
    have := mem_slots (l := r) (j := j) (by simpa using h)
    cases x <;> first | exact this | exact List.mem_cons_of_mem _ this
theorem slOk_at {δ : Dn} : ∀ {l : List AE} {j i : Nat} {oa : Option Addr} {c : Cont}, SlOk δ l → l[j]? = some (.sl i oa c) → δ[i]? = some (.own oa c)
  | [], _, _, _, _, _, h => by cases h
  | x :: r, 0, i, oa, c, s, h => by cases h; exact s.1
  | x :: r, j + 1, i, oa, c, s, h => by
    have h' : r[j]? = some (.sl i oa c) := by simpa using h
    cases x with
    | sl _ _ _ => exact slOk_at s.2 h'
    | d _ => exact slOk_at (l := r) s h'
    | f _ => exact slOk_at (l := r) s h'
theorem mkA_len (ad : Nat → Addr) : ∀ l, (mkA ad l).length = l.length := by
  intro l
  induction l generalizing ad with
  | nil => rfl
  | cons x r ih => rw [mkA, List.length_cons, List.length_cons, ih]
theorem mkB_at : ∀ {l : List AE} {ad : Nat → Addr} {cs : Nat → Cont} {j : Nat} {x : AE}, l[j]? = some x → (mkB ad cs l)[j]? = some (x.entB (ad j) (cs j))
  | [], _, _, _, _, h => by cases h
  | y :: r, ad, cs, 0, x, h => by cases h; rfl
  | y :: r, ad, cs, j + 1, x, h => by rw [mkB, List.getElem?_cons_succ]; exact mkB_at (ad := fun n => ad (n + 1)) (cs := fun n => cs (n + 1)) (by simpa using h)
theorem updS_len : ∀ (l : List AE) (δ : Dn) (cs : Nat → Cont), (updS δ cs l).length = δ.length
  | [], _, _ => rfl
  | x :: r, δ, cs => by
    cases x with
    | sl i oa c => rw [updS, updS_len, List.length_set]
    | d _ => rw [updS, updS_len]
    | f _ => rw [updS, updS_len]
theorem updS_at : ∀ (l : List AE) (δ : Dn) (cs : Nat → Cont) (i : Nat) (e : Ent), (slots l).Nodup → (updS δ cs l)[i]? = some e → (i ∉ slots l ∧ δ[i]? = some e) ∨ ∃ j oa c, l[j]? = some (.sl i oa c) ∧ e = .own oa (cs j)
  | [], _, _, _, _, _, h => .inl ⟨by simp [slots], h⟩
  | x :: r, δ, cs, i, e, nd, h => by
    cases x with
    | sl k oa c =>
      rw [slots, List.nodup_cons] at nd
      rw [updS] at h
      rcases updS_at r _ _ i e nd.2 h with ⟨h1, h2⟩ | ⟨j, oa', c', h1, h2⟩
      · by_cases ki : k = i
        · subst ki
          have hk : k < δ.length := by
            have := (List.getElem?_eq_some_iff.mp h2).1
            rwa [List.length_set] at this
          rw [List.getElem?_set_self hk] at h2
          exact .inr ⟨0, oa, c, rfl, (Option.some.inj h2).symm⟩
        · rw [List.getElem?_set_ne ki] at h2
          exact .inl ⟨by rw [slots]; exact fun z => (List.mem_cons.mp z).elim (fun y => ki y.symm) h1, h2⟩
      · exact .inr ⟨j + 1, oa', c', by simpa using h1, h2⟩
    | d _ =>
      rw [updS] at h
      rcases updS_at r _ _ i e nd h with ⟨h1, h2⟩ | ⟨j, oa', c', h1, h2⟩
      · exact .inl ⟨h1, h2⟩
      · exact .inr ⟨j + 1, oa', c', by simpa using h1, h2⟩
    | f _ =>
      rw [updS] at h
      rcases updS_at r _ _ i e nd h with ⟨h1, h2⟩ | ⟨j, oa', c', h1, h2⟩
      · exact .inl ⟨h1, h2⟩
      · exact .inr ⟨j + 1, oa', c', by simpa using h1, h2⟩
theorem updS_own : ∀ (l : List AE) (δ : Dn) (cs : Nat → Cont) (i : Nat), (∃ oa c, δ[i]? = some (.own oa c)) → ∃ oa c, (updS δ cs l)[i]? = some (.own oa c)
  | [], _, _, _, h => h
  | x :: r, δ, cs, i, h => by
    cases x with
    | sl k oa c =>
      rw [updS]
      refine updS_own r _ _ i ?_
      by_cases ki : k = i
      · subst ki
        obtain ⟨oa', c', h⟩ := h
        exact ⟨oa, cs 0, by rw [List.getElem?_set_self (List.getElem?_eq_some_iff.mp h).1]⟩
      · rw [List.getElem?_set_ne ki]; exact h
    | d _ => rw [updS]; exact updS_own r _ _ i h
    | f _ => rw [updS]; exact updS_own r _ _ i h
noncomputable def consO (o : List Addr) (own : Nat → List Addr) : Nat → List Addr
  | 0 => o
  | j + 1 => own j
noncomputable def consA (a : Addr) (ad : Nat → Addr) : Nat → Addr
  | 0 => a
  | j + 1 => ad j
theorem consO_nd {o : List Addr} {own : Nat → List Addr} (h : o.Nodup) (h' : ∀ j, (own j).Nodup) : ∀ j, (consO o own j).Nodup
  | 0 => h
  | j + 1 => h' j
structure Callee (K : PySem.W.Frag) (own : Nat → List Addr) (B : Addr → Prop) (σ : St) (H H' : Hp) (l : List AE) (vs : List V) (ad : Nat → Addr) (own0 : Nat → List Addr) (B0 : Addr → Prop) : Prop where
  env : EnvO K (keepB own0 H') own0 B0 H' (vs.map some) (mkA ad l)
  av : ∀ a, Av own B a → Av own0 B0 a
  va : ∀ a, Av own0 B0 a → Av own B a ∨ H a = none
  src : ∀ j a, a ∈ own0 j → (∃ i oa c, l[j]? = some (.sl i oa c) ∧ a ∈ own i) ∨ H a = none
  dst : ∀ j i oa c, l[j]? = some (.sl i oa c) → own0 j = own i ∧ σ[i]? = some (some (.ref (ad j)))
noncomputable def tCA (K : PySem.W.Frag) (δ : Dn) (l : List AE) : TA := fun σ H Q => ∃ Hb own B, EnvO K Hb own B H σ δ ∧ ∀ vs H' ad own0 B0, Same H H' → Callee K own B σ H H' l vs ad own0 B0 → Q vs H'
noncomputable def EaM (X : Cx) (δ : Dn) (es : List Expr) (l : List AE) : Prop := PA X es (tCA X.K δ l)
section
variable {K : PySem.W.Frag} {Hb : Hp} {own : Nat → List Addr} {B : Addr → Prop} {H H1 H2 : Hp} {σ : St} {δ : Dn}
theorem callee_nil (E : EnvO K Hb own B H σ δ) : Callee K own B σ H H [] [] (fun _ => 0) (fun _ => []) (Av own B) := by
  refine ⟨⟨fun b o h => (keepB_some h).1, rfl, fun a h z => ?_, fun _ _ z => (nomatch z), fun _ _ z => (nomatch z), fun _ => List.nodup_nil, fun _ _ _ z => (nomatch z), fun i d z => (by cases z), fun i oa c z => (by cases z)⟩, fun a h => .inl h, fun a h => .inl (h.elim id fun ⟨_, z⟩ => nomatch z), fun _ _ z => (nomatch z), fun j i oa c z => (by cases z)⟩
  cases q : H a with
  | none => exact E.alive h q
  | some o => rw [keepB_of (own := fun _ => []) q fun i hi => nomatch hi] at z; cases z
theorem callee_d {l : List AE} {vs : List V} {ad : Nat → Addr} {own0 : Nat → List Addr} {B0 : Addr → Prop} {d : PyData} {v : V} (s1 : Same H H1) (s2 : Same H1 H2) (C : Callee K own B σ H1 H2 l vs ad own0 B0) (r : Rep K (Av own B) H1 d v) :
    Callee K own B σ H H2 (.d d :: l) (v :: vs) (consA 0 ad) (consO [] own0) B0 := by
  have ho : ∀ j a, a ∈ consO [] own0 j → ∃ k, j = k + 1 ∧ a ∈ own0 k := fun j a h => by
    cases j with
    | zero => cases h
    | succ k => exact ⟨k, rfl, h⟩
  have av1 : ∀ a, Av (consO [] own0) B0 a → Av own0 B0 a := fun a h => h.imp id fun ⟨j, z⟩ => let ⟨k, _, q⟩ := ho j a z; ⟨k, q⟩
  have av2 : ∀ a, Av own0 B0 a → Av (consO [] own0) B0 a := fun a h => h.imp id fun ⟨j, z⟩ => ⟨j + 1, z⟩
  have kb : keepB (consO [] own0) H2 = keepB own0 H2 := by
    funext b
    cases q : keepB own0 H2 b with
    | some o => obtain ⟨q1, q2⟩ := keepB_some q; exact keepB_of q1 fun j hj => let ⟨k, _, y⟩ := ho j b hj; q2 k y
    | none =>
      cases q' : keepB (consO [] own0) H2 b with
      | none => rfl
      | some o =>
        obtain ⟨q1, q2⟩ := keepB_some q'
        rw [keepB_of (own := own0) q1 fun j hj => q2 (j + 1) hj] at q
        cases q
  have E := C.env
  refine ⟨⟨by rw [kb]; exact E.base, by simp [mkA_len]; simpa [mkA_len] using E.len, by rw [kb]; exact E.bb, fun j a h => ?_, fun j a h => ?_, consO_nd List.nodup_nil E.ond, fun i j a h h' => ?_, fun i e h => ?_, fun i oa c h => ?_⟩, fun a h => av2 a (C.av a h), fun a h => ?_, fun j a h => ?_, fun j i oa c h => ?_⟩
  · obtain ⟨k, rfl, q⟩ := ho j a h; rw [kb]; exact E.ofr k a q
  · obtain ⟨k, rfl, q⟩ := ho j a h; exact E.oex k a q
  · obtain ⟨k, rfl, q⟩ := ho i a h; obtain ⟨k', rfl, q'⟩ := ho j a h'; rw [E.inj k k' a q q']
  · cases i with
    | zero =>
      cases h
      refine ⟨v, rfl, Rep.young (Hk := H1) (fun a h => C.va a (av1 a h)) r s2⟩
    | succ i =>
      obtain ⟨w, h1, h2⟩ := E.sh i e h
      exact ⟨w, h1, h2.av av1⟩
  · cases i with
    | zero => cases h
    | succ i =>
      obtain ⟨w, h1, h2, h4⟩ := E.ow i oa c h
      exact ⟨w, h1, h2, h4.av av1⟩
  · exact (C.va a (av1 a h)).imp id fun z => s1.free z
  · obtain ⟨k, rfl, q⟩ := ho j a h
    exact (C.src k a q).imp (fun ⟨i, oa, c, z⟩ => ⟨i, oa, c, by simpa using z⟩) fun z => s1.free z
  · cases j with
    | zero => cases h
    | succ j => exact C.dst j i oa c (by simpa using h)
theorem callee_own {l : List AE} {vs : List V} {ad : Nat → Addr} {own0 : Nat → List Addr} {B0 B' : Addr → Prop} {x : AE} {a : Addr} {as : List Addr} {c : Cont} (s1 : Same H H1) (s2 : Same H1 H2) (C : Callee K own B' σ H1 H2 l vs ad own0 B0) (hx : x.ent a = .own (some a) c) (hB : ∀ b, B b → B' b) (hB' : ∀ b, B' b → B b ∨ b ∈ as)
    (hA : ∀ b ∈ as, Av own B' b) (hn : ∀ b ∈ as, ∀ j, b ∉ own0 j) (hnd : as.Nodup) (r : RepC K (Av own B') H1 c (.ref a) as) (hsrc : (∃ i oa c, x = .sl i oa c ∧ own i = as) ∨ ∀ b ∈ as, H b = none) (hdst : ∀ i oa c, x = .sl i oa c → own i = as ∧ σ[i]? = some (some (.ref a))) :
    Callee K own B σ H H2 (x :: l) (.ref a :: vs) (consA a ad) (consO as own0) (fun b => B0 b ∧ b ∉ as) := by
  have E := C.env
  have ho : ∀ j b, b ∈ consO as own0 j → (j = 0 ∧ b ∈ as) ∨ ∃ k, j = k + 1 ∧ b ∈ own0 k := fun j b h => by
    cases j with
    | zero => exact .inl ⟨rfl, h⟩
    | succ k => exact .inr ⟨k, rfl, h⟩
  have hB0a : ∀ b ∈ as, B0 b := fun b hb => (C.av b (hA b hb)).elim id fun ⟨j, z⟩ => absurd z (hn b hb j)
  have av1 : ∀ b, Av (consO as own0) (fun b => B0 b ∧ b ∉ as) b → Av own0 B0 b := fun b h => by
    rcases h with h | ⟨j, z⟩
    · exact .inl h.1
    · rcases ho j b z with ⟨_, hb⟩ | ⟨k, _, q⟩
      · exact .inl (hB0a b hb)
      · exact .inr ⟨k, q⟩
  have av2 : ∀ b, Av own0 B0 b → Av (consO as own0) (fun b => B0 b ∧ b ∉ as) b := fun b h => by
    rcases h with h | ⟨j, z⟩
    · by_cases e : b ∈ as
      · exact .inr ⟨0, e⟩
      · exact .inl ⟨h, e⟩
    · exact .inr ⟨j + 1, z⟩
  refine ⟨⟨fun b o h => (keepB_some h).1, by simp [mkA_len]; simpa [mkA_len] using E.len, fun b h z => ?_, fun j b h => ?_, fun j b h => ?_, consO_nd hnd E.ond, fun i j b h h' => ?_, fun i e h => ?_, fun i oa c' h => ?_⟩, fun b h => av2 b (C.av b (h.imp (hB b) id)), fun b h => ?_, fun j b h => ?_, fun j i oa c h => ?_⟩
  · have h1 := E.bb b h.1
    cases q : keepB own0 H2 b with
    | none => exact h1 q
    | some o' =>
      obtain ⟨q1, q2⟩ := keepB_some q
      rw [keepB_of q1 fun j hj => (ho j b hj).elim (fun y => h.2 y.2) fun ⟨k, _, y⟩ => q2 k y] at z
      cases z
  · unfold keepB
    rw [if_pos ⟨j, h⟩]
  · rcases ho j b h with ⟨rfl, _⟩ | ⟨k, rfl, q⟩
    · exact ⟨some a, c, by show some (x.ent a) = _; rw [hx]⟩
    · exact E.oex k b q
  · rcases ho i b h with ⟨rfl, hb⟩ | ⟨k, rfl, q⟩ <;> rcases ho j _ h' with ⟨rfl, z⟩ | ⟨k', rfl, q'⟩
    · rfl
    · exact absurd q' (hn b hb k')
    · exact absurd q (hn b z k)
    · rw [E.inj k k' b q q']
  · cases i with
    | zero =>
      have h' : some (x.ent a) = some (Ent.sh e) := h
      rw [hx] at h'
      cases h'
    | succ i =>
      obtain ⟨w, h1, h2⟩ := E.sh i e h
      exact ⟨w, h1, h2.av av1⟩
  · cases i with
    | zero =>
      have h' : some (x.ent a) = some (Ent.own oa c') := h
      rw [hx] at h'
      cases h'
      exact ⟨.ref a, rfl, fun b z => by cases z; rfl, (r.kp (Kp.young fun b h => C.va b (av1 b h)) fun _ _ _ z => z).up s2⟩
    | succ i =>
      obtain ⟨w, h1, h2, h4⟩ := E.ow i oa c' h
      exact ⟨w, h1, h2, h4.av av1⟩
  · rcases C.va b (av1 b h) with (z | z) | z
    · rcases hB' b z with z | z
      · exact .inl (.inl z)
      · rcases hsrc with ⟨i, oa, c, _, q⟩ | q
        · exact .inl (.inr ⟨i, by rw [q]; exact z⟩)
        · exact .inr (q b z)
    · exact .inl (.inr z)
    · exact .inr (s1.free z)
  · rcases ho j b h with ⟨rfl, hb⟩ | ⟨k, rfl, q⟩
    · rcases hsrc with ⟨i, oa, c, z, q⟩ | q
      · exact .inl ⟨i, oa, c, by rw [z]; rfl, by rw [q]; exact hb⟩
      · exact .inr (q b hb)
    · exact (C.src k b q).imp (fun ⟨i, oa, c, z⟩ => ⟨i, oa, c, by simpa using z⟩) fun z => s1.free z
  · cases j with
    | zero =>
      have h' : some x = some (AE.sl i oa c) := h
      cases h'
      exact ⟨(hdst _ _ _ rfl).1.symm, (hdst _ _ _ rfl).2⟩
    | succ j => exact C.dst j i oa c (by simpa using h)
theorem slots_inj : ∀ {l : List AE} {j j' i : Nat} {oa oa' : Option Addr} {c c' : Cont}, (slots l).Nodup → l[j]? = some (.sl i oa c) → l[j']? = some (.sl i oa' c') → j = j'
  | [], _, _, _, _, _, _, _, _, h, _ => by cases h
  | x :: r, 0, 0, _, _, _, _, _, _, _, _ => rfl
  | x :: r, 0, j' + 1, i, oa, oa', c, c', nd, h, h' => by
    cases h
    rw [slots, List.nodup_cons] at nd
    exact absurd (mem_slots (l := r) (j := j') (by simpa using h')) nd.1
  | x :: r, j + 1, 0, i, oa, oa', c, c', nd, h, h' => by
    cases h'
    rw [slots, List.nodup_cons] at nd
    exact absurd (mem_slots (l := r) (j := j) (by simpa using h)) nd.1
  | x :: r, j + 1, j' + 1, i, oa, oa', c, c', nd, h, h' => by
    have nd' : (slots r).Nodup := by
      cases x with
      | sl _ _ _ => rw [slots, List.nodup_cons] at nd; exact nd.2
      | d _ => exact nd
      | f _ => exact nd
    rw [slots_inj (l := r) (j := j) (j' := j') nd' (by simpa using h) (by simpa using h')]
noncomputable def ownB (own own' : Nat → List Addr) (l : List AE) : Nat → List Addr := fun i => open Classical in if h : ∃ j, ∃ oa c, l[j]? = some (AE.sl i oa c) then own' h.choose else own i
theorem ownB_sl {own own' : Nat → List Addr} {l : List AE} {i j : Nat} {oa : Option Addr} {c : Cont} (nd : (slots l).Nodup) (h : l[j]? = some (AE.sl i oa c)) : ownB own own' l i = own' j := by
  unfold ownB
  have e : ∃ j, ∃ oa c, l[j]? = some (AE.sl i oa c) := ⟨j, oa, c, h⟩
  rw [dif_pos e]
  obtain ⟨oa', c', h'⟩ := e.choose_spec
  rw [slots_inj nd h' h]
theorem ownB_no {own own' : Nat → List Addr} {l : List AE} {i : Nat} (h : i ∉ slots l) : ownB own own' l i = own i := by
  unfold ownB
  rw [dif_neg fun ⟨j, oa, c, z⟩ => h (mem_slots z)]
theorem slots_ex : ∀ {l : List AE} {i : Nat}, i ∈ slots l → ∃ (j : Nat) (oa : Option Addr) (c : Cont), l[j]? = some (AE.sl i oa c)
  | [], _, h => by cases h
  | x :: r, i, h => by
    cases x with
    | sl k oa c =>
      rcases List.mem_cons.mp h with rfl | h
      · exact ⟨0, oa, c, rfl⟩
      · obtain ⟨j, oa', c', q⟩ := slots_ex (l := r) h
        exact ⟨j + 1, oa', c', by simpa using q⟩
    | d _ =>
      obtain ⟨j, oa', c', q⟩ := slots_ex (l := r) h
      exact ⟨j + 1, oa', c', by simpa using q⟩
    | f _ =>
      obtain ⟨j, oa', c', q⟩ := slots_ex (l := r) h
      exact ⟨j + 1, oa', c', by simpa using q⟩
theorem ownB_cases {own own' : Nat → List Addr} {l : List AE} (nd : (slots l).Nodup) (i : Nat) : (i ∉ slots l ∧ ownB own own' l i = own i) ∨ ∃ j oa c, l[j]? = some (AE.sl i oa c) ∧ ownB own own' l i = own' j := by
  by_cases h : i ∈ slots l
  · obtain ⟨j, oa, c, q⟩ := slots_ex h
    exact .inr ⟨j, oa, c, q, ownB_sl nd q⟩
  · exact .inl ⟨h, ownB_no h⟩
theorem callee_back {l : List AE} {vs : List V} {ad : Nat → Addr} {own0 own' : Nat → List Addr} {B0 : Addr → Prop} {cs : Nat → Cont} {σ' : St} {H' : Hp} (E : EnvO K Hb own B H σ δ) (s1 : Same H H1) (C : Callee K own B σ H H1 l vs ad own0 B0) (hs : SlOk δ l) (nd : (slots l).Nodup)
    (E' : EnvO K (keepB own0 H1) own' B0 H' σ' (mkB ad cs l)) : EnvO K Hb (ownB own own' l) B H' σ (updS δ cs l) ∧ (∀ a, Av (ownB own own' l) B a → Av own' B0 a) := by
  have E1 := E.mono s1
  have kept : ∀ i a, i ∉ slots l → a ∈ own i → ∀ j, a ∉ own0 j := fun i a hi ha j z => by
    rcases C.src j a z with ⟨i', oa, c, q1, q2⟩ | q
    · have := E.inj i i' a ha q2
      subst this
      exact hi (mem_slots q1)
    · exact E.alive (.inr ⟨i, ha⟩) q
  have keptB : ∀ i a, i ∉ slots l → a ∈ own i → B0 a := fun i a hi ha => (C.av a (.inr ⟨i, ha⟩)).elim id fun ⟨j, z⟩ => absurd z (kept i a hi ha j)
  have BB : ∀ a, B a → B0 a := fun a h => (C.av a (.inl h)).elim id fun ⟨j, z⟩ => by
    rcases C.src j a z with ⟨i, oa, c, _, q2⟩ | q
    · exact absurd (E.ofr i a q2) (E.bb a h)
    · exact absurd q (E.alive (.inl h))
  have av : ∀ a, Av (ownB own own' l) B a → Av own' B0 a := fun a h => by
    rcases h with h | ⟨i, h⟩
    · exact .inl (BB a h)
    · rcases ownB_cases (own := own) (own' := own') nd i with ⟨hi, e⟩ | ⟨j, oa, c, hj, e⟩
      · rw [e] at h; exact .inl (keptB i a hi h)
      · rw [e] at h; exact .inr ⟨j, h⟩
  have no0 : ∀ b, ¬ Av own B b → H b ≠ none → ∀ j, b ∉ own0 j := fun b h hn j z => by
    rcases C.src j b z with ⟨i, oa, c, _, q⟩ | q
    · exact h (.inr ⟨i, q⟩)
    · exact hn q
  have stay : ∀ b u, H b = some u → (∀ j, b ∉ own0 j) → H' b = some u := fun b u q n => E'.base b u (keepB_of (s1 b u q) n)
  have nmut : ∀ b u, H b = some u → ¬ MutO u → ∀ j, b ∉ own0 j := fun b u q nm j z => by
    obtain ⟨o, q', m⟩ := C.env.muts j b z
    rw [s1 b u q] at q'
    cases q'
    exact nm m
  have got : ∀ j a, a ∈ own' j → H1 a = none ∨ ∃ k, a ∈ own0 k := fun j a h => by
    cases q : H1 a with
    | none => exact .inl rfl
    | some o =>
      refine .inr (Classical.byContradiction fun n => ?_)
      have := E'.ofr j a h
      rw [keepB_of q fun k hk => n ⟨k, hk⟩] at this
      cases this
  have gotH : ∀ j a, a ∈ own' j → (∃ i, a ∈ own i) ∨ H a = none := fun j a h => by
    rcases got j a h with z | ⟨k, z⟩
    · exact .inr (s1.free z)
    · exact (C.src k a z).imp (fun ⟨i, _, _, _, q⟩ => ⟨i, q⟩) id
  have nav : ∀ b u, H b = some u → ¬ Av own B b → ¬ Av (ownB own own' l) B b := fun b u q n z => by
    rcases z with z | ⟨i, z⟩
    · exact n (.inl z)
    · rcases ownB_cases (own := own) (own' := own') nd i with ⟨_, e⟩ | ⟨j, oa, c, hj, e⟩
      · rw [e] at z; exact n (.inr ⟨i, z⟩)
      · rw [e] at z
        rcases gotH j b z with y | y
        · exact n (.inr y)
        · rw [q] at y; cases y
  have kp : Kp (Av own B) (Av (ownB own own' l) B) H H' := ⟨fun b vs h q => ⟨nav b _ q h, stay b _ q (no0 b h (by rw [q]; intro z; cases z))⟩, fun b vs q => stay b _ q (nmut b _ q fun z => z), fun b o u q => stay b _ q (nmut b _ q fun z => z)⟩
  refine ⟨⟨fun b u q => ?_, by rw [updS_len]; exact E.len, E.bb, fun i a h => ?_, fun i a h => ?_, fun i => ?_, fun i i' a h h' => ?_, fun i d h => ?_, fun i oa c h => ?_⟩, av⟩
  · refine stay b u (E.base b u q) fun j z => ?_
    rcases C.src j b z with ⟨i, oa, c, _, q'⟩ | q'
    · rw [E.ofr i b q'] at q; cases q
    · rw [E.base b u q] at q'; cases q'
  · rcases ownB_cases (own := own) (own' := own') nd i with ⟨_, e⟩ | ⟨j, oa, c, hj, e⟩
    · rw [e] at h; exact E.ofr i a h
    · rw [e] at h
      rcases gotH j a h with ⟨k, z⟩ | z
      · exact E.ofr k a z
      · exact E.base.free z
  · rcases ownB_cases (own := own) (own' := own') nd i with ⟨_, e⟩ | ⟨j, oa, c, hj, e⟩
    · rw [e] at h; exact updS_own l δ cs i (E.oex i a h)
    · exact updS_own l δ cs i ⟨oa, c, slOk_at hs hj⟩
  · rcases ownB_cases (own := own) (own' := own') nd i with ⟨_, e⟩ | ⟨j, oa, c, hj, e⟩
    · rw [e]; exact E.ond i
    · rw [e]; exact E'.ond j
  · rcases ownB_cases (own := own) (own' := own') nd i with ⟨hi, e⟩ | ⟨j, oa, c, hj, e⟩ <;> rcases ownB_cases (own := own) (own' := own') nd i' with ⟨hi', e'⟩ | ⟨j', oa', c', hj', e'⟩ <;> rw [e] at h <;> rw [e'] at h'
    · exact E.inj i i' a h h'
    · rcases got j' a h' with z | ⟨k, z⟩
      · exact absurd z (E1.alive (.inr ⟨i, h⟩))
      · exact absurd z (kept i a hi h k)
    · rcases got j a h with z | ⟨k, z⟩
      · exact absurd z (E1.alive (.inr ⟨i', h'⟩))
      · exact absurd z (kept i' a hi' h' k)
    · have := E'.inj j j' a h h'
      subst this
      rw [hj] at hj'
      cases hj'
      rfl
  · rcases updS_at l δ cs i _ nd h with ⟨_, h2⟩ | ⟨_, _, _, _, z⟩
    · obtain ⟨v, k1, k2⟩ := E.sh i d h2
      exact ⟨v, k1, Rep.kp kp d v k2⟩
    · cases z
  · rcases updS_at l δ cs i _ nd h with ⟨h1, h2⟩ | ⟨j, oa', c', h1, z⟩
    · obtain ⟨v, k1, k2, k4⟩ := E.ow i oa c h2
      refine ⟨v, k1, k2, ?_⟩
      rw [ownB_no h1]
      exact k4.kp kp fun b hb o q => stay b o q (kept i b h1 hb)
    · cases z
      obtain ⟨v, k1, k2, k4⟩ := E'.ow j (some (ad j)) (cs j) (mkB_at (x := .sl i oa c') h1)
      have := k2 _ rfl
      subst this
      obtain ⟨v0, m1, m2, _⟩ := E.ow i oa c' (slOk_at hs h1)
      have m3 := (C.dst j i oa c' h1).2
      rw [m3] at m1
      cases m1
      exact ⟨_, m3, m2, by rw [ownB_sl nd h1]; exact k4.av av⟩
end
section
variable {X : Cx} {δ : Dn} {a b c e : Expr} {es : List Expr} {d : PyData} {pos p : Pos} {xs : List PyData} {k j : Nat} {x : Str} {l : List AE}
theorem eam_nil : EaM X δ [] [] := fun cpos pins s σ H Q I hh35 => Zz.a5 hh35 fun Hb own B E q => pa_nil cpos pins s σ H Q I (q [] H _ _ _ (Same.refl H) (callee_nil E))
theorem eam_d (he : EvD X δ e d) (ht : EaM X δ es l) (hs : starEach (e :: es) X.env = (false, eval e X.env) :: starEach es X.env := by rfl) : EaM X δ (e :: es) (.d d :: l) :=
  fun cpos pins s σ H Q I hh36 => Zz.a5 hh36 fun Hb own B E q => pa_cons he ht hs cpos pins s σ H Q I ⟨Hb, own, B, E, fun v H1 s1 r => ⟨Hb, own, B, E.mono s1, fun vs H2 ad own0 B0 s2 C => q _ H2 _ _ _ (s1.trans s2) (callee_d s1 s2 C r)⟩⟩
noncomputable def Cont.isRef : Cont → Bool
  | .n (.sh _) => false
  | _ => true
theorem RepC.ref {K : PySem.W.Frag} {A : Addr → Prop} {H : Hp} {c : Cont} {v : V} {as : List Addr} (hc : c.isRef = true) (h : RepC K A H c v as) : ∃ a, v = .ref a := by
  cases c with
  | l xs => obtain ⟨a, _, e, _⟩ := h; exact ⟨a, e⟩
  | d xs => obtain ⟨a, _, e, _⟩ := h; exact ⟨a, e⟩
  | n t =>
    cases t with
    | sh d => cases hc
    | l xs => obtain ⟨a, _, _, e, _⟩ := h; exact ⟨a, e⟩
    | t xs => obtain ⟨a, _, e, _⟩ := h; exact ⟨a, e⟩
    | d xs => obtain ⟨a, _, _, e, _⟩ := h; exact ⟨a, e⟩
theorem eam_sl (i : Nat) {oa : Option Addr} {c : Cont} {px : Pos} (hδ : δ[i]? = some (.own oa c)) (ht : EaM X δ es l) (hn : i ∉ slots l := by first | exact List.not_mem_nil | simp [slots]) (hN : X.N[i]? = some x := by rfl) (hvs : Vis X.env.scope x := by first | exact Or.inl rfl | exact Or.inr (Or.inl rfl) | exact Or.inr (Or.inr rfl)) (hdb : (x == ("__debug__" : Str)) = false := by decide)
    (hcd : (x == ("__classdict__" : Str)) = false := by decide) (hs : starEach (.Name x px :: es) X.env = (false, eval (.Name x px) X.env) :: starEach es X.env := by rfl) (hcr : c.isRef = true := by rfl) : EaM X δ (.Name x px :: es) (.sl i oa c :: l) :=
  fun cpos pins s σ H Q I hh37 => Zz.a5 hh37 fun Hb own B E q => pa_cons (pe_var hN hvs hdb hcd) ht hs cpos pins s σ H Q I (by
    obtain ⟨v, h1, h2, h4⟩ := E.ow i oa c hδ
    obtain ⟨a, rfl⟩ := h4.ref hcr
    refine ⟨_, h1, Hb, own, B, E, fun vs H2 ad own0 B0 s2 C => q _ H2 _ _ _ s2 (callee_own (B' := B) (c := c) (as := own i) (Same.refl H) s2 C rfl (fun _ z => z) (fun _ z => .inl z) (fun b hb => .inr ⟨i, hb⟩) (fun b hb j z => ?_) (E.ond i) h4 (.inl ⟨i, oa, c, rfl, rfl⟩) (fun i' oa' c' z => by cases z; exact ⟨rfl, h1⟩))⟩
    rcases C.src j b z with ⟨i', oa', c', q1, q2⟩ | q1
    · have := E.inj i i' b hb q2
      subst this
      exact hn (mem_slots q1)
    · exact E.alive (.inr ⟨i, hb⟩) q1)
theorem eam_f (he : EvF X δ e xs) (ht : EaM X δ es l) (hs : starEach (e :: es) X.env = (false, eval e X.env) :: starEach es X.env := by rfl) : EaM X δ (e :: es) (.f xs :: l) :=
  fun cpos pins s σ H Q I hh38 => Zz.a5 hh38 fun Hb own B E q => pa_cons he ht hs cpos pins s σ H Q I ⟨Hb, own, B, E, fun a vs H1 s1 hn ha r => ⟨_, own, _, E.guard hn s1 ha, fun ws H2 ad own0 B0 s2 C => by
    have na := E.new hn
    refine q _ H2 _ _ _ (s1.trans s2) (callee_own (c := .l xs) (as := [a]) s1 s2 C rfl (fun _ z => .inl z) (fun b z => z.imp id fun y => List.mem_singleton.mpr y) (fun b hb => .inl (.inr (List.mem_singleton.mp hb))) (fun b hb j z => ?_) (by simp) ⟨a, vs, rfl, rfl, ha, r.av fun b h => ?_⟩ (.inr fun b hb => by rw [List.mem_singleton.mp hb]; exact hn) (fun i' oa' c' z => by cases z))
    · rw [List.mem_singleton.mp hb] at z
      rcases C.src j a z with ⟨i', oa', c', _, q2⟩ | q1
      · exact na (.inr ⟨i', q2⟩)
      · rw [ha] at q1; cases q1
    · rcases h with (h | h) | h
      · exact .inl (.inl h)
      · exact .inr h
      · exact .inl (.inr h)⟩⟩
noncomputable def tM (K : PySem.W.Frag) (δ δ' : Dn) (d : PyData) : TE := fun σ H Q => ∃ Hb own B, EnvO K Hb own B H σ δ ∧ ∀ own' v H', EnvO K Hb own' B H' σ δ' → Rep K (Av own' B) H' d v → Q v H'
noncomputable def EvM (X : Cx) (δ : Dn) (e : Expr) (d : PyData) (δ' : Dn) : Prop := PE X e (tM X.K δ δ' d)
noncomputable def tTM (K : PySem.W.Frag) (δ δ' : Dn) (b : Bool) : TT := fun σ H Q => ∃ Hb own B, EnvO K Hb own B H σ δ ∧ ∀ own' H', EnvO K Hb own' B H' σ δ' → Q b H'
noncomputable def EtM (X : Cx) (δ : Dn) (e : Expr) (b : Bool) (δ' : Dn) : Prop := PT X e (tTM X.K δ δ' b)
noncomputable def spM (K : PySem.W.Frag) (R : List Ent → List Ent → PyData → Prop) : Sp := fun vs H Q _ => ∃ B own as as' d, EnvO K (keepB own H) own B H (vs.map some) as ∧ R as as' d ∧ ∀ own' σ' v H', EnvO K (keepB own H) own' B H' σ' as' → Rep K (Av own' B) H' d v → Q v H'
theorem ev_callM {δ' : Dn} {R : List Ent → List Ent → PyData → Prop} {name : Str} {ps : List Str} (G : Fn X.prog X.w X.K X.mg X.base name j ps (spM X.K R)) (hr : Room k X.A) (hjk : j ≤ k) (hg : Gl X name) (ha : EaM X δ (e :: es) l) (cs : Nat → Cont) (hs : SlOk δ l) (hR : ∀ ad, R (mkA ad l) (mkB ad cs l) d) (hu : updS δ cs l = δ' := by rfl) (nd : (slots l).Nodup := by first | exact List.nodup_nil | exact List.nodup_singleton _ | simp [slots]) (hdb : (name == ("__debug__" : Str)) = false := by decide)
    (he : starEach (e :: es) X.env = (false, eval e X.env) :: starEach es X.env := by rfl) (hpl : (backTo pos (starEach es X.env)).any (·.1) = false := by rfl) : EvM X δ (.Call (.Name name p) (e :: es) [] pos) d δ' := by
  subst hu
  obtain ⟨f, fd, h1, h2, h3, h4⟩ := G.ex
  intro pins s σ H Q I ⟨Hb, own, B, E, q⟩
  refine pe_call h1 (hr.mono hjk) hg h2 h3 h4 .nil pass0 ha hdb he hpl pins s σ H Q I ⟨Hb, own, B, E, fun vs H1 ad own0 B0 s1 C => ?_⟩
  show spM X.K R (vs ++ []) H1 Q E0
  rw [List.append_nil]
  refine ⟨B0, own0, mkA ad l, mkB ad cs l, d, C.env, hR ad, fun own' σ' v H' E' r => ?_⟩
  obtain ⟨Eb, av⟩ := callee_back E s1 C hs nd E'
  exact q _ v H' Eb (r.av av)
variable {δ' δ1 δ2 : Dn} {o : Out} {body els : List Stmt}
theorem s1_exprM (h : EvM X δ e d δ') (hs : swapsWith e none pos.line X.env = pure false := by rfl) : S1 X δ (.Expr e pos) (.nx δ') :=
  fun pins s σ H D I hh39 => Zz.a5 hh39 fun Hb own B E P => ps_expr h hs pins s σ H D I ⟨Hb, own, B, E, fun own' v H' E' r => P own' σ H' E'⟩
theorem etM_val {m : Bool} (h : EvM X δ e (.bool m) δ') (he : ∀ whole, isTrue e X.env whole = (do let v ← whole; standAt e.pos; holding [v] (truthy v)) := by intro _; rfl) : EtM X δ e m δ' :=
  fun pins s σ H Q I hh40 => Zz.a5 hh40 fun Hb own B E q => pt_val h he pins s σ H Q I ⟨Hb, own, B, E, fun own' v H' E' r => ⟨m, r, q own' H' E'⟩⟩
theorem etM_d {m : Bool} (h : EtD X δ e m) : EtM X δ e m δ := fun pins s σ H Q I hh41 => Zz.a5 hh41 fun Hb own B E q => h pins s σ H Q I ⟨Hb, own, B, E, fun H' s1 => q own H' (E.mono s1)⟩
theorem etM_not {m : Bool} (h : EtM X δ e m δ') : EtM X δ (.UnaryOp .Not e pos) (!m) δ' :=
  fun pins s σ H Q I hh42 => Zz.a5 hh42 fun Hb own B E q => pt_not h pins s σ H Q I ⟨Hb, own, B, E, fun own' H' E' => q own' H' E'⟩
theorem etM_or1 (h : EtM X δ a true δ') : EtM X δ (.BoolOp .Or [a, b] pos) true δ' :=
  fun pins s σ H Q I hh43 => Zz.a5 hh43 fun Hb own B E q => pw_or h (tB' := fun _ _ _ => False) (fun _ _ _ _ _ _ _ z => z.elim) _ pins s σ H Q I ⟨Hb, own, B, E, fun own' H' E' => iteT (q own' H' E')⟩
theorem etM_or2 {m : Bool} (h : EtM X δ a false δ1) (h2 : EtM X δ1 b m δ') : EtM X δ (.BoolOp .Or [a, b] pos) m δ' :=
  fun pins s σ H Q I hh44 => Zz.a5 hh44 fun Hb own B E q => pw_or h (pw_or1 h2) _ pins s σ H Q I ⟨Hb, own, B, E, fun own' H' E' => iteF ⟨Hb, own', B, E', q⟩⟩
theorem s1_ifM {m : Bool} (hc : EtM X δ c m δ1) (h1 : m = true → SR X δ1 body o) (h2 : m = false → SR X δ1 els o) : S1 X δ (.If c body els pos) o := by
  cases m with
  | true => exact fun pins s σ H D I hh45 => Zz.a5 hh45 fun Hb own B E P => ps_if hc (h1 rfl) (pss_never (sts := els)) pins s σ H D I ⟨Hb, own, B, E, fun own' H' E' => iteT ⟨Hb, own', B, E', P⟩⟩
  | false => exact fun pins s σ H D I hh46 => Zz.a5 hh46 fun Hb own B E P => ps_if hc (pss_never (sts := body)) (h2 rfl) pins s σ H D I ⟨Hb, own, B, E, fun own' H' E' => iteF ⟨Hb, own', B, E', P⟩⟩
end
section
variable {K : PySem.W.Frag} {Hb : Hp} {own : Nat → List Addr} {B : Addr → Prop} {H : Hp} {σ : St} {δ : Dn}
theorem EnvO.pad (E : EnvO K Hb own B H σ δ) (n : Nat) : EnvO K Hb own B H (σ ++ List.replicate n none) (δ ++ List.replicate n Ent.no) := by
  have lt : ∀ (i : Nat) (e : Ent), δ[i]? = some e → i < δ.length := fun i e h => (List.getElem?_eq_some_iff.mp h).1
  have back : ∀ (i : Nat) (e : Ent), (δ ++ List.replicate n Ent.no)[i]? = some e → δ[i]? = some e ∨ e = Ent.no := fun i e h => by
    by_cases hi : i < δ.length
    · rw [List.getElem?_append_left hi] at h; exact .inl h
    · rw [List.getElem?_append_right (by omega), List.getElem?_replicate] at h
      split at h
      · exact .inr (Option.some.inj h).symm
      · cases h
  refine ⟨E.base, by simp [E.len], E.bb, E.ofr, fun i a h => ?_, E.ond, E.inj, fun i d h => ?_, fun i oa c h => ?_⟩
  · obtain ⟨oa, c, q⟩ := E.oex i a h
    exact ⟨oa, c, by rw [List.getElem?_append_left (lt _ _ q)]; exact q⟩
  · rcases back i _ h with h | h
    · obtain ⟨v, h1, h2⟩ := E.sh i d h
      exact ⟨v, by rw [List.getElem?_append_left (by rw [E.len]; exact lt _ _ h)]; exact h1, h2⟩
    · cases h
  · rcases back i _ h with h | h
    · obtain ⟨v, h1, h2, h3⟩ := E.ow i oa c h
      exact ⟨v, by rw [List.getElem?_append_left (by rw [E.len]; exact lt _ _ h)]; exact h1, h2, h3⟩
    · cases h
theorem EnvO.unpad {n : Nat} (E : EnvO K Hb own B H σ (δ ++ List.replicate n Ent.no)) : EnvO K Hb own B H (σ.take δ.length) δ := by
  have hl := E.len
  rw [List.length_append, List.length_replicate] at hl
  have lt : ∀ (i : Nat) (e : Ent), δ[i]? = some e → i < δ.length := fun i e h => (List.getElem?_eq_some_iff.mp h).1
  have fw : ∀ (i : Nat) (e : Ent), δ[i]? = some e → (δ ++ List.replicate n Ent.no)[i]? = some e := fun i e h => by rw [List.getElem?_append_left (lt i e h)]; exact h
  refine ⟨E.base, by rw [List.length_take]; omega, E.bb, E.ofr, fun i a h => ?_, E.ond, E.inj, fun i d h => ?_, fun i oa c h => ?_⟩
  · obtain ⟨oa, c, q⟩ := E.oex i a h
    refine ⟨oa, c, ?_⟩
    by_cases hi : i < δ.length
    · rw [List.getElem?_append_left hi] at q; exact q
    · rw [List.getElem?_append_right (by omega), List.getElem?_replicate] at q
      split at q <;> cases q
  · obtain ⟨v, h1, h2⟩ := E.sh i d (fw _ _ h)
    exact ⟨v, by rw [List.getElem?_take_of_lt (lt _ _ h)]; exact h1, h2⟩
  · obtain ⟨v, h1, h2, h3⟩ := E.ow i oa c (fw _ _ h)
    exact ⟨v, by rw [List.getElem?_take_of_lt (lt _ _ h)]; exact h1, h2, h3⟩
end
noncomputable def startE (N : List Str) (as : List Ent) : Dn := as ++ List.replicate (N.length - as.length) Ent.no
inductive BodyM (X : Cx) (N : List Str) (δ : Dn) (body : List Stmt) (as' : List Ent) : PyData → Prop where
  | nx {δ' : Dn} (h : SR X δ body (.nx δ')) (w : Wkn δ' (startE N as')) : BodyM X N δ body as' .none
  | rw {δ' : Dn} {d : PyData} (h : SR X δ body (.rw δ' d)) (w : Wkn δ' (startE N as')) (hs : scalD d = true) : BodyM X N δ body as' d
section
variable {P : Program} {w : World} {K : PySem.W.Frag} {mg : Str → Option Value} {base : Heap} {x qual : Str} {st : Stmt} {f : Addr} {fd : FuncData} {N ps : List Str} {k : Nat}
theorem fn_M {R : List Ent → List Ent → PyData → Prop} (F : Fun K x qual st f fd) (S : FnScope N ps (defScope st)) (hm : mg x = some (.ref f)) (hb : Binds K fd ps []) (hl : ∀ as as' d, R as as' d → as.length = ps.length)
    (body : ∀ cdv A outer s H E, Room k (bx P w K mg base N qual st f cdv A outer s H E).A → ∀ as as' d, R as as' d → BodyM (bx P w K mg base N qual st f cdv A outer s H E) N (startE N as) (defBody st) as' d) :
    Fn P w K mg base x (k + 1) ps (spM K R) := by
  refine ⟨f, fd, F.ok S (fun vs H Q E h => ?_) (fun cdv A outer s H vs Q E hr h => ?_), hm, F.kp, hb⟩
  · obtain ⟨B, own, as, as', d, E0, hR, _⟩ := h
    have := E0.len
    rw [List.length_map] at this
    rw [this]; exact hl as as' d hR
  · obtain ⟨B, own, as, as', d, E0, hR, q⟩ := h
    have hlen := E0.len
    rw [List.length_map] at hlen
    have Es : EnvO K (keepB own H) own B H (start N vs) (startE N as) := by
      unfold start startE
      rw [hlen]
      exact E0.pad _
    have hst : (startE N as').length = N.length → True := fun _ => trivial
    cases body cdv A outer s H E hr as as' d hR with
    | nx h w => exact ⟨_, h, keepB own H, own, B, Es, fun own' σ' H' E' => q _ _ _ _ ((E'.weaken w).unpad) rfl⟩
    | rw h w hs => exact ⟨_, h, keepB own H, own, B, Es, fun own' σ' H' v E' r => q _ _ _ _ ((E'.weaken w).unpad) (rep_scal hs r)⟩
end
end L2
end
section
namespace L2
open PySem PySem.Spec PyProof.Rows
noncomputable def Ite (K : PySem.W.Frag) (a : Addr) : It :=
  ⟨fun i H => ∃ xs x, SqL K H a xs ∧ xs[i]? = some x, fun i H x H' => ∃ T y, (∀ xs, SqL K H a xs → xs[i]? = some y) ∧ H T = none ∧ x = .ref T ∧ H' = upd H T (.tup [.int (i : Nat), y]), fun i H => ∃ xs, SqL K H a xs ∧ xs.length ≤ i⟩
theorem turn_enum {P : Program} {w : World} {K : PySem.W.Frag} {elts : List Expr} {k : Nat} {p : Pos} {a it e : Addr} (hne : e ≠ it) : Turn P w K (.Tuple elts k p) (Ite K a) [e, it] e (fun i h => (∃ old, IsEnum h e it i old) ∧ h.IsListIter it a i) where
  mem := by simp
  obj := fun i h st b hb => by
    obtain ⟨⟨old, he⟩, ⟨o, ho, _, hd⟩⟩ := st
    rcases List.mem_cons.mp hb with rfl | hb
    · exact ⟨_, he, fun v z => by have z' : Data.fields _ = Data.cell v := z; cases z'⟩
    · rw [List.mem_singleton.mp hb]
      exact ⟨o, ho, fun v z => by rw [hd] at z; cases z⟩
  keep := fun i h h' st k => ⟨let ⟨old, he⟩ := st.1; ⟨old, k e (by simp) _ he⟩, st.2.at fun o q => k it (by simp) o q⟩
  item := by
    intro X hP hw hK hc i pins s σ H E I hf st hg
    subst hP hw hK
    obtain ⟨⟨old, he⟩, hit⟩ := st
    obtain ⟨xs, y, hq, hx⟩ := hg
    obtain ⟨its, rv, pl, hz⟩ := I.list hq
    obtain ⟨u, hu, ru⟩ := rv.get hx
    refine wpAny_pyNext_enum_item he hit pl.isList (x := u) (by simpa using hu) hne fun h' heo hit' htup hsz hk => ?_
    refine ⟨_, rfl, wpAny_letOwnedTupleGo_enum heo fun h2 he2 hs2 => ?_⟩
    have hT : H s.heap.objs.size = none := I.fresh
    have hTe : s.heap.objs.size ≠ e := Nat.ne_of_gt (Heap.lt_size he)
    have hTi : s.heap.objs.size ≠ it := by obtain ⟨o, ho, _⟩ := hit; exact Nat.ne_of_gt (Heap.lt_size ho)
    have hk2 : ∀ b o, b ≠ e → b ≠ it → s.heap.get? b = some o → h2.get? b = some o := fun b o h1 h2' q => (hs2.2 b h1).trans (hk b o h1 h2' q)
    have htup2 : h2.get? s.heap.objs.size = some { cls := .type "tuple", data := .seq #[.int i s.toks, u] } := (hs2.2 _ hTe).trans htup
    have hnone : ∀ b u, H b = some u → b ≠ s.heap.objs.size := fun b u q z => by rw [z, hT] at q; cases q
    have hH : ∀ b u, H b = some u → upd H s.heap.objs.size (.tup [.int (i : Nat), y]) b = some u := fun b u q => by rw [upd_ne (hnone b u q)]; exact q
    have htr : ∀ b u, H b = some u → b ≠ e ∧ b ≠ it := fun b u q => ⟨fun z => (by rw [z, (hf e (by simp)).1] at q; cases q), fun z => (by rw [z, (hf it (by simp)).1] at q; cases q)⟩
    have nch : ∀ {b}, b ∉ [e, it] → b ≠ e ∧ b ≠ it := fun {b} h => ⟨fun z => h (by simp [z]), fun z => h (by simp [z])⟩
    have hok : HOk X.prog X.w (upd H s.heap.objs.size (.tup [.int (i : Nat), y])) h2 := fun b o q => by
      by_cases hb : b = s.heap.objs.size
      · subst hb
        rw [upd_same] at q
        cases q
        exact ⟨by show 2 ≤ sizeLine; decide, [.int i s.toks, u], .cons ⟨s.toks, rfl⟩ (.cons ru .nil), _, htup2, rfl, _, rfl⟩
      · rw [upd_ne hb] at q
        refine (I.hok b o q).stay (fun c v hc r => ?_) (fun c r => hH c _ r) (fun c xs r => hH c _ r)
        rcases hc with rfl | hc
        · exact hk2 _ _ (htr _ _ q).1 (htr _ _ q).2 r
        · exact hk2 _ _ (htr _ _ hc).1 (htr _ _ hc).2 r
    refine ⟨.ref s.heap.objs.size, _, ?_, rfl, ⟨_, y, fun ys hy => by rw [I.list_inj hy hq]; exact hx, hT, rfl, rfl⟩, ⟨⟨_, by simpa using he2⟩, hit'.at fun o q => (hs2.2 it hne.symm).trans q⟩, fun b hb => ?_⟩
    · obtain ⟨m, ⟨o, es, ep, ho, r⟩, _⟩ := id I.loc
      show Inv X pins σ _ { s with heap := h2, gens := s.gens, drawn := s.drawn, toks := s.toks + 1 }
      refine I.step (g' := s.gens) (d' := s.drawn) (t' := s.toks + 1) (ch := [e, it]) (fun b hb => ?_) (fun b o _ _ hc q _ => hk2 b o (nch hc).1 (nch hc).2 q) (fun b o _ _ hc q _ => ⟨o.slots, hk2 b o (nch hc).1 (nch hc).2 q⟩) (fun b o hc q n => ?_) (fun b o hc q => ⟨o, hk2 b o (nch hc).1 (nch hc).2 q⟩) (fun b xs q => hH b _ q) (fun b o u q => hH b _ q) (fun b ps q => ⟨#[], by rw [hH b _ q]; simp⟩) (fun m' hm => ?_) hok I.bare
      · obtain ⟨f0, f1, f2, f3, f4, f5⟩ := hf b hb
        exact ⟨f3, f1, f4, f5⟩
      · rw [upd_ne (Nat.ne_of_lt (Heap.lt_size q))]; exact n
      · obtain ⟨o', es', ep', ho', r'⟩ := hm
        exact ⟨o', es', ep', hk2 _ _ (fun z => (hf e (by simp)).2.1 z.symm) (fun z => (hf it (by simp)).2.1 z.symm) ho', r'⟩
    · rw [upd_ne (by
        rcases List.mem_cons.mp hb with rfl | hb
        · exact hTe.symm
        · rw [List.mem_singleton.mp hb]; exact hTi.symm)]
      exact (hf b hb).1
  done := by
    intro X hP hw hK hc i pins s σ H E I hf st hg
    subst hP hw hK
    obtain ⟨⟨old, he⟩, hit⟩ := st
    obtain ⟨xs, hq, hx⟩ := hg
    obtain ⟨its, rv, pl, hz⟩ := I.list hq
    obtain ⟨f0, f1, f2, f3, f4, f5⟩ := hf it (by simp)
    have hl := rv.length
    exact wpAny_pyNext_enum_end (I.ok.hd hc) he hit pl.isList (by simp; omega) fun h' eb => ⟨rfl, I.turned (t' := s.toks) (fun b o hb q => eb b o hb q) f0 f1 f3 f4 f5⟩
  self := fun _ _ _ _ _ st h => let ⟨_, he⟩ := st.1; wpAny_pyIter_enum he h
noncomputable def iEnum (K : PySem.W.Frag) (ta : TA) : TI := fun σ H R => ta σ H fun vs H1 => ∃ a, vs = [.ref a] ∧ (∃ xs, SqL K H1 a xs) ∧ R (Ite K a) H1
theorem pi_enum {X : Cx} {elts : List Expr} {k : Nat} {tp p pos : Pos} {a : Expr} {ta : TA} (hg : Gl X "enumerate") (hm : X.mg "enumerate" = none) (ha : PA X [a] ta) (hs : starEach [a] X.env = [(false, eval a X.env)] := by rfl) : PI X (.Tuple elts k tp) (.Call (.Name "enumerate" p) [a] [] pos) (iEnum X.K ta) := by
  intro pins s σ H R I h
  refine Call_ (ld_blt I hg hm (show bootBuiltins "enumerate" = some (.type "enumerate") from rfl) (PyProof.Rows.callWith_type1 (thn (ha pos pins s σ H _ I h) fun us s1 hh89 => Zz.b5 hh89 fun vs H1 I1 r1 q1 => ?_) hs rfl))
  obtain ⟨b, e, ⟨xs, hq⟩, q⟩ := q1
  subst e
  cases r1 with
  | cons r rr =>
    cases rr
    cases r
    obtain ⟨its, rv, pl, hz⟩ := I1.list hq
    refine call_enumerate_list pl.isList fun h' he hit hsz hk => ?_
    have I2 : Inv X pins σ H1 { s1 with heap := h' } := I1.kept (t' := s1.toks) hk
    refine wpAny_pyIter_enum he ⟨s1.heap.objs.size + 1, [s1.heap.objs.size + 1, s1.heap.objs.size], _, _, H1, rfl, I2, turn_enum (a := b) (Nat.succ_ne_self _), ⟨⟨_, by simpa using he⟩, hit⟩, fun c hc => ?_, q⟩
    have hc' : s1.heap.objs.size ≤ c := by
      rcases List.mem_cons.mp hc with rfl | hc
      · exact Nat.le_succ _
      · rw [List.mem_singleton.mp hc]; exact Nat.le_refl _
    obtain ⟨g0, g1, g2, g3, g4, g5⟩ := I1.fpOk (H' := H1) hc' (I1.hok.fresh hc')
    exact ⟨g0, g1, g2, g3, g4, g5⟩
structure WalkE (K : PySem.W.Frag) (A : Addr → Prop) (J : It) (Hk : Hp) (ds : List (PyData × PyData)) : Prop where
  go : ∀ (i : Nat) (H : Hp), Same Hk H → i < ds.length → J.go i H
  yld : ∀ (i : Nat) (H : Hp) (x : V) (H' : Hp), Same Hk H → i < ds.length → J.yld i H x H' → ∃ T v w d, H T = none ∧ x = .ref T ∧ H' = upd H T (.tup [v, w]) ∧ ds[i]? = some d ∧ Rep K A Hk d.1 v ∧ Rep K A Hk d.2 w
  stop : ∀ (i : Nat) (H : Hp), Same Hk H → ds.length ≤ i → J.stop i H
noncomputable def tIE (K : PySem.W.Frag) (δ : Dn) (ds : List (PyData × PyData)) : TI := fun σ H R => ∃ Hb own B, EnvO K Hb own B H σ δ ∧ ∀ J H1, Same H H1 → WalkE K (Av own B) J (keepB own H1) ds → R J H1
noncomputable def EeD (X : Cx) (δ : Dn) (tg iter : Expr) (ds : List (PyData × PyData)) : Prop := PI X tg iter (tIE X.K δ ds)
noncomputable def enumD (ns : List PyData) : List (PyData × PyData) := ns.zipIdx.map fun z => (.int (z.2 : Nat), z.1)
theorem ei_enum {X : Cx} {δ : Dn} {elts : List Expr} {k : Nat} {tp p pos : Pos} {a : Expr} {xs : List PyData} (hg : Gl X "enumerate") (hm : X.mg "enumerate" = none) (ha : EvD X δ a (.list xs)) (hs : starEach [a] X.env = [(false, eval a X.env)] := by rfl) :
    EeD X δ (.Tuple elts k tp) (.Call (.Name "enumerate" p) [a] [] pos) (enumD xs) := fun pins s σ H R I hh47 => Zz.a5 hh47 fun Hb own B E q => pi_enum hg hm (ea_cons ha ea_nil (by rw [hs]; rfl)) hs pins s σ H R I ⟨Hb, own, B, E, fun vs H1 s1 rv => by
  obtain ⟨v, r, rfl, ⟨p, us, rfl, h2, h3, h4⟩, e2⟩ := rv
  cases e2
  have kp : keepB own H1 p = some (.lst us) := keepB_of h3 fun i hi => h2 (.inr ⟨i, hi⟩)
  have rk := Reps.keep (E.mono s1).lists _ _ h4
  have hl := h4.length
  have hel : (enumD xs).length = xs.length := by simp [enumD]
  refine ⟨p, rfl, ⟨us, SqL.of h3⟩, q _ H1 s1 ⟨fun i H s hi => ?_, fun i H x H' s hi hy => ?_, fun i H s hi => ⟨us, SqL.of (s _ _ kp), by omega⟩⟩⟩
  · exact ⟨us, us[i]'(by omega), SqL.of (s _ _ kp), List.getElem?_eq_getElem _⟩
  · obtain ⟨T, y, hy, hT, rfl, rfl⟩ := hy
    obtain ⟨d, hd, rd⟩ := rk.get (hy us (SqL.of (s _ _ kp)))
    exact ⟨T, .int (i : Nat), y, (.int (i : Nat), d), hT, rfl, rfl, by simp [enumD, hd], rfl, rd⟩⟩
theorem blank2_set {σ : St} {i j : Nat} {v w : V} (hij : i ≠ j) : Wk (blank [i, j] σ) (((blank [i, j] σ).set i (some v)).set j (some w)) := by
  refine ⟨by rw [List.length_set, List.length_set], fun n u h => ?_⟩
  have hn : n ≠ i ∧ n ≠ j := by
    constructor
    · intro z; exact blank_at [i, j] (by simp [z]) h
    · intro z; exact blank_at [i, j] (by simp [z]) h
  rw [List.getElem?_set_ne (Ne.symm hn.2), List.getElem?_set_ne (Ne.symm hn.1)]
  exact h
noncomputable def two (δ : Dn) (i j : Nat) (d : PyData × PyData) : Dn := (((δ.set i .no).set j .no).set i (.sh d.1)).set j (.sh d.2)
noncomputable def tTs2 {α : Type} (K : PySem.W.Frag) (δ : Dn) (i j : Nat) (emb : α → PyData × PyData) (ts : List α) (p : α → Bool) : TT := fun σ H Q => ∃ t, t ∈ ts ∧ tT K (two δ i j (emb t)) (p t) σ H Q
noncomputable def tEs2 {α : Type} (K : PySem.W.Frag) (δ : Dn) (i j : Nat) (emb : α → PyData × PyData) (ts : List α) (p : α → Bool) (f : α → PyData) : TE := fun σ H Q => ∃ t, t ∈ ts ∧ p t = true ∧ tD K (two δ i j (emb t)) (f t) σ H Q
theorem tcomp_of2 {δ : Dn} {K : PySem.W.Frag} {Hb : Hp} {own : Nat → List Addr} {B : Addr → Prop} {σ : St} {H : Hp} {Q : VK} {i j : Nat} (hij : i ≠ j) {α : Type} {emb : α → PyData × PyData} {ts : List α} {p : α → Bool} {f : α → PyData} (hz : ts.length ≤ 1000) (hno : ∀ oa c, δ[i]? ≠ some (.own oa c)) (hno2 : ∀ oa c, δ[j]? ≠ some (.own oa c)) (E : EnvO K Hb own B H σ δ)
    (q : ∀ a vs H', Same H H' → H a = none → H' a = some (.lst vs) → Reps K (fun b => Av own B b ∨ b = a) H' ((ts.filter p).map f) vs → Q (.ref a) H') :
    tComp (tIE K δ (ts.map emb)) [i, j] (gTup K 2 (gCons (gName i) (gCons (gName j) gNil))) (tTs2 K δ i j emb ts p) (tEs2 K δ i j emb ts p f) σ H Q := by
  have hdl : (ts.map emb).length = ts.length := List.length_map _
  refine ⟨Hb, own, B, E, fun J H1 s1 w D hD => ?_⟩
  have E1 := E.mono s1
  have ho : ∀ n, (∀ oa c, δ[n]? ≠ some (.own oa c)) → own n = [] := fun n hn => List.eq_nil_iff_forall_not_mem.mpr fun a z => by
    obtain ⟨oa, ys, hj⟩ := E.oex n a z
    exact absurd hj (hn oa ys)
  have hu : ∀ n, (∀ oa c, δ[n]? ≠ some (.own oa c)) → unown own n = own := fun n hn => by
    funext k
    unfold unown
    by_cases ji : k = n
    · rw [if_pos ji, ji, ho n hn]
    · rw [if_neg ji]
  have hui := hu i hno
  have huj := hu j hno2
  refine ⟨fun n m H' => m = ts.length - n ∧ n ≤ ts.length ∧ Same H1 H' ∧ ∃ vs, H' D = some (.lst vs) ∧ Reps K (fun b => Av own B b ∨ b = D) H' (((ts.take n).filter p).map f) vs,
    ⟨ts.length, rfl, Nat.zero_le _, same_new hD _, [], upd_same, rfl⟩, ?_⟩
  rintro n m H2 ⟨rfl, hn, s2, vs, e2, r2⟩
  have sk : Same (keepB own H1) H2 := fun b o z => s2 b o (keepB_some z).1
  by_cases hlt : n < ts.length
  · refine .inr ⟨w.go n H2 sk (by rw [hdl]; exact hlt), fun x H' hy => ?_⟩
    obtain ⟨T, v1, v2, d, hT, rfl, rfl, hd, rd1, rd2⟩ := w.yld n H2 x H' sk (by rw [hdl]; exact hlt) hy
    obtain ⟨t, ht, rfl⟩ : ∃ t, ts[n]? = some t ∧ d = emb t := by
      rw [List.getElem?_map] at hd
      cases z : ts[n]? with
      | none => rw [z] at hd; cases hd
      | some t => rw [z] at hd; cases hd; exact ⟨t, rfl, rfl⟩
    have hm : t ∈ ts := List.mem_of_getElem? ht
    have sT : Same H2 (upd H2 T (.tup [v1, v2])) := same_new hT _
    have e2T : upd H2 T (.tup [v1, v2]) D = some (.lst vs) := sT _ _ e2
    have G := E1.guard hD (s2.trans sT) e2T
    have av : ∀ a, Av own (fun b => B b ∨ b = D) a → Av own B a ∨ a = D := fun a h => by
      rcases h with (h | h) | h
      · exact .inl (.inl h)
      · exact .inr h
      · exact .inl (.inr h)
    have va : ∀ a, Av own B a ∨ a = D → Av own (fun b => B b ∨ b = D) a := fun a h => by
      rcases h with (h | h) | h
      · exact .inl (.inl h)
      · exact .inr h
      · exact .inl (.inr h)
    have hk : keepB own H1 D = none := by
      cases z : keepB own H1 D with
      | none => rfl
      | some o => rw [(keepB_some z).1] at hD; cases hD
    have rG : ∀ {d : PyData} {v : V}, Rep K (Av own B) (keepB own H1) d v → Rep K (Av own fun b => B b ∨ b = D) (upd H2 T (.tup [v1, v2])) d v := fun r => ((Rep.fresh hk _ _ r).up (sk.trans sT)).av av
    have F1 := ((G.forget (i := i)).forget (i := j)).setSh (i := i) (v := v1) (d := (emb t).1) (((rG rd1).av unown_av).av unown_av)
    have F := F1.setSh (i := j) (v := v2) (d := (emb t).2) ((((rG rd2).av unown_av).av unown_av).av unown_av)
    rw [hui, huj, hui, huj] at F
    refine ⟨T, [v1, v2], rfl, SqT.of upd_same, rfl, v1, [v2], rfl, v2, [], rfl, rfl, blank2_set hij, t, hm, _, _, _, F, fun H3 s3 => ?_⟩
    have F3 := F.mono s3
    have e3 : H3 D = some (.lst vs) := s3 _ _ e2T
    have r3 := (r2.up sT).up s3
    cases hp : p t with
    | true =>
      refine iteT ⟨t, hm, hp, _, _, _, F3, fun v H4 s4 rv => ?_⟩
      have e4 : H4 D = some (.lst vs) := s4 _ _ e3
      have hvl : vs.length < sizeLine := by
        have h1 := r2.length
        rw [List.length_map] at h1
        have h2 := List.length_filter_le p (ts.take n)
        rw [List.length_take] at h2
        exact small1000 (by omega)
      refine ⟨vs, e4, hvl, ts.length - (n + 1), by omega, rfl, hlt, ?_, vs ++ [v], upd_same, ?_⟩
      · intro b o z
        rw [upd_ne (ne_of_none z hD)]
        exact s4 _ _ (s3 _ _ (sT _ _ (s2 _ _ z)))
      · rw [filter_take ht, hp, List.map_append]
        have hAD : (fun b => Av own B b ∨ b = D) D := .inr rfl
        refine Reps.upd hAD e4 trivial _ _ ((r3.up s4).append ?_)
        exact Reps.one (rv.av fun a h => va a h)
    | false =>
      refine iteF ⟨ts.length - (n + 1), by omega, rfl, hlt, (s2.trans sT).trans s3, vs, e3, ?_⟩
      rw [filter_take ht, hp]
      simpa using r3
  · have en : n = ts.length := by omega
    subst en
    refine .inl ⟨w.stop _ H2 sk (Nat.le_of_eq hdl), ?_⟩
    rw [List.take_length] at r2
    exact q D vs H2 (s1.trans s2) (s1.free hD) e2 r2
section
variable {X : Cx} {δ : Dn} {iter elt e : Expr} {ifs : List Expr} {scope : Scope} {x y : Str} {px py pt pos : Pos} {kt : Nat} {α : Type} {k : Nat}
theorem ef_comp2 (i j : Nat) (emb : α → PyData × PyData) (ts : List α) (p : α → Bool) (f : α → PyData) (hc : X.calm = true) (S : CompScope X scope [i, j]) (hN : X.N.Nodup) (hi : EeD X δ (.Tuple [.Name x px, .Name y py] kt pt) iter (ts.map emb)) (hz : ts.length ≤ 1000)
    (ht : ∀ C s2 H2 fp t, t ∈ ts → EfD (compX X scope C s2 H2 fp) (two δ i j (emb t)) ifs (p t))
    (he : ∀ C s2 H2 fp t, t ∈ ts → p t = true → EvD (compX X scope C s2 H2 fp) (two δ i j (emb t)) elt (f t))
    (hij : i ≠ j := by decide) (hno : ∀ oa c, δ[i]? ≠ some (.own oa c) := by intro _ _ z; cases z) (hno2 : ∀ oa c, δ[j]? ≠ some (.own oa c) := by intro _ _ z; cases z)
    (hx : X.N[i]? = some x := by rfl) (hy : X.N[j]? = some y := by rfl) (hl : Loc (relabel scope X.env) x := by first | exact Or.inl rfl | exact Or.inr rfl) (hl2 : Loc (relabel scope X.env) y := by first | exact Or.inl rfl | exact Or.inr rfl)
    (hf : decide (scope.names.lookup x = some .cell) = true ∨ (relabel scope X.env).names.lookup x = some .local := by first | exact Or.inr rfl | exact Or.inl rfl)
    (hf2 : decide (scope.names.lookup y = some .cell) = true ∨ (relabel scope X.env).names.lookup y = some .local := by first | exact Or.inr rfl | exact Or.inl rfl)
    (hs : ∀ x, foldedSetIterable iter X.env x = pure x := by intro _; rfl) : EvF X δ (.ListComp elt [⟨.Tuple [.Name x px, .Name y py] kt pt, iter, ifs, 0⟩] scope pos) ((ts.filter p).map f) :=
  ef_of (pe_lcomp (is := [i, j]) (g := gTup X.K 2 (gCons (gName i) (gCons (gName j) gNil))) (tt := tTs2 X.K δ i j emb ts p) (te := tEs2 X.K δ i j emb ts p f) hc S hi (fun C s2 H2 fp => ⟨pg_tup (X := compX X scope C s2 H2 fp) (n := 2) hc (pgs_cons (pg_name (X := compX X scope C s2 H2 fp) hN hx hl hf) (pgs_cons (pg_name (X := compX X scope C s2 H2 fp) hN hy hl2 hf2) pgs_nil)),
    fun pins s σ H Q I ⟨t, h, q⟩ => ht C s2 H2 fp t h pins s σ H Q I q, fun pins s σ H Q I ⟨t, h, hp, q⟩ => he C s2 H2 fp t h hp pins s σ H Q I q⟩) hs) fun Hb own B σ H Q E q => tcomp_of2 hij hz hno hno2 E q
end
end L2
end
section
namespace L2
open PySem PySem.Spec PyProof.Rows
noncomputable def tX (K : PySem.W.Frag) (δ : Dn) (S : List Nat) (t : OT) : TE := fun σ H Q => ∃ Hb own B, EnvO K Hb own B H σ δ ∧ ∀ v as H', Same H H' → (∀ a ∈ as, H a = none ∨ ∃ i ∈ S, a ∈ own i) → as.Nodup → RepO K (fun b => Av own B b ∨ b ∈ as) H' t v as → Q v H'
noncomputable def ExD (X : Cx) (δ : Dn) (e : Expr) (t : OT) (S : List Nat) : Prop := PE X e (tX X.K δ S t)
noncomputable def tXs (K : PySem.W.Frag) (δ : Dn) (S : List Nat) (ts : List OT) : TA := fun σ H Q => ∃ Hb own B, EnvO K Hb own B H σ δ ∧ ∀ vs as H', Same H H' → (∀ a ∈ as, H a = none ∨ ∃ i ∈ S, a ∈ own i) → as.Nodup → RepOs K (fun b => Av own B b ∨ b ∈ as) H' ts vs as → Q vs H'
noncomputable def ExA (X : Cx) (δ : Dn) (es : List Expr) (ts : List OT) (S : List Nat) : Prop := PA X es (tXs X.K δ S ts)
theorem EnvO.guardP {K : PySem.W.Frag} {Hb : Hp} {own : Nat → List Addr} {B : Addr → Prop} {H H' : Hp} {σ : St} {δ : Dn} (E : EnvO K Hb own B H σ δ) {D : Addr → Prop} (hn : ∀ a, D a → H a = none) (e : Same H H') (hD : ∀ a, D a → H' a ≠ none) :
    EnvO K (keepB own H') own (fun b => B b ∨ D b) H' σ δ := by
  have hno : ∀ a, D a → ∀ i, a ∉ own i := fun a ha i hi => E.new (hn a ha) (.inr ⟨i, hi⟩)
  have av : ∀ a, Av own (fun b => B b ∨ D b) a → Av own B a ∨ H a = none := fun a h => by
    rcases h with (h | h) | h
    · exact .inl (.inl h)
    · exact .inr (hn a h)
    · exact .inl (.inr h)
  have E' := (E.mono e).rebase
  refine ⟨E'.base, E'.len, fun a h => ?_, E'.ofr, E'.oex, E'.ond, E'.inj, fun i d h => ?_, fun i oa c h => ?_⟩
  · rcases h with h | h
    · exact E'.bb a h
    · obtain ⟨o, q⟩ := Option.ne_none_iff_exists'.mp (hD a h)
      rw [keepB_of q (hno a h)]; exact fun z => by cases z
  · obtain ⟨v, h1, h2⟩ := E.sh i d h
    exact ⟨v, h1, Rep.young av h2 e⟩
  · obtain ⟨v, h1, h2, h4⟩ := E.ow i oa c h
    exact ⟨v, h1, h2, (h4.kp (.young av) fun _ _ _ z => z).up e⟩
section
variable {X : Cx} {δ : Dn} {a b c e : Expr} {es : List Expr} {d : PyData} {pos p : Pos} {xs ys : List PyData} {k j : Nat} {x : Str} {t : OT} {ts : List OT} {S S' : List Nat}
theorem reps_sh {K : PySem.W.Frag} {A : Addr → Prop} {H : Hp} : ∀ {ds : List PyData} {vs : List V}, Reps K A H ds vs → RepOs K A H (ds.map .sh) vs []
  | [], _, h => ⟨h, rfl⟩
  | x :: xs, _, h => by
    obtain ⟨v, r, rfl, h2, h3⟩ := h
    exact ⟨v, r, [], [], rfl, rfl, ⟨rfl, h2⟩, reps_sh h3⟩
theorem repOs_sh {K : PySem.W.Frag} {A : Addr → Prop} {H : Hp} : ∀ {ds : List PyData} {vs : List V} {as : List Addr}, RepOs K A H (ds.map .sh) vs as → as = [] ∧ Reps K A H ds vs
  | [], _, _, h => ⟨h.2, h.1⟩
  | x :: xs, _, _, h => by
    obtain ⟨v, r, bs, cs, rfl, rfl, h2, h3⟩ := h
    obtain ⟨e1, h4⟩ := repOs_sh h3
    exact ⟨by rw [e1, h2.1]; rfl, v, r, rfl, h2.2, h4⟩
theorem ex_d (h : EvD X δ e d) : ExD X δ e (.sh d) [] := fun pins s σ H Q I hh48 => Zz.a5 hh48 fun Hb own B E q => h pins s σ H Q I ⟨Hb, own, B, E, fun v H' s1 r => q v [] H' s1 (fun a z => (nomatch z)) List.nodup_nil ⟨rfl, r.av fun b z => z.elim id fun y => (nomatch y)⟩⟩
theorem ex_f (h : EvF X δ e xs) : ExD X δ e (.l (xs.map .sh)) [] := fun pins s σ H Q I hh49 => Zz.a5 hh49 fun Hb own B E q => h pins s σ H Q I ⟨Hb, own, B, E, fun a vs H' s1 hn ha r => q (.ref a) [a] H' s1 (fun b z => .inl (by rw [List.mem_singleton.mp z]; exact hn)) (by simp) ⟨a, vs, [], rfl, rfl, ha, reps_sh (r.av fun b z => z.imp id fun y => List.mem_singleton.mp y)⟩⟩
theorem ex_own (i : Nat) {px : Pos} {oa : Option Addr} (hδ : δ[i]? = some (.own oa (.l xs))) (hN : X.N[i]? = some x := by rfl) (hv : Vis X.env.scope x := by first | exact Or.inl rfl | exact Or.inr (Or.inl rfl) | exact Or.inr (Or.inr rfl)) (hd : (x == ("__debug__" : Str)) = false := by decide)
    (hcd : (x == ("__classdict__" : Str)) = false := by decide) : ExD X δ (.Name x px) (.l (xs.map .sh)) [i] :=
  fun pins s σ H Q I hh50 => Zz.a5 hh50 fun Hb own B E q => pe_var hN hv hd hcd pins s σ H Q I (by
    obtain ⟨v, h1, _, a, vs, rfl, h2, h3, h4⟩ := E.ow i oa _ hδ
    refine ⟨_, h1, q _ [a] H (Same.refl H) (fun b z => .inr ⟨i, List.mem_singleton.mpr rfl, by rw [h2]; exact z⟩) (by simp) ⟨a, vs, [], rfl, rfl, h3, reps_sh (h4.av fun b z => z.elim id fun y => .inr ⟨i, by rw [h2]; exact y⟩)⟩⟩)
theorem exa_nil : ExA X δ [] [] [] := fun cpos pins s σ H Q I hh51 => Zz.a5 hh51 fun Hb own B E q => pa_nil cpos pins s σ H Q I (q [] [] H (Same.refl H) (fun a z => (nomatch z)) List.nodup_nil ⟨rfl, rfl⟩)
theorem exa_cons (he : ExD X δ e t S) (ht : ExA X δ es ts S') (hS : ∀ i ∈ S, i ∉ S' := by simp) (hs : starEach (e :: es) X.env = (false, eval e X.env) :: starEach es X.env := by rfl) : ExA X δ (e :: es) (t :: ts) (S ++ S') :=
  fun cpos pins s σ H Q I hh52 => Zz.a5 hh52 fun Hb own B E q => pa_cons he ht hs cpos pins s σ H Q I ⟨Hb, own, B, E, fun v as H1 s1 h1 nd1 r1 => by
    have E1 := E.guardP (D := fun b => b ∈ as ∧ H b = none) (fun a ha => ha.2) s1 fun a ha z => by
      obtain ⟨o, y, _⟩ := RepO.muts t v as r1 a ha.1
      rw [z] at y; cases y
    refine ⟨_, own, _, E1, fun vs bs H2 s2 h2 nd2 r2 => ?_⟩
    have al1 : ∀ a ∈ as, H1 a ≠ none := fun a ha z => by
      obtain ⟨o, y, _⟩ := RepO.muts t v as r1 a ha
      rw [z] at y; cases y
    have av1 : ∀ a ∈ as, Av own (fun b => B b ∨ (b ∈ as ∧ H b = none)) a := fun a ha => by
      rcases h1 a ha with z | ⟨i, _, z⟩
      · exact .inl (.inr ⟨ha, z⟩)
      · exact .inr ⟨i, z⟩
    have dj : ∀ a ∈ as, a ∉ bs := fun a ha hb => by
      rcases h2 a hb with z | ⟨i, hi, z⟩
      · exact al1 a ha z
      · rcases h1 a ha with y | ⟨i', hi', y⟩
        · exact E.alive (.inr ⟨i, z⟩) y
        · have := E.inj i i' a z y
          subst this
          exact hS i hi' hi
    refine q _ (as ++ bs) H2 (s1.trans s2) (fun a ha => ?_) (List.nodup_append.mpr ⟨nd1, nd2, fun a ha b hb z => dj a ha (z ▸ hb)⟩) ⟨v, vs, as, bs, rfl, rfl, ?_, ?_⟩
    · rcases List.mem_append.mp ha with ha | ha
      · rcases h1 a ha with z | ⟨i, hi, z⟩
        · exact .inl z
        · exact .inr ⟨i, List.mem_append_left _ hi, z⟩
      · rcases h2 a ha with z | ⟨i, hi, z⟩
        · exact .inl (s1.free z)
        · exact .inr ⟨i, List.mem_append_right _ hi, z⟩
    · refine RepO.kp (.mono s2) _ _ _ (fun a _ o z => s2 a o z) (RepO.kp (.young fun b h => ?_) _ _ _ (fun _ _ _ z => z) r1)
      rcases h with h | h
      · exact .inl (.inl h)
      · rcases List.mem_append.mp h with h | h
        · exact .inl (.inr h)
        · rcases h2 b h with z | ⟨i, _, z⟩
          · exact .inr z
          · exact .inl (.inl (.inr ⟨i, z⟩))
    · refine RepOs.kp (.avoid fun b h => ?_) _ _ _ (fun _ _ _ z => z) r2
      rcases h with h | h
      · exact .inl (h.imp .inl id)
      · rcases List.mem_append.mp h with h | h
        · exact .inl (av1 b h)
        · exact .inr h⟩
theorem repOs_len {K : PySem.W.Frag} {A : Addr → Prop} {H : Hp} : ∀ {ts : List OT} {vs : List V} {as : List Addr}, RepOs K A H ts vs as → ts.length = vs.length
  | [], _, _, h => by rw [h.1]; rfl
  | x :: xs, _, _, h => by
    obtain ⟨v, r, bs, cs, rfl, rfl, h2, h3⟩ := h
    rw [List.length_cons, List.length_cons, repOs_len h3]
theorem ex_tup {k} (h : ExA X δ es ts S) (hl : ts.length ≤ 1000 := by exact Nat.le_of_ble_eq_true rfl) : ExD X δ (.Tuple es k pos) (.t ts) S :=
  fun pins s σ H Q I hh53 => Zz.a5 hh53 fun Hb own B E q => pe_tup h pins s σ H Q I ⟨Hb, own, B, E, fun vs as H1 s1 h1 nd r => ⟨by rw [← repOs_len r]; exact Nat.le_of_lt (small1000 hl), fun p hp => by
    have e1 : Same H1 (upd H1 p (.tup vs)) := fun b u z => by rw [upd_ne (ne_of_none z hp)]; exact z
    exact q _ as _ (s1.trans e1) h1 nd ⟨p, vs, rfl, upd_same, RepOs.kp (.mono e1) _ _ _ (fun a _ o z => e1 a o z) r⟩⟩⟩
theorem s1_retX (he : ExD X δ e t S) : S1 X δ (.Return (some e) pos) (.rn t) :=
  fun pins s σ H D I hh54 => Zz.a5 hh54 fun Hb own B E P => ps_ret he pins s σ H D I ⟨Hb, own, B, E, fun v as H' s1 h1 nd r => P v as H' (E.base.trans s1) (fun a ha => (h1 a ha).elim (fun z => E.base.free z) fun ⟨i, _, z⟩ => E.ofr i a z) nd (RepO.kp (.avoid fun b h => h.imp .inl id) _ _ _ (fun _ _ _ z => z) r)⟩
theorem ex_ev (he : ExD X δ e t []) (hd : t.dat = some d) : EvD X δ e d :=
  fun pins s σ H Q I hh55 => Zz.a5 hh55 fun Hb own B E q => he pins s σ H Q I ⟨Hb, own, B, E, fun v as H' s1 h1 nd r => q v H' s1 (RepO.rep t d v as hd (RepO.kp (.avoid fun b h => .inl h) _ _ _ (fun _ _ _ z => z) r) fun a ha => E.new ((h1 a ha).elim id fun ⟨_, z, _⟩ => (nomatch z)))⟩
noncomputable def spN (K : PySem.W.Frag) (R : List PyData → OT → Prop) : Sp := fun vs H Q _ => ∃ B ds t, (∀ a, B a → H a ≠ none) ∧ Reps K B H ds vs ∧ R ds t ∧
  ∀ v as H', Same H H' → (∀ a ∈ as, H a = none) → as.Nodup → RepO K (fun b => B b ∨ b ∈ as) H' t v as → Q v H'
theorem ex_call {ds : List PyData} {ps : List Str} {name : Str} {R : List PyData → OT → Prop} (G : Fn X.prog X.w X.K X.mg X.base name j ps (spN X.K R)) (hr : Room k X.A) (hjk : j ≤ k) (hg : Gl X name) (ha : EaD X δ (e :: es) ds) (hR : R ds t) (hdb : (name == ("__debug__" : Str)) = false := by decide)
    (he : starEach (e :: es) X.env = (false, eval e X.env) :: starEach es X.env := by rfl) (hpl : (backTo pos (starEach es X.env)).any (·.1) = false := by rfl) : ExD X δ (.Call (.Name name p) (e :: es) [] pos) t [] := by
  obtain ⟨f, fd, h1, h2, h3, h4⟩ := G.ex
  intro pins s σ H Q I ⟨Hb, own, B, E, q⟩
  refine pe_call h1 (hr.mono hjk) hg h2 h3 h4 .nil pass0 ha hdb he hpl pins s σ H Q I ⟨Hb, own, B, E, fun vs H1 s1 rv => ?_⟩
  show spN X.K R (vs ++ []) H1 Q E0
  rw [List.append_nil]
  exact ⟨Av own B, ds, t, fun a z => (E.mono s1).alive z, rv, hR, fun v as H' s2 hn nd r => q v as H' (s1.trans s2) (fun a ha => .inl (s1.free (hn a ha))) nd r⟩
end
section
variable {P : Program} {w : World} {K : PySem.W.Frag} {mg : Str → Option Value} {base : Heap} {x qual : Str} {st : Stmt} {f : Addr} {fd : FuncData} {N ps : List Str} {k : Nat}
theorem fn_N {R : List PyData → OT → Prop} (F : Fun K x qual st f fd) (S : FnScope N ps (defScope st)) (hm : mg x = some (.ref f)) (hb : Binds K fd ps []) (hl : ∀ ds t, R ds t → ds.length = ps.length)
    (body : ∀ cdv A outer s H E, Room k (bx P w K mg base N qual st f cdv A outer s H E).A → ∀ ds t, R ds t → SR (bx P w K mg base N qual st f cdv A outer s H E) (startD N ds) (defBody st) (.rn t)) :
    Fn P w K mg base x (k + 1) ps (spN K R) := by
  refine ⟨f, fd, F.ok S (fun vs H Q E h => ?_) (fun cdv A outer s H vs Q E hr h => ?_), hm, F.kp, hb⟩
  · obtain ⟨B, ds, d, _, r, hR, _⟩ := h
    rw [← r.length]; exact hl ds d hR
  · obtain ⟨B, ds, t, hB, r, hR, q⟩ := h
    exact ⟨_, body cdv A outer s H E hr ds t hR, H, _, B, env_start hB r, fun v as H' s1 hn nd rv => q v as H' s1 hn nd rv⟩
end
section
variable {K : PySem.W.Frag} {A : Addr → Prop} {H : Hp}
end
section
variable {X : Cx} {δ : Dn} {a b c e : Expr} {d : PyData} {pos : Pos} {x : Str} {ts ys : List OT} {n : Nat}
end
theorem dats_sh : ∀ (xs : List PyData), OT.dats (xs.map .sh) = some xs
  | [] => rfl
  | x :: r => by rw [List.map_cons, OT.dats, dats_sh r]; rfl
theorem dat_lsh (xs : List PyData) : (OT.l (xs.map .sh)).dat = some (.list xs) := by rw [OT.dat, dats_sh]; rfl
theorem Fn.toP {P : Program} {w : World} {K : PySem.W.Frag} {mg : Str → Option Value} {base : Heap} {name : Str} {k : Nat} {ps : List Str} {R : List PyData → OT → Prop} {R' : List PyData → PyData → Prop} (G : Fn P w K mg base name k ps (spN K R)) (h : ∀ ds d, R' ds d → ∃ t, R ds t ∧ t.dat = some d) : Fn P w K mg base name k ps (spP K R') := by
  obtain ⟨f, fd, h1, h2⟩ := G.ex
  refine ⟨f, fd, h1.imp fun vs H Q E ⟨B, ds, d, hB, r, hR, q⟩ => ?_, h2⟩
  obtain ⟨t, ht, hd⟩ := h ds d hR
  exact ⟨B, ds, t, hB, r, ht, fun v as H' s1 hn nd rv => q v H' s1 (RepO.rep t d v as hd (RepO.kp (.avoid fun b z => .inl z) _ _ _ (fun _ _ _ z => z) rv) fun a ha z => hB a z (hn a ha))⟩
section
variable {X : Cx} {δ : Dn} {e : Expr} {t u : OT} {f : PyData} {d : PyData} {pos : Pos}
end
end L2
end
section
namespace L2
open PySem PySem.Spec PyProof.Rows
theorem preSum_list : ∀ (xs : List (Int × Tok)) (k : Nat), k ≤ xs.length → PySem.preSum (PySem.numAt xs.toArray) k = ((xs.take k).map (·.1)).sum
  | xs, 0, _ => rfl
  | xs, k + 1, h => by
    show PySem.preSum (PySem.numAt xs.toArray) k + PySem.numAt xs.toArray k = _
    rw [preSum_list xs k (by omega)]
    have hk : k < xs.length := by omega
    rw [List.take_add_one, List.getElem?_eq_getElem hk, List.map_append, List.sum_append]
    congr 1
    unfold PySem.numAt
    simp [hk]
theorem ints_toks : ∀ {ns : List Int} {us : List Value}, Vals (ns.map V.int) us → ∃ xs : List (Int × Tok), us = xs.map (fun p => Value.int p.1 p.2) ∧ xs.map (·.1) = ns
  | [], _, h => by cases h; exact ⟨[], rfl, rfl⟩
  | n :: r, _, h => by
    cases h with
    | cons h1 h2 =>
      obtain ⟨t, rfl⟩ := h1
      obtain ⟨xs, rfl, rfl⟩ := ints_toks h2
      exact ⟨(n, t) :: xs, rfl, rfl⟩
section
variable {X : Cx} {δ : Dn} {a b c e tg : Expr} {d da db : PyData} {pos : Pos} {xs ys : List PyData} {k : Nat} {x : Str}
theorem call_sumI (hc : X.calm = true) : CallR X (.builtin "sum") (fun xs H Q => ∃ (p : Addr) (ns : List Int), xs = [.ref p] ∧ SqL X.K H p (ns.map V.int) ∧ Q (.int ns.sum) H) := by
  intro pins s σ H xs us Q I rv h
  obtain ⟨p, ns, rfl, hp, q⟩ := h
  obtain ⟨u, rfl, ru⟩ := rv.one
  cases ru
  obtain ⟨its, r, pl, _⟩ := I.list hp
  obtain ⟨zs, rfl, rfl⟩ := ints_toks r
  refine PySem.sum_intListG (xs := zs.toArray) (I.ok.hd hc) (by simpa [PySem.intItems] using pl.isList) fun h' tk t' hk => ?_
  refine ⟨.int _, H, I.kept hk, ⟨t', ?_⟩, q⟩
  have := preSum_list zs zs.length (Nat.le_refl _)
  rw [List.take_length] at this
  rw [List.size_toArray, this]
theorem ev_sum {p : Pos} {ns : List Int} (hc : X.calm = true) (hg : Gl X "sum") (hm : X.mg "sum" = none) (ha : EvD X δ e (.list (iD ns))) (he : starEach [e] X.env = [(false, eval e X.env)] := by rfl) : EvD X δ (.Call (.Name "sum" p) [e] [] pos) (.int ns.sum) :=
  ev_callB (call_sumI hc) hg hm (by rfl) (ea_cons ha ea_nil (by rw [he]; rfl)) (fun A vs H Q rv q => by
    obtain ⟨v, r, rfl, ⟨a, us, rfl, _, h3, h4⟩, e2⟩ := rv
    cases e2
    rw [h4.iD_eq] at h3
    exact ⟨a, ns, rfl, SqL.of h3, q _ H (Same.refl H) rfl⟩) (he := by rw [he]; rfl)
noncomputable def pickL {α : Type} (xs : List α) (lo hi st : Option Int) : List α :=
  (sliceRange (sliceBounds lo hi st xs.length).1 (sliceBounds lo hi st xs.length).2.1 (sliceBounds lo hi st xs.length).2.2).filterMap fun i => xs[i]?
theorem Vals.pick {xs : List V} {us : List Value} (r : Vals xs us) : ∀ (ix : List Nat), Vals (ix.filterMap fun i => xs[i]?) (ix.filterMap fun i => us[i]?)
  | [] => .nil
  | i :: ix => by
    rw [List.filterMap_cons, List.filterMap_cons]
    cases h : xs[i]? with
    | none => rw [r.none_of h]; exact Vals.pick r ix
    | some x =>
      obtain ⟨u, hu, ru⟩ := r.get h
      rw [hu]; exact .cons ru (Vals.pick r ix)
theorem Reps.none_of {K : PySem.W.Frag} {A : Addr → Prop} {H : Hp} {ds : List PyData} {vs : List V} {i : Nat} (h : Reps K A H ds vs) (e : ds[i]? = none) : vs[i]? = none := by
  have := h.length
  rw [List.getElem?_eq_none_iff] at e ⊢
  omega
theorem Reps.pick {K : PySem.W.Frag} {A : Addr → Prop} {H : Hp} {ds : List PyData} {vs : List V} (r : Reps K A H ds vs) : ∀ (ix : List Nat), Reps K A H (ix.filterMap fun i => ds[i]?) (ix.filterMap fun i => vs[i]?)
  | [] => rfl
  | i :: ix => by
    rw [List.filterMap_cons, List.filterMap_cons]
    cases h : ds[i]? with
    | none => rw [r.none_of h]; exact Reps.pick r ix
    | some d =>
      obtain ⟨v, hv, rv⟩ := r.at h
      rw [hv]; exact ⟨v, _, rfl, rv, Reps.pick r ix⟩
theorem pickL_len {α : Type} (xs : List α) (lo hi st : Option Int) : (pickL xs lo hi st).length ≤ (sliceRange (sliceBounds lo hi st xs.length).1 (sliceBounds lo hi st xs.length).2.1 (sliceBounds lo hi st xs.length).2.2).length := List.length_filterMap_le _ _
end
section
variable {X : Cx} {e st : Expr} {te : TE} {lo hi : Option Expr} {tl th tt : TO} {pos p2 : Pos}
noncomputable def tSl3 (r : V → Option Int → Option Int → Option Int → Hp → VK → Prop) (te : TE) (tl th tt : TO) : TE := fun σ H Q => te σ H fun x H1 => tl σ H1 fun l H2 => th σ H2 fun u H3 => tt σ H3 fun t H4 => r x l u t H4 Q
noncomputable def rSl3 (K : PySem.W.Frag) : V → Option Int → Option Int → Option Int → Hp → VK → Prop := fun x lo hi st H Q => ∃ a xs, x = .ref a ∧ SqL K H a xs ∧ st ≠ some 0 ∧ (pickL xs lo hi st).length ≤ sizeLine ∧ ∀ p, H p = none → Q (.ref p) (upd H p (.lst (pickL xs lo hi st)))
theorem pe_slice3 (he : PE X e te) (hl : PO X lo tl) (hu : PO X hi th) (ht : PO X (some st) tt) : PE X (.Subscript e (.Slice lo hi (some st) p2) pos) (tSl3 (rSl3 X.K) te tl th tt) := by
  intro pins s σ H Q I h
  refine Subscript_ (thn (he pins s σ H _ I h) fun v s1 hh90 => Zz.b5 hh90 fun x H1 I1 r1 q1 => ?_)
  refine wpAny_Slice (thn (hl pins s1 σ H1 _ I1 q1) fun vl s2 ⟨l, H2, I2, pl, q2⟩ => thn (hu pins s2 σ H2 _ I2 q2) fun vu s3 ⟨u, H3, I3, pu, q3⟩ => thn (ht pins s3 σ H3 _ I3 q3) fun vt s4 ⟨t, H4, I4, pt, q4⟩ => ?_)
  have I5 : Inv X pins σ H4 { s4 with heap := s4.heap.push { cls := .type "slice", data := .fields #[vl, vu, vt] } } := I4.kept (t' := s4.toks) fun b ob q => Heap.get?_push_of_some _ q
  obtain ⟨a, xs, rfl, hx, hn0, hz0, q⟩ := q4
  cases r1
  obtain ⟨its, r, hp, hz⟩ := I5.list hx
  have hlen := r.length
  refine tail_any (ops := [.ref a, .ref s4.heap.objs.size]) (value := e) (slice := .Slice lo hi (some st) p2) hp.isList.typeIs slot_list_getitem.lookup ?_ (by with_unfolding_all rfl)
  refine wpAny_getItem_list_slice hp.isList (Heap.IsSliceOf.new ..) pl pu pt hn0 ?_ (by rw [List.size_toArray] <;> omega)
  have ep : slicePick its.toArray l u t = (pickL its l u t).toArray := by
    unfold slicePick pickL
    rw [List.size_toArray]
    simp
  rw [ep]
  refine ⟨.ref _, _, I5.laid (t' := s4.toks) (o := .lst (pickL xs l u t)) (fun b ob q => Heap.get?_push_of_some _ q) (Nat.le_refl _) ?_, rfl, q _ (I5.hok.fresh (Nat.le_refl _))⟩
  refine ⟨hz0, _, 0, ?_, Heap.get?_push_size _ rfl⟩
  unfold pickL
  rw [hlen]
  exact Vals.pick r _
end
section
variable {X : Cx} {δ : Dn} {a b c e tg : Expr} {d da db : PyData} {pos : Pos} {xs ys : List PyData} {k : Nat} {x : Str}
theorem ef_slice3 {lo hi : Option Expr} {st : Expr} {l u t : Option Int} {p2 : Pos} (ha : EvD X δ a (.list xs)) (hl : EoD X δ lo l) (hu : EoD X δ hi u) (ht : EoD X δ (some st) t) (h0 : t ≠ some 0) (hz : (pickL xs l u t).length ≤ 1000) : EvF X δ (.Subscript a (.Slice lo hi (some st) p2) pos) (pickL xs l u t) :=
  ef_of (pe_slice3 ha hl hu ht) fun Hb own B σ H Q E q => ⟨Hb, own, B, E, fun x H1 s1 rx => ⟨Hb, own, B, E.mono s1, fun H2 s2 => ⟨Hb, own, B, E.mono (s1.trans s2), fun H3 s3 => ⟨Hb, own, B, E.mono ((s1.trans s2).trans s3), fun H4 s4 => by
    obtain ⟨p, vs, rfl, _, h3, h4⟩ := ((rx.up s2).up s3).up s4
    have hlen := h4.length
    have s14 := ((s1.trans s2).trans s3).trans s4
    have rp : Reps X.K (Av own B) H4 (pickL xs l u t) (pickL vs l u t) := by unfold pickL; rw [← hlen]; exact Reps.pick h4 _
    refine ⟨p, vs, rfl, SqL.of h3, h0, by rw [← rp.length]; exact Nat.le_of_lt (small1000 hz), fun r hr => ?_⟩
    have e1 := same_new hr (.lst (pickL vs l u t))
    exact q r _ _ (s14.trans e1) (s14.free hr) upd_same ((Reps.fresh hr _ _ rp).up e1)⟩⟩⟩⟩
theorem ef_slice3S {lo hi : Option Expr} {st : Expr} {l u t : Option Int} {p2 : Pos} {ns : List Int} (ha : EvD X δ a (scr ns)) (hl : EoD X δ lo l) (hu : EoD X δ hi u) (ht : EoD X δ (some st) t) (h0 : t ≠ some 0) (hz : (pickL ns l u t).length ≤ 1000) : EvF X δ (.Subscript a (.Slice lo hi (some st) p2) pos) (iD (pickL ns l u t)) :=
  ef_of (pe_slice3 ha hl hu ht) fun Hb own B σ H Q E q => ⟨Hb, own, B, E, fun x H1 s1 rx => ⟨Hb, own, B, E.mono s1, fun H2 s2 => ⟨Hb, own, B, E.mono (s1.trans s2), fun H3 s3 => ⟨Hb, own, B, E.mono ((s1.trans s2).trans s3), fun H4 s4 => by
    obtain ⟨p, rfl, h3⟩ := rep_scr (((rx.up s2).up s3).up s4)
    have s14 := ((s1.trans s2).trans s3).trans s4
    have ep : pickL (ns.map V.int) l u t = (pickL ns l u t).map V.int := by
      unfold pickL
      rw [List.length_map, List.map_filterMap]
      congr 1
      funext i
      rw [List.getElem?_map]
    refine ⟨p, _, rfl, h3, h0, by rw [ep, List.length_map]; exact Nat.le_of_lt (small1000 hz), fun r hr => ?_⟩
    have e1 := same_new hr (.lst (pickL (ns.map V.int) l u t))
    refine q r _ _ (s14.trans e1) (s14.free hr) upd_same ?_
    rw [ep]
    exact Reps.iD _⟩⟩⟩⟩
theorem s1_forE {S α : Type} {body : List Stmt} {k0} {y : Str} {p1 p2 p3 : Pos} (i j : Nat) (emb : S → Dn) (it : α → PyData × PyData) (ts : List α) (F : α → S → Res S) (J : Nat → S → Prop) {iter : Expr} {s0 : S} (hp : PassesOwn (model X.prog X.w) X.A X.env X.xe) (hc : X.calm = true) (hN : X.N.Nodup) (hi : EeD X (emb s0) (.Tuple [.Name x p1, .Name y p2] k0 p3) iter (ts.map it)) (h0 : J 0 s0)
    (turn : ∀ (n : Nat) t s, ts[n]? = some t → J n s → TurnOk X emb (((emb s).set i (.sh (it t).1)).set j (.sh (it t).2)) body (F t s)) (keep : ∀ (n : Nat) t s s', ts[n]? = some t → J n s → F t s = .nx s' → J (n + 1) s')
    (hx : X.N[i]? = some x := by rfl) (hl : Loc X.env.scope x := by first | exact Or.inl rfl | exact Or.inr rfl) (hf : X.fn x = true ∨ X.env.scope.names.lookup x = some .local := by first | exact .inl rfl | exact .inr rfl)
    (hy : X.N[j]? = some y := by rfl) (hl2 : Loc X.env.scope y := by first | exact Or.inl rfl | exact Or.inr rfl) (hf2 : X.fn y = true ∨ X.env.scope.names.lookup y = some .local := by first | exact .inl rfl | exact .inr rfl)
    (hs : ∀ x, foldedSetIterable iter X.env x = pure x := by intro _; rfl) : S1 X (emb s0) (.For (.Tuple [.Name x p1, .Name y p2] k0 p3) iter body [] pos) ((loopR F ts s0).fin emb) := by
  have hB : PSs X body (fun D σ H => ∃ (δ : Dn) (o : Out), SR X δ body o ∧ tS X.K δ o D σ H) := fun pins s σ H D I ⟨δ, o, h, q⟩ => h pins s σ H D I q
  intro pins s σ H D I ⟨Hb, own, B, E, P⟩
  refine ps_for hp hc hi (pg_tup (n := 2) hc (pgs_cons (pg_name hN hx hl hf) (pgs_cons (pg_name hN hy hl2 hf2) pgs_nil))) hB hs pins s σ H D I ⟨Hb, own, B, E, fun Jt H1 s1 w => ?_⟩
  have E1 := E.mono s1
  have R1 := E1.rebase
  have P1 := Post.rebase E1 P
  have hdl : (ts.map it).length = ts.length := List.length_map _
  refine ⟨fun n m σ' H' => m = ts.length - n ∧ n ≤ ts.length ∧ ∃ own' s', EnvO X.K (keepB own H1) own' B H' σ' (emb s') ∧ J n s' ∧ loopR F (ts.drop n) s' = loopR F ts s0, ⟨ts.length, rfl, Nat.zero_le _, own, s0, R1, h0, rfl⟩, ?_⟩
  rintro n m σ2 H2 ⟨rfl, hn, own2, s2, E2, hJ, hO⟩
  by_cases hlt : n < ts.length
  · refine .inr ⟨w.go n H2 E2.base (by rw [hdl]; exact hlt), ?_⟩
    have ht0 : ts[n]? = some ts[n] := List.getElem?_eq_getElem hlt
    have hd0 : (ts.map it)[n]? = some (it ts[n]) := by rw [List.getElem?_map, ht0]; rfl
    rw [drop_cons ht0] at hO
    have T := turn n ts[n] s2 ht0 hJ
    refine ⟨fun σ' H' => ∃ own' s', EnvO X.K (keepB own H1) own' B H' σ' (emb s') ∧ F ts[n] s2 = .nx s', fun σ' H' ⟨own', s', E', hF⟩ => ⟨ts.length - (n + 1), by omega, rfl, hlt, own', s', E', keep _ _ _ _ ht0 hJ hF, ?ka⟩, fun v H' hy' => ?kb⟩
    case ka =>
      rw [← hO]
      show _ = match F ts[n] s2 with
        | .nx s' => loopR F (ts.drop (n + 1)) s'
        | .br s' => .br s'
        | .out o => .out o
      rw [hF]
    case kb =>
      obtain ⟨z0, v1, v2, d, hT, rfl, rfl, hd, rd1, rd2⟩ := w.yld n H2 v H' E2.base (by rw [hdl]; exact hlt) hy'
      rw [hd0] at hd
      cases hd
      have av : ∀ a, Av own2 B a → Av own B a ∨ keepB own H1 a = none := fun a h => by
        rcases h with h | ⟨j, h⟩
        · exact .inl (.inl h)
        · exact .inr (E2.ofr j a h)
      have e1 := same_new hT (.tup [v1, v2])
      have r1 : Rep X.K (Av own2 B) (upd H2 z0 (.tup [v1, v2])) (it ts[n]).1 v1 := (Rep.young (Hk := keepB own H1) (fun a h => av a h) rd1 E2.base).up e1
      have r2 : Rep X.K (Av own2 B) (upd H2 z0 (.tup [v1, v2])) (it ts[n]).2 v2 := (Rep.young (Hk := keepB own H1) (fun a h => av a h) rd2 E2.base).up e1
      have ES := ((E2.mono e1).setSh (i := i) r1).setSh (i := j) (r2.av unown_av)
      refine ⟨z0, _, rfl, SqT.of upd_same, rfl, v1, _, rfl, v2, _, rfl, rfl, ?_⟩
      have hO' : loopR F ts s0 = match F ts[n] s2 with
        | .nx s' => loopR F (ts.drop (n + 1)) s'
        | .br s' => .br s'
        | .out o => .out o := hO.symm
      cases hF : F ts[n] s2 with
      | nx s' =>
        rw [hF] at T
        obtain ⟨δ', hS, hw⟩ := T
        exact ⟨_, _, hS, _, _, _, ES, fun own' σ' H' E' => ⟨_, s', E'.weaken hw, rfl⟩⟩
      | br s' =>
        rw [hF] at T hO'
        obtain ⟨δ', hS, hw⟩ := T
        rw [hO'] at P1
        exact ⟨_, _, hS, _, _, _, ES, fun own' σ' H' E' => P1 _ _ _ (E'.weaken hw)⟩
      | out o =>
        rw [hF] at T hO'
        obtain ⟨hS, z1, z2, z3⟩ := T
        rw [hO'] at P1
        refine ⟨_, _, hS, _, _, _, ES, ?_⟩
        cases o with
        | nx δ' => exact absurd rfl (z1 δ')
        | bk δ' => exact absurd rfl (z2 δ')
        | ct δ' => exact absurd rfl (z3 δ')
        | rt d => exact P1
        | rf ys => exact P1
        | rw δ' ys => exact P1
        | rn t => exact P1
  · have en : n = ts.length := by omega
    subst en
    rw [List.drop_length] at hO
    refine .inl ⟨w.stop _ H2 E2.base (Nat.le_of_eq hdl), ?_⟩
    rw [← hO] at P1
    exact P1 own2 σ2 H2 E2
end
end L2
end
section
namespace L2
open PySem PySem.Spec PyProof.Rows
section
variable {X : Cx} {δ δ1 : Dn} {a b c e : Expr} {d da db : PyData} {pos : Pos} {xs ys : List PyData} {i j : Int}
theorem s1_exprD (he : EvD X δ e d) (hs : swapsWith e none pos.line X.env = pure false := by rfl) : S1 X δ (.Expr e pos) (.nx δ) :=
  fun pins s σ H D I hh56 => Zz.a5 hh56 fun Hb own B E P => ps_expr he hs pins s σ H D I ⟨Hb, own, B, E, fun v H' s1 r => P _ _ _ (E.mono s1)⟩
theorem ev_intB {k : Bool} {p : Pos} (hg : Gl X "int") (hm : X.mg "int" = none) (ha : EvD X δ a (.bool k)) (hs : starEach [a] X.env = [(false, eval a X.env)] := by rfl) : EvD X δ (.Call (.Name "int" p) [a] [] pos) (.int (if k then 1 else 0)) :=
  ev_of (pe_callTy call_int1 hg hm (by rfl) (ea_cons ha ea_nil (by rw [hs]; rfl)) (he := by rw [hs]; rfl)) fun Hb own B σ H Q E q => ⟨Hb, own, B, E, fun vs H1 s1 rv => by
    obtain ⟨v, r, rfl, rv1, e2⟩ := rv
    cases e2
    exact .inr ⟨k, by rw [show v = _ from rv1], q _ H1 s1 rfl⟩⟩
end
section
variable {P : Program} {w : World} {K : PySem.W.Frag} {mg : Str → Option Value} {base : Heap} {x qual : Str} {st : Stmt} {f : Addr} {fd : FuncData} {N ps : List Str} {k : Nat}
end
end L2
end
section
namespace L2
open PySem PySem.Spec PyProof.Rows
theorem ObjOk.is {P : Program} {w : World} {H : Hp} {h : Heap} {a : Addr} {o : HO} (x : ObjOk P w H h a o) : ∃ u, h.get? a = some u := by
  cases o with
  | lst xs => obtain ⟨_, _, _, _, e⟩ := x; exact ⟨_, e⟩
  | tup xs => obtain ⟨_, _, _, ob, e, _⟩ := x; exact ⟨ob, e⟩
  | dK kvs => obtain ⟨_, _, _, _, o, _, _, e, _⟩ := x; exact ⟨_, e⟩
  | dT kvs => obtain ⟨_, _, _, _, o, _, _, e, _⟩ := x; exact ⟨_, e⟩
  | set S n => obtain ⟨o, _, _, _, e, _⟩ := x; exact ⟨_, e⟩
  | ins C dx fs => obtain ⟨_, _, _, e, _⟩ := x; exact ⟨_, e⟩
  | own y => obtain ⟨_, e⟩ := x; exact ⟨_, e⟩
  | xd fs => obtain ⟨_, ⟨_, _, _, e, _⟩, _⟩ := x; exact ⟨_, e⟩
  | rng lo hi => obtain ⟨_, _, _, e⟩ := x; exact ⟨_, e⟩
  | frz ob u => obtain ⟨e, _⟩ := x; exact ⟨_, e⟩
  | tbl ps => exact ⟨_, x⟩
  | met f y => exact ⟨_, x⟩
  | ext φ => obtain ⟨_, ⟨_, e⟩, _⟩ := x; exact ⟨_, e⟩
theorem HOk.off {P : Program} {w : World} {H : Hp} {h : Heap} {a : Addr} (x : HOk P w H h) (n : h.get? a = none) : H a = none := by
  cases q : H a with
  | none => rfl
  | some o => obtain ⟨u, e⟩ := (x a o q).is; rw [n] at e; cases e
theorem Un.off {fs : List Addr} {H H' : Hp} {h h' : Heap} {a : Addr} (u : Un fs [] H H' h h') (n : h'.get? a = none) : h.get? a = none := by
  cases q : h.get? a with
  | none => rfl
  | some o => obtain ⟨o', e⟩ := u.there a o q (by simp); rw [n] at e; cases e
theorem Un.shrink {fs fs' ex : List Addr} {H H1 : Hp} {h h1 : Heap} (u : Un fs ex H H1 h h1) (hs : ∀ b o, h.get? b = some o → b ∈ fs → b ∈ fs') (hs' : ∀ b ∈ fs', b ∈ fs) : Un fs' ex H H1 h h1 :=
  ⟨fun b o q n hb hx => u.keep b o q n (fun z => hb (hs b o q z)) hx, fun b o q n hb hx => u.slot b o q n (hs' b hb) hx, u.free, u.there, u.tups, u.frzs, u.tbls⟩
theorem funs_move {h h' b b' : Heap} : ∀ {l : List Env}, h.FunFrames b l → (∀ L ∈ frs l, ∀ o, h.get? L = some o → (∀ vs, o.data ≠ .fields vs) → ∃ o', h'.get? L = some o' ∧ ∀ vs, o'.data ≠ .fields vs) → (∀ L ∈ frs l, b'.get? L = none) → h'.FunFrames b' l
  | [], _, _, _ => trivial
  | env :: r, ⟨hk, ⟨L, o, hf, hn, ho, hd⟩, hr⟩, k, kn => by
    have hL : L ∈ frs (env :: r) := by unfold frs; rw [List.filterMap_cons, hf]; exact List.mem_cons_self
    have hm : ∀ L' ∈ frs r, L' ∈ frs (env :: r) := fun L' h => by unfold frs; rw [List.filterMap_cons, hf]; exact List.mem_cons_of_mem _ h
    obtain ⟨o', h1, h2⟩ := k L hL o ho hd
    exact ⟨hk, ⟨L, o', hf, kn L hL, h1, h2⟩, funs_move hr (fun L' h => k L' (hm L' h)) fun L' h => kn L' (hm L' h)⟩
structure Fl (P : Program) (w : World) (fs : List Addr) (H H' : Hp) (s s' : Shared) (C e : Addr) (fl : Value) : Prop where
  os : s'.os = s.os
  bare : AllBare s'.gens
  un : Un fs [] H H' s.heap s'.heap
  hok : HOk P w H' s'.heap
  new : s.heap.get? e = none
  ne : H' e = none
  tr : ∃ oe vs a0 T oT ts, s'.heap.get? e = some oe ∧ (oe.cls = .ref C ∧ vs[0]? = some a0) ∧ oe.data = .fields vs ∧ vs[1]? = some (.ref T) ∧ T ≠ e ∧ s.heap.get? T = none ∧ H' T = none ∧ s'.heap.get? T = some oT ∧ oT.data = .fields ts ∧ ts[3]? = some fl
noncomputable def CXx (P : Program) (w : World) : CXT := fun outer H s E x s' => ∃ e C H', x = .ref e ∧ Fl P w (frs outer) H H' s s' C e .none ∧ E (.ref C) none H'
section
variable {X : Cx} {pins : List (Addr × Obj)} {σ : St} {H H' : Hp} {s s' : Shared} {h h' : Heap} {C e T : Addr} {a0 fl : Value}
structure Mv (X : Cx) (H H' : Hp) (s : Shared) (h : Heap) : Prop where
  un : Un (frs X.stack) [] H H' s.heap h
  hok : HOk X.prog X.w H' h
theorem Mv.frames (M : Mv X H H' s h) (I : Inv X pins σ H s) {b' : Heap} (hb : ∀ L ∈ frs X.stack, b'.get? L = none) : h.FunFrames b' X.stack :=
  funs_move I.stack (fun L hL o ho hd => by
    obtain ⟨sl, q⟩ := M.un.slot L o ho (I.stkFree L hL) hL (by simp)
    exact ⟨_, q, hd⟩) hb
theorem Mv.free (M : Mv X H H' s h) (I : Inv X pins σ H s) : ∀ L ∈ frs X.stack, H' L = none := fun L hL => by
  obtain ⟨_, o, ho, _⟩ := I.stack.mem hL
  exact M.un.free L o ho (I.stkFree L hL) (by simp)
noncomputable abbrev hidE (h : Heap) (e T : Addr) (l : List Env) : Heap := PySem.W.hideAll h (e :: T :: frs l)
theorem Mv.on (M : Mv X H H' s h) (I : Inv X pins σ H s) (he : s.heap.get? e = none) (hT : s.heap.get? T = none) (hne : H' e = none) (hnT : H' T = none) (hs : (hidE h e T X.stack).StaysIn h') (hu : h.UpToSlots h') : Mv X H H' s h' := by
  have kp : ∀ b o, s.heap.get? b = some o → b ∉ frs X.stack → ∀ o', h.get? b = some o' → h'.get? b = some o' := fun b o q hb o' q' => hs b o' (PySem.W.hideAll_get _ q' fun z => by
    rcases List.mem_cons.mp z with z | z
    · rw [z, he] at q; cases q
    · rcases List.mem_cons.mp z with z | z
      · rw [z, hT] at q; cases q
      · exact hb z)
  have sl : ∀ b o, s.heap.get? b = some o → b ∈ frs X.stack → ∃ sl, h'.get? b = some { o with slots := sl } := fun b o q hb => by
    obtain ⟨sl, q1⟩ := M.un.slot b o q (I.stkFree b hb) hb (by simp)
    obtain ⟨_, o2, ho2, hd⟩ := I.stack.mem hb
    rw [q] at ho2; cases ho2
    obtain ⟨sl', q2⟩ := hu b _ q1 hd
    exact ⟨sl', q2⟩
  refine ⟨⟨fun b o q n hb hx => kp b o q hb o (M.un.keep b o q n hb hx), fun b o q n hb hx => sl b o q hb, M.un.free, fun b o q hx => ?_, M.un.tups, M.un.frzs, M.un.tbls⟩, fun a o ha => (M.hok a o ha).stay (fun b u hb q => hs b u (PySem.W.hideAll_get _ q fun z => ?_)) (fun _ q => q) fun _ _ q => q⟩
  · by_cases hb : b ∈ frs X.stack
    · obtain ⟨sl', q2⟩ := sl b o q hb
      exact ⟨_, q2⟩
    · obtain ⟨o', q'⟩ := M.un.there b o q hx
      exact ⟨o', kp b o q hb o' q'⟩
  · have hn : H' b ≠ none := by
      rcases hb with rfl | hb
      · rw [ha]; exact fun z => nomatch z
      · rw [hb]; exact fun z => nomatch z
    rcases List.mem_cons.mp z with z | z
    · rw [z] at hn; exact hn hne
    · rcases List.mem_cons.mp z with z | z
      · rw [z] at hn; exact hn hnT
      · exact hn (M.free I b z)
theorem hidE_stays (h : Heap) (e T : Addr) (l : List Env) : (hidE h e T l).StaysIn h := fun b o q => PySem.W.of_hideAll _ q
theorem hidE_fr (h : Heap) (e T : Addr) (l : List Env) : ∀ L ∈ frs l, (hidE h e T l).get? L = none := fun L hL => PySem.W.hideAll_none _ (List.mem_cons_of_mem _ (List.mem_cons_of_mem _ hL))
theorem hidE_e (h : Heap) (e T : Addr) (l : List Env) : (hidE h e T l).get? e = none := PySem.W.hideAll_none _ List.mem_cons_self
theorem hidE_T (h : Heap) (e T : Addr) (l : List Env) : (hidE h e T l).get? T = none := PySem.W.hideAll_none _ (List.mem_cons_of_mem _ List.mem_cons_self)
theorem fl_of (M : Mv X H H' s h) (I : Inv X pins σ H s) (os : s'.os = s.os) (bare : AllBare s'.gens) (he : s.heap.get? e = none) (hT : s.heap.get? T = none) (hne : H' e = none) (hnT : H' T = none) (hs : (hidE h e T X.stack).StaysIn s'.heap) (hu : h.UpToSlots s'.heap)
    (hf : s'.heap.FunFrames (hidE h e T X.stack) X.stack) (ht : s'.heap.TracedAtW (hidE h e T X.stack) e (.ref C) a0 fl) : Fl X.prog X.w (frs X.stack) H H' s s' C e fl := by
  have M1 := M.on I he hT hne hnT hs hu
  obtain ⟨oe, vs, T', oT, ts, t1, t2, t3, t4, t5, t6, t7, t8, t9⟩ := ht
  have key : s.heap.get? T' = none ∧ H' T' = none := by
    by_cases hm : T' ∈ e :: T :: frs X.stack
    · rcases List.mem_cons.mp hm with z | z
      · exact absurd z t6
      · rcases List.mem_cons.mp z with z | z
        · rw [z]; exact ⟨hT, hnT⟩
        · obtain ⟨_, o, ho, hd⟩ := hf.mem z
          rw [t7] at ho; cases ho
          exact absurd t8 (hd ts)
    · have hn : h.get? T' = none := by
        cases q : h.get? T' with
        | none => rfl
        | some u => rw [PySem.W.hideAll_get _ q hm] at t5; cases t5
      exact ⟨M.un.off hn, M.hok.off hn⟩
  exact ⟨os, bare, M1.un, M1.hok, he, hne, oe, vs, a0, T', oT, ts, t1, t2, t3, t4, t6, key.1, key.2, t7, t8, t9⟩
theorem Fl.mv (F : Fl X.prog X.w (frs X.stack) H H' s s' C e fl) : Mv X H H' s s'.heap := ⟨F.un, F.hok⟩
theorem Fl.left (F : Fl X.prog X.w (frs X.stack) H H' s s' C e fl) (I : Inv X pins σ H s) (hst : X.stack = X.env :: X.outer) (hfr : X.env.frame = some X.env.locals) (hex : X.ex = []) : Fl X.prog X.w X.fs X.H₀ H' X.s₀ s' C e fl := by
  have hb : Un X.fs [] X.H₀ H X.s₀.heap s.heap := by have := I.base; rw [hex] at this; exact this
  have sub : ∀ b ∈ X.fs, b ∈ frs X.stack := fun b hb => by
    rw [hst]; unfold frs; rw [List.filterMap_cons, hfr]; exact List.mem_cons_of_mem _ hb
  have un : Un X.fs [] X.H₀ H' X.s₀.heap s'.heap := ((hb.mono sub fun _ z => z).trans F.un).shrink (fun b o q z => by
    rw [hst] at z
    unfold frs at z
    rw [List.filterMap_cons, hfr] at z
    rcases List.mem_cons.mp z with z | z
    · exact absurd (Heap.lt_size q) (by rw [z]; exact Nat.not_lt.mpr I.ok.above)
    · exact z) sub
  obtain ⟨oe, vs, a1, T', oT, ts, t1, t2, t3, t4, t6, n1, n2, t7, t8, t9⟩ := F.tr
  exact ⟨F.os.trans I.os, F.bare, un, F.hok, hb.off F.new, F.ne, oe, vs, a1, T', oT, ts, t1, t2, t3, t4, t6, hb.off n1, n2, t7, t8, t9⟩
noncomputable def Xf (X : Cx) (H H' : Hp) (s s' : Shared) (C e : Addr) : Prop :=
  Fl X.prog X.w (frs X.stack) H H' s s' C e .none ∨ (H' = H ∧ ∃ h' vs, s' = { s with heap := h' } ∧ Heap.MadeExcOf s.heap h' e (.ref C) vs)
section
variable {M : Model} {A : Around} {E : Value → Shared → Prop} {Q : Unit → Shared → Prop}
theorem fl_leave (F : Xf X H H' s s' C e) (I : Inv X pins σ H s) (hst : X.stack = X.env :: X.outer) (hfr : X.env.frame = some X.env.locals) (hex : X.ex = []) (hA : A.frames = some X.stack)
    (q : ∀ s'', Fl X.prog X.w X.fs X.H₀ H' X.s₀ s'' C e .none → Q () s'') : wpAny M A (leaving X.env (.ref e)) Q E s' := by
  rcases F with F | ⟨rfl, h', vs, rfl, hx⟩
  · obtain ⟨oe, vs, a0, T, oT, ts, t1, t2, t3, t4, t6, n1, n2, t7, t8, t9⟩ := id F.tr
    refine wpAny_leaving_nextW (base := hidE s'.heap e T X.stack) (cls := .ref C) (a0 := a0) (by rw [← hst]; exact hA) (by rw [← hst]; exact F.mv.frames I (hidE_fr _ _ _ _)) hfr ⟨oe, vs, T, oT, ts, t1, t2, t3, t4, hidE_T _ _ _ _, t6, t7, t8, t9⟩ (hidE_stays _ _ _ _) (hidE_e _ _ _ _) fun h'' hL => ?_
    obtain ⟨k1, k2, k3, k4⟩ := hL
    exact q _ ((fl_of (s' := { s' with heap := h'' }) F.mv I F.os F.bare F.new n1 F.ne n2 k1 k4 (by rw [hst]; exact (by rw [hst] at k2; exact k2)) k3.at).left I hst hfr hex)
  · obtain ⟨t, h1, h2, h3⟩ := hx.there
    have M0 : Mv X H' H' s h' := ⟨Un.kept hx.keeps, I.hok.kept hx.keeps⟩
    have hne : H' e = none := I.hok.off hx.new
    refine wpAny_leaving_firstW (base := hidE h' e e X.stack) (a0 := .ref t) (by rw [← hst]; exact hA) (by rw [← hst]; exact M0.frames I (hidE_fr _ _ _ _)) hfr h1 (hidE_stays _ _ _ _) (hidE_e _ _ _ _) rfl rfl rfl fun h'' hL => ?_
    obtain ⟨k1, k2, k3, k4⟩ := hL
    exact q _ ((fl_of (s' := { s with heap := h'' }) M0 I rfl I.bare hx.new hx.new hne hne k1 k4 (by rw [hst]; exact (by rw [hst] at k2; exact k2)) k3.at).left I hst hfr hex)
theorem fl_note (F : Xf X H H' s s' C e) (I : Inv X pins σ H s) (hst : X.stack = X.env :: X.outer) (hfr : X.env.frame = some X.env.locals) (hA : A.frames = some X.stack)
    (q : ∀ s'', Fl X.prog X.w (frs X.stack) H H' s s'' C e (rawInt X.env.locals) → Q () s'') : wpAny M A (noteFrame (.ref e) X.env) Q E s' := by
  rcases F with F | ⟨rfl, h', vs, rfl, hx⟩
  · obtain ⟨oe, vs, a0, T, oT, ts, t1, t2, t3, t4, t6, n1, n2, t7, t8, t9⟩ := id F.tr
    refine wpAny_noteFrame_onW (base := hidE s'.heap e T X.stack) (cls := .ref C) (a0 := a0) (by rw [← hst]; exact hA) (by rw [← hst]; exact F.mv.frames I (hidE_fr _ _ _ _)) hfr ⟨oe, vs, T, oT, ts, t1, t2, t3, t4, hidE_T _ _ _ _, t6, t7, t8, t9⟩ (hidE_stays _ _ _ _) (hidE_e _ _ _ _) fun h'' hL => ?_
    obtain ⟨k1, k2, k3, k4⟩ := hL
    exact q _ (fl_of (s' := { s' with heap := h'' }) F.mv I F.os F.bare F.new n1 F.ne n2 k1 k4 (by rw [hst]; exact (by rw [hst] at k2; exact k2)) k3)
  · obtain ⟨t, h1, h2, h3⟩ := hx.there
    have M0 : Mv X H' H' s h' := ⟨Un.kept hx.keeps, I.hok.kept hx.keeps⟩
    have hne : H' e = none := I.hok.off hx.new
    unfold noteFrame
    simp only [hfr]
    refine wpAny_bind (wpAny_field h1 rfl rfl ?_)
    rw [if_neg (by show ¬ ((Value.none != Value.none) = true); decide)]
    refine wpAny_entryW (base := hidE h' e e X.stack) (a0 := .ref t) (by rw [← hst]; exact hA) (by rw [← hst]; exact M0.frames I (hidE_fr _ _ _ _)) hfr h1 (hidE_stays _ _ _ _) (hidE_e _ _ _ _) rfl (by show 1 < 6; decide) rfl fun h'' hL => ?_
    obtain ⟨k1, k2, k3, k4⟩ := hL
    exact q _ (fl_of (s' := { s with heap := h'' }) M0 I rfl I.bare hx.new hx.new hne hne k1 k4 (by rw [hst]; exact (by rw [hst] at k2; exact k2)) k3)
theorem fl_land (F : Fl X.prog X.w (frs X.stack) H H' s s' C e fl) (I : Inv X pins σ H s) (q : ∀ s'', Fl X.prog X.w (frs X.stack) H H' s s'' C e .none → Q () s'') : wpAny M A (setFlight (.ref e) none) Q E s' := by
  obtain ⟨oe, vs, a0, T, oT, ts, t1, t2, t3, t4, t6, n1, n2, t7, t8, t9⟩ := id F.tr
  refine wpAny_setFlight_noneW (base := hidE s'.heap e T X.stack) (l := X.stack) (cls := .ref C) (a0 := a0) (fl := fl) (hidE_stays _ _ _ _) (F.mv.frames I (hidE_fr _ _ _ _)) ⟨oe, vs, T, oT, ts, t1, t2, t3, t4, hidE_T _ _ _ _, t6, t7, t8, t9⟩ fun h'' k1 k2 k3 k4 => ?_
  exact q _ (fl_of (s' := { s' with heap := h'' }) F.mv I F.os F.bare F.new n1 F.ne n2 k1 (fun b o hb hn => ⟨o.slots, k4 b o hb hn⟩) k2 k3.at)
end
end
end L2
end
section
namespace L2
open PySem PySem.Spec PyProof.Rows
noncomputable def ER (X : Cx) (δ : Dn) (e : Expr) (C : Addr) : Prop := ∀ (pins : List (Addr × Obj)) (s : Shared) (σ : St) (H Hb : Hp) (own : Nat → List Addr) (B : Addr → Prop), Inv X pins σ H s → EnvO X.K Hb own B H σ δ →
  (∀ s1 H1 s' H' x, Inv X pins σ H1 s1 → Same H H1 → Xf X H1 H' s1 s' C x → Same H1 H' → X.xe (.ref x) s') → ∀ Q, wpAny (model X.prog X.w) X.A (eval e X.env) Q X.xe s
noncomputable def S1x (X : Cx) (δ : Dn) (st : Stmt) (C : Addr) (δ' : Dn) : Prop := ∀ (pins : List (Addr × Obj)) (s : Shared) (σ : St) (H Hb : Hp) (own : Nat → List Addr) (B : Addr → Prop), Inv X pins σ H s → EnvO X.K Hb own B H σ δ →
  (∀ s1 σ1 H1 own1 s' H' x, Inv X pins σ1 H1 s1 → EnvO X.K Hb own1 B H1 σ1 δ' → Xf X H1 H' s1 s' C x → Same H1 H' → X.xe (.ref x) s') → ∀ Q, wpAny (model X.prog X.w) X.A (exec st X.env) Q X.xe s
noncomputable def SX (X : Cx) (δ : Dn) (sts : List Stmt) (C : Addr) (δ' : Dn) : Prop := ∀ (pins : List (Addr × Obj)) (s : Shared) (σ : St) (H Hb : Hp) (own : Nat → List Addr) (B : Addr → Prop), Inv X pins σ H s → EnvO X.K Hb own B H σ δ →
  (∀ s1 σ1 H1 own1 s' H' x, Inv X pins σ1 H1 s1 → EnvO X.K Hb own1 B H1 σ1 δ' → Xf X H1 H' s1 s' C x → Same H1 H' → X.xe (.ref x) s') → ∀ Q, wpAny (model X.prog X.w) X.A (execs sts X.env) Q X.xe s
section
variable {X : Cx} {δ δ1 δ' : Dn} {a b c e : Expr} {es : List Expr} {d da db : PyData} {ds xs : List PyData} {p pos : Pos} {st : Stmt} {rest body els : List Stmt} {C : Addr} {name x : Str} {j k : Nat} {ps : List Str}
theorem sx_here (h : S1x X δ st C δ') : SX X δ (st :: rest) C δ' := fun pins s σ H Hb own B I E k Q => wpAny_execs_cons (h pins s σ H Hb own B I E k _)
theorem sx_cons (h1 : S1 X δ st (.nx δ1)) (h2 : SX X δ1 rest C δ') : SX X δ (st :: rest) C δ' := fun pins s σ H Hb own B I E k Q =>
  wpAny_execs_cons (thn (h1 pins s σ H { nx := fun σ' H' => ∃ own', EnvO X.K Hb own' B H' σ' δ1, rt := fun _ _ => False } I ⟨Hb, own, B, E, fun own' σ' H' E' => ⟨own', E'⟩⟩) fun f s1 q => by
    cases f with
    | next => obtain ⟨σ', H', I', own', E'⟩ := q; exact h2 pins s1 σ' H' Hb own' B I' E' k Q
    | ret u => obtain ⟨v, σ', H', I', r, z⟩ := q; exact z.elim
    | brk => obtain ⟨_, _, _, z⟩ := q; exact z.elim
    | cont => obtain ⟨_, _, _, z⟩ := q; exact z.elim)
theorem x_expr (h : ER X δ e C) (hs : swapsWith e none pos.line X.env = pure false := by rfl) : S1x X δ (.Expr e pos) C δ := fun pins s σ H Hb own B I E k Q =>
  wpAny_Expr_any (h pins s σ H Hb own B I E (fun s1 H1 s' H' x I1 sm F sm' => k s1 σ H1 own s' H' x I1 (E.mono sm) F sm') _) I.quiet hs
theorem x_set {px : Pos} (h : ER X δ e C) (hs : swapsWith e (some (.Name x px)) pos.line X.env = pure false := by rfl) : S1x X δ (.Assign [.Name x px] e pos) C δ := fun pins s σ H Hb own B I E k Q =>
  wpAny_Assign_Name (h pins s σ H Hb own B I E (fun s1 H1 s' H' x I1 sm F sm' => k s1 σ H1 own s' H' x I1 (E.mono sm) F sm') _) hs
theorem x_ret (h : ER X δ e C) : S1x X δ (.Return (some e) pos) C δ := fun pins s σ H Hb own B I E k Q =>
  wpAny_Return_some (h pins s σ H Hb own B I E (fun s1 H1 s' H' x I1 sm F sm' => k s1 σ H1 own s' H' x I1 (E.mono sm) F sm') _)
theorem x_if {m : Bool} (hc : EtD X δ c m) (h1 : m = true → SX X δ body C δ') (h2 : m = false → SX X δ els C δ') : S1x X δ (.If c body els pos) C δ' := fun pins s σ H Hb own B I E k Q =>
  wpAny_If (thn (hc pins s σ H (fun d H1 => d = m ∧ Same H H1) I ⟨Hb, own, B, E, fun H' s1 => ⟨rfl, s1⟩⟩) fun d s1 ⟨H1, I1, hd, sm⟩ => by
    subst hd
    cases d with
    | true => exact h1 rfl pins s1 σ H1 Hb own B I1 (E.mono sm) k _
    | false => exact h2 rfl pins s1 σ H1 Hb own B I1 (E.mono sm) k _)
theorem x_raise {np cpos : Pos} {bm : List Value} {B newId initId : String} (O : OwnCls x C bm newId X.mg X.base) (FB : ExcBaseFacts B newId initId bm) (hc : X.calm = true) (hg : Gl X x) (ha : EaD X δ [e] [d]) (hdb : (x == ("__debug__" : Str)) = false := by decide)
    (he : starEach [e] X.env = (false, eval e X.env) :: starEach [] X.env := by rfl) (hpl : (backTo cpos (starEach [] X.env)).any (·.1) = false := by rfl) : S1x X δ (.Raise (some (.Call (.Name x np) [e] [] cpos)) none pos) C δ := by
  intro pins s σ H Hb own B' I E k Q
  obtain ⟨tl, N, nm, q, bs, hdct, sn, sub, ab, col, dd, k0, k1, k2, k3, k5, mN, hC, hN, hni, T⟩ := O.obj
  refine wpAny_Raise_call_subT (C := C) (nm := nm) (q := q) (N := N) (bs := bs) (bm := tl) (hdct := hdct) (sn := sn) (sub := sub) (ab := ab) (col := col) (dd := dd) (k0 := k0) (k1 := k1) (k2 := k2) (k3 := k3) (k5 := k5)
    FB (mN := mN) (T.hasType FB.hasBase) (I.ok.hd hc) (by rw [he]; show (false || (backTo cpos (starEach [] X.env)).any (·.1)) = false; rw [hpl]; rfl) hni (ld_glob I hg O.bound ⟨rfl, ?_⟩ hdb)
  have h := ha cpos pins s σ H (fun vs H1 => Same H H1 ∧ vs.length = 1) I ⟨Hb, own, B', E, fun vs H' s1 r => ⟨s1, by rw [← r.length]; rfl⟩⟩
  rw [he] at h ⊢
  refine Calls.evalArgs_plain (thn h fun us s2 ⟨vs, H1, I1, r, sm, hl⟩ => ?_)
  refine ⟨rfl, ?_, I1.bk _ _ hC, hN.keeps I1.bk, T.keeps I1.bk, fun h' e' mk => k s2 σ H1 own { s2 with heap := h' } H1 e' I1 (E.mono sm) (.inr ⟨rfl, h', us, rfl, mk⟩) (Same.refl _)⟩
  show us.length ≤ sizeLine
  rw [← r.length, hl]; decide
inductive Rs where
  | d (d : PyData)
  | l (xs : List PyData)
  | n (t : OT)
  | x (C : Addr)
noncomputable def spX (K : PySem.W.Frag) (R : List PyData → Rs → Prop) : Sp := fun vs H Q E => ∃ B ds r, (∀ a, B a → H a ≠ none) ∧ Reps K B H ds vs ∧ R ds r ∧ (match r with
  | .d d => ∀ v H', Same H H' → Rep K B H' d v → Q v H'
  | .l xs => ∀ a us H', Same H H' → H a = none → H' a = some (.lst us) → Reps K (fun b => B b ∨ b = a) H' xs us → Q (.ref a) H'
  | .n t => ∀ v as H', Same H H' → (∀ a ∈ as, H a = none) → as.Nodup → RepO K (fun b => B b ∨ b ∈ as) H' t v as → Q v H'
  | .x C => ∀ H', Same H H' → E (.ref C) none H')
structure FnX (P : Program) (w : World) (K : PySem.W.Frag) (mg : Str → Option Value) (base : Heap) (name : Str) (k : Nat) (ps : List Str) (R : List PyData → Rs → Prop) : Prop where
  ex : ∃ f fd, FnOk P w K mg base (CXx P w) k f fd ps (spX K R) ∧ mg name = some (.ref f) ∧ PySem.W.keepIn K (.ref f) = true ∧ Binds K fd ps []
theorem passX : Passes (CXx X.prog X.w) X E0 := fun _ _ _ _ _ _ _ ⟨_, _, _, _, _, z⟩ => z.elim
section
variable {R : List PyData → Rs → Prop}
theorem ev_callX (G : FnX X.prog X.w X.K X.mg X.base name j ps R) (hr : Room k X.A) (hjk : j ≤ k) (hg : Gl X name) (ha : EaD X δ (e :: es) ds) (hR : R ds (.d d)) (hdb : (name == ("__debug__" : Str)) = false := by decide)
    (he : starEach (e :: es) X.env = (false, eval e X.env) :: starEach es X.env := by rfl) (hpl : (backTo pos (starEach es X.env)).any (·.1) = false := by rfl) : EvD X δ (.Call (.Name name p) (e :: es) [] pos) d := by
  obtain ⟨f, fd, h1, h2, h3, h4⟩ := G.ex
  refine ev_of (pe_call h1 (hr.mono hjk) hg h2 h3 h4 .nil passX ha hdb he hpl) fun Hb own B σ H Q E q => ⟨Hb, own, B, E, fun vs H1 s1 rv => ?_⟩
  show spX X.K R (vs ++ []) H1 Q E0
  rw [List.append_nil]
  exact ⟨Av own B, ds, .d d, fun a z => (E.mono s1).alive z, rv, hR, fun v H' s2 r => q v H' (s1.trans s2) r⟩
theorem ef_callX (G : FnX X.prog X.w X.K X.mg X.base name j ps R) (hr : Room k X.A) (hjk : j ≤ k) (hg : Gl X name) (ha : EaD X δ (e :: es) ds) (hR : R ds (.l xs)) (hdb : (name == ("__debug__" : Str)) = false := by decide)
    (he : starEach (e :: es) X.env = (false, eval e X.env) :: starEach es X.env := by rfl) (hpl : (backTo pos (starEach es X.env)).any (·.1) = false := by rfl) : EvF X δ (.Call (.Name name p) (e :: es) [] pos) xs := by
  obtain ⟨f, fd, h1, h2, h3, h4⟩ := G.ex
  refine ef_of (pe_call h1 (hr.mono hjk) hg h2 h3 h4 .nil passX ha hdb he hpl) fun Hb own B σ H Q E q => ⟨Hb, own, B, E, fun vs H1 s1 rv => ?_⟩
  show spX X.K R (vs ++ []) H1 Q E0
  rw [List.append_nil]
  exact ⟨Av own B, ds, .l xs, fun a z => (E.mono s1).alive z, rv, hR, fun a us H' s2 hn ha r => q a us H' (s1.trans s2) (s1.free hn) ha r⟩
theorem ex_callX {t : OT} (G : FnX X.prog X.w X.K X.mg X.base name j ps R) (hr : Room k X.A) (hjk : j ≤ k) (hg : Gl X name) (ha : EaD X δ (e :: es) ds) (hR : R ds (.n t)) (hdb : (name == ("__debug__" : Str)) = false := by decide)
    (he : starEach (e :: es) X.env = (false, eval e X.env) :: starEach es X.env := by rfl) (hpl : (backTo pos (starEach es X.env)).any (·.1) = false := by rfl) : ExD X δ (.Call (.Name name p) (e :: es) [] pos) t [] := by
  obtain ⟨f, fd, h1, h2, h3, h4⟩ := G.ex
  intro pins s σ H Q I ⟨Hb, own, B, E, q⟩
  refine pe_call h1 (hr.mono hjk) hg h2 h3 h4 .nil passX ha hdb he hpl pins s σ H Q I ⟨Hb, own, B, E, fun vs H1 s1 rv => ?_⟩
  show spX X.K R (vs ++ []) H1 Q E0
  rw [List.append_nil]
  exact ⟨Av own B, ds, .n t, fun a z => (E.mono s1).alive z, rv, hR, fun v as H' s2 hn nd r => q v as H' (s1.trans s2) (fun a ha => .inl (s1.free (hn a ha))) nd r⟩
theorem er_call (G : FnX X.prog X.w X.K X.mg X.base name j ps R) (hr : Room k X.A) (hjk : j ≤ k) (hg : Gl X name) (ha : EaD X δ (e :: es) ds) (hR : R ds (.x C)) (hdb : (name == ("__debug__" : Str)) = false := by decide)
    (he : starEach (e :: es) X.env = (false, eval e X.env) :: starEach es X.env := by rfl) (hpl : (backTo pos (starEach es X.env)).any (·.1) = false := by rfl) : ER X δ (.Call (.Name name p) (e :: es) [] pos) C := by
  obtain ⟨f, fd, F, h2, h3, h4⟩ := G.ex
  intro pins s σ H Hb own B I E k Q
  refine wpAny_Call_Name_kw (ld_glob I hg h2 ?_ hdb)
  refine PySem.W.callWith_K (h₀ := X.base) I.ok.mod.kin h3 (thn (ha pos pins s σ H (fun vs H1 => Same H H1 ∧ Reps X.K (Av own B) H1 ds vs) I ⟨Hb, own, B, E, fun vs H' s1 r => ⟨s1, r⟩⟩) fun us s1 ⟨vs, H1, I1, r, sm, rv⟩ => ⟨I1.kIn, ?_⟩) he hpl
  have hsp : spX X.K R (vs ++ []) H1 (fun _ _ => False) (fun cv _ H' => cv = .ref C ∧ Same H1 H') := by
    rw [List.append_nil]
    exact ⟨Av own B, ds, .x C, fun a z => (E.mono sm).alive z, rv, hR, fun H' s2 => ⟨rfl, s2⟩⟩
  have r2 : Vals (vs ++ []) (us ++ []) := r.append .nil
  have hl : (us ++ ([] : List Value)).length = ps.length := by rw [← r2.length]; exact F.len _ _ _ _ hsp
  refine wpAny_call (codeAny_mono (F.run X.A X.stack s1 H1 ⟨us, []⟩ (us ++ []) (vs ++ []) _ _ (hr.mono hjk) I1.env0 (h4 s1 us I1.kIn hl) r2 hsp) fun rr s' hq => ?_)
  cases rr with
  | error e' =>
    obtain ⟨x, C', H', rfl, fl, hC, sm2⟩ := hq
    cases hC
    exact k s1 H1 s' H' x I1 sm (.inl fl) sm2
  | ok fl =>
    cases fl with
    | ret u => obtain ⟨_, _, _, _, _, _, _, z⟩ := hq; exact z.elim
    | next => exact False.elim hq
    | brk => exact False.elim hq
    | cont => exact False.elim hq
theorem er_cmpR {op : CmpOp} (ha : EvD X δ a da) (hb : ER X δ b C) (hm : behindInMarks op b = false := by first | exact nobehind _ (by decide) (by decide) | rfl) : ER X δ (.Compare a [op] [b] pos) C := fun pins s σ H Hb own B I E k Q =>
  wpAny_Compare1 (thn (ha pins s σ H (fun _ H1 => Same H H1) I ⟨Hb, own, B, E, fun v H' s1 r => s1⟩) fun v s1 ⟨y, H1, I1, r1, sm⟩ => hb pins s1 σ H1 Hb own B I1 (E.mono sm) (fun s2 H2 s' H' x I2 sm2 F sm3 => k s2 H2 s' H' x I2 (sm.trans sm2) F sm3) _) hm
end
end
noncomputable abbrev bxX (P : Program) (w : World) (K : PySem.W.Frag) (mg : Str → Option Value) (base : Heap) (N : List Str) (qual : Str) (st : Stmt) (f : Addr) (cdv : Value) (A : Around) (outer : List Env) (s : Shared) (H : Hp) (E : XK) : Cx :=
  cxOf (CXx P w) P w K mg base N qual (defScope st) f cdv A outer s H E
noncomputable def BodyX (X Y : Cx) (δ : Dn) (body : List Stmt) : Rs → Prop
  | .d d => SR X δ body (.rt d) ∨ (d = .none ∧ ∃ δ', SR X δ body (.nx δ')) ∨ ∃ xs, d = .list xs ∧ SR X δ body (.rf xs)
  | .l xs => SR X δ body (.rf xs)
  | .n t => SR X δ body (.rn t)
  | .x C => ∃ δ', SX Y δ body C δ'
section
variable {P : Program} {w : World} {K : PySem.W.Frag} {mg : Str → Option Value} {base : Heap} {x qual : Str} {st : Stmt} {f : Addr} {fd : FuncData} {N ps : List Str} {k : Nat}
theorem fn_X {R : List PyData → Rs → Prop} (F : Fun K x qual st f fd) (S : FnScope N ps (defScope st)) (hm : mg x = some (.ref f)) (hb : Binds K fd ps []) (hl : ∀ ds r, R ds r → ds.length = ps.length)
    (body : ∀ cdv A outer s H E, Room k (bx P w K mg base N qual st f cdv A outer s H E).A → ∀ ds r, R ds r → BodyX (bx P w K mg base N qual st f cdv A outer s H E) (bxX P w K mg base N qual st f cdv A outer s H E) (startD N ds) (defBody st) r) :
    FnX P w K mg base x (k + 1) ps R := by
  refine ⟨f, fd, ?_, hm, F.kp, hb⟩
  obtain ⟨oc, od, kV, doc, pm, an, cdv, ct, osl, rfl, lk, hcd⟩ := F.ex
  refine fn_of lk hcd S (fun vs H Q E h => ?_) fun A outer s H vs Q E hr h => ?_
  · obtain ⟨B, ds, r, _, rv, hR, _⟩ := h
    rw [← rv.length]; exact hl ds r hR
  · obtain ⟨B, ds, r, hB, rv, hR, q⟩ := h
    have hbd := body cdv A outer s H E hr ds r hR
    cases r with
    | d d =>
      rcases hbd with h | ⟨rfl, δ', h⟩ | ⟨xs, rfl, h⟩
      · exact ⟨_, PSs.nox h, H, _, B, env_start hB rv, fun v H' s1 r => q v H' s1 r⟩
      · exact ⟨_, PSs.nox h, H, _, B, env_start hB rv, fun own σ H' E' => q .non H' E'.base rfl⟩
      · exact ⟨_, PSs.nox h, H, _, B, env_start hB rv, fun a vs H' s1 hn ha r => q _ H' s1 ⟨a, vs, rfl, fun z => hB a z hn, ha, r.av fun _ z => .inl z⟩⟩
    | l xs => exact ⟨_, PSs.nox hbd, H, _, B, env_start hB rv, fun a vs H' s1 hn ha r => q a vs H' s1 hn ha r⟩
    | n t => exact ⟨_, PSs.nox hbd, H, _, B, env_start hB rv, fun v as H' s1 hn nd r => q v as H' s1 hn nd r⟩
    | x C =>
      obtain ⟨δ', h⟩ := hbd
      refine ⟨fun _ σ Hc => ∃ own B', EnvO K H own B' Hc σ (startD N ds), fun pins s2 σ H2 D I ⟨own, B', E'⟩ => ?_, _, B, env_start hB rv⟩
      refine h pins s2 σ H2 H own B' I E' (fun s1 σ1 H1 own1 s' H' y I1 E1 F1 sm => ?_) _
      exact fl_leave F1 I1 rfl rfl rfl I1.ok.frames fun s'' F2 => ⟨y, C, H', rfl, F2, q H' (E1.base.trans sm)⟩
end
end L2
end
section
namespace L2
open PySem PySem.Spec PyProof.Rows
section
variable {K : PySem.W.Frag} {Hb H : Hp} {own : Nat → List Addr} {B : Addr → Prop} {σ : St} {δ : Dn}
theorem EnvO.drop (E : EnvO K Hb own B H σ δ) (i : Nat) (v : Option V) : EnvO K Hb (unown own i) B H (σ.set i v) (δ.set i .no) := by
  refine ⟨E.base, by rw [List.length_set, List.length_set]; exact E.len, E.bb, fun j a h => E.ofr j a (unown_some h).2, fun j a h => ?_, unown_nd E.ond i, fun j k a h h' => E.inj j k a (unown_some h).2 (unown_some h').2, fun j e h => ?_, fun j oa c h => ?_⟩
  · obtain ⟨oa, c, q⟩ := E.oex j a (unown_some h).2
    exact ⟨oa, c, by rw [List.getElem?_set_ne (Ne.symm (unown_some h).1)]; exact q⟩
  · by_cases ji : j = i
    · subst ji
      by_cases hl : j < δ.length
      · rw [List.getElem?_set_self hl] at h; cases h
      · rw [List.getElem?_eq_none (by rw [List.length_set]; omega)] at h; cases h
    · rw [List.getElem?_set_ne (Ne.symm ji)] at h
      obtain ⟨u, h1, h2⟩ := E.sh j e h
      exact ⟨u, by rw [List.getElem?_set_ne (Ne.symm ji)]; exact h1, h2.av unown_av⟩
  · by_cases ji : j = i
    · subst ji
      by_cases hl : j < δ.length
      · rw [List.getElem?_set_self hl] at h; cases h
      · rw [List.getElem?_eq_none (by rw [List.length_set]; omega)] at h; cases h
    · rw [List.getElem?_set_ne (Ne.symm ji)] at h
      obtain ⟨u, h1, h2, h3⟩ := E.ow j oa c h
      exact ⟨u, by rw [List.getElem?_set_ne (Ne.symm ji)]; exact h1, h2, by rw [unown_ne ji]; exact h3.av unown_av⟩
end
noncomputable abbrev Cx.inX (X : Cx) (e : Addr) (E : Value → Shared → Prop) : Cx := { X with A := X.A.mark (some (.ref e)), calm := false, xe := E }
section
variable {X : Cx} {pins : List (Addr × Obj)} {σ : St} {H H' : Hp} {s s' : Shared}
theorem Inv.inX (I : Inv X pins σ H s) (e : Addr) (E : Value → Shared → Prop) : Inv (X.inX e E) pins σ H s :=
  ⟨⟨I.ok.mod, I.ok.kind, I.ok.glob, I.ok.blt, I.ok.above, I.ok.inj, I.ok.has, I.ok.cab, fun z => (nomatch z), I.ok.frames, I.ok.stk, I.ok.exf, I.ok.bs, I.ok.bsz, I.ok.noex, I.ok.exfs, I.ok.funs, I.ok.frf⟩, I.os, I.bare, I.base, I.loc, I.cell, I.free, I.freeC, I.pin, I.hok, I.len⟩
theorem Inv.outX {e : Addr} {E : Value → Shared → Prop} (I : Inv (X.inX e E) pins σ H s) (hd : X.calm = true → X.A.handled = none) : Inv X pins σ H s :=
  ⟨⟨I.ok.mod, I.ok.kind, I.ok.glob, I.ok.blt, I.ok.above, I.ok.inj, I.ok.has, I.ok.cab, hd, I.ok.frames, I.ok.stk, I.ok.exf, I.ok.bs, I.ok.bsz, I.ok.noex, I.ok.exfs, I.ok.funs, I.ok.frf⟩, I.os, I.bare, I.base, I.loc, I.cell, I.free, I.freeC, I.pin, I.hok, I.len⟩
theorem Inv.unbound {i : Nat} {x : Str} {m : Str → Option Value} {v : Option Value} {h' : Heap} {t' : Nat} (I : Inv X pins σ H s) (hN : X.N.Nodup) (hi : X.N[i]? = some x) (hk : X.env.scope.names.lookup x = some .local) (hn : s.heap.Ns X.env.locals m) (hm : ∀ (j : Nat) (y : Str) (v : V), X.N[j]? = some y → σ[j]? = some (some v) → Vis X.env.scope y → ∃ u, RelV v u ∧ Look X.env s.heap m y u)
    (hn' : h'.Ns X.env.locals (fun y => if y = x then v else m y)) (hs : Heap.SameBut X.env.locals s.heap h') : Inv X pins (σ.set i none) H { s with heap := h', toks := t' } := by
  have cne := I.cne
  obtain ⟨oL, _, _, hoL, _⟩ := id hn
  refine ⟨I.ok, I.os, I.bare, ⟨fun b o e n hb hx => ?_, fun b o e n hb hx => ?_, I.base.free, fun b o e hx => ?_, I.base.tups, I.base.frzs, I.base.tbls⟩, ⟨_, hn', fun j y v' e1 e2 e3 => ?_⟩, fun y c e => ?_, I.free, I.freeC, fun p hp => ?_, fun b ob e => ?_, by simpa using I.len⟩
  · exact (hs.2 b (Nat.ne_of_lt (Nat.lt_of_lt_of_le (Heap.lt_size e) I.ok.above))).trans (I.base.keep b o e n hb hx)
  · obtain ⟨sl, e1⟩ := I.base.slot b o e n hb hx
    exact ⟨sl, (hs.2 b (Nat.ne_of_lt (Nat.lt_of_lt_of_le (Heap.lt_size e) I.ok.above))).trans e1⟩
  · obtain ⟨o', e1⟩ := I.base.there b o e hx
    exact ⟨o', (hs.2 b (Nat.ne_of_lt (Nat.lt_of_lt_of_le (Heap.lt_size e) I.ok.above))).trans e1⟩
  · by_cases hj : j = i
    · subst hj
      by_cases hl : j < σ.length
      · rw [List.getElem?_set_self hl] at e2; cases e2
      · rw [List.getElem?_eq_none (by rw [List.length_set]; omega)] at e2; cases e2
    · rw [List.getElem?_set_ne (Ne.symm hj)] at e2
      obtain ⟨u', r', q⟩ := hm j y v' e1 e2 e3
      refine ⟨u', r', ?_⟩
      rcases q with ⟨k, e⟩ | ⟨k, c, e, z⟩
      · refine .inl ⟨k, ?_⟩
        have : y ≠ x := fun e => hj (nodup_ix hN e1 (e ▸ hi))
        simp [this, e]
      · exact .inr ⟨k, c, e, z.sameBut hs (cne y c e)⟩
  · obtain ⟨w', z⟩ := I.cell y c e
    exact ⟨w', z.sameBut hs (cne y c e)⟩
  · obtain ⟨e, n, ne, nf, d⟩ := I.pin p hp
    exact ⟨(hs.2 p.1 ne).trans e, n, ne, nf, d⟩
  · refine (I.hok b ob e).stay (fun c w' hc q => (hs.2 c ?_).trans q) (fun _ q => q) fun _ _ q => q
    rintro rfl
    rcases hc with rfl | hc
    · rw [I.free] at e; cases e
    · rw [I.free] at hc; cases hc
theorem Fl.inv {C e : Addr} {fl : Value} (F : Fl X.prog X.w (frs X.stack) H H' s s' C e fl) (I : Inv X pins σ H s) : Inv X pins σ H' s' := I.call' (ch := []) F.os F.un F.hok F.bare (fun _ z => nomatch z)
theorem Fl.track {C e : Addr} {fl : Value} (F : Fl X.prog X.w (frs X.stack) H H' s s' C e fl) (I : Inv X pins σ H s) : ∃ oe, Inv X pins σ (upd H' e (.frz oe (.ext (xcP e C)))) s' := by
  obtain ⟨oe, vs, a0, T, oT, ts, t1, t2, _⟩ := F.tr
  have hu : Un (frs X.stack) [] H (upd H' e (.frz oe (.ext (xcP e C)))) s.heap s'.heap :=
    ⟨F.un.keep, F.un.slot, fun b o q n hx => by rw [upd_ne (fun z : b = e => by rw [z, F.new] at q; cases q)]; exact F.un.free b o q n hx, F.un.there,
      fun b xs q => by have := F.un.tups b xs q; rw [upd_ne (ne_of_none this F.ne)]; exact this, fun b o u q => by have := F.un.frzs b o u q; rw [upd_ne (ne_of_none this F.ne)]; exact this,
      fun b ps q => by obtain ⟨m, this⟩ := F.un.tbls b ps q; exact ⟨m, by rw [upd_ne (ne_of_none this F.ne)]; exact this⟩⟩
  refine ⟨oe, I.call' (ch := []) F.os hu (fun a o ha => ?_) F.bare (fun _ z => nomatch z)⟩
  by_cases hae : a = e
  · subst hae
    rw [upd_same] at ha
    cases ha
    exact ⟨t1, ⟨oe, t1, t2.1⟩, ⟨oe, t1⟩, fun h1 h2 ⟨o1, p1, p2⟩ k => ⟨o1, k o1 p1, p2⟩⟩
  · rw [upd_ne hae] at ha
    exact (F.hok a o ha).stay (fun _ _ _ q => q) (fun b q => by rw [upd_ne (ne_of_none q F.ne)]; exact q) fun b xs q => by rw [upd_ne (ne_of_none q F.ne)]; exact q
end
section
variable {X : Cx} {δ δ1 δ2 δ' : Dn} {body suite : List Stmt} {b₀ : Stmt} {h₀ : ExceptHandler} {hs : List ExceptHandler} {pos np hpos : Pos} {C D : Addr} {cx n : Str}
theorem s1_tryOk (h : SR X.nox δ body (.nx δ1)) : S1 X δ (.Try body (h₀ :: hs) [] [] pos) (.nx δ1) := fun pins s σ H Dn I hh57 => Zz.a5 hh57 fun Hb own B E P =>
  wpAny_Try_except (wpAny_mono (h pins s σ H { nx := fun σ' H' => ∃ own', EnvO X.K Hb own' B H' σ' δ1, rt := fun _ _ => False } (I.wish _) ⟨Hb, own, B, E, fun own' σ' H' E' => ⟨own', E'⟩⟩) (fun f s1 q => by
    cases f with
    | next => obtain ⟨σ', H', I', own', E'⟩ := q; exact wpAny_execs_nil ⟨σ', H', I'.unwish, P own' σ' H' E'⟩
    | ret u => obtain ⟨v, σ', H', I', r, z⟩ := q; exact z.elim
    | brk => obtain ⟨_, _, _, z⟩ := q; exact z.elim
    | cont => obtain ⟨_, _, _, z⟩ := q; exact z.elim) fun _ _ z => z.elim)
theorem s1_tryAs (i : Nat) (hbody : ∀ E, SX (X.wish E) δ body C δ') (hsuite : ∀ e E, SR (X.inX e E) (δ'.set i (.sh (excD C))) (b₀ :: suite) (.nx δ2)) (hex : PySem.W.exmOne X.K (.ref C) (.ref D) = some true) (hm : X.mg cx = some (.ref D)) (hg : Gl X cx) (hN : X.N.Nodup)
    (hi : X.N[i]? = some n := by rfl) (hk : X.env.scope.names.lookup n = some .local := by rfl) (hst : X.stack = X.env :: X.outer := by rfl) (hfr : X.env.frame = some X.env.locals := by rfl) (hdb : (cx == ("__debug__" : Str)) = false := by decide) :
    S1 X δ (.Try body [.ExceptHandler (some (.Name cx np)) (some n) (b₀ :: suite) hpos] [] [] pos) (.nx (δ2.set i .no)) := by
  intro pins s σ H Dn I ⟨Hb, own, B, E, P⟩
  refine wpAny_Try_except ?_
  refine hbody (fun e s₁ => wpAny (model X.prog X.w) X.A (noteFrame e X.env) (fun _ s₂ => wpAny (model X.prog X.w) X.A (setFlight e none) (fun _ s₃ => wpAny (model X.prog X.w) X.A (handleBy e X.env [.ExceptHandler (some (.Name cx np)) (some n) (b₀ :: suite) hpos]) (SP X pins Dn) X.xe s₃) X.xe s₂) X.xe s₁) pins s σ H Hb own B (I.wish _) E (fun s1 σ1 H1 own1 s' H' x I1 E1 F1 sm => ?_) _
  have I1' : Inv X pins σ1 H1 s1 := I1.unwish
  refine fl_note (X := X) F1 I1' hst hfr I1'.ok.frames fun s2 F2 => fl_land F2 I1' fun s3 F3 => ?_
  have I3 := F3.inv I1'
  refine wpAny_handleBy_cons (codeAny_handlers_test ?_) (by intro q; cases q)
  refine ld_glob (X := X.inX x X.xe) (I3.inX x _) hg hm ?_ hdb
  have LT : PySem.W.Looks (model X.prog X.w) s3.heap (typeOf (.ref x)) (.ref C) := by
    obtain ⟨oe, vs, a0, T, oT, ts, t1, t2, _⟩ := F3.tr
    exact t2.1 ▸ (PySem.W.Looks.ld t1).andThen .now
  refine (PySem.W.exm_one I3.kIn LT hex).here ?_
  refine codeAny_handlers_suite_as (fl_land F3 I1' fun s4 F4 => ?_)
  obtain ⟨oe, I4⟩ := F4.track I1'
  have hne : H' x = none := F4.ne
  have sm2 : Same H' (upd H' x (.frz oe (.ext (xcP x C)))) := fun b u q => by rw [upd_ne (ne_of_none q hne)]; exact q
  refine store_ok (X := X) I4 hN hi (.inl hk) (v := .ref x) rfl (fun s5 I5 => ?_) (.inr hk)
  have E5 := (E1.mono (sm.trans sm2)).setSh (i := i) (v := .ref x) (d := excD C) (.inr (.inr ⟨x, C, oe, rfl, rfl, upd_same⟩))
  refine wpAny_mono (hsuite x _ pins s5 _ _ { nx := fun σ' H' => ∃ own', EnvO X.K Hb own' B H' σ' δ2, rt := fun _ _ => False } (I5.inX x _) ⟨Hb, _, B, E5, fun own' σ' H' E' => ⟨own', E'⟩⟩) (fun f s6 q => ?_) fun _ _ z => z
  cases f with
  | next =>
    obtain ⟨σ', H'', I6, own', E6⟩ := q
    have I6' := I6.outX I.ok.hd
    obtain ⟨m, hn, hl⟩ := id I6'.loc
    refine wpAny_nameGoes_keeps (by exact hk) hn (by rw [I6'.ok.kind]; rfl) fun h' v hn' hs => ?_
    exact ⟨_, H'', I6'.unbound hN hi hk hn hl hn' hs, P _ _ _ (E6.drop i none)⟩
  | ret u => obtain ⟨v, σ', H', I', r, z⟩ := q; exact z.elim
  | brk => obtain ⟨_, _, _, z⟩ := q; exact z.elim
  | cont => obtain ⟨_, _, _, z⟩ := q; exact z.elim
end
end L2
end
section
namespace L2
open PySem PySem.Spec PyProof.Rows PySem.W PySem.Builtin PySem.Builtin.ObjectAttr PySem.Builtin.Getset_descriptor PySem.Calls
section
variable {prog : Program} {w : World} {A : Around} {E : Value → Shared → Prop} {s : Shared} {K : Frag} {x C : Addr} {ox : Obj}
structure XCls (K : Frag) (C : Addr) : Prop where
  ga : findIn K (.ref C) "__getattribute__" = some (some (.builtin "BaseException.__getattribute__"))
  gt : findIn K (.ref C) "__getattr__" = some none
  cl : findIn K (.ref C) "__class__" = some (some (.builtin "object.__class__"))
  sp : specialIn K (.builtin "object.__class__") "__get__" = some (some (.builtin "getset_descriptor.__get__"))
  tk : takesIn K (.builtin "object.__class__") = some true
  ob : mroIn K C (.type "object") = some true
  bx : mroIn K C (.type "BaseException") = some true
  hd : hasDictIn K C = true
theorem exc_get {tp : Value} {R : Result → Shared → Prop} {hh : Heap} {g : Array GenState} {d : Drawn} {t : Nat} {os : OsState} (X : K.In hh) (LT : Looks (model prog w) hh (typeOf (.ref x)) (.ref C)) (hm : mroIn K C (.type "object") = some true) (q : R (.ok (.ret (.ref C))) ⟨hh, g, d, t, os⟩) :
    codeAny (model prog w) A (.call (.builtin "getset_descriptor.__get__") ⟨[.builtin "object.__class__", .ref x, tp], []⟩) R ⟨hh, g, d, t, os⟩ := by
  have LM := looks_mroIn (M := model prog w) X hm
  refine codeAny_call_builtin (KF.slot_gs.plain) KF.entry_gs (KF.slot_gs.check _ _ _ _ _ _ _ _ KF.type_class (KF.args_gs _ _ _) ?_)
  unfold Builtin.«getset_descriptor.__get__» descrGet; rw [dga_obj]
  refine wpAny_bind (wpAny_pure ?_); unfold descrGetter descrCheckInstance descrNameAndClass isInstance
  simp only [KF.owner_class]; (repeat lk)
  refine ⟨Code.quiet_builtin _ (by decide +kernel), codeAny_builtin (KF.entry_class) ?_⟩; unfold Builtin.«object.__class__» shownTypeOf; (repeat lk)
  exact q
theorem exc_class {Q : Option Value → Shared → Prop} (X : K.In s.heap) (L0 : Looks (model prog w) s.heap (typeOf (.ref x)) (.ref C)) (hga : findIn K (.ref C) "__getattribute__" = some (some (.builtin "BaseException.__getattribute__"))) (hgt : findIn K (.ref C) "__getattr__" = some none) (hcl : findIn K (.ref C) "__class__" = some (some (.builtin "object.__class__"))) (hsp : specialIn K (.builtin "object.__class__") "__get__" = some (some (.builtin "getset_descriptor.__get__"))) (htk : takesIn K (.builtin "object.__class__") = some true)
    (hm : mroIn K C (.type "object") = some true) (hb : mroIn K C (.type "BaseException") = some true)
    (h : Q (some (.ref C)) { s with toks := s.toks + 1 }) : wpAny (model prog w) A (getAttr? (.ref x) "__class__") Q E s := by
  obtain ⟨hh, g, d, t, os⟩ := s
  have L1 := looks_findIn (M := model prog w) X hga
  have L2 := looks_findIn (M := model prog w) X hgt
  have L3 : Looks (model prog w) hh (Builtin.ObjectAttr.find (.ref x) (.ref C) "__class__") (.bind (.builtin "getset_descriptor.__get__") (.builtin "object.__class__")) :=
    (looks_findIn (M := model prog w) X hcl).andThen ((show Looks (model prog w) hh (Builtin.ObjectAttr.getOf (some (.builtin "object.__class__"))) _ from looks_specialIn X hsp).andThen ((show Looks (model prog w) hh (Builtin.ObjectAttr.dataDescriptor? (some (.builtin "object.__class__")) (some (.builtin "getset_descriptor.__get__"))) (some (.builtin "getset_descriptor.__get__", .builtin "object.__class__")) from (looks_takesIn X htk).andThen .now).andThen (Looks.tag .now)))
  have L4 := looks_mroIn (M := model prog w) X hb
  unfold getAttr? getAttrBy? getAttrBy
  refine wpAny_bind (wpAny_mkText (wpAny_bind (wpAny_attempt (wpAny_holding (wpAny_bind (L0.at (wpAny_bind (L1.at ?_))))))))
  dsimp only
  have e0 : (onTheHeap (Value.ref C) && Value.builtin "BaseException.__getattribute__" == Value.builtin "object.__getattribute__") = false := by
    rw [show onTheHeap (Value.ref C) = true from rfl]; decide +kernel
  rw [e0, if_neg Bool.false_ne_true]
  unfold getAttrByItsOwn hookBefore callGetattribute boundAndCalled
  rw [if_pos (show onTheHeap (.ref C) = true from rfl)]
  refine wpAny_bind (L2.at (wpAny_bind (wpAny_attempt (wpAny_holding ?_))))
  show wpAny _ _ (bindSpecial (.builtin "BaseException.__getattribute__") (.ref x) >>= _) _ _ _
  refine wpAny_bind (wpAny_of_eq (PySem.F.excAttr_ValueError.ga.bind _) ?_)
  show wpAny _ _ (call (.builtin "BaseException.__getattribute__") [.ref x, .str "__class__" t]) _ _ _
  refine wpAny_mono (Q := fun v s' => v = .ref C ∧ s' = ⟨hh, g, d, t + 1, os⟩) (E := fun _ _ => False) (wpAny_call (codeAny_call_builtin PySem.F.excAttr_ValueError.ga.plain PySem.F.entry_bexc_ga ?_)) (fun v s' hv => ?_) fun _ _ z => z.elim
  · have hk : builtinKind "BaseException.__getattribute__" = some .slot := by decide +kernel
    have hsplit : splitId "BaseException.__getattribute__" = some ("BaseException", "__getattribute__") := by decide +kernel
    have hb1 := PySem.F.args_bexc_ga (.ref x) (.str "__class__" t)
    have LI : Looks (model prog w) hh (isInstance (.ref x) (.type "BaseException")) true := L0.andThen L4
    simp only [checkBuiltinCall, hk, hsplit]
    refine wpAny_bind (LI.at ?_)
    rw [if_neg (by decide)]
    have key : wpAny (model prog w) A.in1 (Builtin.«object.__getattribute__» { pos := [Value.ref x, Value.str "__class__" t] }) (fun fin s' => fin = .done (.ret (.ref C)) ∧ s' = ⟨hh, g, d, t + 1, os⟩) (fun _ _ => False) ⟨hh, g, d, t + 1, os⟩ := by
      unfold Builtin.«object.__getattribute__»
      refine wpAny_bind (wpAny_pure (wpAny_bind (wpAny_pure (wpAny_bind (L0.at (wpAny_bind (L3.at ?_)))))))
      show wpAny _ _ (holding [Value.builtin "object.__class__"] (call (.builtin "getset_descriptor.__get__") [.builtin "object.__class__", .ref x, .ref C]) >>= ret) _ _ _
      refine wpAny_bind (wpAny_holding (wpAny_call (exc_get X L0 hm ?_)))
      exact wpAny_pure ⟨rfl, rfl⟩
    have fin : wpAny (model prog w) A.in1 (Builtin.«object.__getattribute__» { pos := [Value.ref x, Value.str "__class__" t] }) (fun fin s' => match fin with
          | Fin.done f => (match (Except.ok f : Result) with
            | Except.ok (Flow.ret v) => v = Value.ref C ∧ s' = { heap := hh, gens := g, drawn := d, toks := t + 1, os := os }
            | Except.ok a => False
            | Except.error e => False)
          | Fin.again c' => c'.quiet = true ∧ codeAny (model prog w) A c' (fun r s' => match r with
                  | Except.ok (Flow.ret v) => v = Value.ref C ∧ s' = { heap := hh, gens := g, drawn := d, toks := t + 1, os := os }
                  | Except.ok a => False
                  | Except.error e => False) s') (fun _ _ => False) ⟨hh, g, d, t + 1, os⟩ := thn key fun f s' ⟨h1, h2⟩ => by subst h1 h2; exact ⟨rfl, rfl⟩
    repeat (first | exact fin | wp_step)
  · obtain ⟨rfl, rfl⟩ := hv
    exact handed_on rfl (wpAny_pure h)
theorem kitx_exc (c : XCls K C) : KitX K (.ref x) (.ref C) (xcP x C) where
  ty := fun M h _ p => by obtain ⟨o, h1, h2⟩ := p; exact h2 ▸ (Looks.ld h1).andThen .now
  it := fun M h X _ => by
    obtain ⟨cd, hc, _⟩ := any_some c.hd
    unfold clsIn at hc; split at hc
    · rename_i ho; intro A' Q' E' s' k q; unfold isType loadHead; exact wpAny_bind (wpAny_loadPart (k _ _ (X _ _ ho)) (wpAny_pure q))
    · cases hc
  ne := fun h tp dd its n sl X htp => by
    obtain ⟨cd, hc, _⟩ := any_some c.hd
    refine Bool.eq_false_iff.mpr fun q => ?_
    have e : C = tp := Value.ref.inj (beq_iff_eq.mp q)
    subst e; unfold clsIn at hc; split at hc
    · rename_i ho; have z := (X _ _ ho).symm.trans htp; cases z
    · cases hc
  ca := fun {prog w A E Q s} X p k => exc_class X (by obtain ⟨o, h1, h2⟩ := p; exact h2 ▸ (Looks.ld h1).andThen .now) c.ga c.gt c.cl c.sp c.tk c.ob c.bx k
end
section
variable {X : Cx} {δ : Dn} {a : Expr} {es : List Expr} {p p' pos : Pos} {C D : Addr} {k : Bool} {x : Str}
theorem exc_at {pins : List (Addr × Obj)} {s : Shared} {σ : St} {H : Hp} {a C : Addr} {o : Obj} (I : Inv X pins σ H s) (h : H a = some (.frz o (.ext (xcP a C)))) : xcP a C s.heap := by
  obtain ⟨_, q, _⟩ := I.hok a _ h
  exact q
theorem call_isiX : CallR X (.builtin "isinstance") (fun xs H Q => ∃ (a C : Addr) (o : Obj) (y : V) (c : Value) (k : Bool), xs = [.ref a, y] ∧ H a = some (.frz o (.ext (xcP a C))) ∧ XCls X.K C ∧ (∀ u, RelV y u → u = c) ∧ kitOne X.K (.ref C) c = some k ∧ Q (.bl k) H) := by
  intro pins s σ H xs us Q I rv h
  obtain ⟨a, C, o, y, c, k, rfl, ha, hc, hy, hk, q⟩ := h
  obtain ⟨u, u', rfl, ru, ru'⟩ := rv.two
  cases ru
  have e := hy u' ru'
  subst e
  exact kia_one (kitx_exc hc) I.kIn (exc_at I ha) hk (by intro z; cases z) fun tk => ⟨.bl k, H, I.tok tk, rfl, q⟩
theorem vals_refs : ∀ (Ds : List Addr) (us : List Value), Vals (Ds.map V.ref) us → us = Ds.map Value.ref
  | [], _, .nil => rfl
  | D :: Ds, _, .cons r t => by cases r; rw [vals_refs Ds _ t]; rfl
theorem call_isiXT : CallR X (.builtin "isinstance") (fun xs H Q => ∃ (a C tp : Addr) (o : Obj) (Ds : List Addr) (k : Bool), xs = [.ref a, .ref tp] ∧ H a = some (.frz o (.ext (xcP a C))) ∧ XCls X.K C ∧ H tp = some (.tup (Ds.map V.ref)) ∧ kitAny X.K (.ref C) (Ds.map Value.ref) = some k ∧ Q (.bl k) H) := by
  intro pins s σ H xs us Q I rv h
  obtain ⟨a, C, tp, o, Ds, k, rfl, ha, hc, ht, hk, q⟩ := h
  obtain ⟨u, u', rfl, ru, ru'⟩ := rv.two
  cases ru; cases ru'
  obtain ⟨its, r, ⟨ot, e, hcl, n, hd⟩, _⟩ := I.tuple (SqT.of ht)
  rw [vals_refs Ds its r] at hd
  obtain ⟨oc, odd, odt, osl⟩ := ot
  dsimp only at hcl hd
  subst hcl hd
  exact kia_tup (kitx_exc hc) I.kIn (exc_at I ha) e hk (by intro z; cases z) fun tk => ⟨.bl k, H, I.tok tk, rfl, q⟩
theorem rep_exc {K : PySem.W.Frag} {A : Addr → Prop} {H : Hp} {v : V} (h : Rep K A H (excD C) v) : ∃ a o, v = .ref a ∧ H a = some (.frz o (.ext (xcP a C))) := by
  rcases h with ⟨_, _, _, z, _⟩ | ⟨_, _, _, _, _, κ, _, _, _, z, _⟩ | ⟨a, C', o, h1, z, h3⟩
  · cases z
  · cases z
  · have hz : C = C' := Int.ofNat.inj (by simpa [excD] using z)
    subst hz
    exact ⟨a, o, h1, h3⟩
theorem ev_isiC (hg : Gl X "isinstance") (hm : X.mg "isinstance" = none) (ha : EvD X δ a (excD C)) (hc : XCls X.K C) (hgx : Gl X x) (hmx : X.mg x = some (.ref D)) (hk : kitOne X.K (.ref C) (.ref D) = some k) (hdb : (x == ("__debug__" : Str)) = false := by decide)
    (hs : starEach [a, .Name x p'] X.env = [(false, eval a X.env), (false, eval (.Name x p') X.env)] := by rfl) (hs2 : starEach [.Name x p'] X.env = [(false, eval (.Name x p') X.env)] := by rfl) : EvD X δ (.Call (.Name "isinstance" p) [a, .Name x p'] [] pos) (.bool k) :=
  ev_of (pe_callB call_isiX hg hm rfl (pa_cons ha (pa_cons (pe_glob (v := .ref D) hgx hmx rfl hdb) pa_nil (by rw [hs2]; rfl)) (by rw [hs, hs2])) (he := by rw [hs, hs2]) (hpl := by rw [hs2]; rfl)) fun Hb own B σ H Q E q => ⟨Hb, own, B, E, fun v H1 s1 r => by
    obtain ⟨b, o, rfl, h1⟩ := rep_exc r
    exact ⟨b, C, o, .ref D, .ref D, k, rfl, h1, hc, fun u z => z, hk, q _ H1 s1 rfl⟩⟩
theorem ev_isiV {T : String} (hg : Gl X "isinstance") (hm : X.mg "isinstance" = none) (ha : EvD X δ a (excD C)) (hc : XCls X.K C) (hgx : Gl X x) (hmx : X.mg x = none) (hvx : bootBuiltins x = some (.type T)) (hk : kitOne X.K (.ref C) (.type T) = some k) (hn : x ≠ "__name__" := by decide) (hdb : (x == ("__debug__" : Str)) = false := by decide)
    (hs : starEach [a, .Name x p'] X.env = [(false, eval a X.env), (false, eval (.Name x p') X.env)] := by rfl) (hs2 : starEach [.Name x p'] X.env = [(false, eval (.Name x p') X.env)] := by rfl) : EvD X δ (.Call (.Name "isinstance" p) [a, .Name x p'] [] pos) (.bool k) :=
  ev_of (pe_callB call_isiX hg hm rfl (pa_cons ha (pa_cons (pe_bltn (v := .ty T) hgx hmx hvx rfl hn hdb) pa_nil (by rw [hs2]; rfl)) (by rw [hs, hs2])) (he := by rw [hs, hs2]) (hpl := by rw [hs2]; rfl)) fun Hb own B σ H Q E q => ⟨Hb, own, B, E, fun v H1 s1 r => by
    obtain ⟨b, o, rfl, h1⟩ := rep_exc r
    exact ⟨b, C, o, .ty T, .type T, k, rfl, h1, hc, fun u z => z, hk, q _ H1 s1 rfl⟩⟩
inductive Clss (X : Cx) : List Expr → List Addr → Prop where
  | nil : Clss X [] []
  | cons {x : Str} {D : Addr} {p : Pos} {es : List Expr} {Ds : List Addr} (hg : Gl X x) (hm : X.mg x = some (.ref D)) (t : Clss X es Ds) (hdb : (x == ("__debug__" : Str)) = false := by decide) (hs : starEach (.Name x p :: es) X.env = (false, eval (.Name x p) X.env) :: starEach es X.env := by rfl) : Clss X (.Name x p :: es) (D :: Ds)
theorem Clss.pa {Ds : List Addr} (h : Clss X es Ds) : PA X es (fun _ H Q => Q (Ds.map V.ref) H) := by
  induction h with
  | nil => exact fun pos pins s σ H Q I q => pa_nil pos pins s σ H Q I q
  | cons hg hm t hdb hs ih => exact fun pos pins s σ H Q I q => pa_cons (pe_glob (v := .ref _) hg hm rfl hdb) ih hs pos pins s σ H Q I q
theorem ev_isiT {Ds : List Addr} {kt} {pt : Pos} (hg : Gl X "isinstance") (hm : X.mg "isinstance" = none) (ha : EvD X δ a (excD C)) (hc : XCls X.K C) (hD : Clss X es Ds) (hk : kitAny X.K (.ref C) (Ds.map Value.ref) = some k) (hl : Ds.length ≤ 1000 := by exact Nat.le_of_ble_eq_true rfl)
    (hs : starEach [a, .Tuple es kt pt] X.env = [(false, eval a X.env), (false, eval (.Tuple es kt pt) X.env)] := by rfl) (hs2 : starEach [.Tuple es kt pt] X.env = [(false, eval (.Tuple es kt pt) X.env)] := by rfl) : EvD X δ (.Call (.Name "isinstance" p) [a, .Tuple es kt pt] [] pos) (.bool k) :=
  ev_of (pe_callB call_isiXT hg hm rfl (pa_cons ha (pa_cons (pe_tup hD.pa) pa_nil (by rw [hs2]; rfl)) (by rw [hs, hs2])) (he := by rw [hs, hs2]) (hpl := by rw [hs2]; rfl)) fun Hb own B σ H Q E q => ⟨Hb, own, B, E, fun v H1 s1 r => ⟨by rw [List.length_map]; exact Nat.le_of_lt (small1000 hl), fun tp htp => by
    obtain ⟨b, o, rfl, h1⟩ := rep_exc r
    have e1 := same_new htp (.tup (Ds.map V.ref))
    exact ⟨b, C, tp, o, Ds, k, rfl, e1 _ _ h1, hc, upd_same, hk, q _ _ (s1.trans e1) rfl⟩⟩⟩
end
end L2
end
section
namespace L2
open PySem PySem.Spec PyProof.Rows
theorem atI_neg1 {α : Type} {vs : List α} {v : α} (h : vs.getLast? = some v) : atI vs (-1) = some v := by
  obtain ⟨us, rfl⟩ := List.getLast?_eq_some_iff.mp h
  exact atI_last us v
section
variable {X : Cx} {δ δ1 : Dn} {a b c e ix : Expr} {d da db : PyData} {pos : Pos} {xs ys : List PyData} {x y : Str} {ts : List OT} {zs : List OT}
theorem ev_ixL (ha : EvD X δ a (.list xs)) (hb : EvD X δ b (.int (-1))) (hd : xs.getLast? = some d) (hs : PlainIx b := by exact fun _ _ => rfl) : EvD X δ (.Subscript a b pos) d :=
  ev_of (pe_ix ix_list ha hb hs) fun Hb own B σ H Q E q => ⟨Hb, own, B, E, fun x H1 s1 rx => ⟨Hb, own, B, E.mono s1, fun y H2 s2 ry => by
    obtain ⟨p, vs, rfl, _, h3, h4⟩ := rx.up s2
    have hl := h4.length
    rw [List.getLast?_eq_getElem?] at hd
    obtain ⟨v, hv, rv⟩ := h4.at hd
    rw [hl, ← List.getLast?_eq_getElem?] at hv
    exact ⟨p, vs, -1, v, rfl, ry, SqL.of h3, atI_neg1 hv, q v H2 (s1.trans s2) rv⟩⟩⟩
theorem s1_extend (i : Nat) {px apos cpos : Pos} {oa : Option Addr} (hδ : δ[i]? = some (.own oa (.l xs))) (he : EvD X δ e (.list ys)) (hz : xs.length + ys.length ≤ 1000) (hN : X.N[i]? = some x := by rfl) (hv : Vis X.env.scope x := by first | exact Or.inl rfl | exact Or.inr (Or.inl rfl) | exact Or.inr (Or.inr rfl)) (hd : (x == ("__debug__" : Str)) = false := by decide)
    (hcd : (x == ("__classdict__" : Str)) = false := by decide) (hst : starEach [e] X.env = [(false, eval e X.env)] := by rfl)
    (hb : ∀ {te : TE} {t : TA}, PE X (.Name x px) te → PA X [e] t → PE X (.Call (.Attribute (.Name x px) "extend" apos) [e] [] cpos) (tBM X.K "list" rExtend te t) := by exact fun h1 h2 => pe_bm PySem.F.plainAttrs_list PySem.F.slot_list_extend PySem.F.type_list_extend mt_extend h1 h2)
    (hsw : swapsWith (.Call (.Attribute (.Name x px) "extend" apos) [e] [] cpos) none pos.line X.env = pure false := by rfl) :
    S1 X δ (.Expr (.Call (.Attribute (.Name x px) "extend" apos) [e] [] cpos) pos) (.nx (δ.set i (.own oa (.l (xs ++ ys))))) :=
  fun pins s σ H D I hh58 => Zz.a5 hh58 fun Hb own B E P => ps_expr (hb (pe_var hN hv hd hcd) (ea_cons he ea_nil (by rw [hst]; rfl))) hsw pins s σ H D I (by
    obtain ⟨a, vs, h1, h2, h3, h4⟩ := E.owl hδ
    refine ⟨_, h2, .inl ⟨rfl, vs, SqL.of h3⟩, Hb, own, B, E, fun us H' s1 r => ?_⟩
    obtain ⟨v, r', rfl, ⟨b, ws, rfl, hb1, hb2, hb3⟩, e2⟩ := r
    cases e2
    exact ⟨a, b, vs, ws, rfl, rfl, s1 _ _ h3, hb2, by rw [← h4.length, ← hb3.length]; exact Nat.le_of_lt (small1000 hz), P _ _ _ ((E.mono s1).write hδ h1 ((h4.up s1).append hb3))⟩)
end
end L2
end
section
namespace L2
open PySem PySem.Spec PyProof.Rows
theorem RepOs.nth {K : PySem.W.Frag} {A : Addr → Prop} {H : Hp} {t : OT} : ∀ {ts : List OT} {vs : List V} {as : List Addr} {k : Nat}, ts[k]? = some t → RepOs K A H ts vs as → ∃ v bs, vs[k]? = some v ∧ (∀ a ∈ bs, a ∈ as) ∧ RepO K A H t v bs
  | [], _, _, _, h, _ => by cases h
  | x :: xs, _, _, k, h, r => by
    obtain ⟨v, r', bs, cs, rfl, rfl, h2, h3⟩ := r
    cases k with
    | zero =>
      cases h
      exact ⟨v, bs, rfl, fun a ha => List.mem_append_left _ ha, h2⟩
    | succ k =>
      obtain ⟨v', bs', q1, q2, q3⟩ := RepOs.nth (by simpa using h) h3
      exact ⟨v', bs', by simpa using q1, fun a ha => List.mem_append_right _ (q2 a ha), q3⟩
section
variable {X : Cx} {δ δ1 : Dn} {a b c e ix tg : Expr} {d da db : PyData} {pos : Pos} {xs ys : List PyData} {x y : Str} {ts : List OT}
theorem ef_ixN {i : Int} (ha : ExD X δ a (.t ts) []) (hb : EvD X δ b (.int i)) (h0 : 0 ≤ i) (hk : ts[i.toNat]? = some (.l (xs.map .sh))) (hsc : xs.all scalD = true) (hs : PlainIx b := by exact fun _ _ => rfl) : EvF X δ (.Subscript a b pos) xs :=
  fun pins s σ H Q I hh59 => Zz.a5 hh59 fun Hb own B E q => pe_ix ix_tup ha hb hs pins s σ H Q I ⟨Hb, own, B, E, fun v as H1 s1 h1 nd r => ⟨Hb, own, B, E.mono s1, fun y H2 s2 ry => by
    obtain ⟨p, vs, rfl, h3, h4⟩ := r
    obtain ⟨u, bs, q1, q2, a', us, bs', rfl, rfl, q3, q4⟩ := RepOs.nth hk h4
    have hn : H a' = none := by
      rcases h1 a' (q2 a' List.mem_cons_self) with z | ⟨_, z, _⟩
      · exact z
      · cases z
    exact ⟨p, vs, i, .ref a', rfl, ry, SqT.of (s2 _ _ h3), atI_of h0 q1, q a' us H2 (s1.trans s2) hn (s2 _ _ q3) ((reps_scal hsc (repOs_sh q4).2).up s2)⟩⟩⟩
end
end L2
end
section
namespace L2
open PySem PySem.Spec PyProof.Rows
section
variable {X : Cx} {δ : Dn} {a : Expr} {ta : TA} {p p' pos pos' : Pos}
end
end L2
end
section
namespace L3
open PySem
noncomputable abbrev Ris (xs : Array Nat) : Prop := xs.toList.Pairwise (· < ·)
theorem ris_lt {xs : Array Nat} (h : Ris xs) {i j a b : Nat} (hij : i < j) (ha : xs[i]? = some a) (hb : xs[j]? = some b) : a < b := by
  rw [← Array.getElem?_toList] at ha hb
  obtain ⟨h1, e1⟩ := List.getElem?_eq_some_iff.mp ha
  obtain ⟨h2, e2⟩ := List.getElem?_eq_some_iff.mp hb
  have := List.pairwise_iff_getElem.mp h i j h1 h2 hij
  rw [e1, e2] at this; exact this
noncomputable def Cut (xs : Array Nat) (j r : Nat) : Prop := r ≤ xs.size ∧ (∀ i a, i < r → xs[i]? = some a → a < j) ∧ (∀ i a, r ≤ i → xs[i]? = some a → j ≤ a)
theorem below_go {xs : Array Nat} (h : Ris xs) (j : Nat) : ∀ (f lo hi : Nat), hi - lo ≤ f → lo ≤ hi → hi ≤ xs.size → (∀ i a, i < lo → xs[i]? = some a → a < j) → (∀ i a, hi ≤ i → xs[i]? = some a → j ≤ a) → Cut xs j (SetTable.below.go xs j f lo hi)
  | 0, lo, hi, hf, hl, hs, h1, h2 => by
    have : lo = hi := by omega
    subst this
    exact ⟨hs, h1, h2⟩
  | f + 1, lo, hi, hf, hl, hs, h1, h2 => by
    unfold SetTable.below.go
    by_cases hlt : lo < hi
    · rw [if_pos hlt]
      have hm : (lo + hi) / 2 < xs.size := by omega
      have hg : xs[(lo + hi) / 2]? = some (xs.getD ((lo + hi) / 2) j) := by simp [Array.getD, hm]
      show Cut xs j (if xs.getD ((lo + hi) / 2) j < j then _ else _)
      generalize hmid : (lo + hi) / 2 = mid at *
      generalize hv : xs.getD mid j = v at *
      split
      · rename_i hlt2
        refine below_go h j f (mid + 1) hi (by omega) (by omega) hs (fun i a hi' ha => ?_) h2
        rcases Nat.lt_or_ge i mid with q | q
        · exact Nat.lt_trans (ris_lt h q ha hg) hlt2
        · have : i = mid := by omega
          subst this; rw [hg] at ha; cases ha; exact hlt2
      · rename_i hge
        refine below_go h j f lo mid (by omega) (by omega) (by omega) h1 (fun i a hi' ha => ?_)
        rcases Nat.lt_or_ge mid i with q | q
        · have := ris_lt h q hg ha; omega
        · have : i = mid := by omega
          subst this; rw [hg] at ha; cases ha; omega
    · rw [if_neg hlt]
      have : lo = hi := by omega
      subst this
      exact ⟨hs, h1, h2⟩
theorem below_cut {xs : Array Nat} (h : Ris xs) (j : Nat) : Cut xs j (SetTable.below xs j) :=
  below_go h j xs.size 0 xs.size (by omega) (by omega) (by omega) (fun i a hi _ => by omega) (fun i a hi ha => by rw [Array.getElem?_eq_none hi] at ha; cases ha)
theorem cut_inj {xs : Array Nat} {j r r' : Nat} (c : Cut xs j r) (c' : Cut xs j r') : r = r' := by
  rcases Nat.lt_trichotomy r r' with q | q | q
  · have hr : r < xs.size := Nat.lt_of_lt_of_le q c'.1
    have a := c.2.2 r xs[r] (Nat.le_refl _) (by simp [hr])
    have b := c'.2.1 r xs[r] q (by simp [hr])
    omega
  · exact q
  · have hr : r' < xs.size := Nat.lt_of_lt_of_le q c.1
    have a := c'.2.2 r' xs[r'] (Nat.le_refl _) (by simp [hr])
    have b := c.2.1 r' xs[r'] q (by simp [hr])
    omega
noncomputable def slotOf (xs : Array Nat) : Nat → Nat
  | 0 => 0
  | i + 1 => xs.getD i 0 + 1
theorem below_slotOf {xs : Array Nat} (h : Ris xs) (i : Nat) (hi : i ≤ xs.size) : SetTable.below xs (slotOf xs i) = i := by
  refine cut_inj (below_cut h _) ⟨hi, fun k a hk ha => ?_, fun k a hk ha => ?_⟩
  · cases i with
    | zero => omega
    | succ i =>
      have hg : xs[i]? = some (xs.getD i 0) := by simp [Array.getD, show i < xs.size by omega]
      show a < xs.getD i 0 + 1
      rcases Nat.lt_or_ge k i with q | q
      · have := ris_lt h q ha hg; omega
      · have : k = i := by omega
        subst this; rw [hg] at ha; cases ha; omega
  · cases i with
    | zero => exact Nat.zero_le _
    | succ i =>
      have hg : xs[i]? = some (xs.getD i 0) := by simp [Array.getD, show i < xs.size by omega]
      show xs.getD i 0 + 1 ≤ a
      exact ris_lt h (show i < k by omega) hg ha
theorem ris_insert {xs : Array Nat} (h : Ris xs) (j : Nat) (hn : xs[SetTable.below xs j]? ≠ some j) : Ris (SetTable.insertAt xs (SetTable.below xs j) j) := by
  unfold Ris
  rw [SetTable.toList_insertAt]
  have c := below_cut h j
  generalize SetTable.below xs j = r at *
  have hlo : ∀ a ∈ xs.toList.take r, a < j := fun a ha => by
    obtain ⟨i, hi, e⟩ := List.mem_iff_getElem.mp ha
    have hi' : i < r ∧ i < xs.toList.length := by rw [List.length_take] at hi; omega
    refine c.2.1 i a hi'.1 ?_
    rw [← Array.getElem?_toList, List.getElem?_eq_getElem hi'.2, ← e]; simp
  have hhi : ∀ a ∈ xs.toList.drop r, j < a := fun a ha => by
    obtain ⟨i, hi, e⟩ := List.mem_iff_getElem.mp ha
    have hi' : r + i < xs.toList.length := by rw [List.length_drop] at hi; omega
    have hg : xs[r + i]? = some a := by rw [← Array.getElem?_toList, List.getElem?_eq_getElem hi', ← e]; simp
    have := c.2.2 (r + i) a (by omega) hg
    rcases Nat.lt_or_ge j a with q | q
    · exact q
    · have haj : a = j := by omega
      subst haj
      cases i with
      | zero => exact absurd hg hn
      | succ i =>
        have hr : r < xs.size := by rw [Array.length_toList] at hi'; omega
        have h1 := c.2.2 r xs[r] (Nat.le_refl _) (by simp [hr])
        have h2 := ris_lt h (show r < r + (i + 1) by omega) (show xs[r]? = some xs[r] by simp [hr]) hg
        omega
  have hall : (xs.toList.take r ++ xs.toList.drop r).Pairwise (· < ·) := by rw [List.take_append_drop]; exact h
  rw [List.pairwise_append] at hall
  rw [List.pairwise_append]
  refine ⟨hall.1, List.pairwise_cons.mpr ⟨fun a ha => hhi a ha, hall.2.1⟩, fun a ha b hb => ?_⟩
  rcases List.mem_cons.mp hb with rfl | hb
  · exact hlo a ha
  · exact Nat.lt_trans (hlo a ha) (hhi b hb)
theorem ris_range (n : Nat) : Ris (Array.range n) := by
  show ((Array.range n).toList).Pairwise _
  rw [Array.toList_range]; exact List.pairwise_lt_range
noncomputable def NLive (t : SetTable) (j : Nat) : Prop := t.place[SetTable.below t.place j]? ≠ some j
theorem nlive_of {t : SetTable} {j : Nat} (h : ∀ i, t.slot j ≠ .live i) : NLive t j := fun e => by
  apply h (SetTable.below t.place j)
  unfold SetTable.slot
  simp [e]
theorem probe_nlive {t : SetTable} {ha : Nat → Int} {h : Int} : ∀ (f : Nat) (p : SetTable.Probe) (j : Nat) (d : Option Nat), (∀ x, p.dummy = some x → NLive t x) → SetTable.probe.go t ha h f p = some (.empty j d) → NLive t (d.getD j)
  | 0, p, j, d, hp, e => by unfold SetTable.probe.go at e; cases e
  | f + 1, p, j, d, hp, e => by
    unfold SetTable.probe.go at e
    split at e
    · rename_i hs
      cases e
      cases hd : p.dummy with
      | none => exact nlive_of fun i q => by
                  have q' : t.slot p.j = .live i := q
                  rw [hs] at q'; cases q'
      | some x => exact hp x hd
    · rename_i hs
      refine probe_nlive f _ j d (fun x hx => ?_) e
      have : (t.advance { p with dummy := some p.j }).dummy = some p.j := by unfold SetTable.advance; split <;> rfl
      rw [this] at hx; cases hx
      exact nlive_of fun i q => by rw [hs] at q; cases q
    · split at e
      · cases e
      · refine probe_nlive f _ j d (fun x hx => ?_) e
        have : (t.advance p).dummy = p.dummy := by unfold SetTable.advance; split <;> rfl
        rw [this] at hx; exact hp x hx
theorem free_nlive {t : SetTable} {h : Int} {j : Nat} {b : Bool} (e : t.freeSlot h = some (j, b)) : NLive t j := by
  unfold SetTable.freeSlot at e
  split at e
  · rename_i j' d hq
    cases e
    exact probe_nlive _ _ _ _ (fun x hx => by cases hx) hq
  · cases e
structure TG (b : Bool) (t : SetTable) : Prop where
  ris : Ris t.place
  led : t.led = true ∨ b = true
theorem tg_standIn {b : Bool} {t : SetTable} (g : TG b t) (n : Nat) : TG b (t.standIn n) := ⟨ris_range n, g.led⟩
theorem tg_layNew {b : Bool} {t : SetTable} (g : TG b t) (es : Array (Int × Value)) (h : Int) (x : Value) : TG b (layNew t es h x).2.1 := by
  unfold layNew
  split
  · rename_i slot wd hq
    have gp : TG b (t.put slot).1 := ⟨ris_insert g.ris slot (free_nlive hq), g.led⟩
    show TG b (SetTable.orStandIn _ _)
    unfold SetTable.orStandIn
    split
    · exact gp
    · exact tg_standIn gp _
  · exact tg_standIn g _
theorem laid_ris {mask finger moves : Nat} {led plain : Bool} {hs : Array Int} {t : SetTable} {ord : Array Nat} (e : SetTable.laid mask finger moves led plain hs = some (t, ord)) : Ris t.place ∧ t.led = led := by
  unfold SetTable.laid at e
  cases hl : SetTable.layClean mask hs with
  | none => rw [hl] at e; cases e
  | some owner =>
    rw [hl] at e
    cases e
    refine ⟨?_, rfl⟩
    show (List.map _ (List.filterMap _ (List.range (mask + 1)))).Pairwise (· < ·)
    have : ∀ l : List Nat, l.Pairwise (· < ·) → (List.map (fun x : Nat × Nat => x.1) (List.filterMap (fun j => (owner.getD j none).map (fun y => (j, y))) l)).Pairwise (· < ·) ∧ ∀ a ∈ List.map (fun x : Nat × Nat => x.1) (List.filterMap (fun j => (owner.getD j none).map (fun y => (j, y))) l), a ∈ l := by
      intro l
      induction l with
      | nil => intro _; simp
      | cons a l ih =>
        intro hp
        have ih' := ih (List.pairwise_cons.mp hp).2
        rw [List.filterMap_cons]
        split
        · exact ⟨ih'.1, fun a' h' => List.mem_cons_of_mem _ (ih'.2 a' h')⟩
        · rename_i b hb
          obtain ⟨y, hy⟩ : ∃ y, b = (a, y) := by
            cases ho : owner.getD a none with
            | none => rw [ho] at hb; cases hb
            | some y => rw [ho] at hb; cases hb; exact ⟨y, rfl⟩
          subst hy
          rw [List.map_cons]
          refine ⟨List.pairwise_cons.mpr ⟨fun c hc => (List.pairwise_cons.mp hp).1 c (ih'.2 c hc), ih'.1⟩, fun c hc => ?_⟩
          rcases List.mem_cons.mp hc with rfl | hc
          · exact List.mem_cons_self
          · exact List.mem_cons_of_mem _ (ih'.2 c hc)
    exact (this _ List.pairwise_lt_range).1
theorem tg_relay {b : Bool} {t : SetTable} (g : TG b t) (es : Array (Int × Value)) (n : Nat) : TG b (relayAll t es n).2.1 := by
  unfold relayAll
  split
  · rename_i t' ord hq
    have hl := laid_ris hq
    dsimp only
    split
    · exact ⟨hl.1, by rw [hl.2]; exact g.led⟩
    · exact tg_standIn g _
  · exact tg_standIn g _
theorem perm_idx {α : Type} : ∀ (l : List α) (i : Nat) (h : i < l.length), ([l[i]] ++ l.eraseIdx i).Perm l
  | a :: l, 0, h => by simp
  | a :: l, i + 1, h => by
    have ih := perm_idx l i (by simpa using h)
    simp only [List.getElem_cons_succ, List.eraseIdx_cons_succ, List.singleton_append] at ih ⊢
    exact (List.Perm.swap a (l[i]'(by simpa using h)) _).trans (ih.cons a)
theorem pick_go {α : Type} (next : Nat → Nat) : ∀ (f k : Nat) (left : List α) (out : Array α), left.length = f → ((pickOrder.go next f k left out).toList).Perm (out.toList ++ left)
  | 0, k, left, out, h => by
    have : left = [] := List.eq_nil_of_length_eq_zero h
    subst this
    unfold pickOrder.go
    rw [List.append_nil]
  | f + 1, k, left, out, h => by
    have hlt : next k % left.length < left.length := Nat.mod_lt _ (by omega)
    unfold pickOrder.go
    rw [List.getElem?_eq_getElem hlt]
    dsimp only
    refine (pick_go next f (k + 1) _ _ (by rw [List.length_eraseIdx, if_pos hlt]; omega)).trans ?_
    rw [Array.toList_push, List.append_assoc]
    refine List.Perm.append_left _ ?_
    exact perm_idx left _ hlt
theorem pick_perm {α : Type} (next : Nat → Nat) (xs : Array α) : (pickOrder next xs).toList.Perm xs.toList := by
  unfold pickOrder
  simpa using pick_go next xs.size 0 xs.toList #[] (by simp)
end L3
end
section
set_option autoImplicit false
namespace L3
open PySem
noncomputable def ddup (ks : List Int) (k : Int) : List Int := if ks.any (· == k) = true then ks else ks ++ [k]
noncomputable def kof : Value → Int
  | .int k _ => k
  | _ => 0
section
variable {prog : Program} {w : World} {A : Around} {E : Value → Shared → Prop} {s : Shared}
noncomputable def byTxt (w : World) : Bool := w.params.followText "set-order"
noncomputable def SetAt (prog : Program) (w : World) (h : Heap) (a : Addr) (es : Array (Int × Value)) (ep : Nat) (t : SetTable) : Prop :=
  (∃ o, h.get? a = some o ∧ o.ExactSet ∧ o.data = .set es ep t) ∧ ElemsOf (intKind prog w) es.toList ∧ t.fits es.size = true ∧ TG (byTxt w) t
noncomputable def SetZ (prog : Program) (w : World) (h : Heap) (a : Addr) (ks : List Int) : Prop :=
  ∃ es ep t, SetAt prog w h a es ep t ∧ (es.toList.map fun e => kof e.2).Perm ks
theorem SetAt.at {h h' : Heap} {a : Addr} {es : Array (Int × Value)} {ep : Nat} {t : SetTable} (x : SetAt prog w h a es ep t) (k : ∀ o, h.get? a = some o → h'.get? a = some o) : SetAt prog w h' a es ep t := by
  obtain ⟨⟨o, ho, r⟩, q⟩ := x
  exact ⟨⟨o, k o ho, r⟩, q⟩
theorem SetZ.at {h h' : Heap} {a : Addr} {ks : List Int} (x : SetZ prog w h a ks) (k : ∀ o, h.get? a = some o → h'.get? a = some o) : SetZ prog w h' a ks := by
  obtain ⟨es, ep, t, q, p⟩ := x
  exact ⟨es, ep, t, q.at k, p⟩
theorem kof_is {k : Int} {v : Value} (h : (intKind prog w).is k v = true) : kof v = k := by
  obtain ⟨t, rfl⟩ := Value.isInt_shape h; rfl
theorem sx_stored {h : Heap} {a : Addr} {o : Obj} {es : Array (Int × Value)} {ep : Nat} {t : SetTable} (ho : h.get? a = some o) (hex : o.ExactSet) (hd : o.data = .set es ep t)
    {es' : Array (Int × Value)} {t' : SetTable} (he : ElemsOf (intKind prog w) es'.toList) (hf : t'.fits es'.size = true) (hg : TG (byTxt w) t') :
    ∃ o', (h.update a (Obj.putSet es' t')).get? a = some o' ∧ o'.ExactSet ∧ o'.data = .set es' (ep + 1) t' := by
  have e := Heap.get?_update_self (Obj.putSet es' t') ho (by rw [putSet_of es' t' hd]; rfl)
  rw [putSet_of es' t' hd] at e
  exact ⟨_, e, hex, rfl⟩
theorem sx_tail {g : Bool → Sem Unit} (hg : ∀ (b : Bool) (s₁ : Shared) (Q' : Unit → Shared → Prop), Q' () s₁ → wpAny (model prog w) A (g b) Q' E s₁)
    {a : Addr} {o : Obj} {es : Array (Int × Value)} {ep : Nat} {t : SetTable} (ho : s.heap.get? a = some o) (hex : o.ExactSet) (hd : o.data = .set es ep t)
    {es1 : Array (Int × Value)} {t2 : SetTable} (he : ElemsOf (intKind prog w) es1.toList) (hb : es1.size < scanBound) (hf : t2.fits es1.size = true) (hgd : TG (byTxt w) t2) {wd : Bool} {R : Option Bool → Shared → Prop}
    (h : ∀ h' es2 ep2 t3, Heap.SameBut a s.heap h' → SetAt prog w h' a es2 ep2 t3 → es2.toList.Perm es1.toList → R (some true) { s with heap := h' }) :
    wpAny (model prog w) A (do
        storeSet a es1 t2
        if (!wd && t2.tooFull) = true then do
            g (relayAll t2 es1 (SetTable.grown es1.size)).2.2
            storeSet a (relayAll t2 es1 (SetTable.grown es1.size)).1 (relayAll t2 es1 (SetTable.grown es1.size)).2.1
            pure (some true)
          else pure (some true)) R E s := by
  refine wpAny_bind (wpAny_storeSet_of ho hd ?_ (fits_of_scanBound hb))
  obtain ⟨o1, e1, x1, d1⟩ := sx_stored (w := w) (prog := prog) ho hex hd he hf hgd
  have sb := Heap.SameBut.update s.heap a (Obj.putSet es1 t2)
  split
  · have rp := relayAll_perm t2 es1 (SetTable.grown es1.size)
    have rf := relayAll_fits t2 es1 (SetTable.grown es1.size)
    have rg := tg_relay hgd es1 (SetTable.grown es1.size)
    generalize relayAll t2 es1 (SetTable.grown es1.size) = Z at rp rf rg ⊢
    obtain ⟨es2, t3, gv⟩ := Z
    have rb : es2.size < scanBound := by
      have := rp.length_eq
      simp only [Array.length_toList] at this
      rw [this]; exact hb
    have he2 : ElemsOf (intKind prog w) es2.toList := he.perm rp
    refine wpAny_bind (hg _ _ _ (wpAny_bind (wpAny_storeSet_of e1 d1 ?_ (fits_of_scanBound rb))))
    refine wpAny_pure (h _ es2 _ t3 (sb.trans (Heap.SameBut.update _ a _)) ⟨sx_stored (w := w) (prog := prog) e1 x1 d1 he2 rf rg, he2, rf, rg⟩ rp)
  · exact wpAny_pure (h _ es1 _ t2 sb ⟨⟨o1, e1, x1, d1⟩, he, hf, hgd⟩ (List.Perm.refl _))
theorem sx_add {a : Addr} {ks : List Int} {k : Int} {tk : Tok} {Q : Bool → Shared → Prop} (hS : SetZ prog w s.heap a ks) (hroom : ks.length + 1 < scanBound)
    (h : ∀ h' b, Heap.SameBut a s.heap h' → SetZ prog w h' a (ddup ks k) → Q b { s with heap := h' }) : wpAny (model prog w) A (setAddHashed a (.int k tk) (hashInt k)) Q E s := by
  obtain ⟨es, ep, t, ⟨⟨o, ho, hex, hd⟩, hel, hf, hg⟩, hp⟩ := hS
  have hz : es.size = ks.length := by have := hp.length_eq; simpa using this
  have hb : es.size < scanBound := by omega
  have hki : (intKind prog w).is k (.int k tk) = true := intKind_is _ _ _ _
  have hmem : ∀ k', k' ∈ ks ↔ ∃ e ∈ es.toList, (intKind prog w).is k' e.2 = true := fun k' => by
    rw [← hp.mem_iff, List.mem_map]
    constructor
    · rintro ⟨e, he, rfl⟩
      obtain ⟨⟨k2, h2, _⟩, _⟩ := hel e he
      exact ⟨e, he, by rw [kof_is h2]; exact h2⟩
    · rintro ⟨e, he, q⟩
      exact ⟨e, he, kof_is q⟩
  unfold setAddHashed setAddHashedIn
  refine wpAny_holding (wpAny_bind (wpAny_setState_of ho hd hf ?_))
  dsimp only
  rw [byScan_of (knd := intKind prog w) (x := .int k tk) rfl hb hel, if_pos rfl]
  unfold setAddByScan
  refine wpAny_bind (wpAny_bind (wpAny_rule (wpAny_bind (wpAny_setScan_of (knd := intKind prog w) hki ho hd hf hel ?_))))
  cases hr : List.findIdx? (fun e => (intKind prog w).is k e.2) es.toList with
  | some j =>
    dsimp only
    obtain ⟨hj, q, _⟩ := List.findIdx?_eq_some_iff_getElem.mp hr
    have hk : k ∈ ks := (hmem k).mpr ⟨_, List.getElem_mem hj, q⟩
    have hd2 : ddup ks k = ks := by unfold ddup; rw [if_pos (by simpa using hk)]
    refine wpAny_pure (wpAny_pure ?_)
    exact h s.heap false (Heap.SameBut.refl a s.heap) (by rw [hd2]; exact ⟨es, ep, t, ⟨⟨o, ho, hex, hd⟩, hel, hf, hg⟩, hp⟩)
  | none =>
    dsimp only
    have hk : k ∉ ks := fun z => by
      obtain ⟨e, he, q⟩ := (hmem k).mp z
      have := List.findIdx?_eq_none_iff.mp hr e he
      rw [q] at this; cases this
    have hd2 : ddup ks k = ks ++ [k] := by unfold ddup; rw [if_neg (by simpa using hk)]
    have lp := layNew_perm t es (hashInt k) (.int k tk)
    have lf := layNew_fits t es (hashInt k) (.int k tk)
    have lg := tg_layNew hg es (hashInt k) (.int k tk)
    generalize layNew t es (hashInt k) (.int k tk) = Z at lp lf lg ⊢
    obtain ⟨es1, t1, wd, gv⟩ := Z
    dsimp only at lp lf lg ⊢
    rw [Array.toList_push] at lp
    have he1 : ElemsOf (intKind prog w) es1.toList := (hel.push hki rfl).perm lp
    have hz1 : es1.size = es.size + 1 := by
      have := lp.length_eq
      simpa using this
    have hb1 : es1.size < scanBound := by omega
    have hp1 : ∀ es2 : Array (Int × Value), es2.toList.Perm es1.toList → (es2.toList.map fun e => kof e.2).Perm (ddup ks k) := fun es2 q => by
      rw [hd2]
      refine ((q.trans lp).map _).trans ?_
      rw [List.map_append]
      exact hp.append (List.Perm.refl _)
    have hgw : ∀ (b : Bool) (s₁ : Shared) (Q' : Unit → Shared → Prop), Q' () s₁ → wpAny (model prog w) A (match b with | true => rule "set.scan.the-table-gave-way" | false => pure ()) Q' E s₁ :=
      fun b s₁ Q' hq => by
        cases b
        · exact wpAny_pure hq
        · exact wpAny_rule hq
    refine wpAny_bind (hgw _ _ _ ?_)
    have fin : ∀ h' es2 ep2 t3, Heap.SameBut a s.heap h' → SetAt prog w h' a es2 ep2 t3 → es2.toList.Perm es1.toList → Q true { s with heap := h' } := fun h' es2 ep2 t3 x1 x2 x3 => h h' true x1 ⟨es2, ep2, t3, x2, hp1 es2 x3⟩
    split
    · refine wpAny_bind ?_
      rw [hashByValue_scannable 8 (x := .int k tk) rfl]
      refine wpAny_pure ?_
      refine sx_tail ?_ ho hex hd he1 hb1 (t2 := if plainKind (.int k tk) then t1 else { t1 with plain := false }) lf lg ?_
      · exact hgw
      · intro h' es2 ep2 t3 x1 x2 x3
        exact wpAny_pure (fin h' es2 ep2 t3 x1 x2 x3)
    · refine wpAny_bind (wpAny_pure ?_)
      refine sx_tail ?_ ho hex hd he1 hb1 (t2 := t1) lf lg ?_
      · exact hgw
      · intro h' es2 ep2 t3 x1 x2 x3
        exact wpAny_pure (fin h' es2 ep2 t3 x1 x2 x3)
end
end L3
end
section
set_option autoImplicit false
namespace L3
open PySem
namespace F
theorem own_si : Manifest.owners.lookup (String.ofList ['r', 'o', 't', 'a', 'r', 'e', 't', 'i', '_', 't', 'e', 's'].reverse) = some Manifest.sig_set_iterator := by kernel_rfl
theorem sl_si_next : Slot "set_iterator" "__next__" "set_iterator.__next__" := .of (owner := "set_iterator") (n := "__next__") (by rw [typeLookup_type, builtinLookup_eq_fast]; kernel_rfl)
  (by decide +kernel) (by decide +kernel) (by decide +kernel) (.inl (by decide +kernel)) (by rw [isSubtype_type]; kernel_rfl)
theorem en_si_next : entryFor table "set_iterator.__next__" = some Builtin.«set_iterator.__next__» := entryFor_of_tree (by kernel_rfl)
theorem ar_si_next (a : Value) : argsOk "set_iterator.__next__" ⟨[a], []⟩ := by
  unfold argsOk
  rw [signature?_of (id := "set_iterator.__next__") (n := ['_', '_', 't', 'x', 'e', 'n', '_', '_']) (o := ['r', 'o', 't', 'a', 'r', 'e', 't', 'i', '_', 't', 'e', 's']) (by kernel_rfl) own_si]
  kernel_rfl
theorem sl_si_iter : Slot "set_iterator" "__iter__" "set_iterator.__iter__" := .of (owner := "set_iterator") (n := "__iter__") (by rw [typeLookup_type, builtinLookup_eq_fast]; kernel_rfl)
  (by decide +kernel) (by decide +kernel) (by decide +kernel) (.inl (by decide +kernel)) (by rw [isSubtype_type]; kernel_rfl)
theorem en_si_iter : entryFor table "set_iterator.__iter__" = some Builtin.«dict_keyiterator.__iter__» :=
  entryFor_alias (id' := "dict_keyiterator.__iter__") (by kernel_rfl) rfl (by decide +kernel) (by kernel_rfl)
theorem ar_si_iter (a : Value) : argsOk "set_iterator.__iter__" ⟨[a], []⟩ := by
  unfold argsOk
  rw [signature?_of (id := "set_iterator.__iter__") (n := ['_', '_', 'r', 'e', 't', 'i', '_', '_']) (o := ['r', 'o', 't', 'a', 'r', 'e', 't', 'i', '_', 't', 'e', 's']) (by kernel_rfl) own_si]
  kernel_rfl
theorem en_set_iter : entryFor table "set.__iter__" = some Builtin.«frozenset.__iter__» := entryFor_alias (id' := "frozenset.__iter__") (by kernel_rfl) rfl (by decide +kernel) (by kernel_rfl)
end F
section
variable {prog : Program} {w : World} {A : Around} {E : Value → Shared → Prop} {s : Shared} {es : Array (Int × Value)} {ep : Nat} {t : SetTable} {a : Addr}
noncomputable def IsSI (h : Heap) (it a : Addr) (f : Value) (i n ep : Nat) : Prop := ∃ o, h.get? it = some o ∧ o.cls = .type "set_iterator" ∧ o.data = .fields #[f, .int i 0, .ref a, .int n 0, .int ep 0]
theorem IsSI.ty {it : Addr} {f : Value} {i n : Nat} (x : IsSI s.heap it a f i n ep) : s.TypeIs (.ref it) "set_iterator" := let ⟨o, ho, hc, _⟩ := x; ⟨o, ho, hc⟩
theorem IsSI.at {h h' : Heap} {it : Addr} {f : Value} {i n : Nat} (x : IsSI h it a f i n ep) (k : ∀ o, h.get? it = some o → h'.get? it = some o) : IsSI h' it a f i n ep := let ⟨o, ho, r⟩ := x; ⟨o, k o ho, r⟩
theorem si_field {h : Heap} {it : Addr} {o : Obj} {vs : Array Value} {j : Nat} {v : Value} (ho : h.get? it = some o) (hd : o.data = .fields vs) :
    ∃ o', (h.update it (Obj.mapFields (·.setIfInBounds j v))).get? it = some o' ∧ o'.cls = o.cls ∧ o'.data = .fields (vs.setIfInBounds j v) :=
  ⟨_, Heap.get?_update_self _ ho (Obj.isFreed_of_fields (Obj.data_mapFields hd _)), Obj.cls_mapFields .., Obj.data_mapFields hd _⟩
theorem si_item {it : Addr} {i sl sl' : Nat} {x : Value} {Q : Option Value → Shared → Prop} (hit : IsSI s.heap it a (.int sl 0) i es.size ep) (hS : SetAt prog w s.heap a es ep t)
    (hx : ∀ (A' : Around) (E' : Value → Shared → Prop) (Q' : Option (Value × Nat) → Shared → Prop), Q' (some (x, sl')) s → wpAny (model prog w) A' (setNext a sl i ep) Q' E' s)
    (hQ : ∀ h', IsSI h' it a (.int sl' 0) (i + 1) es.size ep → Heap.SameBut it s.heap h' → Q (some x) { s with heap := h' }) : wpAny (model prog w) A (pyNext (.ref it)) Q E s := by
  obtain ⟨o, ho, hc, hd⟩ := id hit
  obtain ⟨⟨os, hos, _, hds⟩, _, hf, _⟩ := id hS
  unfold pyNext
  refine wpAny_bind (wpAny_attempt (wpAny_callSpecial?_slot (name := Str.ofString "__next__") hit.ty F.sl_si_next (wpAny_call_entry F.sl_si_next hit.ty F.en_si_next ?_ (F.ar_si_next _))))
  unfold Builtin.«set_iterator.__next__»
  refine wpAny_bind (m := slotArgs _ _ _) (wpAny_pure ?_)
  refine wpAny_bind (wpAny_fieldsOf ho hd ?_)
  dsimp only
  refine wpAny_bind (wpAny_setEntries_of hos hds hf ?_)
  rw [if_neg (by simp)]
  refine wpAny_bind (hx _ _ _ ?_)
  dsimp only
  refine wpAny_bind (wpAny_setField ho hd (by simp) ?_)
  obtain ⟨o1, e1, c1, d1⟩ := si_field (j := 0) (v := rawInt sl') ho hd
  refine wpAny_bind (wpAny_setField (s := { s with heap := _ }) e1 d1 (by simp) ?_)
  obtain ⟨o2, e2, c2, d2⟩ := si_field (j := 1) (v := rawInt ((i : Int) + 1)) e1 d1
  refine wpAny_pure ⟨_, rfl, wpAny_pure (hQ _ ⟨o2, e2, c2.trans (c1.trans hc), ?_⟩ ((Heap.SameBut.update ..).trans (Heap.SameBut.update ..)))⟩
  rw [d2]; simp [rawInt]
theorem si_stop {it : Addr} {f : Value} {i : Nat} {Q : Option Value → Shared → Prop} (hh : A.handled = none) (hit : IsSI s.heap it a f i es.size ep) (hS : SetAt prog w s.heap a es ep t)
    (hx : ∃ sl, f = .int sl 0 ∧ ∀ (A' : Around) (E' : Value → Shared → Prop) (Q' : Option (Value × Nat) → Shared → Prop), Q' none s → wpAny (model prog w) A' (setNext a sl.toNat i ep) Q' E' s)
    (hQ : ∀ h', Heap.ExtBut it s.heap h' → Q none { s with heap := h' }) : wpAny (model prog w) A (pyNext (.ref it)) Q E s := by
  obtain ⟨o, ho, hc, hd⟩ := id hit
  obtain ⟨⟨os, hos, _, hds⟩, _, hf, _⟩ := id hS
  obtain ⟨sl, rfl, hx⟩ := hx
  unfold pyNext
  refine wpAny_bind (wpAny_attempt (wpAny_callSpecial?_slot (name := Str.ofString "__next__") hit.ty F.sl_si_next (wpAny_call_entry F.sl_si_next hit.ty F.en_si_next ?_ (F.ar_si_next _))))
  unfold Builtin.«set_iterator.__next__»
  refine wpAny_bind (m := slotArgs _ _ _) (wpAny_pure ?_)
  refine wpAny_bind (wpAny_fieldsOf ho hd ?_)
  dsimp only
  refine wpAny_bind (wpAny_setEntries_of hos hds hf ?_)
  rw [if_neg (by simp)]
  refine wpAny_bind (hx _ _ _ ?_)
  dsimp only
  refine wpAny_bind (wpAny_setField ho hd (by simp) ?_)
  show wpAny _ _ (newExc (.type "StopIteration") [] >>= _) _ _ _
  refine wpAny_bind ?_
  simp only [newExc, newTuple]
  refine wpAny_bind (wpAny_newObj_type ?_ (by size_fits))
  refine wpAny_bind (m := firstArgMember _ _) (wpAny_of_eq (a := Value.none) (by first | rfl | (simp only [firstArgMember]; rfl)) (wpAny_newObj_type ?_ (by size_fits)))
  simp only [raiseNew]
  refine wpAny_bind (wpAny_handled ?_)
  rw [show A.in1.handled = none from hh]
  refine wpAny_bind (wpAny_pure (wpAny_throw ?_))
  have stp := isSubtype_stop
  refine wpAny_bind (wpAny_isInstance (T := "StopIteration") (b := true) ⟨_, Heap.get?_push_size _ rfl, rfl⟩ stp ?_)
  exact wpAny_pure (hQ _ (((Heap.SameBut.update ..).extBut.push _).push _))
theorem si_itemD {it T : Addr} {i : Nat} {x : Value} {ps : List Nat} {j : Nat} {h : Int} {Q : Option Value → Shared → Prop} (hit : IsSI s.heap it a (.ref T) i es.size ep) (hT : s.heap.get? T = some { cls := .type "tuple", data := .seq (ps.map fun (q : Nat) => rawInt q).toArray })
    (hS : SetAt prog w s.heap a es ep t) (hj : ps[i]? = some j) (hx : es[j]? = some (h, x))
    (hQ : ∀ h', IsSI h' it a (.ref T) (i + 1) es.size ep → Heap.SameBut it s.heap h' → Q (some x) { s with heap := h' }) : wpAny (model prog w) A (pyNext (.ref it)) Q E s := by
  obtain ⟨o, ho, hc, hd⟩ := id hit
  obtain ⟨⟨os, hos, _, hds⟩, _, hf, _⟩ := id hS
  unfold pyNext
  refine wpAny_bind (wpAny_attempt (wpAny_callSpecial?_slot (name := Str.ofString "__next__") hit.ty F.sl_si_next (wpAny_call_entry F.sl_si_next hit.ty F.en_si_next ?_ (F.ar_si_next _))))
  unfold Builtin.«set_iterator.__next__»
  refine wpAny_bind (m := slotArgs _ _ _) (wpAny_pure ?_)
  refine wpAny_bind (wpAny_fieldsOf ho hd ?_)
  dsimp only
  refine wpAny_bind (wpAny_setEntries_of hos hds hf ?_)
  rw [if_neg (by simp)]
  refine wpAny_bind (wpAny_seqItems hT rfl ?_)
  dsimp only
  have hp : ((ps.map fun (q : Nat) => rawInt q).toArray)[i]? = some (rawInt j) := by simp [hj]
  simp only [Int.toNat_natCast, hp]
  unfold setNextDrawn
  refine wpAny_bind (wpAny_bind (wpAny_setState_of hos hds hf ?_))
  dsimp only
  rw [if_neg (by simp)]
  simp only [rawInt, Int.toNat_natCast, hx]
  refine wpAny_pure ?_
  refine wpAny_bind (wpAny_setField ho hd (by simp) ?_)
  obtain ⟨o2, e2, c2, d2⟩ := si_field (j := 1) (v := .int ((i : Int) + 1) 0) ho hd
  refine wpAny_pure ⟨_, rfl, wpAny_pure (hQ _ ⟨o2, e2, c2.trans hc, ?_⟩ (Heap.SameBut.update ..))⟩
  rw [d2]; simp
theorem si_stopD {it T : Addr} {i : Nat} {ps : List Nat} {Q : Option Value → Shared → Prop} (hh : A.handled = none) (hit : IsSI s.heap it a (.ref T) i es.size ep) (hT : s.heap.get? T = some { cls := .type "tuple", data := .seq (ps.map fun (q : Nat) => rawInt q).toArray })
    (hS : SetAt prog w s.heap a es ep t) (hj : ps[i]? = none) (hQ : ∀ h', Heap.ExtBut it s.heap h' → Q none { s with heap := h' }) : wpAny (model prog w) A (pyNext (.ref it)) Q E s := by
  obtain ⟨o, ho, hc, hd⟩ := id hit
  obtain ⟨⟨os, hos, _, hds⟩, _, hf, _⟩ := id hS
  unfold pyNext
  refine wpAny_bind (wpAny_attempt (wpAny_callSpecial?_slot (name := Str.ofString "__next__") hit.ty F.sl_si_next (wpAny_call_entry F.sl_si_next hit.ty F.en_si_next ?_ (F.ar_si_next _))))
  unfold Builtin.«set_iterator.__next__»
  refine wpAny_bind (m := slotArgs _ _ _) (wpAny_pure ?_)
  refine wpAny_bind (wpAny_fieldsOf ho hd ?_)
  dsimp only
  refine wpAny_bind (wpAny_setEntries_of hos hds hf ?_)
  rw [if_neg (by simp)]
  refine wpAny_bind (wpAny_seqItems hT rfl ?_)
  dsimp only
  have hp : ((ps.map fun (q : Nat) => rawInt q).toArray)[i]? = none := by simp at hj; simp [hj]
  simp only [Int.toNat_natCast, hp]
  refine wpAny_bind (wpAny_setField ho hd (by simp) ?_)
  obtain ⟨o1, e1, c1, d1⟩ := si_field (j := 0) (v := rawInt 0) ho hd
  refine wpAny_bind (wpAny_setField (s := { s with heap := _ }) e1 d1 (by simp) ?_)
  show wpAny _ _ (newExc (.type "StopIteration") [] >>= _) _ _ _
  refine wpAny_bind ?_
  simp only [newExc, newTuple]
  refine wpAny_bind (wpAny_newObj_type ?_ (by size_fits))
  refine wpAny_bind (m := firstArgMember _ _) (wpAny_of_eq (a := Value.none) (by first | rfl | (simp only [firstArgMember]; rfl)) (wpAny_newObj_type ?_ (by size_fits)))
  simp only [raiseNew]
  refine wpAny_bind (wpAny_handled ?_)
  rw [show A.in1.handled = none from hh]
  refine wpAny_bind (wpAny_pure (wpAny_throw ?_))
  have stp := isSubtype_stop
  refine wpAny_bind (wpAny_isInstance (T := "StopIteration") (b := true) ⟨_, Heap.get?_push_size _ rfl, rfl⟩ stp ?_)
  exact wpAny_pure (hQ _ ((((Heap.SameBut.update ..).trans (Heap.SameBut.update ..)).extBut.push _).push _))
theorem si_self {it : Addr} {f : Value} {i n : Nat} {Q : Value → Shared → Prop} (hit : IsSI s.heap it a f i n ep) (h : Q (.ref it) s) : wpAny (model prog w) A (pyIter (.ref it)) Q E s := by
  refine wpAny_pyIter_slot hit.ty F.sl_si_iter (wpAny_call_entry F.sl_si_iter hit.ty F.en_si_iter ?_ (F.ar_si_iter _))
  show wpAny _ _ (ret (.ref it)) _ _ s
  exact wpAny_pure ⟨_, rfl, "set_iterator", _, hit.ty, F.sl_si_next.lookup, h⟩
end
end L3
end
section
set_option autoImplicit false
namespace L3
open PySem
section
variable {prog : Program} {w : World} {A : Around} {E : Value → Shared → Prop} {s : Shared} {es : Array (Int × Value)} {ep : Nat} {t : SetTable} {a : Addr}
theorem wp_choose {M : Model} {src : Source} {n : Nat} {Q : Nat → Shared → Prop} (hn : n ≠ 0) (h : ∀ i d, i < n → Q i { s with drawn := d }) : wpAny M A (choose src n) Q E s :=
  fun Γ p hΓ => ⟨hn, h _ _ (Nat.mod_lt _ (Nat.pos_of_ne_zero hn))⟩
theorem wp_drawOrder {M : Model} {α : Type} : ∀ (n : Nat) (xs : List α) (s : Shared) (Q : List α → Shared → Prop), xs.length = n → (∀ ys d, ys.Perm xs → Q ys { s with drawn := d }) → wpAny M A (drawOrder n xs) Q E s
  | 0, xs, s, Q, hl, h => by
    have : xs = [] := List.eq_nil_of_length_eq_zero hl
    subst this
    exact wpAny_pure (h [] s.drawn (List.Perm.refl _))
  | n + 1, [], s, Q, hl, h => by cases hl
  | n + 1, x :: xs, s, Q, hl, h => by
    unfold drawOrder
    refine wpAny_bind (wp_choose (by simp) fun i d hi => ?_)
    rw [List.getElem?_eq_getElem hi]
    dsimp only
    refine wpAny_bind (wp_drawOrder n _ _ _ (by rw [List.length_eraseIdx, if_pos hi]; omega) fun ys d' hp => wpAny_pure (h _ _ ?_))
    exact (List.Perm.cons _ hp).trans (perm_idx (x :: xs) i hi)
theorem wp_byText {Q : Bool → Shared → Prop} (h : Q (byTxt w) s) : wpAny (model prog w) A setsByText Q E s := by
  unfold setsByText
  exact wpAny_bind (wpAny_askSetting (wpAny_pure h))
theorem next_plain (hb : byTxt w = false) (hS : SetAt prog w s.heap a es ep t) (hnd : (!t.plain && decide (es.size > 1)) = false) {i : Nat} (hi : i ≤ es.size) {Q : Option (Value × Nat) → Shared → Prop}
    (h : Q (((es.toList.map (·.2))[i]?).map fun x => (x, slotOf t.place (i + 1))) s) : wpAny (model prog w) A (setNext a (slotOf t.place i) i ep) Q E s := by
  obtain ⟨⟨os, hos, _, hds⟩, _, hf, hg⟩ := id hS
  have hz : t.place.size = es.size := by simp only [SetTable.fits, Bool.and_eq_true, beq_iff_eq] at hf; exact hf.1
  have hled : t.led = true := hg.led.resolve_right (by rw [hb]; decide)
  unfold setNext
  refine wpAny_bind (wpAny_setState_of hos hds hf ?_)
  dsimp only
  refine wpAny_bind (wp_byText ?_)
  rw [hb, if_neg (by decide)]
  refine wpAny_ite_split (fun hd => ?_) (fun _ => ?_)
  · have hd' : (!t.plain && decide (es.size > 1)) = true := hd
    rw [hnd] at hd'; cases hd'
  · refine wpAny_bind ?_
    show wpAny _ _ (if (!t.led && !es.isEmpty) = true then _ else _) _ _ _
    rw [hled, if_neg (by simp)]
    refine wpAny_pure ?_
    rw [below_slotOf hg.ris i (by omega)]
    refine wpAny_pure ?_
    rcases Nat.lt_or_ge i es.size with q | q
    · have h1 : es[i]? = some (es[i].1, es[i].2) := by simp [q]
      have h2 : t.place[i]? = some (t.place.getD i 0) := by simp [Array.getD, show i < t.place.size by omega]
      rw [h1, h2]
      have h3 : (es.toList.map (·.2))[i]? = some es[i].2 := by simp [q]
      rw [h3] at h
      exact h
    · have h1 : es[i]? = none := Array.getElem?_eq_none q
      rw [h1]
      have h3 : (es.toList.map (·.2))[i]? = none := by simp [q]
      rw [h3] at h
      exact h
noncomputable def txtOrd (w : World) (a : Addr) (ep : Nat) (es : Array (Int × Value)) : List Value := (pickOrder (w.params.setOrder a ep) es).toList.map (·.2)
theorem next_text (hb : byTxt w = true) (hS : SetAt prog w s.heap a es ep t) {i : Nat} {Q : Option (Value × Nat) → Shared → Prop} (h : Q (((txtOrd w a ep es)[i]?).map fun x => (x, 0)) s) : wpAny (model prog w) A (setNext a 0 i ep) Q E s := by
  obtain ⟨⟨os, hos, _, hds⟩, _, hf, hg⟩ := id hS
  unfold setNext
  refine wpAny_bind (wpAny_setState_of hos hds hf ?_)
  dsimp only
  refine wpAny_bind (wp_byText ?_)
  rw [hb, if_pos rfl]
  rw [if_neg (by simp)]
  unfold setWalk
  refine wpAny_bind (wpAny_bind (wpAny_setState_of hos hds hf ?_))
  dsimp only
  refine wpAny_bind (wp_byText ?_)
  rw [hb, if_pos rfl]
  refine wpAny_bind (wpAny_askSetting (wpAny_pure (wpAny_pure ?_)))
  have e : ((txtOrd w a ep es)[i]?).map (fun x => (x, 0)) = ((pickOrder (w.params.setOrder a ep) es)[i]?).map fun e => (e.2, 0) := by
    unfold txtOrd
    rw [List.getElem?_map, Option.map_map, Array.getElem?_toList]; rfl
  rw [e] at h
  exact h
end
end L3
end
section
set_option autoImplicit false
namespace L3
open PySem
section
variable {prog : Program} {w : World} {A : Around} {E : Value → Shared → Prop} {s : Shared} {es : Array (Int × Value)} {ep : Nat} {t : SetTable} {a : Addr}
theorem walks_int {I : Addr} (hh : A.handled = none) (hne : a ≠ I) (ord : List Value) (slf : Nat → Nat) (hl : ord.length = es.size)
    (hx : ∀ (i : Nat) (A' : Around) (E' : Value → Shared → Prop) (s' : Shared) (Q' : Option (Value × Nat) → Shared → Prop), i ≤ es.size → SetAt prog w s'.heap a es ep t → Q' ((ord[i]?).map fun x => (x, slf (i + 1))) s' → wpAny (model prog w) A' (setNext a (slf i) i ep) Q' E' s') :
    Walks prog w A I [I, a] [I] es.size (fun i v => ord[i]? = some v) (fun i h => IsSI h I a (.int (slf i) 0) i es.size ep ∧ SetAt prog w h a es ep t) where
  sub := fun b hb => by simp at hb; simp [hb]
  frame := fun _ _ _ st hk => ⟨st.1.at fun o e => hk I (by simp) o e, st.2.at fun o e => hk a (by simp) o e⟩
  item := fun i s Q E hi st hQ => by
    have hoi : ord[i]? = some (ord[i]'(by omega)) := List.getElem?_eq_getElem (by omega)
    refine si_item (x := ord[i]'(by omega)) (sl' := slf (i + 1)) st.1 st.2 (fun A' E' Q' q => hx i A' E' s Q' (by omega) st.2 (by rw [hoi]; exact q)) fun h' hit hs => ?_
    exact hQ _ h' s.toks hoi ⟨hit, st.2.at fun o e => hs.extBut a o hne e⟩ fun b o hb e => hs.extBut b o (fun z => hb (by simp [z])) e
  done := fun s Q E st hQ => si_stop hh st.1 st.2 ⟨(slf es.size : Nat), rfl, fun A' E' Q' q => by
      have := hx es.size A' E' s Q' (Nat.le_refl _) st.2 (by rw [List.getElem?_eq_none (by omega)]; exact q)
      simpa using this⟩ fun h' he => hQ h' s.toks fun b o hb e => he b o (fun z => hb (by simp [z])) e
  self := fun _ _ _ _ st hQ => si_self st.1 hQ
theorem walks_drawn {I T : Addr} (hh : A.handled = none) (hne : a ≠ I) (hTI : T ≠ I) (ps : List Nat) (ord : List Value) (hl : ps.length = es.size) (ho : ∀ (i j : Nat), ps[i]? = some j → ∃ h x, es[j]? = some (h, x) ∧ ord[i]? = some x) :
    Walks prog w A I [I, a, T] [I] es.size (fun i v => ord[i]? = some v) (fun i h => IsSI h I a (.ref T) i es.size ep ∧ SetAt prog w h a es ep t ∧ h.get? T = some { cls := .type "tuple", data := .seq (ps.map fun (q : Nat) => rawInt q).toArray }) where
  sub := fun b hb => by simp at hb; simp [hb]
  frame := fun _ _ _ st hk => ⟨st.1.at fun o e => hk I (by simp) o e, st.2.1.at fun o e => hk a (by simp) o e, hk T (by simp) _ st.2.2⟩
  item := fun i s Q E hi st hQ => by
    have hoi : ps[i]? = some (ps[i]'(by omega)) := List.getElem?_eq_getElem (by omega)
    obtain ⟨h, x, h1, h2⟩ := ho i _ hoi
    refine si_itemD st.1 st.2.2 st.2.1 hoi h1 fun h' hit hs => ?_
    exact hQ _ h' s.toks h2 ⟨hit, st.2.1.at fun o e => hs.extBut a o hne e, hs.extBut T _ hTI st.2.2⟩ fun b o hb e => hs.extBut b o (fun z => hb (by simp [z])) e
  done := fun s Q E st hQ => si_stopD hh st.1 st.2.2 st.2.1 (List.getElem?_eq_none (by omega)) fun h' he => hQ h' s.toks fun b o hb e => he b o (fun z => hb (by simp [z])) e
  self := fun _ _ _ _ st hQ => si_self st.1 hQ
theorem set_iter {Q : Value → Shared → Prop} (hS : SetAt prog w s.heap a es ep t) (hsz : es.size ≤ sizeLine)
    (h : ∀ (I : Addr) (h' : Heap) d (ord : List Value) (fp : List Addr) (St : Nat → Heap → Prop), ord.Perm (es.toList.map (·.2)) → (∀ b o, s.heap.get? b = some o → h'.get? b = some o) → s.heap.objs.size ≤ I → (∀ b ∈ fp, b = a ∨ s.heap.objs.size ≤ b) →
      (∀ A' : Around, A'.handled = none → Walks prog w A' I fp [I] es.size (fun i v => ord[i]? = some v) St) → St 0 h' → Q (.ref I) { s with heap := h', drawn := d }) : wpAny (model prog w) A (pyIter (.ref a)) Q E s := by
  obtain ⟨⟨os, hos, hex, hds⟩, _, hf, hg⟩ := id hS
  have hT : s.TypeIs (.ref a) "set" := ⟨os, hos, hex.1⟩
  have haS : a < s.heap.objs.size := Heap.lt_size hos
  refine wpAny_pyIter_slot hT F.slot_set_iter (wpAny_call_entry F.slot_set_iter hT F.en_set_iter ?_ (F.args_set_iter_1 _))
  unfold Builtin.«frozenset.__iter__» Builtin.Frozenset.slot0 Builtin.Frozenset.sizeOf setDrawn
  refine wpAny_bind (wpAny_bind (m := slotArgs _ _ _) (wpAny_pure (wpAny_pure ?_)))
  refine wpAny_bind (wpAny_bind (wpAny_setEntries_of hos hds hf (wpAny_pure ?_)))
  refine wpAny_bind (wpAny_bind (wpAny_setState_of hos hds hf ?_))
  dsimp only
  refine wpAny_bind (wp_byText (wpAny_pure ?_))
  refine wpAny_ite_split (fun hd => ?_) (fun hd => ?_)
  · have hd' : (!byTxt w && (!t.plain && decide (es.size > 1))) = true := hd
    refine wpAny_bind (wp_drawOrder es.size (List.range es.size) s _ (by simp) fun ys d hp => ?_)
    have hz : ys.length ≤ sizeLine := by
      rw [hp.length_eq, List.length_range]
      simp only [SetTable.fits, Bool.and_eq_true, beq_iff_eq] at hf
      exact hsz
    refine wpAny_bind (wpAny_newObj_type ?_ (by show (ys.map _).toArray.size ≤ sizeLine; simpa using hz))
    have hk : ∀ (o' : Obj) b o, s.heap.get? b = some o → (s.heap.push o').get? b = some o := fun o' b o e => Heap.get?_push_of_some o' e
    refine wpAny_bind (wpAny_setEpoch_of (s := { s with heap := _, drawn := d }) (Heap.get?_push_of_some _ hos) hds hf ?_)
    refine wpAny_bind (wpAny_newObj_type ?_ (by size_fits))
    have hsz2 : (s.heap.push { cls := .type "tuple", data := .seq (ys.map fun (q : Nat) => rawInt q).toArray }).objs.size = s.heap.objs.size + 1 := Heap.size_push ..
    have hTp : (s.heap.push { cls := .type "tuple", data := .seq (ys.map fun (q : Nat) => rawInt q).toArray }).get? s.heap.objs.size = some { cls := .type "tuple", data := .seq (ys.map fun (q : Nat) => rawInt q).toArray } := Heap.get?_push_size _ rfl
    refine wpAny_pure ⟨_, rfl, "set_iterator", _, ⟨_, Heap.get?_push_size _ rfl, rfl⟩, F.sl_si_next.lookup, ?_⟩
    refine h _ _ d (ys.map fun j => (es.getD j (0, .none)).2) [_, a, s.heap.objs.size] _ ?_ (fun b o e => Heap.get?_push_of_some _ (Heap.get?_push_of_some _ e)) (by rw [hsz2]; exact Nat.le_succ _) (fun b hb => ?_)
      (fun A' hh => walks_drawn hh (by rw [hsz2]; exact Nat.ne_of_lt (Nat.lt_succ_of_lt haS)) (by rw [hsz2]; exact Nat.ne_of_lt (Nat.lt_succ_self _)) ys _ (by rw [hp.length_eq, List.length_range]) ?_) ⟨⟨_, Heap.get?_push_size _ rfl, rfl, rfl⟩, hS.at fun o e => Heap.get?_push_of_some _ (Heap.get?_push_of_some _ e), Heap.get?_push_of_some _ hTp⟩
    · refine (hp.map _).trans ?_
      have : (List.range es.size).map (fun j => (es.getD j (0, .none)).2) = es.toList.map (·.2) := by
        apply List.ext_getElem
        · simp
        · intro i h1 h2
          have h3 : i < es.size := by simpa using h1
          simp [Array.getD, h3]
      rw [this]
    · simp only [List.mem_cons, List.not_mem_nil, or_false] at hb
      rcases hb with rfl | rfl | rfl
      · exact .inr (by rw [hsz2]; exact Nat.le_succ _)
      · exact .inl rfl
      · exact .inr (Nat.le_refl _)
    · intro i j hj
      have hjm : j ∈ List.range es.size := hp.mem_iff.mp (List.mem_of_getElem? hj)
      have hjl : j < es.size := List.mem_range.mp hjm
      refine ⟨es[j].1, es[j].2, by simp [hjl], ?_⟩
      rw [List.getElem?_map, hj]
      simp [Array.getD, hjl]
  · have hd' : ¬ ((!byTxt w && (!t.plain && decide (es.size > 1))) = true) := hd
    refine wpAny_bind (wpAny_pure ?_)
    refine wpAny_bind (wpAny_setEpoch_of hos hds hf ?_)
    refine wpAny_bind (wpAny_newObj_type ?_ (by size_fits))
    refine wpAny_pure ⟨_, rfl, "set_iterator", _, ⟨_, Heap.get?_push_size _ rfl, rfl⟩, F.sl_si_next.lookup, ?_⟩
    have hfp : ∀ b ∈ [s.heap.objs.size, a], b = a ∨ s.heap.objs.size ≤ b := fun b hb => by
      simp only [List.mem_cons, List.not_mem_nil, or_false] at hb
      rcases hb with rfl | rfl
      · exact .inr (Nat.le_refl _)
      · exact .inl rfl
    cases hb : byTxt w with
    | true =>
      refine h _ _ s.drawn (txtOrd w a ep es) _ _ ((pick_perm _ es).map _) (fun b o e => Heap.get?_push_of_some _ e) (Nat.le_refl _) hfp
        (fun A' hh => walks_int hh (Nat.ne_of_lt haS) _ (fun _ => 0) ?_ fun i A' E' s' Q' hi hS' q => next_text hb hS' q) ⟨⟨_, Heap.get?_push_size _ rfl, rfl, rfl⟩, hS.at fun o e => Heap.get?_push_of_some _ e⟩
      have := ((pick_perm (w.params.setOrder a ep) es).map (·.2)).length_eq
      simpa [txtOrd] using this
    | false =>
      rw [hb] at hd'
      have hnd : (!t.plain && decide (es.size > 1)) = false := by simpa using hd'
      exact h _ _ s.drawn (es.toList.map (·.2)) _ _ (List.Perm.refl _) (fun b o e => Heap.get?_push_of_some _ e) (Nat.le_refl _) hfp
        (fun A' hh => walks_int hh (Nat.ne_of_lt haS) _ (slotOf t.place) (by simp) fun i A' E' s' Q' hi hS' q => next_plain hb hS' hnd hi q) ⟨⟨_, Heap.get?_push_size _ rfl, rfl, rfl⟩, hS.at fun o e => Heap.get?_push_of_some _ e⟩
theorem hint_set {r : Addr} {Q : Bool → Shared → Prop} (hT : s.TypeIs (.ref r) "set") (h : Q false s) : wpAny (model prog w) A (Builtin.List.listLengthHint (.ref r)) Q E s := by
  unfold Builtin.List.listLengthHint
  refine wpAny_bind (wpAny_specialOf hT F.slot_set_len.lookup ?_)
  generalize hid : ("set.__len__" : String) = id0
  wp_delta
  rw [show splitId id0 = some ("set", "__len__") from by subst hid; decide +kernel]; subst hid
  refine wpAny_bind (wpAny_isInstance (T := "set") (b := true) hT (by rw [isSubtype_type]; kernel_rfl) ?_)
  refine wpAny_ite_split (fun hab => absurd hab (by decide)) (fun _ => wpAny_ite_split (fun _ => ?_) (fun hab => absurd (by decide +kernel) hab))
  exact wpAny_bind (wpAny_typeOf hT (wpAny_pure h))
end
end L3
end
section
set_option autoImplicit false
namespace L3
open PySem PySem.Spec PyProof.Rows
section
variable {prog : Program} {w : World} {A : Around} {E : Value → Shared → Prop} {s : Shared} {a : Addr}
theorem set_extend {R : Result → Shared → Prop} {es : Array (Int × Value)} {ep : Nat} {t : SetTable} (hh : A.handled = none) (hS : SetAt prog w s.heap a es ep t) (hsz : es.size ≤ sizeLine) {S : Addr} (hSa : S ≠ a) (res : Value)
    (hSo : s.heap.get? S = some { cls := .type "list", data := .seq #[] })
    (hR : ∀ h' tk d acc c, (∀ b o, b ≠ S → s.heap.get? b = some o → h'.get? b = some o) → h'.get? S = some { cls := .type "list", dict := none, data := .seq acc c, slots := #[] } → acc.toList.Perm (es.toList.map (·.2)) → R (.ok (.ret res)) { s with heap := h', toks := tk, drawn := d }) :
    wpAny (model prog w) A.in1 (Builtin.List.listExtendWith (.ref S) (.ref a) res)
      (fun fin s' => match fin with | .done f => R (.ok f) s' | .again c' => c'.quiet = true ∧ codeAny (model prog w) A c' R s') (fun e s' => R (.error e) s') s := by
  obtain ⟨⟨os, hos, hex, hds⟩, _, hf, hg⟩ := id hS
  have hT : s.TypeIs (.ref a) "set" := ⟨os, hos, hex.1⟩
  unfold Builtin.List.listExtendWith
  refine wpAny_bind (wpAny_typeOf (T := "set") hT ?_)
  have h1 : Builtin.List.listSameRef (.ref S) (.ref a) = false := by simp [Builtin.List.listSameRef, hSa]
  simp only [h1, show (Value.type "set" == Value.type "list") = false by decide, show (Value.type "set" == Value.type "tuple") = false by decide, Bool.or_false, Bool.false_eq_true, if_false]
  refine wpAny_bind (set_iter hS hsz fun I h' d ord fp St hp hk hI hfp W st => ?_)
  have hSlt : S < s.heap.objs.size := Heap.lt_size hSo
  have hSI : S ≠ I := Nat.ne_of_lt (Nat.lt_of_lt_of_le hSlt hI)
  have hSf : S ∉ fp := fun hm => (hfp S hm).elim hSa fun q => Nat.lt_irrefl _ (Nat.lt_of_lt_of_le hSlt q)
  have W1 := W A.in1 (by simp [hh])
  refine wpAny_bind (wpAny_holding (hint_set ⟨os, hk a os hos, hex.1⟩ ?_))
  have key : ∀ (h2 : Heap) (c₁ : Nat), St 0 h2 → (∀ b o, b ≠ S → s.heap.get? b = some o → h2.get? b = some o) → h2.get? S = some { cls := .type "list", data := .seq #[] c₁ } →
      codeAny (model prog w) A (.builtin "list.extend.loop" ⟨[.ref S, .ref I, res], []⟩) R { s with heap := h2, drawn := d } := fun h2 c₁ hst hk2 hS2 => by
    refine codeAny_extend_loopS W1.toS hsz S hSf res es.size 0 _ #[] c₁ rfl (Nat.zero_le _) hst hS2 (ItemsOf.nil _) fun s' acc' c' hm hS' hacc => ?_
    obtain ⟨hq, g', d', tk', os'⟩ := s'
    have eg : g' = s.gens := hm.gens
    have ed : d' = d := hm.drawn
    have eo : os' = s.os := hm.os
    subst eg; subst ed; subst eo
    refine hR hq tk' d' acc' c' (fun b o hb e => hm.heap b o (fun hmem => ?_) (hk2 b o hb e)) hS' ?_
    · rcases List.mem_cons.mp hmem with e' | hmem
      · exact hb e'
      · exact absurd (Heap.lt_size e) (by rw [List.mem_singleton.mp hmem]; exact Nat.not_lt.mpr hI)
    · have : acc'.toList = ord := by
        apply List.ext_getElem?
        intro i
        rcases Nat.lt_or_ge i es.size with q | q
        · have hi : i < acc'.size := by rw [hacc.1]; exact q
          have := hacc.2 i acc'[i] (by simp [hi])
          rw [this]; simp [hi]
        · rw [List.getElem?_eq_none (by rw [Array.length_toList, hacc.1]; exact q), List.getElem?_eq_none (by rw [hp.length_eq]; simpa using q)]
      rw [this]; exact hp
  refine wpAny_ite_split (fun _ => ?_) (fun _ => wpAny_pure ⟨plainId_quiet PySem.F.plain_extend_loop _, key _ _ st (fun b o _ e => hk b o e) (hk S _ hSo)⟩)
  refine wpAny_bind (wpAny_rule ?_)
  refine wpAny_bind ?_
  show wpAny _ _ (updateSeq S (·.push .none) >>= fun _ => updateSeq S (·.pop)) _ _ _
  have hS₁ := hk S _ hSo
  refine wpAny_bind (wpAny_updateSeq hS₁ rfl ?_)
  have hS₂ := Heap.get?_update_self (Obj.mapSeq (·.push Value.none)) hS₁ rfl
  refine wpAny_updateSeq (hz := by seq_fits) hS₂ rfl ?_
  have hS₃ := Heap.get?_update_self (Obj.mapSeq (·.pop)) hS₂ rfl
  have oth : ∀ b o, b ≠ S → h'.get? b = some o → ((h'.update S (Obj.mapSeq (·.push Value.none))).update S (Obj.mapSeq (·.pop))).get? b = some o := fun b o hb e => (Heap.get?_update_other _ _ (Ne.symm hb)).trans ((Heap.get?_update_other _ _ (Ne.symm hb)).trans e)
  refine wpAny_pure ⟨plainId_quiet PySem.F.plain_extend_loop _, key _ _ (W1.frame 0 _ _ st fun b hb o e => oth b o (fun z => hSf (z ▸ hb)) e) (fun b o hb e => oth b o hb (hk b o e)) hS₃⟩
theorem set_collect {R : List Value → Shared → Prop} {es : Array (Int × Value)} {ep : Nat} {t : SetTable} (hh : A.handled = none) (hS : SetAt prog w s.heap a es ep t) (hsz : es.size ≤ sizeLine)
    (h : ∀ (h' : Heap) (tk : Nat) d (acc : List Value), (∀ b o, s.heap.get? b = some o → h'.get? b = some o) → acc.Perm (es.toList.map (·.2)) → s.heap.objs.size ≤ h'.objs.size → R acc { s with heap := h', toks := tk, drawn := d }) :
    wpAny (model prog w) A (collect (.ref a)) R E s := by
  obtain ⟨⟨os, hos, hex, hds⟩, _, hf, hg⟩ := id hS
  have hlt : a < s.heap.objs.size := Heap.lt_size hos
  unfold collect
  refine wpAny_bind (wpAny_runValue (codeAny_builtin entry_proto_collect' ?_))
  rw [Around.under_plainId PySem.F.plain_proto_collect _]
  show wpAny _ A.in1 (newList [] >>= fun l => again (.builtin "list.__iadd__" ⟨[l, .ref a], []⟩)) _ _ s
  refine wpAny_bind (wpAny_newObj_type (wpAny_pure ⟨plainId_quiet PySem.F.plain_list_iadd _, codeAny_builtin entry_list_iadd' ?_⟩))
  rw [Around.under_plainId PySem.F.plain_list_iadd _]
  show wpAny _ A.in1 (Builtin.List.listExtendWith (.ref s.heap.objs.size) (.ref a) (.ref s.heap.objs.size)) _ _ _
  have key := set_extend (A := A) (s := { s with heap := s.heap.push { cls := .type "list", data := .seq ([] : List Value).toArray } })
    (R := fun (q : Result) (s' : Shared) => ∃ (h' : Heap) (tk : Nat) (d : Drawn) (acc' : Array Value) (c' : Nat), q = .ok (.ret (.ref s.heap.objs.size)) ∧ s' = { s with heap := h', toks := tk, drawn := d } ∧
      (∀ b o, s.heap.get? b = some o → h'.get? b = some o) ∧ h'.get? s.heap.objs.size = some { cls := .type "list", dict := none, data := .seq acc' c', slots := #[] } ∧ acc'.toList.Perm (es.toList.map (·.2)))
    hh (hS.at fun o e => Heap.get?_push_of_some _ e) hsz (S := s.heap.objs.size) (Nat.ne_of_gt hlt) (.ref s.heap.objs.size) (Heap.get?_push_size _ rfl)
    (fun h' tk d acc' c' hk hS' hacc => ⟨h', tk, d, acc', c', rfl, rfl, fun b o e => hk b o (Nat.ne_of_lt (Heap.lt_size e)) (Heap.get?_push_of_some _ e), hS', hacc⟩)
  have fin : ∀ (h' : Heap) (tk : Nat) (d : Drawn) (acc' : Array Value) (c' : Nat), (∀ b o, s.heap.get? b = some o → h'.get? b = some o) → h'.get? s.heap.objs.size = some { cls := .type "list", dict := none, data := .seq acc' c', slots := #[] } → acc'.toList.Perm (es.toList.map (·.2)) →
      wpAny (model prog w) A (load s.heap.objs.size >>= fun o => match o.data with | .seq xs _ => pure xs.toList | _ => unsupported "internal:collect") R E { s with heap := h', toks := tk, drawn := d } := fun h' tk d acc' c' hk hS' hacc =>
    wpAny_bind (wpAny_load hS' (wpAny_pure (h h' tk d acc'.toList hk hacc (Nat.le_of_lt (Heap.lt_size hS')))))
  refine wpAny_mono key (fun fin' s' x => ?_) fun e s' x => ?_
  · cases fin' with
    | done f =>
      obtain ⟨h', tk, d, acc', c', e, rfl, hk, hS', hacc⟩ := x
      cases e
      exact fin h' tk d acc' c' hk hS' hacc
    | again c₁ =>
      refine ⟨x.1, codeAny_mono x.2 fun q s₂ y => ?_⟩
      obtain ⟨h', tk, d, acc', c', rfl, rfl, hk, hS', hacc⟩ := y
      exact fin h' tk d acc' c' hk hS' hacc
  · obtain ⟨_, _, _, _, _, e', _⟩ := x
    cases e'
theorem kofs : ∀ (l : List (Int × Value)), ElemsOf (intKind prog w) l → IntsAre (l.map (·.2)) (l.map fun e => kof e.2)
  | [], _ => .nil
  | e :: l, h => by
    obtain ⟨⟨k, hk, _⟩, _⟩ := h.head
    obtain ⟨tk, e2⟩ := Value.isInt_shape (show Value.isInt k e.2 = true from hk)
    rw [List.map_cons, List.map_cons, e2]
    exact .cons k tk (kofs l h.tail)
theorem ints_perm {vs us : List Value} (p : vs.Perm us) : ∀ {ns : List Int}, IntsAre us ns → ∃ ms, IntsAre vs ms ∧ ms.Perm ns := by
  induction p with
  | nil => intro ns h; exact ⟨ns, h, .refl _⟩
  | cons x _ ih =>
    intro ns h
    cases h with
    | cons n t h =>
      obtain ⟨ms, h1, h2⟩ := ih h
      exact ⟨n :: ms, .cons n t h1, h2.cons n⟩
  | swap x y l =>
    intro ns h
    cases h with
    | cons n t h =>
      cases h with
      | cons n2 t2 h => exact ⟨_, .cons n2 t2 (.cons n t h), .swap _ _ _⟩
  | trans _ _ ih1 ih2 =>
    intro ns h
    obtain ⟨ms, h1, h2⟩ := ih2 h
    obtain ⟨ks, h3, h4⟩ := ih1 h1
    exact ⟨ks, h3, h4.trans h2⟩
theorem set_sorted {ks : List Int} {Q : Value → Shared → Prop} (hh : A.handled = none) (hS : SetZ prog w s.heap a ks) (h64 : ks.length < 64)
    (h : ∀ (D : Addr) (h' : Heap) tk d (out : Array Value) (ns : List Int) c, (∀ b o, s.heap.get? b = some o → h'.get? b = some o) → s.heap.objs.size ≤ D → h'.get? D = some (seqObj "list" out c) → IntsAre out.toList ns → ns.Perm ks → ns.Pairwise (· ≤ ·) → Q (.ref D) { s with heap := h', toks := tk, drawn := d }) :
    wpAny (model prog w) A (call (.builtin "sorted") [.ref a]) Q E s := by
  obtain ⟨es, ep, t, hS, hp⟩ := hS
  have hz : es.size = ks.length := by have := hp.length_eq; simpa using this
  have hsl : es.size ≤ sizeLine := by rw [sizeLine_eq]; omega
  refine Calls.call_function_entry kind_sorted plain_sorted entry_sorted (args_sorted1 _) ?_
  unfold Builtin.«sorted»
  refine wpAny_bind (m := checkCount "sorted" 1 1 _) (wpAny_pure ?_)
  refine wpAny_bind (set_collect (by simp [hh]) hS hsl fun h1 tk d acc hk hac hge => ?_)
  obtain ⟨ms, hms, hmp⟩ := ints_perm hac (kofs es.toList hS.2.1)
  have hal : acc.length < 64 := by
    have := hac.length_eq
    simp at this; omega
  refine wpAny_bind (wpAny_newList ?_ (by rw [sizeLine_eq]; omega))
  have hoL : (h1.push (seqObj "list" acc.toArray 0)).get? h1.objs.size = some (seqObj "list" acc.toArray 0) := Heap.get?_push_size _ rfl
  refine wpAny_bind (wpAny_holding (wpAny_call_entry slot_list_sort ⟨_, hoL, rfl⟩ entry_list_sort (list_sort_tree hoL hms hal fun out ns' a1 a2 a3 => ⟨_, rfl, ?_⟩) (args_list_sort _)))
  refine wpAny_pure ⟨_, rfl, ?_⟩
  obtain ⟨c, hc⟩ := sortedHeap_at (out := out) hoL
  refine h _ _ tk d out ns' c (fun b o e => ?_) hge hc a1 (a2.trans (hmp.trans hp)) a3
  have e1 := hk b o e
  have hlt := Heap.lt_size e1
  exact (sortedHeap_old (Nat.ne_of_lt hlt) (by rw [size_push']; exact Nat.lt_succ_of_lt hlt)).trans (Heap.get?_push_of_some _ e1)
end
end L3
end
section
set_option autoImplicit false
namespace L3
open PySem PySem.Spec PyProof.Rows
section
variable {prog : Program} {w : World} {A : Around} {E : Value → Shared → Prop} {s : Shared} {a : Addr}
noncomputable abbrev newSetObj (w : World) : Obj := { cls := .type "set", dict := none, data := .set #[] 0 (.fresh 0 0 (!byTxt w)) }
theorem set_new1 (x : Value) {Q₁ : Value → Shared → Prop} (h : Q₁ (.ref s.heap.objs.size) { s with heap := s.heap.push (newSetObj w) }) :
    codeAny (model prog w) A (.call (.builtin "set.__new__") ⟨[.type "set", x], []⟩) (wants Q₁ E) s := by
  refine codeAny_of_tree ?_
  show wpAny _ A.in1 (do checkBuiltinCall "set.__new__" ⟨[.type "set", x], []⟩; again (.builtin "set.__new__" ⟨[.type "set", x], []⟩)) _ _ s
  refine wpAny_bind (wpAny_of_eq (PySem.F.newCall_set_1 x) (wpAny_pure ⟨plainId_quiet PySem.F.plain_set_new _, codeAny_builtin PySem.F.entry_set_new ?_⟩))
  rw [Around.under_plainId PySem.F.plain_set_new _]
  unfold Builtin.«set.__new__» Builtin.Frozenset.newClass
  have hsub := sub_set_self
  obtain ⟨hp, g, d, tk, os⟩ := s
  dsimp only
  wp_walk
  refine wpAny_askSetting (wpAny_pure ?_)
  dsimp only
  simp only [newObj]
  exact wpAny_bind (wpAny_alloc (wpAny_pure (wpAny_pure h)))
theorem set_loop {R : Result → Shared → Prop} {I : Addr} {fp wr : List Addr} {G : Array GenState → Array GenState → Prop} {n : Nat} {P : Nat → Value → Prop} {St : Nat → Shared → Prop}
    (W : WalksS prog w A.in1 I fp wr G n P St) (S : Addr) (hSf : S ∉ fp) (ns : List Int) (hn : ns.length = n) (hval : ∀ (i : Nat) v, P i v → ∃ t, v = .int (ns.getD i 0) t) (hb : n + 1 < scanBound) :
    ∀ (k i : Nat) (s : Shared), n - i = k → i ≤ n → St i s → SetZ prog w s.heap S ((ns.take i).foldl ddup []) → (∀ s', Moved (S :: wr) G s s' → SetZ prog w s'.heap S (ns.foldl ddup []) → R (.ok (.ret .none)) s') →
      codeAny (model prog w) A (.builtin "set.update.loop" ⟨[.ref S, .ref I], []⟩) R s := by
  have hSw : S ∉ wr := fun h => hSf (W.sub _ h)
  have hsub : ∀ b ∈ wr, b ∈ S :: wr := fun b hb => List.mem_cons_of_mem _ hb
  have len : ∀ (l ks : List Int), (l.foldl ddup ks).length ≤ ks.length + l.length := by
    intro l
    induction l with
    | nil => intro ks; simp
    | cons a l ih =>
      intro ks
      have h1 := ih (ddup ks a)
      have h2 : (ddup ks a).length ≤ ks.length + 1 := by unfold ddup; split <;> simp
      rw [List.foldl_cons, List.length_cons]; omega
  intro k
  induction k with
  | zero =>
    intro i s hk hi hst hS hR
    have hin : i = n := by omega
    subst hin
    refine codeAny_builtin F.entry_set_update_loop ?_
    rw [Around.under_plainId F.plain_set_update_loop _]
    show wpAny _ A.in1 (pyNext (.ref I) >>= _) _ _ s
    refine wpAny_bind (W.done s _ _ hst fun s' hm => ?_)
    show wpAny _ A.in1 (ret Value.none) _ _ s'
    exact wpAny_pure (hR s' (hm.mono hsub) (by rw [← hn, List.take_length] at hS; exact hS.at fun o e => hm.heap S o hSw e))
  | succ k ih =>
    intro i s hk hi hst hS hR
    have hlt : i < n := by omega
    refine codeAny_builtin F.entry_set_update_loop ?_
    rw [Around.under_plainId F.plain_set_update_loop _]
    show wpAny _ A.in1 (pyNext (.ref I) >>= _) _ _ s
    refine wpAny_bind (W.item i s _ _ hlt hst fun v s' hP hst' hm => ?_)
    obtain ⟨t, rfl⟩ := hval i v hP
    have hS' : SetZ prog w s'.heap S ((ns.take i).foldl ddup []) := hS.at fun o e => hm.heap S o hSw e
    show wpAny _ A.in1 (holding [Value.int (ns.getD i 0) t] (setAdd S (.int (ns.getD i 0) t)) >>= _) _ _ s'
    refine wpAny_bind (wpAny_holding ?_)
    unfold setAdd
    refine wpAny_holding (wpAny_bind ((intKind prog w).pyHash (k := ns.getD i 0) (intKind_is _ _ _ _) ?_))
    have hroom : ((ns.take i).foldl ddup []).length + 1 < scanBound := by have := len (ns.take i) []; rw [List.length_take] at this; simp only [List.length_nil] at this; omega
    refine sx_add (s := { s' with toks := s'.toks + 1 }) hS' hroom fun h' b hsb hS2 => ?_
    have hS3 : SetZ prog w h' S ((ns.take (i + 1)).foldl ddup []) := by
      rw [List.take_succ, List.foldl_append, show ns[i]? = some (ns.getD i 0) by simp [List.getD, show i < ns.length by omega]]
      exact hS2
    refine wpAny_pure ⟨plainId_quiet F.plain_set_update_loop _, ih (i + 1) _ (by omega) hlt (W.frame _ s' _ _ hst' (Nat.le_succ _) fun b hb o e => ?_) hS3 fun s'' hm'' hS'' => ?_⟩
    · rw [hsb.2 b (fun h : b = S => hSf (by rw [← h]; exact hb))]; exact e
    · refine hR s'' (Moved.trans W.gtrans ((hm.mono hsub).then_heap (Nat.le_succ _) fun b o hb e => ?_) hm'') hS''
      rw [hsb.2 b (fun h : b = S => hb (by rw [h]; exact List.mem_cons_self))]; exact e
theorem sx_fresh {h : Heap} (hS : h.get? a = some (newSetObj w)) : SetZ prog w h a [] :=
  ⟨#[], 0, _, ⟨⟨_, hS, ⟨rfl, rfl, rfl⟩, rfl⟩, fun e he => by simp at he, rfl, ⟨by simp [Ris, SetTable.fresh], by
    show (!byTxt w) = true ∨ byTxt w = true
    cases byTxt w <;> simp⟩⟩, List.Perm.refl _⟩
theorem set_call {l : Addr} {items : Array Value} {ns : List Int} {Q : Value → Shared → Prop} (hh : A.handled = none) (hl : s.heap.IsList l items) (hi : IntsAre items.toList ns) (hb : items.size + 1 < scanBound)
    (h : ∀ (h' : Heap) (tk : Nat), SetZ prog w h' s.heap.objs.size (ns.foldl ddup []) → (∀ b o, b < s.heap.objs.size → s.heap.get? b = some o → h'.get? b = some o) → Q (.ref s.heap.objs.size) { s with heap := h', toks := tk }) :
    wpAny (model prog w) A (call (.type "set") [.ref l]) Q E s := by
  obtain ⟨c, tl, hmro⟩ := PySem.F.called_set.mro
  have hmade := PySem.F.called_set.made
  have hsub := PySem.F.called_set.sub
  refine wpAny_call (codeAny_of_tree ?_)
  show wpAny _ _ (callAny (.type "set") _) _ _ _
  refine wpAny_pure ⟨Code.quiet_builtin _ (by decide +kernel), codeAny_builtin PySem.F.entry_type_call ?_⟩
  rw [Around.under_plain (weight_type_call_type "set" [.ref l] []) rfl]
  have h1 := PySem.F.called_set.notType
  have h2 := PySem.F.called_set.canCreate
  have hct := PySem.F.typeCall_set_1 (.ref l)
  repeat (any_goals (first | assumption | wp_step))
  refine codeAny_mono (set_new1 (.ref l) (E := E) (Q₁ := fun obj s₁ => obj = .ref s.heap.objs.size ∧ s₁ = { s with heap := s.heap.push (newSetObj w) }) ⟨rfl, rfl⟩) fun r s₁ hr => ?_
  cases r with
  | error e => exact hr
  | ok fl =>
    cases fl with
    | ret obj =>
      obtain ⟨rfl, rfl⟩ := hr
      have hS : (s.heap.push (newSetObj w)).get? s.heap.objs.size = some (newSetObj w) := Heap.get?_push_size _ rfl
      have hT : Shared.TypeIs { s with heap := s.heap.push (newSetObj w) } (.ref s.heap.objs.size) "set" := ⟨_, hS, rfl⟩
      have hli := PySem.F.called_set.init.lookup
      have hbi := PySem.F.called_set.init.bind (.ref s.heap.objs.size)
      repeat (any_goals (first | assumption | wp_step))
      refine codeAny_mono (codeAny_call_builtin (R := wants (fun r s₂ => r = .none ∧ ∃ h' tk, s₂ = { s with heap := h', toks := tk } ∧ SetZ prog w h' s.heap.objs.size (ns.foldl ddup []) ∧
          (∀ b o, b < s.heap.objs.size → s.heap.get? b = some o → h'.get? b = some o)) E) PySem.F.called_set.init.plain PySem.F.entry_set_init (check_set_init_1 hT ?_)) fun r₂ s₂ hr₂ => ?_
      · obtain ⟨ol, hol, hcl, nl, hdl⟩ := hl
        obtain ⟨ocls, odict, odata, oslots⟩ := ol
        simp only at hcl hdl
        subst hcl; subst hdl
        have hol' : (s.heap.push (newSetObj w)).get? l = some { cls := .type "list", dict := odict, data := .seq items nl, slots := oslots } := Heap.get?_push_of_some _ hol
        have hsls := PySem.F.sub_list_set
        have hslf := PySem.F.sub_list_frozenset
        have hne : (Value.type "list" == Value.type "dict") = false := by decide
        have hl1 : (s.heap.push (newSetObj w)).IsList l items := ⟨_, hol', rfl, nl, rfl⟩
        unfold Builtin.«set.__init__» noKeywords Builtin.Frozenset.updateFrom
        generalize hPI : pyIter = PI
        wp_walk
        subst hPI
        refine wpAny_pyIter_list hl1 (wpAny_bind (wpAny_runValue ?_))
        have hlS : l < s.heap.objs.size := Heap.lt_size hol
        have hh3 : A.in1.in1.in1.handled = none := by simp [hh]
        have hsz : (s.heap.push (newSetObj w)).objs.size = s.heap.objs.size + 1 := Heap.size_push ..
        have hneI : l ≠ (s.heap.push (newSetObj w)).objs.size := by rw [hsz]; exact Nat.ne_of_lt (Nat.lt_succ_of_lt hlS)
        have hSf : s.heap.objs.size ∉ [(s.heap.push (newSetObj w)).objs.size, l] := by
          rw [hsz]; simp only [List.mem_cons, List.mem_singleton, List.not_mem_nil, or_false, not_or]
          exact ⟨Nat.ne_of_lt (Nat.lt_succ_self _), Nat.ne_of_gt hlS⟩
        have hnl : ns.length = items.size := by have := IntsAre.length hi; simpa using this.symm
        refine set_loop ((Walks.list hh3 _ l hneI items).toS) s.heap.objs.size hSf ns hnl (fun i v hv => IntsAre.int_at hi i v (by rw [Array.getElem?_toList]; exact hv)) hb (items.size - 0) 0 _ (by omega) (Nat.zero_le _)
          ⟨⟨_, Heap.get?_push_size _ rfl, rfl, rfl⟩, (hl1.push _)⟩ (sx_fresh (Heap.get?_push_of_some _ hS)) ?hR
        intro s' hm hS'
        obtain ⟨h', g', d', tk', os'⟩ := s'
        have eg : g' = s.gens := hm.gens
        have ed : d' = s.drawn := hm.drawn
        have eo : os' = s.os := hm.os
        subst eg; subst ed; subst eo
        refine wpAny_pure ?_
        show wpAny _ _ (ret Value.none) _ _ _
        refine wpAny_pure ⟨rfl, h', tk', rfl, hS', fun b o hb e => hm.heap b o ?_ (Heap.get?_push_of_some _ (Heap.get?_push_of_some _ e))⟩
        rw [hsz]; simp only [List.mem_cons, List.mem_singleton, List.not_mem_nil, or_false, not_or]
        exact ⟨Nat.ne_of_lt hb, Nat.ne_of_lt (Nat.lt_succ_of_lt hb)⟩
      · cases r₂ with
        | error e => exact hr₂
        | ok fl₂ =>
          cases fl₂ with
          | ret r =>
            obtain ⟨rfl, h', tk, rfl, hS', hk'⟩ := hr₂
            repeat (any_goals (first | assumption | wp_step))
            exact h _ _ hS' hk'
          | _ => exact hr₂.elim
    | _ => exact hr.elim
end
end L3
end
section
namespace L2
open PySem PySem.Spec PyProof.Rows L3
section
variable {X : Cx} {δ : Dn} {e : Expr} {pos : Pos}
theorem Inv.dr {pins : List (Addr × Obj)} {σ : St} {H : Hp} {s : Shared} (I : Inv X pins σ H s) (d : Drawn) : Inv X pins σ H { s with drawn := d } :=
  ⟨I.ok, I.os, I.bare, I.base, I.loc, I.cell, I.free, I.freeC, I.pin, I.hok, I.len⟩
noncomputable def SetO (X : Cx) (a : Addr) (ks : List Int) : HO := .ext fun h => SetZ X.prog X.w h a ks
theorem call_setX (hc : X.calm = true) : CallR X (.type "set") (fun xs H Q => ∃ (p : Addr) (ns : List Int), xs = [.ref p] ∧ SqL X.K H p (ns.map V.int) ∧ ns.length ≤ 1000 ∧ ∀ l, H l = none → Q (.ref l) (upd H l (SetO X l (ns.foldl ddup [])))) := by
  intro pins s σ H xs us Q I rv h
  obtain ⟨p, ns, rfl, hp, hz, q⟩ := h
  obtain ⟨u, rfl, ru⟩ := rv.one
  cases ru
  obtain ⟨its, r, pl, _⟩ := I.list hp
  have hl := r.length
  rw [List.length_map] at hl
  refine set_call (I.ok.hd hc) pl.isList (ns := ns) (by simpa using valsI_are r) (by
    have : scanBound > 2000 := by decide
    simp; omega) fun h' tk hS hk => ?_
  have hS' := hS
  obtain ⟨es, ep, t, ⟨⟨o, ho, _⟩, _⟩, _⟩ := hS'
  exact ⟨.ref s.heap.objs.size, _, I.laid (a := s.heap.objs.size) (o := SetO X s.heap.objs.size (ns.foldl ddup [])) (t' := tk) (fun b o e => hk b o (Heap.lt_size e) e) (Nat.le_refl _) ⟨hS, ⟨o, ho⟩, fun h1 h2 x k => x.at k⟩, rfl, q _ I.fresh⟩
theorem call_sortedS (hc : X.calm = true) : CallR X (.builtin "sorted") (fun xs H Q => ∃ (p : Addr) (ks : List Int), xs = [.ref p] ∧ H p = some (SetO X p ks) ∧ ks.length < 64 ∧ ∀ l, H l = none → Q (.ref l) (upd H l (.lst ((sortI ks).map V.int)))) := by
  intro pins s σ H xs us Q I rv h
  obtain ⟨p, ks, rfl, hp, hz, q⟩ := h
  obtain ⟨u, rfl, ru⟩ := rv.one
  cases ru
  have hS : SetZ X.prog X.w s.heap p ks := (I.hok p _ hp).1
  refine set_sorted (I.ok.hd hc) hS hz fun D h' tk d out ns c hk hD hat hi hp1 hpw => ?_
  have e : ns = sortI ks := sorted_one (hp1.trans (sortI_perm ks).symm) hpw (sortI_sorted ks)
  subst e
  refine ⟨.ref D, _, (I.laid (a := D) (o := .lst ((sortI ks).map V.int)) (t' := tk) hk hD ⟨?_, out.toList, c, ints_vals hi, by simpa [seqObj] using hat⟩).dr d, rfl, q _ (I.hok.fresh hD)⟩
  rw [List.length_map, (sortI_perm ks).length_eq]
  exact Nat.le_of_lt (small1000 (by omega))
theorem ef_sortSet {p p' pos' : Pos} {ns : List Int} (hc : X.calm = true) (hg : Gl X "sorted") (hm : X.mg "sorted" = none) (hg' : Gl X "set") (hm' : X.mg "set" = none) (ha : EvD X δ e (.list (iD ns))) (hz : ns.length ≤ 1000) (hk : (ns.foldl ddup []).length < 64) (hs : starEach [e] X.env = [(false, eval e X.env)] := by rfl)
    (hs2 : starEach [.Call (.Name "set" p') [e] [] pos'] X.env = [(false, eval (.Call (.Name "set" p') [e] [] pos') X.env)] := by rfl) :
    EvF X δ (.Call (.Name "sorted" p) [.Call (.Name "set" p') [e] [] pos'] [] pos) (iD (sortI (ns.foldl ddup []))) :=
  ef_of (pe_callB (call_sortedS hc) hg hm (by rfl) (pa_cons (pe_callTy (call_setX hc) hg' hm' (by rfl) (ea_cons ha ea_nil (by rw [hs]; rfl)) (he := by rw [hs]; rfl)) pa_nil (by rw [hs2]; rfl)) (he := by rw [hs2]; rfl)) fun Hb own B σ H Q E q => ⟨Hb, own, B, E, fun vs H1 s1 rv => by
    obtain ⟨v, r, rfl, ⟨a, us, rfl, _, h3, h4⟩, e2⟩ := rv
    cases e2
    rw [h4.iD_eq] at h3
    refine ⟨a, ns, rfl, SqL.of h3, hz, fun l hl => ⟨l, _, rfl, upd_same, hk, fun l2 hl2 => ?_⟩⟩
    have s2 := s1.trans (same_new hl (SetO X l (ns.foldl ddup [])))
    have e1 := same_new hl2 (.lst ((sortI (ns.foldl ddup [])).map V.int))
    exact q l2 _ _ (s2.trans e1) (s2.free hl2) upd_same (Reps.iD _)⟩
end
theorem ddl_mem : ∀ (l ks : List Int) (x : Int), x ∈ l.foldl ddup ks ↔ x ∈ ks ∨ x ∈ l
  | [], ks, x => by simp
  | a :: l, ks, x => by
    rw [List.foldl_cons, ddl_mem l]
    unfold ddup
    split
    · rename_i h
      have : a ∈ ks := by simpa using h
      constructor
      · rintro (q | q)
        · exact .inl q
        · exact .inr (List.mem_cons_of_mem _ q)
      · rintro (q | q)
        · exact .inl q
        · rcases List.mem_cons.mp q with rfl | q
          · exact .inl this
          · exact .inr q
    · simp [List.mem_append, List.mem_cons, or_assoc]
theorem ddl_nd : ∀ (l ks : List Int), ks.Nodup → (l.foldl ddup ks).Nodup
  | [], ks, h => h
  | a :: l, ks, h => by
    rw [List.foldl_cons]
    refine ddl_nd l _ ?_
    unfold ddup
    split
    · exact h
    · rename_i hn
      have : a ∉ ks := by simpa using hn
      rw [List.nodup_append]
      exact ⟨h, by simp, fun x hx y hy => by
        rw [List.mem_singleton.mp hy]; intro z; subst z; exact this hx⟩
end L2
end
section
namespace Kx
open PySem PySem.Spec PyProof.Rows L2
noncomputable def top (i : Nat) : Stmt := PySem.Challenge.pw_furlough_k13_short.main.body.getD i (.Pass ⟨0, 0, 0, 0⟩)
noncomputable abbrev sMng : Stmt := top 13
noncomputable abbrev sMan : Stmt := top 14
noncomputable abbrev sWays : Stmt := top 15
noncomputable abbrev sMove : Stmt := top 16
noncomputable abbrev sLacking : Stmt := top 17
noncomputable abbrev s_without : Stmt := top 19
noncomputable abbrev sMay : Stmt := top 20
noncomputable abbrev s_refuse_short : Stmt := top 21
noncomputable abbrev sGrant : Stmt := top 22
noncomputable abbrev sAble : Stmt := top 24
noncomputable abbrev sOne : Stmt := top 25
noncomputable abbrev sPaper : Stmt := top 27
noncomputable abbrev s_there_at_turn : Stmt := top 28
noncomputable abbrev s_refusal_paper : Stmt := top 29
noncomputable abbrev sIsG : Stmt := top 30
noncomputable abbrev sBound : Stmt := top 31
noncomputable abbrev s_posts_shown : Stmt := top 32
noncomputable abbrev sCell : Stmt := top 34
noncomputable abbrev sToss : Stmt := top 35
noncomputable abbrev sDealt : Stmt := top 36
noncomputable abbrev sHands : Stmt := top 37
noncomputable abbrev sThere : Stmt := top 38
noncomputable abbrev sAbleL : Stmt := top 39
noncomputable abbrev sAsks : Stmt := top 40
noncomputable abbrev sSeated : Stmt := top 41
noncomputable abbrev sMans : Stmt := top 42
noncomputable abbrev s__law_asked : Stmt := top 44
noncomputable abbrev s__law_refused : Stmt := top 45
noncomputable abbrev sLaw : Stmt := top 46
end Kx
end
section
namespace Mt
noncomputable abbrev Ways := List (Int × Int)
noncomputable def keys (w : Ways) : List Int := w.map (·.1)
variable (e : Int → Int → Bool) (pl : List (Option Int)) (hands : List Int)
noncomputable def wStep (p : Int) (s : Ways × List Int) (h : Int) : Ways × List Int :=
  if e h p = true ∧ h ∉ keys s.1 then (s.1 ++ [(h, p)], if some h ∈ pl then s.2 ++ [(pl.idxOf (some h) : Int)] else s.2) else s
noncomputable def wLoop : Nat → Ways → List Int → Ways
  | 0, w, _ => w
  | k + 1, w, q => match q.getLast? with
    | none => w
    | some p => wLoop k (hands.foldl (wStep e pl p) (w, q.dropLast)).1 (hands.foldl (wStep e pl p) (w, q.dropLast)).2
noncomputable def waysFrom (starts : List Int) : Ways := wLoop e pl hands (starts.length + hands.length + 1) [] starts
noncomputable def lookW (w : Ways) (h : Int) : Int := ((w.find? fun x => decide (x.1 = h)).map (·.2)).getD 0
noncomputable def mAlong (w : Ways) : Nat → List (Option Int) → Int → List (Option Int)
  | 0, pl, _ => pl
  | k + 1, pl, h => match pl.getD (lookW w h).toNat none with
    | none => pl.set (lookW w h).toNat (some h)
    | some h' => mAlong w k (pl.set (lookW w h).toNat (some h)) h'
noncomputable def freeOf (w : Ways) : List Int := (keys w).filter fun h => decide (some h ∉ pl)
noncomputable def manPost (post : Int) : List (Option Int) :=
  match freeOf pl (waysFrom e pl hands [post]) with
  | [] => pl
  | f :: _ => mAlong (waysFrom e pl hands [post]) (waysFrom e pl hands [post]).length pl f
structure PM (n : Nat) (pl : List (Option Int)) : Prop where
  len : pl.length = n
  ok : ∀ (i : Nat) (h : Int), pl[i]? = some (some h) → h ∈ hands ∧ e h i = true
  inj : ∀ (i j : Nat) (h : Int), pl[i]? = some (some h) → pl[j]? = some (some h) → i = j
theorem keys_app (a b : Ways) : keys (a ++ b) = keys a ++ keys b := List.map_append
theorem idx_get {pl : List (Option Int)} {h : Int} (hm : some h ∈ pl) : pl[pl.idxOf (some h)]? = some (some h) := by
  have hl := List.idxOf_lt_length_of_mem hm
  rw [List.getElem?_eq_getElem hl, List.getElem_idxOf hl]
structure WI (starts : List Int) (w : Ways) (q : List Int) (x : Option Int) : Prop where
  nd : (keys w).Nodup
  ent : ∀ h p, (h, p) ∈ w → h ∈ hands ∧ e h p = true
  src : ∀ pre h p post, w = pre ++ (h, p) :: post → p ∈ starts ∨ ∃ h', h' ∈ keys pre ∧ some h' ∈ pl ∧ p = pl.idxOf (some h')
  qs : ∀ p, (p ∈ q ∨ x = some p) → p ∈ starts ∨ ∃ h', h' ∈ keys w ∧ some h' ∈ pl ∧ p = pl.idxOf (some h')
  cl : ∀ p, (p ∈ starts ∨ ∃ h', h' ∈ keys w ∧ some h' ∈ pl ∧ p = pl.idxOf (some h')) → p ∈ q ∨ x = some p ∨ ∀ h ∈ hands, e h p = true → h ∈ keys w
variable {e pl hands}
theorem split_snoc {α : Type} {w pre post : List α} {a b : α} (h : w ++ [a] = pre ++ b :: post) : (post = [] ∧ pre = w ∧ b = a) ∨ ∃ post', post = post' ++ [a] ∧ w = pre ++ b :: post' := by
  rcases List.eq_nil_or_concat post with rfl | ⟨post', c, rfl⟩
  · have h' : w ++ [a] = pre ++ [b] := h
    have := List.append_inj' h' rfl
    left
    refine ⟨rfl, this.1.symm, ?_⟩
    have h2 := this.2
    simp at h2
    exact h2.symm
  · right
    have h' : w ++ [a] = (pre ++ b :: post') ++ [c] := by simpa using h
    have := List.append_inj' h' rfl
    have h2 : a = c := by simpa using this.2
    exact ⟨post', by rw [h2]; simp, this.1⟩
theorem step_inv {starts : List Int} {p : Int} {w : Ways} {q : List Int} {h : Int} (I : WI e pl hands starts w q (some p)) (hh : h ∈ hands) :
    WI e pl hands starts (wStep e pl p (w, q) h).1 (wStep e pl p (w, q) h).2 (some p) ∧ (e h p = true → h ∈ keys (wStep e pl p (w, q) h).1) ∧ (∀ k, k ∈ keys w → k ∈ keys (wStep e pl p (w, q) h).1) ∧
      (wStep e pl p (w, q) h).2.length + (hands.filter fun k => decide (k ∉ keys (wStep e pl p (w, q) h).1)).length ≤ q.length + (hands.filter fun k => decide (k ∉ keys w)).length := by
  unfold wStep
  by_cases hc : e h p = true ∧ h ∉ keys w
  · rw [if_pos hc]
    have kk : keys (w ++ [(h, p)]) = keys w ++ [h] := by simp [keys]
    refine ⟨⟨?_, ?_, ?_, ?_, ?_⟩, ?_, ?_, ?_⟩
    · show (keys (w ++ [(h, p)])).Nodup
      rw [kk, List.nodup_append]
      refine ⟨I.nd, by simp, ?_⟩
      intro a ha b hb
      have : b = h := by simpa using hb
      subst this
      intro z
      exact hc.2 (z ▸ ha)
    · intro h1 p1 hm
      rcases List.mem_append.mp hm with hm | hm
      · exact I.ent h1 p1 hm
      · have : h1 = h ∧ p1 = p := by simpa using hm
        rw [this.1, this.2]
        exact ⟨hh, hc.1⟩
    · intro pre h1 p1 post he
      rcases split_snoc he with ⟨_, rfl, hb⟩ | ⟨post', _, hw⟩
      · cases hb
        exact I.qs p (.inr rfl)
      · exact I.src pre h1 p1 post' hw
    · intro p1 hp
      have : p1 ∈ starts ∨ ∃ h', h' ∈ keys w ++ [h] ∧ some h' ∈ pl ∧ p1 = pl.idxOf (some h') := by
        rcases hp with hp | hp
        · by_cases hm : some h ∈ pl
          · have hp : p1 ∈ (if some h ∈ pl then q ++ [(pl.idxOf (some h) : Int)] else q) := hp
            rw [if_pos hm] at hp
            rcases List.mem_append.mp hp with hp | hp
            · rcases I.qs p1 (.inl hp) with z | ⟨h', z1, z2⟩
              · exact .inl z
              · exact .inr ⟨h', List.mem_append_left _ z1, z2⟩
            · have : p1 = pl.idxOf (some h) := by simpa using hp
              exact .inr ⟨h, by simp, hm, this⟩
          · have hp : p1 ∈ (if some h ∈ pl then q ++ [(pl.idxOf (some h) : Int)] else q) := hp
            rw [if_neg hm] at hp
            rcases I.qs p1 (.inl hp) with z | ⟨h', z1, z2⟩
            · exact .inl z
            · exact .inr ⟨h', List.mem_append_left _ z1, z2⟩
        · rcases I.qs p1 (.inr hp) with z | ⟨h', z1, z2⟩
          · exact .inl z
          · exact .inr ⟨h', List.mem_append_left _ z1, z2⟩
      show p1 ∈ starts ∨ ∃ h', h' ∈ keys (w ++ [(h, p)]) ∧ _
      rw [kk]; exact this
    · intro p1 hp
      show p1 ∈ (if some h ∈ pl then q ++ [(pl.idxOf (some h) : Int)] else q) ∨ some p = some p1 ∨ ∀ h1 ∈ hands, e h1 p1 = true → h1 ∈ keys (w ++ [(h, p)])
      have hp : p1 ∈ starts ∨ ∃ h', h' ∈ keys (w ++ [(h, p)]) ∧ some h' ∈ pl ∧ p1 = pl.idxOf (some h') := hp
      rw [kk] at hp
      rw [kk]
      have old : (p1 ∈ starts ∨ ∃ h', h' ∈ keys w ∧ some h' ∈ pl ∧ p1 = pl.idxOf (some h')) → p1 ∈ (if some h ∈ pl then q ++ [(pl.idxOf (some h) : Int)] else q) ∨ some p = some p1 ∨ ∀ h1 ∈ hands, e h1 p1 = true → h1 ∈ keys w ++ [h] := by
        intro z
        rcases I.cl p1 z with z | z | z
        · left
          split
          · exact List.mem_append_left _ z
          · exact z
        · exact .inr (.inl z)
        · exact .inr (.inr fun h1 m1 m2 => List.mem_append_left _ (z h1 m1 m2))
      rcases hp with hp | ⟨h', z1, z2, z3⟩
      · exact old (.inl hp)
      · rcases List.mem_append.mp z1 with z1 | z1
        · exact old (.inr ⟨h', z1, z2, z3⟩)
        · have : h' = h := by simpa using z1
          subst this
          left
          rw [if_pos z2, z3]
          simp
    · intro _
      show h ∈ keys (w ++ [(h, p)])
      rw [kk]; simp
    · intro k hk
      show k ∈ keys (w ++ [(h, p)])
      rw [kk]; exact List.mem_append_left _ hk
    · show (if some h ∈ pl then q ++ [(pl.idxOf (some h) : Int)] else q).length + (hands.filter fun k => decide (k ∉ keys (w ++ [(h, p)]))).length ≤ _
      have h1 : (hands.filter fun k => decide (k ∉ keys (w ++ [(h, p)]))).length + 1 ≤ (hands.filter fun k => decide (k ∉ keys w)).length := by
        have e1 : (hands.filter fun k => decide (k ∉ keys (w ++ [(h, p)]))) = (hands.filter fun k => decide (k ∉ keys w)).filter fun k => decide (k ≠ h) := by
          rw [List.filter_filter]
          apply List.filter_congr
          intro k _
          rw [kk]
          by_cases a : k ∈ keys w <;> by_cases b : k = h <;> simp [a, b]
        rw [e1]
        have hm : h ∈ hands.filter fun k => decide (k ∉ keys w) := List.mem_filter.mpr ⟨hh, by simpa using hc.2⟩
        have : ∀ (l : List Int), h ∈ l → (l.filter fun k => decide (k ≠ h)).length + 1 ≤ l.length := by
          intro l
          induction l with
          | nil => intro z; cases z
          | cons a r ih =>
            intro z
            by_cases ha : a = h
            · rw [List.filter_cons, if_neg (by simp [ha])]
              have := List.length_filter_le (fun k => decide (k ≠ h)) r
              rw [List.length_cons]; omega
            · rw [List.filter_cons, if_pos (by simp [ha])]
              have hr : h ∈ r := by
                rcases List.mem_cons.mp z with z | z
                · exact absurd z.symm ha
                · exact z
              have := ih hr
              rw [List.length_cons, List.length_cons]; omega
        exact this _ hm
      split
      · rw [List.length_append, List.length_singleton]; omega
      · omega
  · rw [if_neg hc]
    refine ⟨I, fun he => ?_, fun k hk => hk, Nat.le_refl _⟩
    by_cases hk : h ∈ keys w
    · exact hk
    · exact absurd ⟨he, hk⟩ hc
theorem fold_inv {starts : List Int} {p : Int} : ∀ (hs : List Int) (s : Ways × List Int), (∀ h ∈ hs, h ∈ hands) → WI e pl hands starts s.1 s.2 (some p) →
    WI e pl hands starts (hs.foldl (wStep e pl p) s).1 (hs.foldl (wStep e pl p) s).2 (some p) ∧ (∀ h ∈ hs, e h p = true → h ∈ keys (hs.foldl (wStep e pl p) s).1) ∧ (∀ k, k ∈ keys s.1 → k ∈ keys (hs.foldl (wStep e pl p) s).1) ∧
      (hs.foldl (wStep e pl p) s).2.length + (hands.filter fun k => decide (k ∉ keys (hs.foldl (wStep e pl p) s).1)).length ≤ s.2.length + (hands.filter fun k => decide (k ∉ keys s.1)).length
  | [], s, _, I => ⟨I, fun _ z => (nomatch z), fun _ z => z, Nat.le_refl _⟩
  | h :: hs, (w, q), hm, I => by
    obtain ⟨I1, a1, m1, l1⟩ := step_inv I (hm h List.mem_cons_self)
    obtain ⟨I2, a2, m2, l2⟩ := fold_inv hs (wStep e pl p (w, q) h) (fun k hk => hm k (List.mem_cons_of_mem _ hk)) I1
    refine ⟨I2, fun k hk he => ?_, fun k hk => m2 k (m1 k hk), Nat.le_trans l2 l1⟩
    rcases List.mem_cons.mp hk with rfl | hk
    · exact m2 _ (a1 he)
    · exact a2 k hk he
theorem loop_inv {starts : List Int} : ∀ (k : Nat) (w : Ways) (q : List Int), q.length + (hands.filter fun h => decide (h ∉ keys w)).length < k → WI e pl hands starts w q none → WI e pl hands starts (wLoop e pl hands k w q) [] none
  | 0, _, _, h, _ => absurd h (Nat.not_lt_zero _)
  | k + 1, w, q, h, I => by
    unfold wLoop
    cases hq : q.getLast? with
    | none =>
      have : q = [] := by simpa using hq
      subst this
      exact I
    | some p =>
      have hq' : q = q.dropLast ++ [p] := by
        rcases List.eq_nil_or_concat q with rfl | ⟨q', c, rfl⟩
        · cases hq
        · simp at hq
          subst hq
          simp
      have I1 : WI e pl hands starts w q.dropLast (some p) := by
        refine ⟨I.nd, I.ent, I.src, fun p1 hp => ?_, fun p1 hp => ?_⟩
        · refine I.qs p1 (.inl ?_)
          rw [hq']
          rcases hp with hp | hp
          · exact List.mem_append_left _ hp
          · cases hp; simp
        · rcases I.cl p1 hp with z | z | z
          · rw [hq'] at z
            rcases List.mem_append.mp z with z | z
            · exact .inl z
            · exact .inr (.inl (by have : p1 = p := by simpa using z
                                   rw [this]))
          · cases z
          · exact .inr (.inr z)
      obtain ⟨I2, a2, m2, l2⟩ := fold_inv hands (w, q.dropLast) (fun _ h => h) I1
      refine loop_inv k _ _ ?_ ⟨I2.nd, I2.ent, I2.src, fun p1 hp => ?_, fun p1 hp => ?_⟩
      · have hl : q.length = q.dropLast.length + 1 := by
          have := congrArg List.length hq'
          rw [List.length_append, List.length_singleton] at this
          exact this
        have l2 : _ ≤ q.dropLast.length + (hands.filter fun h => decide (h ∉ keys w)).length := l2
        omega
      · rcases hp with hp | hp
        · exact I2.qs p1 (.inl hp)
        · cases hp
      · rcases I2.cl p1 hp with z | z | z
        · exact .inl z
        · cases z
          exact .inr (.inr a2)
        · exact .inr (.inr z)
theorem ways_inv (starts : List Int) : WI e pl hands starts (waysFrom e pl hands starts) [] none := by
  refine loop_inv _ _ _ ?_ ⟨List.nodup_nil, fun _ _ z => (nomatch z), fun pre h p post z => ?_, fun p hp => ?_, fun p hp => ?_⟩
  · have := List.length_filter_le (fun h => decide (h ∉ keys [])) hands
    omega
  · cases pre <;> cases z
  · rcases hp with hp | hp
    · exact .inl hp
    · cases hp
  · rcases hp with hp | ⟨_, z, _⟩
    · exact .inl hp
    · cases z
theorem ways_cl {starts : List Int} {p : Int} (hp : p ∈ starts ∨ ∃ h', h' ∈ keys (waysFrom e pl hands starts) ∧ some h' ∈ pl ∧ p = pl.idxOf (some h')) : ∀ h ∈ hands, e h p = true → h ∈ keys (waysFrom e pl hands starts) := by
  rcases (ways_inv starts).cl p hp with z | z | z
  · cases z
  · cases z
  · exact z
theorem look_of {w : Ways} {h p : Int} (nd : (keys w).Nodup) (hm : (h, p) ∈ w) : lookW w h = p := by
  unfold lookW
  induction w with
  | nil => cases hm
  | cons a r ih =>
    have nd' : a.1 ∉ keys r ∧ (keys r).Nodup := by simpa [keys] using nd
    rw [List.find?_cons]
    by_cases ha : a.1 = h
    · simp only [ha, decide_true, Option.map_some, Option.getD_some]
      rcases List.mem_cons.mp hm with rfl | hm
      · rfl
      · exact absurd (List.mem_map.mpr ⟨_, hm, rfl⟩) (ha ▸ nd'.1)
    · simp only [ha, decide_false]
      rcases List.mem_cons.mp hm with rfl | hm
      · exact absurd rfl ha
      · exact ih nd'.2 hm
theorem key_split {w : Ways} {h : Int} (hk : h ∈ keys w) : ∃ pre p post, w = pre ++ (h, p) :: post := by
  obtain ⟨⟨h', p⟩, hm, rfl⟩ := List.mem_map.mp hk
  obtain ⟨pre, post, e⟩ := List.append_of_mem hm
  exact ⟨pre, p, post, e⟩
noncomputable def Cl (e : Int → Int → Bool) (hands : List Int) (pl : List (Option Int)) (D : Nat → Prop) : Prop := ∀ i h, D i → h ∈ hands → e h (i : Int) = true → ∃ j, D j ∧ pl[j]? = some (some h)
structure AlongOk (e : Int → Int → Bool) (hands : List Int) (n : Nat) (pl0 cur r : List (Option Int)) (s h : Int) : Prop where
  pm : PM e hands n r
  bare : ∀ i : Nat, r[i]? = some none ↔ cur[i]? = some none ∧ i ≠ s.toNat
  keep : ∀ D : Nat → Prop, Cl e hands pl0 D → (¬ ∃ j, D j ∧ pl0[j]? = some (some h)) → ∀ i, D i → r[i]? = cur[i]?
theorem PM.set {n : Nat} {cur : List (Option Int)} {p h : Int} (P : PM e hands n cur) (h0 : 0 ≤ p) (hh : h ∈ hands) (he : e h p = true) (hn : some h ∉ cur) : PM e hands n (cur.set p.toNat (some h)) := by
  refine ⟨by rw [List.length_set]; exact P.len, fun i k hk => ?_, fun i j k hi hj => ?_⟩
  · rw [List.getElem?_set] at hk
    split at hk
    · rename_i hpi
      split at hk
      · cases hk
        have : (i : Int) = p := by omega
        rw [this]; exact ⟨hh, he⟩
      · cases hk
    · exact P.ok i k hk
  · rw [List.getElem?_set] at hi hj
    split at hi <;> split at hj
    · omega
    · split at hi
      · cases hi
        exact absurd (List.mem_of_getElem? hj) hn
      · cases hi
    · split at hj
      · cases hj
        exact absurd (List.mem_of_getElem? hi) hn
      · cases hj
    · exact P.inj i j k hi hj
theorem src_at {s : Int} {w : Ways} {n : Nat} {pl0 : List (Option Int)} (I : WI e pl0 hands [s] w [] none) (h0 : 0 ≤ s) (hs : pl0[s.toNat]? = some none) {pre : Ways} {h p : Int} {post : Ways} (hw : w = pre ++ (h, p) :: post) :
    0 ≤ p ∧ ((p = s ∧ pl0[p.toNat]? = some none) ∨ ∃ h', h' ∈ keys pre ∧ pl0[p.toNat]? = some (some h')) := by
  rcases I.src pre h p post hw with z | ⟨h', z1, z2, z3⟩
  · have : p = s := by simpa using z
    subst this
    exact ⟨h0, .inl ⟨rfl, hs⟩⟩
  · refine ⟨by omega, .inr ⟨h', z1, ?_⟩⟩
    rw [z3, Int.toNat_natCast]
    exact idx_get z2
structure CI (w : Ways) (n : Nat) (pl0 cur : List (Option Int)) (h : Int) (k : Nat) (e : Int → Int → Bool) (hands : List Int) : Prop where
  ex : ∃ pre p post, w = pre ++ (h, p) :: post ∧ pre.length < k ∧ ∀ h1 p1, (h1, p1) ∈ pre ++ [(h, p)] → cur[p1.toNat]? = pl0[p1.toNat]?
  pm : PM e hands n cur
  nin : some h ∉ cur
theorem CI.next {s : Int} {w : Ways} {n : Nat} {pl0 cur : List (Option Int)} {h : Int} {k : Nat} (I : WI e pl0 hands [s] w [] none) (h0 : 0 ≤ s) (hs : pl0[s.toNat]? = some none) (C : CI w n pl0 cur h (k + 1) e hands) :
    0 ≤ lookW w h ∧ (h, lookW w h) ∈ w ∧ h ∈ keys w ∧ (lookW w h).toNat < n ∧ cur[(lookW w h).toNat]? = pl0[(lookW w h).toNat]? ∧ PM e hands n (cur.set (lookW w h).toNat (some h)) ∧
      ((cur.getD (lookW w h).toNat none = none ∧ lookW w h = s) ∨ ∃ h', cur.getD (lookW w h).toNat none = some h' ∧ pl0[(lookW w h).toNat]? = some (some h') ∧ lookW w h ≠ s ∧ CI w n pl0 (cur.set (lookW w h).toNat (some h)) h' k e hands) := by
  obtain ⟨pre, p, post, hw, hk, ag⟩ := C.ex
  have hm : (h, p) ∈ w := by rw [hw]; simp
  have hl : lookW w h = p := look_of I.nd hm
  have hkw : h ∈ keys w := List.mem_map.mpr ⟨_, hm, rfl⟩
  obtain ⟨hp0, hp⟩ := src_at (n := n) I h0 hs hw
  have ha := ag h p (by simp)
  obtain ⟨e1, e2⟩ := I.ent h p hm
  have P' := C.pm.set hp0 e1 e2 C.nin
  have hlt : p.toNat < n := by
    have : ∃ x, cur[p.toNat]? = some x := by
      rw [ha]
      rcases hp with ⟨_, z⟩ | ⟨h', _, z⟩
      · exact ⟨_, z⟩
      · exact ⟨_, z⟩
    obtain ⟨x, hx⟩ := this
    rw [← C.pm.len]
    exact (List.getElem?_eq_some_iff.mp hx).1
  rw [hl]
  refine ⟨hp0, hm, hkw, hlt, ha, P', ?_⟩
  rcases hp with ⟨z1, z2⟩ | ⟨h', z1, z2⟩
  · left
    refine ⟨?_, z1⟩
    rw [List.getD_eq_getElem?_getD, ha, z2]; rfl
  · right
    have hc : cur[p.toNat]? = some (some h') := ha.trans z2
    refine ⟨h', by rw [List.getD_eq_getElem?_getD, hc]; rfl, z2, ?_, ?_, P', ?_⟩
    · intro z
      rw [z, hs] at z2; cases z2
    · obtain ⟨pre', p', post', hpre⟩ := key_split z1
      have hw' : w = pre' ++ (h', p') :: (post' ++ (h, p) :: post) := by rw [hw, hpre]; simp
      refine ⟨pre', p', _, hw', ?_, fun h1 p1 hm1 => ?_⟩
      · have := congrArg List.length hpre
        rw [List.length_append, List.length_cons] at this
        omega
      · have hin : (h1, p1) ∈ pre ++ [(h, p)] := by
          rw [hpre]
          rcases List.mem_append.mp hm1 with z | z
          · simp [z]
          · have : (h1, p1) = (h', p') := by simpa using z
            rw [this]; simp
        have hne : p.toNat ≠ p1.toNat := by
          intro z
          obtain ⟨a, b, hab⟩ := List.append_of_mem hm1
          have hw1 : w = a ++ (h1, p1) :: (b ++ (post' ++ (h, p) :: post)) := by
            have : w = (pre' ++ [(h', p')]) ++ (post' ++ (h, p) :: post) := by rw [hw']; simp
            rw [this, hab]; simp
          obtain ⟨_, q⟩ := src_at (n := n) I h0 hs hw1
          rw [← z, z2] at q
          rcases q with ⟨_, q⟩ | ⟨h2, q1, q2⟩
          · cases q
          · cases q2
            have hsub : ∃ c, pre' = a ++ c := by
              rcases split_snoc hab with ⟨_, z, _⟩ | ⟨c, _, z⟩
              · exact ⟨[], by rw [z]; simp⟩
              · exact ⟨(h1, p1) :: c, z⟩
            obtain ⟨c, hc'⟩ := hsub
            have nd := I.nd
            rw [hw', hc'] at nd
            have : (keys ((a ++ c) ++ (h', p') :: (post' ++ (h, p) :: post))) = keys (a ++ c) ++ h' :: keys (post' ++ (h, p) :: post) := by simp [keys]
            rw [this, List.nodup_append] at nd
            exact nd.2.2 h' (by rw [keys_app]; exact List.mem_append_left _ q1) h' (by simp) rfl
        rw [List.getElem?_set_ne hne]
        exact ag h1 p1 hin
    · intro z
      obtain ⟨i, hi⟩ := List.mem_iff_getElem?.mp z
      rw [List.getElem?_set] at hi
      split at hi
      · split at hi
        · cases hi
          exact C.nin (List.mem_of_getElem? hc)
        · cases hi
      · rename_i hne
        exact hne (C.pm.inj _ _ _ hc hi)
theorem along {s : Int} {w : Ways} {n : Nat} {pl0 : List (Option Int)} (P0 : PM e hands n pl0) (I : WI e pl0 hands [s] w [] none) (h0 : 0 ≤ s) (hs : pl0[s.toNat]? = some none) : ∀ (k : Nat) (cur : List (Option Int)) (h : Int), CI w n pl0 cur h k e hands →
    AlongOk e hands n pl0 cur (mAlong w k cur h) s h
  | 0, cur, h, C => by obtain ⟨_, _, _, _, z, _⟩ := C.ex; exact absurd z (Nat.not_lt_zero _)
  | k + 1, cur, h, C => by
    obtain ⟨hp0, hm, hkw, hlt, ha, P', hn⟩ := C.next I h0 hs
    obtain ⟨e1, e2⟩ := I.ent _ _ hm
    have hD : ∀ D : Nat → Prop, Cl e hands pl0 D → (¬ ∃ j, D j ∧ pl0[j]? = some (some h)) → ¬ D (lookW w h).toNat := fun D c z d => z (c _ h d e1 (by rw [Int.toNat_of_nonneg hp0]; exact e2))
    unfold mAlong
    rcases hn with ⟨z1, z2⟩ | ⟨h', z1, z2, z3, C'⟩
    · rw [z1]
      refine ⟨P', fun i => ?_, fun D c z i d => ?_⟩
      · rw [List.getElem?_set]
        split
        · rename_i hi
          rw [if_pos (by rw [C.pm.len, ← z2] at *; omega)]
          constructor
          · intro z; cases z
          · rintro ⟨_, z⟩; rw [← z2] at z; exact absurd hi.symm z
        · rename_i hi
          rw [← z2]
          exact ⟨fun z => ⟨z, fun y => hi y.symm⟩, fun z => z.1⟩
      · rw [List.getElem?_set_ne (fun y : (lookW w h).toNat = i => hD D c z (y ▸ d))]
    · rw [z1]
      have R := along P0 I h0 hs k _ h' C'
      have hcur : cur[(lookW w h).toNat]? = some (some h') := ha.trans z2
      refine ⟨R.pm, fun i => ?_, fun D c z i d => ?_⟩
      · rw [R.bare i, List.getElem?_set]
        split
        · rename_i hi
          rw [if_pos (by rw [C.pm.len]; omega)]
          rw [← hi, hcur]
          constructor
          · rintro ⟨y, _⟩; cases y
          · rintro ⟨y, _⟩; cases y
        · exact Iff.rfl
      · have h1 := R.keep D c (fun ⟨j, dj, hj⟩ => hD D c z (by rw [P0.inj _ _ _ z2 hj]; exact dj)) i d
        rw [h1, List.getElem?_set_ne (fun y : (lookW w h).toNat = i => hD D c z (y ▸ d))]
noncomputable def Stk (e : Int → Int → Bool) (hands : List Int) (pl : List (Option Int)) (v : Nat) : Prop := pl[v]? = some none ∧ ∃ D : Nat → Prop, D v ∧ Cl e hands pl D
theorem manPost_ok {n : Nat} {pl : List (Option Int)} {s : Nat} (P : PM e hands n pl) (hs : pl[s]? = some none) :
    PM e hands n (manPost e pl hands s) ∧ (∀ i : Nat, (manPost e pl hands s)[i]? = some none → pl[i]? = some none) ∧ (∀ i : Nat, i ≠ s → pl[i]? = some none → (manPost e pl hands s)[i]? = some none) ∧
      ((manPost e pl hands s)[s]? = some none → Stk e hands (manPost e pl hands s) s) ∧ ∀ v, Stk e hands pl v → v ≠ s → Stk e hands (manPost e pl hands s) v := by
  have I := ways_inv (e := e) (pl := pl) (hands := hands) [(s : Int)]
  have hs' : pl[(s : Int).toNat]? = some none := by rw [Int.toNat_natCast]; exact hs
  unfold manPost
  cases hf : freeOf pl (waysFrom e pl hands [(s : Int)]) with
  | nil =>
    refine ⟨P, fun _ z => z, fun _ _ z => z, fun z => ⟨z, fun i => i = s ∨ ∃ h, h ∈ keys (waysFrom e pl hands [(s : Int)]) ∧ pl[i]? = some (some h), .inl rfl, ?_⟩, fun v z _ => z⟩
    have all : ∀ h, h ∈ keys (waysFrom e pl hands [(s : Int)]) → some h ∈ pl := fun h hk => by
      by_cases z : some h ∈ pl
      · exact z
      · have : h ∈ freeOf pl (waysFrom e pl hands [(s : Int)]) := List.mem_filter.mpr ⟨hk, by simpa using z⟩
        rw [hf] at this; cases this
    intro i h hi hh he
    have hk : h ∈ keys (waysFrom e pl hands [(s : Int)]) := by
      refine ways_cl (p := (i : Int)) ?_ h hh he
      rcases hi with rfl | ⟨h', z1, z2⟩
      · exact .inl (by simp)
      · refine .inr ⟨h', z1, List.mem_of_getElem? z2, ?_⟩
        have := P.inj _ _ _ z2 (idx_get (List.mem_of_getElem? z2))
        omega
    exact ⟨pl.idxOf (some h), .inr ⟨h, hk, idx_get (all h hk)⟩, idx_get (all h hk)⟩
  | cons f r =>
    have hfm : f ∈ freeOf pl (waysFrom e pl hands [(s : Int)]) := by rw [hf]; simp
    obtain ⟨hk, hfn⟩ := List.mem_filter.mp hfm
    have hfn : some f ∉ pl := by simpa using hfn
    obtain ⟨pre, p, post, hw⟩ := key_split hk
    have C : CI (waysFrom e pl hands [(s : Int)]) n pl pl f (waysFrom e pl hands [(s : Int)]).length e hands := by
      refine ⟨⟨pre, p, post, hw, ?_, fun _ _ _ => rfl⟩, P, hfn⟩
      have := congrArg List.length hw
      rw [List.length_append, List.length_cons] at this
      omega
    have R := along P I (by omega) hs' _ _ _ C
    refine ⟨R.pm, fun i z => ((R.bare i).mp z).1, fun i hi z => (R.bare i).mpr ⟨z, by rw [Int.toNat_natCast]; exact hi⟩, fun z => ?_, fun v ⟨z, D, d, c⟩ hv => ?_⟩
    · exact absurd (by rw [Int.toNat_natCast]) ((R.bare s).mp z).2
    · have hD : ∀ i, D i → (mAlong (waysFrom e pl hands [(s : Int)]) (waysFrom e pl hands [(s : Int)]).length pl f)[i]? = pl[i]? := R.keep D c (fun ⟨j, _, hj⟩ => hfn (List.mem_of_getElem? hj))
      refine ⟨by show (mAlong _ _ _ _)[v]? = _; rw [hD v d]; exact z, D, d, fun i h di hh he => ?_⟩
      obtain ⟨j, dj, hj⟩ := c i h di hh he
      exact ⟨j, dj, by show (mAlong _ _ _ _)[j]? = _; rw [hD j dj]; exact hj⟩
noncomputable def manAll (e : Int → Int → Bool) (hands : List Int) : Nat → Nat → List (Option Int)
  | n, 0 => List.replicate n none
  | n, k + 1 => manPost e (manAll e hands n k) hands k
structure AllOk (e : Int → Int → Bool) (hands : List Int) (n k : Nat) (pl : List (Option Int)) : Prop where
  pm : PM e hands n pl
  rest : ∀ i, k ≤ i → i < n → pl[i]? = some none
  stk : ∀ i, i < k → pl[i]? = some none → Stk e hands pl i
theorem manAll_ok (n : Nat) : ∀ k, k ≤ n → AllOk e hands n k (manAll e hands n k)
  | 0, _ => by
    refine ⟨⟨List.length_replicate, fun i h z => ?_, fun i j h z => ?_⟩, fun i _ hi => ?_, fun i z => absurd z (Nat.not_lt_zero _)⟩
    · rw [manAll, List.getElem?_replicate] at z; split at z <;> cases z
    · rw [manAll, List.getElem?_replicate] at z; split at z <;> cases z
    · rw [manAll, List.getElem?_replicate, if_pos hi]
  | k + 1, hk => by
    have A := manAll_ok n k (by omega)
    obtain ⟨h1, h2, h3, h4, h5⟩ := manPost_ok A.pm (A.rest k (Nat.le_refl _) (by omega))
    refine ⟨h1, fun i hi hn => h3 i (by omega) (A.rest i (by omega) hn), fun i hi hz => ?_⟩
    by_cases e1 : i = k
    · subst e1; exact h4 hz
    · exact h5 i (A.stk i (by omega) (h2 i hz)) e1
noncomputable def posts (n : Nat) : List Int := (List.range n).map fun (i : Nat) => (i : Int)
theorem mem_posts {n : Nat} {p : Int} : p ∈ posts n ↔ 0 ≤ p ∧ p < n := by
  simp only [posts, List.mem_map, List.mem_range]
  constructor
  · rintro ⟨i, h, rfl⟩; omega
  · rintro ⟨h1, h2⟩; exact ⟨p.toNat, by omega, by omega⟩
theorem nodup_posts (n : Nat) : (posts n).Nodup := by
  unfold posts
  exact List.Pairwise.map _ (fun a b (h : a ≠ b) => by omega) List.nodup_range
noncomputable def bareOf (n : Nat) (pl : List (Option Int)) : List Int := (posts n).filter fun p => decide (pl.getD p.toNat none = none)
theorem mem_bare {n : Nat} {pl : List (Option Int)} (hl : pl.length = n) {p : Int} : p ∈ bareOf n pl ↔ 0 ≤ p ∧ p < n ∧ pl[p.toNat]? = some none := by
  unfold bareOf
  rw [List.mem_filter, mem_posts]
  constructor
  · rintro ⟨⟨h0, h1⟩, h2⟩
    have h2 : pl.getD p.toNat none = none := of_decide_eq_true h2
    have hlt : p.toNat < pl.length := by omega
    rw [List.getD_eq_getElem?_getD, List.getElem?_eq_getElem hlt] at h2
    refine ⟨h0, h1, ?_⟩
    rw [List.getElem?_eq_getElem hlt]
    exact congrArg some h2
  · rintro ⟨h0, h1, h2⟩
    refine ⟨⟨h0, h1⟩, ?_⟩
    rw [List.getD_eq_getElem?_getD, h2]; rfl
noncomputable def lackOf (e : Int → Int → Bool) (pl : List (Option Int)) (hands : List Int) (n : Nat) : List Int := bareOf n pl ++ (keys (waysFrom e pl hands (bareOf n pl))).map fun h => (pl.idxOf (some h) : Int)
structure Mx (e : Int → Int → Bool) (hands : List Int) (n : Nat) (pl : List (Option Int)) : Prop where
  pm : PM e hands n pl
  stk : ∀ i : Nat, pl[i]? = some none → Stk e hands pl i
theorem manAll_mx (n : Nat) : Mx e hands n (manAll e hands n n) := by
  have A := manAll_ok (e := e) (hands := hands) n n (Nat.le_refl _)
  refine ⟨A.pm, fun i hz => A.stk i ?_ hz⟩
  have := (List.getElem?_eq_some_iff.mp hz).1
  rw [A.pm.len] at this; exact this
section
variable {n : Nat} {pl : List (Option Int)} (M : Mx e hands n pl)
theorem pl_at (P : PM e hands n pl) {h : Int} {i : Nat} (hi : pl[i]? = some (some h)) : pl.idxOf (some h) = i := P.inj _ _ _ (idx_get (List.mem_of_getElem? hi)) hi
include M
theorem Mx.placed : ∀ h, h ∈ keys (waysFrom e pl hands (bareOf n pl)) → some h ∈ pl := by
  have I := ways_inv (e := e) (pl := pl) (hands := hands) (bareOf n pl)
  have key : ∀ (k : Nat) (pre : Ways) (h p : Int) (post : Ways), pre.length = k → waysFrom e pl hands (bareOf n pl) = pre ++ (h, p) :: post → ∃ (D : Nat → Prop) (j : Nat), D j ∧ Cl e hands pl D ∧ pl[j]? = some (some h) := by
    intro k
    induction k using Nat.strongRecOn with
    | _ k ih =>
      intro pre h p post hk hw
      have hm : (h, p) ∈ waysFrom e pl hands (bareOf n pl) := by rw [hw]; simp
      obtain ⟨e1, e2⟩ := I.ent h p hm
      rcases I.src pre h p post hw with z | ⟨h', z1, z2, z3⟩
      · obtain ⟨b0, b1, b2⟩ := (mem_bare M.pm.len).mp z
        obtain ⟨_, D, d, c⟩ := M.stk _ b2
        obtain ⟨j, dj, hj⟩ := c p.toNat h d e1 (by rw [Int.toNat_of_nonneg b0]; exact e2)
        exact ⟨D, j, dj, c, hj⟩
      · obtain ⟨pre', p', post', hpre⟩ := key_split z1
        have hlen := congrArg List.length hpre
        rw [List.length_append, List.length_cons] at hlen
        obtain ⟨D, j, dj, c, hj⟩ := ih pre'.length (by omega) pre' h' p' (post' ++ (h, p) :: post) rfl (by rw [hw, hpre]; simp)
        have hji : p = (j : Int) := by rw [z3, pl_at M.pm hj]
        obtain ⟨j2, d2, h2⟩ := c j h dj e1 (by rw [← hji]; exact e2)
        exact ⟨D, j2, d2, c, h2⟩
  intro h hk
  obtain ⟨pre, p, post, hw⟩ := key_split hk
  obtain ⟨_, j, _, _, hj⟩ := key _ pre h p post rfl hw
  exact List.mem_of_getElem? hj
theorem Mx.mem {p : Int} : p ∈ lackOf e pl hands n ↔ p ∈ bareOf n pl ∨ ∃ h, h ∈ keys (waysFrom e pl hands (bareOf n pl)) ∧ some h ∈ pl ∧ p = pl.idxOf (some h) := by
  unfold lackOf
  rw [List.mem_append, List.mem_map]
  constructor
  · rintro (z | ⟨h, z1, z2⟩)
    · exact .inl z
    · exact .inr ⟨h, z1, M.placed h z1, z2.symm⟩
  · rintro (z | ⟨h, z1, _, z2⟩)
    · exact .inl z
    · exact .inr ⟨h, z1, z2.symm⟩
theorem Mx.range {p : Int} (hp : p ∈ lackOf e pl hands n) : 0 ≤ p ∧ p < n := by
  rcases M.mem.mp hp with z | ⟨h, _, z2, z3⟩
  · have := (mem_bare M.pm.len).mp z; exact ⟨this.1, this.2.1⟩
  · have := List.idxOf_lt_length_of_mem z2
    rw [M.pm.len] at this
    omega
theorem Mx.able {h : Int} (hh : h ∈ hands) : (∃ p, p ∈ lackOf e pl hands n ∧ e h p = true) ↔ h ∈ keys (waysFrom e pl hands (bareOf n pl)) := by
  have I := ways_inv (e := e) (pl := pl) (hands := hands) (bareOf n pl)
  constructor
  · rintro ⟨p, hp, he⟩
    exact ways_cl (M.mem.mp hp) h hh he
  · intro hk
    obtain ⟨pre, p, post, hw⟩ := key_split hk
    have hm : (h, p) ∈ waysFrom e pl hands (bareOf n pl) := by rw [hw]; simp
    refine ⟨p, M.mem.mpr ?_, (I.ent h p hm).2⟩
    rcases I.src pre h p post hw with z | ⟨h', z1, z2⟩
    · exact .inl z
    · refine .inr ⟨h', ?_, z2⟩
      rw [hw, keys_app]; exact List.mem_append_left _ z1
theorem Mx.nodup : (lackOf e pl hands n).Nodup := by
  unfold lackOf
  have I := ways_inv (e := e) (pl := pl) (hands := hands) (bareOf n pl)
  rw [List.nodup_append]
  refine ⟨(nodup_posts n).filter _, ?_, ?_⟩
  · have key : ∀ l : List Int, l.Nodup → (∀ h ∈ l, some h ∈ pl) → (l.map fun h => (pl.idxOf (some h) : Int)).Nodup := by
      intro l
      induction l with
      | nil => intros; exact List.nodup_nil
      | cons a r ih =>
        intro nd hm
        rw [List.nodup_cons] at nd
        rw [List.map_cons, List.nodup_cons]
        refine ⟨fun z => ?_, ih nd.2 fun h hh => hm h (List.mem_cons_of_mem _ hh)⟩
        obtain ⟨b, hb, hab⟩ := List.mem_map.mp z
        have h1 := idx_get (hm a List.mem_cons_self)
        have h2 := idx_get (hm b (List.mem_cons_of_mem _ hb))
        have h3 : pl.idxOf (some b) = pl.idxOf (some a) := by omega
        rw [h3, h1] at h2
        cases h2
        exact nd.1 hb
    exact key _ I.nd M.placed
  · intro a ha b hb hab
    obtain ⟨h, hk, rfl⟩ := List.mem_map.mp hb
    have := ((mem_bare M.pm.len).mp ha).2.2
    rw [hab, Int.toNat_natCast, idx_get (M.placed h hk)] at this
    cases this
theorem Mx.length : (lackOf e pl hands n).length = (bareOf n pl).length + (keys (waysFrom e pl hands (bareOf n pl))).length := by unfold lackOf; rw [List.length_append, List.length_map]
end
theorem nodup_sub_len : ∀ {a b : List Int}, a.Nodup → (∀ x ∈ a, x ∈ b) → a.length ≤ b.length
  | [], _, _, _ => Nat.zero_le _
  | x :: r, b, nd, h => by
    rw [List.nodup_cons] at nd
    have hx := h x List.mem_cons_self
    have := nodup_sub_len (a := r) (b := b.erase x) nd.2 fun y hy => (List.mem_erase_of_ne (fun z : y = x => nd.1 (z ▸ hy))).mpr (h y (List.mem_cons_of_mem _ hy))
    rw [List.length_erase_of_mem hx] at this
    have := List.length_pos_of_mem hx
    rw [List.length_cons]; omega
theorem nodup_sub_all {a b : List Int} (ha : a.Nodup) (hb : b.Nodup) (h : ∀ x ∈ a, x ∈ b) (hl : b.length ≤ a.length) : ∀ x ∈ b, x ∈ a := by
  intro x hx
  by_cases z : x ∈ a
  · exact z
  · have := nodup_sub_len (a := x :: a) (b := b) (List.nodup_cons.mpr ⟨z, ha⟩) fun y hy => by
      rcases List.mem_cons.mp hy with rfl | hy
      · exact hx
      · exact h y hy
    rw [List.length_cons] at this; omega
noncomputable def nbr (e : Int → Int → Bool) (hands S : List Int) : List Int := hands.filter fun h => S.any (e h)
theorem mem_nbr {S : List Int} {h : Int} : h ∈ nbr e hands S ↔ h ∈ hands ∧ ∃ p, p ∈ S ∧ e h p = true := by
  unfold nbr
  rw [List.mem_filter, List.any_eq_true]
section
variable {n : Nat} {pl : List (Option Int)}
noncomputable def standAt (pl : List (Option Int)) (S : List Int) : List Int := S.filterMap fun p => pl.getD p.toNat none
theorem stand_mem {S : List Int} {h : Int} : h ∈ standAt pl S ↔ ∃ p, p ∈ S ∧ pl.getD p.toNat none = some h := by unfold standAt; rw [List.mem_filterMap]
theorem getD_some {i : Nat} {h : Int} (hz : pl.getD i none = some h) : pl[i]? = some (some h) := by
  rw [List.getD_eq_getElem?_getD] at hz
  cases q : pl[i]? with
  | none => rw [q] at hz; cases hz
  | some x => rw [q] at hz; exact congrArg some hz
theorem stand_nodup (P : PM e hands n pl) : ∀ {S : List Int}, S.Nodup → (∀ p ∈ S, 0 ≤ p) → (standAt pl S).Nodup
  | [], _, _ => List.nodup_nil
  | p :: r, nd, h0 => by
    rw [List.nodup_cons] at nd
    have ih := stand_nodup P nd.2 fun x hx => h0 x (List.mem_cons_of_mem _ hx)
    unfold standAt
    rw [List.filterMap_cons]
    cases hp : pl.getD p.toNat none with
    | none => exact ih
    | some h =>
      refine List.nodup_cons.mpr ⟨fun z => ?_, ih⟩
      obtain ⟨q, hq, hz⟩ := stand_mem.mp z
      have := P.inj _ _ _ (getD_some hp) (getD_some hz)
      have := h0 p List.mem_cons_self
      have := h0 q (List.mem_cons_of_mem _ hq)
      have : p = q := by omega
      exact nd.1 (this ▸ hq)
theorem stand_len : ∀ (S : List Int), S.length = (standAt pl S).length + (S.filter fun p => decide (pl.getD p.toNat none = none)).length
  | [] => rfl
  | p :: r => by
    have ih := stand_len r
    unfold standAt at *
    rw [List.filterMap_cons, List.filter_cons]
    cases hp : pl.getD p.toNat none with
    | none => simp only [decide_true, if_true, List.length_cons]; omega
    | some h => simp only [reduceCtorEq, decide_false, Bool.false_eq_true, if_false, List.length_cons]; omega
theorem stand_sub (P : PM e hands n pl) {S : List Int} (h0 : ∀ p ∈ S, 0 ≤ p) : ∀ h ∈ standAt pl S, h ∈ nbr e hands S := by
  intro h hh
  obtain ⟨p, hp, hz⟩ := stand_mem.mp hh
  have := P.ok _ _ (getD_some hz)
  rw [Int.toNat_of_nonneg (h0 p hp)] at this
  exact mem_nbr.mpr ⟨this.1, p, hp, this.2⟩
theorem lack_le (P : PM e hands n pl) {S : List Int} (nd : S.Nodup) (hS : ∀ p ∈ S, 0 ≤ p ∧ p < n) : S.length ≤ (nbr e hands S).length + (bareOf n pl).length := by
  have h0 : ∀ p ∈ S, 0 ≤ p := fun p hp => (hS p hp).1
  have h1 := nodup_sub_len (stand_nodup P nd h0) (stand_sub P h0)
  have h2 := nodup_sub_len (a := S.filter fun p => decide (pl.getD p.toNat none = none)) (b := bareOf n pl) (nd.filter _) fun p hp => by
    rw [List.mem_filter] at hp
    exact List.mem_filter.mpr ⟨mem_posts.mpr (hS p hp.1), hp.2⟩
  have := stand_len (pl := pl) S
  omega
theorem lack_eq (M : Mx e hands n pl) (hnd : hands.Nodup) {S : List Int} (nd : S.Nodup) (hS : ∀ p ∈ S, 0 ≤ p ∧ p < n) (hl : (nbr e hands S).length + (bareOf n pl).length ≤ S.length) : ∀ p ∈ lackOf e pl hands n, p ∈ S := by
  have P := M.pm
  have h0 : ∀ p ∈ S, 0 ≤ p := fun p hp => (hS p hp).1
  have n1 := stand_nodup P nd h0
  have s1 := stand_sub P h0
  have h1 := nodup_sub_len n1 s1
  have s2 : ∀ p ∈ S.filter (fun p => decide (pl.getD p.toNat none = none)), p ∈ bareOf n pl := fun p hp => by
    rw [List.mem_filter] at hp
    exact List.mem_filter.mpr ⟨mem_posts.mpr (hS p hp.1), hp.2⟩
  have h2 := nodup_sub_len (nd.filter _) s2
  have h3 := stand_len (pl := pl) S
  have a1 := nodup_sub_all n1 (hnd.filter _) s1 (by show (nbr e hands S).length ≤ _; omega)
  have a2 := nodup_sub_all (nd.filter _) ((nodup_posts n).filter _) s2 (by show (bareOf n pl).length ≤ _; omega)
  have hb : ∀ p ∈ bareOf n pl, p ∈ S := fun p hp => (List.mem_filter.mp (a2 p hp)).1
  have I := ways_inv (e := e) (pl := pl) (hands := hands) (bareOf n pl)
  have key : ∀ (k : Nat) (pre : Ways) (h p : Int) (post : Ways), pre.length = k → waysFrom e pl hands (bareOf n pl) = pre ++ (h, p) :: post → (pl.idxOf (some h) : Int) ∈ S := by
    intro k
    induction k using Nat.strongRecOn with
    | _ k ih =>
      intro pre h p post hk hw
      have hm : (h, p) ∈ waysFrom e pl hands (bareOf n pl) := by rw [hw]; simp
      obtain ⟨e1, e2⟩ := I.ent h p hm
      have hpS : p ∈ S := by
        rcases I.src pre h p post hw with z | ⟨h', z1, z2, z3⟩
        · exact hb p z
        · obtain ⟨pre', p', post', hpre⟩ := key_split z1
          have hlen := congrArg List.length hpre
          rw [List.length_append, List.length_cons] at hlen
          rw [z3]
          exact ih pre'.length (by omega) pre' h' p' (post' ++ (h, p) :: post) rfl (by rw [hw, hpre]; simp)
      obtain ⟨q, hq, hz⟩ := stand_mem.mp (a1 h (mem_nbr.mpr ⟨e1, p, hpS, e2⟩))
      have : pl.idxOf (some h) = q.toNat := pl_at P (getD_some hz)
      rw [this, Int.toNat_of_nonneg (h0 q hq)]
      exact hq
  intro p hp
  rcases M.mem.mp hp with z | ⟨h, z1, _, z2⟩
  · exact hb p z
  · obtain ⟨pre, p', post, hw⟩ := key_split z1
    rw [z2]
    exact key _ pre h p' post rfl hw
theorem lack_told (M : Mx e hands n pl) (hnd : hands.Nodup) : (nbr e hands (lackOf e pl hands n)).length + (bareOf n pl).length = (lackOf e pl hands n).length := by
  have I := ways_inv (e := e) (pl := pl) (hands := hands) (bareOf n pl)
  have h1 : (nbr e hands (lackOf e pl hands n)).length = (keys (waysFrom e pl hands (bareOf n pl))).length := by
    apply Nat.le_antisymm
    · refine nodup_sub_len (hnd.filter _) fun h hh => ?_
      obtain ⟨h1, h2⟩ := mem_nbr.mp hh
      exact (M.able h1).mp h2
    · refine nodup_sub_len I.nd fun h hk => ?_
      obtain ⟨⟨h', p⟩, hm, rfl⟩ := List.mem_map.mp hk
      exact mem_nbr.mpr ⟨(I.ent _ _ hm).1, (M.able (I.ent _ _ hm).1).mpr hk⟩
  rw [M.length, h1]; omega
end
end Mt
end
section
namespace Mt
variable {e : Int → Int → Bool} {hands : List Int} {n : Nat}
noncomputable def plOf (e : Int → Int → Bool) (hands : List Int) (n : Nat) : List (Option Int) := manAll e hands n n
noncomputable def bareN (e : Int → Int → Bool) (hands : List Int) (n : Nat) : List Int := bareOf n (plOf e hands n)
noncomputable def toldOf (e : Int → Int → Bool) (hands : List Int) (n : Nat) : List Int := lackOf e (plOf e hands n) hands n
noncomputable def defi (e : Int → Int → Bool) (hands : List Int) (n : Nat) : Nat := (bareN e hands n).length
structure PSet (n : Nat) (S : List Int) : Prop where
  nd : S.Nodup
  rg : ∀ p ∈ S, 0 ≤ p ∧ p < n
theorem defi_le (e : Int → Int → Bool) (hands : List Int) {S : List Int} (h : PSet n S) : S.length ≤ (nbr e hands S).length + defi e hands n := lack_le (manAll_mx n).pm h.nd h.rg
theorem told_set : PSet n (toldOf e hands n) := ⟨(manAll_mx n).nodup, fun p hp => (manAll_mx n).range hp⟩
theorem told_len (hnd : hands.Nodup) : (nbr e hands (toldOf e hands n)).length + defi e hands n = (toldOf e hands n).length := lack_told (manAll_mx n) hnd
theorem told_sub (hnd : hands.Nodup) {S : List Int} (h : PSet n S) (hl : (nbr e hands S).length + defi e hands n ≤ S.length) : ∀ p ∈ toldOf e hands n, p ∈ S := lack_eq (manAll_mx n) hnd h.nd h.rg hl
section
variable {e' : Int → Int → Bool} {ns : List Int}
end
end Mt
end
section
namespace Mt
variable (e : Int → Int → Bool) (hands : List Int)
noncomputable abbrev SR3 := Bool × Ways × List Int
noncomputable def putS (st : Ways) (h p : Int) : Ways := if h ∈ keys st then st.map (fun x => if x.1 = h then (x.1, p) else x) else st ++ [(h, p)]
noncomputable def seatL (rec : Int → Ways → List Int → SR3) (post : Int) : List Int → Ways → List Int → SR3
  | [], st, sn => (false, st, sn)
  | h :: hs, st, sn =>
    if e h post = true ∧ h ∉ sn then
      if h ∉ keys st then (true, putS st h post, sn ++ [h])
      else if (rec (lookW st h) st (sn ++ [h])).1 = true then (true, putS (rec (lookW st h) st (sn ++ [h])).2.1 h post, (rec (lookW st h) st (sn ++ [h])).2.2)
      else seatL rec post hs (rec (lookW st h) st (sn ++ [h])).2.1 (rec (lookW st h) st (sn ++ [h])).2.2
    else seatL rec post hs st sn
noncomputable def seatF : Nat → Int → Ways → List Int → SR3
  | 0, post, st, sn => seatL e (fun _ st sn => (false, st, sn)) post hands st sn
  | m + 1, post, st, sn => seatL e (seatF m) post hands st sn
noncomputable def cnt (st : Ways) (q : Int) : Nat := (st.filter fun x => decide (x.2 = q)).length
variable {e hands}
theorem keys_put {st : Ways} {h p : Int} : (∀ k, k ∈ keys (putS st h p) ↔ k ∈ keys st ∨ k = h) ∧ ((keys st).Nodup → (keys (putS st h p)).Nodup) := by
  unfold putS
  split
  · rename_i hm
    have e1 : keys (st.map fun x => if x.1 = h then (x.1, p) else x) = keys st := by
      unfold keys
      rw [List.map_map]
      apply List.map_congr_left
      intro x _
      simp only [Function.comp]
      split <;> rfl
    rw [e1]
    exact ⟨fun k => ⟨.inl, fun z => z.elim id fun y => y ▸ hm⟩, id⟩
  · rename_i hm
    have e1 : keys (st ++ [(h, p)]) = keys st ++ [h] := by simp [keys]
    rw [e1]
    refine ⟨fun k => by simp, fun nd => ?_⟩
    rw [List.nodup_append]
    refine ⟨nd, by simp, fun a ha b hb => ?_⟩
    have : b = h := by simpa using hb
    subst this
    exact fun z => hm (z ▸ ha)
theorem mem_put {st : Ways} {h p : Int} {x : Int × Int} (hx : x ∈ putS st h p) : x = (h, p) ∨ (x ∈ st ∧ x.1 ≠ h) := by
  unfold putS at hx
  split at hx
  · obtain ⟨y, hy, rfl⟩ := List.mem_map.mp hx
    by_cases z : y.1 = h
    · rw [if_pos z, z]; exact .inl rfl
    · rw [if_neg z]; exact .inr ⟨hy, z⟩
  · rename_i hm
    rcases List.mem_append.mp hx with hx | hx
    · exact .inr ⟨hx, fun z => hm (List.mem_map.mpr ⟨x, hx, z⟩)⟩
    · exact .inl (by simpa using hx)
theorem look_put {st : Ways} {h p k : Int} (nd : (keys st).Nodup) (hk : k ≠ h) (hm : k ∈ keys st) : lookW (putS st h p) k = lookW st k := by
  obtain ⟨⟨k', q⟩, hq, rfl⟩ := List.mem_map.mp hm
  have h1 : (k', q) ∈ putS st h p := by
    unfold putS
    split
    · exact List.mem_map.mpr ⟨(k', q), hq, if_neg hk⟩
    · exact List.mem_append_left _ hq
  rw [look_of (keys_put.2 nd) h1, look_of nd hq]
theorem cnt_put_new {st : Ways} {h p : Int} (hm : h ∉ keys st) (q : Int) : cnt (putS st h p) q = cnt st q + if p = q then 1 else 0 := by
  unfold cnt putS
  rw [if_neg hm, List.filter_append, List.length_append]
  congr 1
  by_cases z : p = q <;> simp [z]
theorem cnt_put_old {st : Ways} {h p : Int} (nd : (keys st).Nodup) (hm : h ∈ keys st) (q : Int) : cnt (putS st h p) q + (if lookW st h = q then 1 else 0) = cnt st q + if p = q then 1 else 0 := by
  unfold putS
  rw [if_pos hm]
  have key : ∀ (st : Ways), (keys st).Nodup → h ∈ keys st → cnt (st.map fun x => if x.1 = h then (x.1, p) else x) q + (if lookW st h = q then 1 else 0) = cnt st q + if p = q then 1 else 0 := by
    intro st
    induction st with
    | nil => intro _ z; cases z
    | cons x r ih =>
      intro nd hm
      have nd' : x.1 ∉ keys r ∧ (keys r).Nodup := by simpa [keys] using nd
      by_cases hx : x.1 = h
      · have hr : r.map (fun x => if x.1 = h then (x.1, p) else x) = r := by
          have : ∀ y ∈ r, (if y.1 = h then (y.1, p) else y) = y := fun y hy => if_neg fun z => nd'.1 (List.mem_map.mpr ⟨y, hy, z.trans hx.symm⟩)
          conv => rhs; rw [← List.map_id r]
          exact List.map_congr_left this
        have hl : lookW (x :: r) h = x.2 := look_of nd (by rw [← hx]; exact List.mem_cons_self)
        rw [List.map_cons, hr, if_pos hx, hl]
        unfold cnt
        rw [List.filter_cons, List.filter_cons]
        by_cases h1 : p = q <;> by_cases h2 : x.2 = q <;> simp [h1, h2] <;> omega
      · have hm' : h ∈ keys r := by
          rcases List.mem_cons.mp (show h ∈ x.1 :: keys r from hm) with z | z
          · exact absurd z.symm hx
          · exact z
        have hl : lookW (x :: r) h = lookW r h := by
          unfold lookW
          rw [List.find?_cons, decide_eq_false hx]
        have := ih nd'.2 hm'
        rw [List.map_cons, if_neg hx, hl]
        unfold cnt at *
        rw [List.filter_cons, List.filter_cons]
        by_cases h2 : x.2 = q <;> simp [h2] <;> omega
  exact key st nd hm
structure SOk (e : Int → Int → Bool) (hands : List Int) (st : Ways) : Prop where
  nd : (keys st).Nodup
  ok : ∀ x ∈ st, x.1 ∈ hands ∧ e x.1 x.2 = true
theorem SOk.put {st : Ways} {h p : Int} (S : SOk e hands st) (hh : h ∈ hands) (he : e h p = true) : SOk e hands (putS st h p) :=
  ⟨keys_put.2 S.nd, fun x hx => by
    rcases mem_put hx with rfl | ⟨hx, _⟩
    · exact ⟨hh, he⟩
    · exact S.ok x hx⟩
theorem look_mem {st : Ways} {h : Int} (nd : (keys st).Nodup) (hm : h ∈ keys st) : (h, lookW st h) ∈ st := by
  obtain ⟨⟨k, q⟩, hq, rfl⟩ := List.mem_map.mp hm
  rw [look_of nd hq]; exact hq
structure SeatR (e : Int → Int → Bool) (hands : List Int) (post : Int) (st : Ways) (sn : List Int) (r : SR3) : Prop where
  ok : SOk e hands r.2.1
  snd : r.2.2.Nodup
  sub : ∀ h ∈ sn, h ∈ r.2.2
  inh : ∀ h ∈ r.2.2, h ∈ hands
  yes : r.1 = true → (∀ q, cnt r.2.1 q = cnt st q + if post = q then 1 else 0) ∧ (∀ h ∈ sn, (h ∈ keys r.2.1 ↔ h ∈ keys st) ∧ (h ∈ keys st → lookW r.2.1 h = lookW st h)) ∧ ∀ h ∈ keys st, h ∈ keys r.2.1
  no : r.1 = false → r.2.1 = st ∧ (∀ h ∈ hands, e h post = true → h ∈ r.2.2) ∧ ∀ h ∈ r.2.2, h ∉ sn → h ∈ keys st ∧ ∀ k ∈ hands, e k (lookW st h) = true → k ∈ r.2.2
noncomputable def left (hands sn : List Int) : Nat := (hands.filter fun h => decide (h ∉ sn)).length
theorem left_lt {sn : List Int} {h : Int} (hh : h ∈ hands) (hn : h ∉ sn) : left hands (sn ++ [h]) < left hands sn := by
  unfold left
  have e1 : (hands.filter fun k => decide (k ∉ sn ++ [h])) = (hands.filter fun k => decide (k ∉ sn)).filter fun k => decide (k ≠ h) := by
    rw [List.filter_filter]
    apply List.filter_congr
    intro k _
    by_cases a : k ∈ sn <;> by_cases b : k = h <;> simp [a, b]
  rw [e1]
  have hm : h ∈ hands.filter fun k => decide (k ∉ sn) := List.mem_filter.mpr ⟨hh, by simpa using hn⟩
  have : ∀ (l : List Int), h ∈ l → (l.filter fun k => decide (k ≠ h)).length < l.length := by
    intro l
    induction l with
    | nil => intro z; cases z
    | cons a r ih =>
      intro z
      by_cases ha : a = h
      · rw [List.filter_cons, if_neg (by simp [ha])]
        have := List.length_filter_le (fun k => decide (k ≠ h)) r
        rw [List.length_cons]; omega
      · rw [List.filter_cons, if_pos (by simp [ha])]
        have hr : h ∈ r := by
          rcases List.mem_cons.mp z with z | z
          · exact absurd z.symm ha
          · exact z
        have := ih hr
        rw [List.length_cons, List.length_cons]; omega
  exact this _ hm
theorem seatL_ok {rec : Int → Ways → List Int → SR3} {m : Nat} (hrec : ∀ p st sn, SOk e hands st → sn.Nodup → (∀ h ∈ sn, h ∈ hands) → left hands sn < m → SeatR e hands p st sn (rec p st sn)) (post : Int) (st : Ways) (sn0 : List Int) (S : SOk e hands st) :
    ∀ (hs : List Int) (sn : List Int), sn.Nodup → (∀ h ∈ sn, h ∈ hands) → (∀ h ∈ sn0, h ∈ sn) → left hands sn ≤ m → (∀ h ∈ hs, h ∈ hands) → (∀ h ∈ hands, e h post = true → h ∈ sn ∨ h ∈ hs) → (∀ h ∈ sn, h ∉ sn0 → h ∈ keys st ∧ ∀ k ∈ hands, e k (lookW st h) = true → k ∈ sn) →
      SeatR e hands post st sn0 (seatL e rec post hs st sn)
  | [], sn, nd, inh, sub, hl, hh, cov, cl => ⟨S, nd, sub, inh, fun z => (nomatch z), fun _ => ⟨rfl, fun h hm he => (cov h hm he).elim id fun z => (nomatch z), cl⟩⟩
  | h :: hs, sn, nd, inh, sub, hl, hh, cov, cl => by
    have hhm := hh h List.mem_cons_self
    unfold seatL
    by_cases hc : e h post = true ∧ h ∉ sn
    · rw [if_pos hc]
      have nd1 : (sn ++ [h]).Nodup := by
        rw [List.nodup_append]
        refine ⟨nd, by simp, fun a ha b hb z => ?_⟩
        have : b = h := by simpa using hb
        exact hc.2 (this ▸ z ▸ ha)
      have inh1 : ∀ k ∈ sn ++ [h], k ∈ hands := fun k hk => by
        rcases List.mem_append.mp hk with hk | hk
        · exact inh k hk
        · have : k = h := by simpa using hk
          rw [this]; exact hhm
      have h0 : h ∉ sn0 := fun z => hc.2 (sub h z)
      by_cases hk : h ∉ keys st
      · rw [if_pos hk]
        refine ⟨S.put hhm hc.1, nd1, fun k z => List.mem_append_left _ (sub k z), inh1, fun _ => ⟨cnt_put_new hk, fun k hk0 => ?_, fun k z => keys_put.1 k |>.mpr (.inl z)⟩, fun z => nomatch z⟩
        have kh : k ≠ h := fun z => h0 (z ▸ hk0)
        exact ⟨(keys_put.1 k).trans ⟨fun z => z.resolve_right kh, .inl⟩, fun z => look_put S.nd kh z⟩
      · rw [if_neg hk]
        have hk : h ∈ keys st := by simpa using hk
        have R := hrec (lookW st h) st (sn ++ [h]) S nd1 inh1 (Nat.lt_of_lt_of_le (left_lt hhm hc.2) hl)
        generalize hr : rec (lookW st h) st (sn ++ [h]) = r at R
        by_cases hy : r.1 = true
        · rw [if_pos hy]
          obtain ⟨y1, y2, y3⟩ := R.yes hy
          have hin : h ∈ sn ++ [h] := by simp
          have hkr : h ∈ keys r.2.1 := (y2 h hin).1.mpr hk
          have hlr : lookW r.2.1 h = lookW st h := (y2 h hin).2 hk
          refine ⟨R.ok.put hhm hc.1, R.snd, fun k z => R.sub k (List.mem_append_left _ (sub k z)), R.inh, fun _ => ⟨fun q => ?_, fun k hk0 => ?_, fun k z => (keys_put.1 k).mpr (.inl (y3 k z))⟩, fun z => nomatch z⟩
          · have c1 := cnt_put_old (p := post) R.ok.nd hkr q
            rw [hlr, y1 q] at c1
            show cnt (putS r.2.1 h post) q = _
            omega
          · have kh : k ≠ h := fun z => h0 (z ▸ hk0)
            have y := y2 k (List.mem_append_left _ (sub k hk0))
            refine ⟨((keys_put.1 k).trans ⟨fun z => z.resolve_right kh, .inl⟩).trans y.1, fun z => ?_⟩
            show lookW (putS r.2.1 h post) k = _
            rw [look_put R.ok.nd kh (y.1.mpr z)]
            exact y.2 z
        · rw [if_neg hy]
          obtain ⟨n1, n2, n3⟩ := R.no (Bool.eq_false_iff.mpr hy)
          rw [n1]
          have hl' : left hands r.2.2 ≤ left hands sn := by
            unfold left
            have e2 : (hands.filter fun k => decide (k ∉ r.2.2)) = (hands.filter fun k => decide (k ∉ sn)).filter fun k => decide (k ∉ r.2.2) := by
              rw [List.filter_filter]
              apply List.filter_congr
              intro k _
              by_cases a : k ∈ r.2.2
              · simp [a]
              · have b : k ∉ sn := fun z => a (R.sub k (List.mem_append_left _ z))
                simp [a, b]
            rw [e2]; exact List.length_filter_le _ _
          refine seatL_ok hrec post st sn0 S hs r.2.2 R.snd R.inh (fun k z => R.sub k (List.mem_append_left _ (sub k z))) (Nat.le_trans hl' hl) (fun k z => hh k (List.mem_cons_of_mem _ z)) (fun k hm he => ?_) (fun k hm h0' => ?_)
          · rcases cov k hm he with z | z
            · exact .inl (R.sub k (List.mem_append_left _ z))
            · rcases List.mem_cons.mp z with rfl | z
              · exact .inl (R.sub _ (by simp))
              · exact .inr z
          · by_cases hks : k ∈ sn ++ [h]
            · rcases List.mem_append.mp hks with z | z
              · obtain ⟨c1, c2⟩ := cl k z h0'
                exact ⟨c1, fun j hj he => R.sub j (List.mem_append_left _ (c2 j hj he))⟩
              · have : k = h := by simpa using z
                subst this
                exact ⟨hk, n2⟩
            · exact n3 k hm hks
    · rw [if_neg hc]
      refine seatL_ok hrec post st sn0 S hs sn nd inh sub hl (fun k z => hh k (List.mem_cons_of_mem _ z)) (fun k hm he => ?_) cl
      rcases cov k hm he with z | z
      · exact .inl z
      · rcases List.mem_cons.mp z with rfl | z
        · by_cases y : k ∈ sn
          · exact .inl y
          · exact absurd ⟨he, y⟩ hc
        · exact .inr z
theorem seatF_ok : ∀ (m : Nat) (post : Int) (st : Ways) (sn : List Int), SOk e hands st → sn.Nodup → (∀ h ∈ sn, h ∈ hands) → left hands sn ≤ m → SeatR e hands post st sn (seatF e hands m post st sn)
  | 0, post, st, sn, S, nd, inh, hl => seatL_ok (m := 0) (fun _ _ _ _ _ _ z => absurd z (Nat.not_lt_zero _)) post st sn S hands sn nd inh (fun _ z => z) hl (fun _ z => z) (fun _ z _ => .inr z) (fun h z z' => absurd z z')
  | m + 1, post, st, sn, S, nd, inh, hl => seatL_ok (m := m + 1) (fun p st sn S nd inh hl => seatF_ok m p st sn S nd inh (by omega)) post st sn S hands sn nd inh (fun _ z => z) hl (fun _ z => z) (fun _ z _ => .inr z) (fun h z z' => absurd z z')
end Mt
end
section
namespace Mt
variable {e : Int → Int → Bool} {hands : List Int}
noncomputable def seatAll (e : Int → Int → Bool) (hands : List Int) : Nat → Ways × List Int
  | 0 => ([], [])
  | k + 1 => ((seatF e hands hands.length k (seatAll e hands k).1 []).2.1, if (seatF e hands hands.length k (seatAll e hands k).1 []).1 = true then (seatAll e hands k).2 else (seatAll e hands k).2 ++ [(k : Int)])
noncomputable def ShutS (e : Int → Int → Bool) (hands : List Int) (st : Ways) (v : Int) (R : List Int) : Prop := R.Nodup ∧ (∀ h ∈ R, h ∈ keys st) ∧ (∀ k ∈ hands, e k v = true → k ∈ R) ∧ ∀ h ∈ R, ∀ k ∈ hands, e k (lookW st h) = true → k ∈ R
structure SAll (e : Int → Int → Bool) (hands : List Int) (k : Nat) (s : Ways × List Int) : Prop where
  ok : SOk e hands s.1
  cn : ∀ q, cnt s.1 q = if 0 ≤ q ∧ q < k ∧ q ∉ s.2 then 1 else 0
  rg : ∀ v ∈ s.2, 0 ≤ v ∧ v < k
  so : s.2.Pairwise (· < ·)
  shut : ∀ v ∈ s.2, ∃ R, ShutS e hands s.1 v R
theorem cnt_pos {st : Ways} {q : Int} : 0 < cnt st q ↔ ∃ h, (h, q) ∈ st := by
  unfold cnt
  constructor
  · intro h
    obtain ⟨x, hx⟩ := List.exists_mem_of_length_pos h
    obtain ⟨h1, h2⟩ := List.mem_filter.mp hx
    have : x.2 = q := of_decide_eq_true h2
    exact ⟨x.1, by rw [← this]; exact h1⟩
  · rintro ⟨h, hm⟩
    exact List.length_pos_of_mem (List.mem_filter.mpr ⟨hm, by simp⟩)
theorem cnt_one {st : Ways} {q h h' : Int} (hc : cnt st q ≤ 1) (nd : (keys st).Nodup) (h1 : (h, q) ∈ st) (h2 : (h', q) ∈ st) : h = h' := by
  by_cases z : h = h'
  · exact z
  · have ndf : (st.filter fun x => decide (x.2 = q)).Nodup := by
      have : st.Nodup := (List.pairwise_map.mp nd).imp fun {a b} (hab : a.1 ≠ b.1) (hz : a = b) => hab (hz ▸ rfl)
      exact this.filter _
    have m1 : (h, q) ∈ st.filter fun x => decide (x.2 = q) := List.mem_filter.mpr ⟨h1, by simp⟩
    have m2 : (h', q) ∈ st.filter fun x => decide (x.2 = q) := List.mem_filter.mpr ⟨h2, by simp⟩
    unfold cnt at hc
    cases hf : st.filter fun x => decide (x.2 = q) with
    | nil => rw [hf] at m1; cases m1
    | cons a r =>
      rw [hf, List.length_cons] at hc
      have hr : r = [] := List.eq_nil_of_length_eq_zero (by omega)
      rw [hf, hr] at m1 m2
      have e1 : (h, q) = a := by simpa using m1
      have e2 : (h', q) = a := by simpa using m2
      exact absurd (congrArg Prod.fst (e1.trans e2.symm)) z
theorem shut_keep {st st' : Ways} {v : Int} {R : List Int} (S : SOk e hands st) (S' : SOk e hands st') (hc : ∀ q, cnt st q ≤ 1) (hg : ∀ q, cnt st q ≤ cnt st' q) (h : ShutS e hands st v R) : ShutS e hands st' v R := by
  obtain ⟨nd, hk, hv, hR⟩ := h
  have dnd : ∀ (l : List Int), l.Nodup → (∀ h ∈ l, h ∈ keys st) → (l.map (lookW st)).Nodup := by
    intro l
    induction l with
    | nil => intros; exact List.nodup_nil
    | cons a r ih =>
      intro nd hm
      rw [List.nodup_cons] at nd
      rw [List.map_cons, List.nodup_cons]
      refine ⟨fun z => ?_, ih nd.2 fun x hx => hm x (List.mem_cons_of_mem _ hx)⟩
      obtain ⟨b, hb, hab⟩ := List.mem_map.mp z
      have h1 := look_mem S.nd (hm a List.mem_cons_self)
      have h2 := look_mem S.nd (hm b (List.mem_cons_of_mem _ hb))
      rw [hab] at h2
      exact nd.1 (cnt_one (hc _) S.nd h1 h2 ▸ hb)
  have Dn := dnd R nd hk
  let W := (st'.filter fun x => decide (x.2 ∈ R.map (lookW st))).map (·.1)
  have Wnd : W.Nodup := by
    have : (st'.filter fun x => decide (x.2 ∈ R.map (lookW st))).map (·.1) = keys (st'.filter fun x => decide (x.2 ∈ R.map (lookW st))) := rfl
    exact (List.filter_sublist.map _).nodup S'.nd
  have WR : ∀ h ∈ W, h ∈ R := fun h hw => by
    obtain ⟨x, hx, rfl⟩ := List.mem_map.mp hw
    obtain ⟨h1, h2⟩ := List.mem_filter.mp hx
    obtain ⟨a, ha, hax⟩ := List.mem_map.mp (of_decide_eq_true h2)
    obtain ⟨k1, k2⟩ := S'.ok x h1
    exact hR a ha x.1 k1 (by rw [hax]; exact k2)
  have Dlen : (R.map (lookW st)).length ≤ W.length := by
    have : (R.map (lookW st)).length ≤ ((st'.filter fun x => decide (x.2 ∈ R.map (lookW st))).map (·.2)).length := nodup_sub_len Dn fun q hq => by
      obtain ⟨a, ha, rfl⟩ := List.mem_map.mp hq
      have h1 : 0 < cnt st (lookW st a) := cnt_pos.mpr ⟨a, look_mem S.nd (hk a ha)⟩
      obtain ⟨h', hh'⟩ := cnt_pos.mp (Nat.lt_of_lt_of_le h1 (hg _))
      exact List.mem_map.mpr ⟨(h', lookW st a), List.mem_filter.mpr ⟨hh', decide_eq_true hq⟩, rfl⟩
    rw [List.length_map (as := st'.filter _)] at this
    show _ ≤ ((st'.filter fun x => decide (x.2 ∈ R.map (lookW st))).map (·.1)).length
    rw [List.length_map (as := st'.filter _)]
    exact this
  rw [List.length_map] at Dlen
  have all := nodup_sub_all Wnd nd WR Dlen
  refine ⟨nd, fun h hh => ?_, hv, fun h hh k hkm he => ?_⟩
  · obtain ⟨x, hx, rfl⟩ := List.mem_map.mp (all h hh)
    exact List.mem_map.mpr ⟨x, (List.mem_filter.mp hx).1, rfl⟩
  · obtain ⟨x, hx, rfl⟩ := List.mem_map.mp (all h hh)
    obtain ⟨h1, h2⟩ := List.mem_filter.mp hx
    obtain ⟨a, ha, hax⟩ := List.mem_map.mp (of_decide_eq_true h2)
    have hl : lookW st' x.1 = x.2 := look_of S'.nd h1
    rw [hl, ← hax] at he
    exact hR a ha k hkm he
theorem seatAll_ok (e : Int → Int → Bool) (hands : List Int) : ∀ k, SAll e hands k (seatAll e hands k)
  | 0 => ⟨⟨List.nodup_nil, fun x z => (by cases z)⟩, fun q => by rw [if_neg (by omega)]; rfl, fun v z => (by cases z), List.Pairwise.nil, fun v z => (by cases z)⟩
  | k + 1 => by
    have A := seatAll_ok e hands k
    have hl : left hands [] ≤ hands.length := List.length_filter_le _ _
    have R := seatF_ok (e := e) (hands := hands) hands.length (k : Int) (seatAll e hands k).1 [] A.ok List.nodup_nil (fun _ z => (by cases z)) hl
    have hc1 : ∀ q, cnt (seatAll e hands k).1 q ≤ 1 := fun q => by rw [A.cn q]; split <;> omega
    have hkn : (k : Int) ∉ (seatAll e hands k).2 := fun z => by have := A.rg _ z; omega
    unfold seatAll
    by_cases hy : (seatF e hands hands.length k (seatAll e hands k).1 []).1 = true
    · obtain ⟨y1, _, y3⟩ := R.yes hy
      rw [if_pos hy]
      refine ⟨R.ok, fun q => ?_, fun v hv => by have := A.rg v hv; omega, A.so, fun v hv => ?_⟩
      · show cnt (seatF e hands hands.length k (seatAll e hands k).1 []).2.1 q = _
        rw [y1 q, A.cn q]
        by_cases hq : (k : Int) = q
        · subst hq
          rw [if_neg (by omega), if_pos rfl, if_pos ⟨by omega, by omega, hkn⟩]
        · rw [if_neg hq]
          by_cases h2 : 0 ≤ q ∧ q < k ∧ q ∉ (seatAll e hands k).2
          · rw [if_pos h2, if_pos ⟨h2.1, by omega, h2.2.2⟩]
          · rw [if_neg h2, if_neg (fun z => h2 ⟨z.1, by have := z.2.1; omega, z.2.2⟩)]
      · obtain ⟨Rv, hRv⟩ := A.shut v hv
        exact ⟨Rv, shut_keep A.ok R.ok hc1 (fun q => by rw [y1 q]; omega) hRv⟩
    · obtain ⟨n1, n2, n3⟩ := R.no (Bool.eq_false_iff.mpr hy)
      rw [if_neg hy, n1]
      refine ⟨A.ok, fun q => ?_, fun v hv => ?_, ?_, fun v hv => ?_⟩
      · rw [A.cn q]
        by_cases h2 : 0 ≤ q ∧ q < k ∧ q ∉ (seatAll e hands k).2
        · have h3 : 0 ≤ q ∧ q < ((k + 1 : Nat) : Int) ∧ q ∉ (seatAll e hands k).2 ++ [(k : Int)] := ⟨h2.1, by omega, fun z => by
            rcases List.mem_append.mp z with z | z
            · exact h2.2.2 z
            · have : q = k := by simpa using z
              omega⟩
          rw [if_pos h2, if_pos h3]
        · have h3 : ¬ (0 ≤ q ∧ q < ((k + 1 : Nat) : Int) ∧ q ∉ (seatAll e hands k).2 ++ [(k : Int)]) := fun z => by
            have h4 : q ≠ k := fun y => z.2.2 (List.mem_append_right _ (by simp [y]))
            exact h2 ⟨z.1, by have := z.2.1; omega, fun y => z.2.2 (List.mem_append_left _ y)⟩
          rw [if_neg h2, if_neg h3]
      · rcases List.mem_append.mp hv with hv | hv
        · have := A.rg v hv; omega
        · have : v = k := by simpa using hv
          omega
      · rw [List.pairwise_append]
        refine ⟨A.so, by simp, fun a ha b hb => ?_⟩
        have : b = k := by simpa using hb
        have := A.rg a ha
        omega
      · rcases List.mem_append.mp hv with hv | hv
        · exact A.shut v hv
        · have hvk : v = k := by simpa using hv
          subst hvk
          exact ⟨_, R.snd, fun h hh => (n3 h hh (by simp)).1, n2, fun h hh => (n3 h hh (by simp)).2⟩
noncomputable def plS (st : Ways) (n : Nat) : List (Option Int) := (posts n).map fun q => (st.find? fun x => decide (x.2 = q)).map (·.1)
theorem plS_len (st : Ways) (n : Nat) : (plS st n).length = n := by unfold plS posts; simp
theorem plS_at {st : Ways} {n i : Nat} (hi : i < n) : (plS st n)[i]? = some ((st.find? fun x => decide (x.2 = (i : Int))).map (·.1)) := by unfold plS posts; simp [hi]
theorem plS_some {st : Ways} {n i : Nat} {h : Int} (hz : (plS st n)[i]? = some (some h)) : (h, (i : Int)) ∈ st := by
  have hi : i < n := by have := (List.getElem?_eq_some_iff.mp hz).1; rwa [plS_len] at this
  rw [plS_at hi] at hz
  cases q : st.find? fun x => decide (x.2 = (i : Int)) with
  | none => rw [q] at hz; cases hz
  | some x =>
    rw [q] at hz
    have e1 : x.1 = h := by simpa using hz
    have e2 : x.2 = i := by simpa using List.find?_some q
    have := List.mem_of_find?_eq_some q
    rw [← e1, ← e2]; exact this
section
variable {n : Nat} {s : Ways × List Int} (A : SAll e hands n s)
include A
theorem SAll.one (q : Int) : cnt s.1 q ≤ 1 := by rw [A.cn q]; split <;> omega
theorem SAll.plAt {h q : Int} (hm : (h, q) ∈ s.1) : 0 ≤ q ∧ q < n ∧ q ∉ s.2 ∧ (plS s.1 n)[q.toNat]? = some (some h) := by
  have h1 : 0 < cnt s.1 q := cnt_pos.mpr ⟨h, hm⟩
  rw [A.cn q] at h1
  by_cases h2 : 0 ≤ q ∧ q < n ∧ q ∉ s.2
  · refine ⟨h2.1, h2.2.1, h2.2.2, ?_⟩
    rw [plS_at (by omega)]
    cases z : s.1.find? fun x => decide (x.2 = ((q.toNat : Nat) : Int)) with
    | none =>
      rw [List.find?_eq_none] at z
      exact absurd (decide_eq_true (by omega : (h, q).2 = ((q.toNat : Nat) : Int))) (z _ hm)
    | some x =>
      have e2 : x.2 = ((q.toNat : Nat) : Int) := by simpa using List.find?_some z
      have hx : (x.1, q) ∈ s.1 := by
        have := List.mem_of_find?_eq_some z
        have e3 : x.2 = q := by omega
        rw [← e3]; exact this
      rw [cnt_one (A.one q) A.ok.nd hm hx]; rfl
  · rw [if_neg h2] at h1; omega
theorem SAll.pm : PM e hands n (plS s.1 n) := by
  refine ⟨plS_len _ _, fun i h hz => ?_, fun i j h hi hj => ?_⟩
  · exact A.ok.ok _ (plS_some hz)
  · have h1 := look_of A.ok.nd (plS_some hi)
    have h2 := look_of A.ok.nd (plS_some hj)
    omega
theorem SAll.bareEq : bareOf n (plS s.1 n) = s.2 := by
  have mem : ∀ q, q ∈ bareOf n (plS s.1 n) ↔ q ∈ s.2 := fun q => by
    rw [mem_bare (plS_len _ _)]
    constructor
    · rintro ⟨h0, h1, h2⟩
      by_cases z : q ∈ s.2
      · exact z
      · have hc : 0 < cnt s.1 q := by rw [A.cn q, if_pos ⟨h0, h1, z⟩]; decide
        obtain ⟨h, hm⟩ := cnt_pos.mp hc
        have := (A.plAt hm).2.2.2
        rw [h2] at this; cases this
    · intro z
      have hr := A.rg q z
      refine ⟨hr.1, hr.2, ?_⟩
      rw [plS_at (by omega)]
      cases y : s.1.find? fun x => decide (x.2 = ((q.toNat : Nat) : Int)) with
      | none => rfl
      | some x =>
        have e2 : x.2 = ((q.toNat : Nat) : Int) := by simpa using List.find?_some y
        have hx : (x.1, q) ∈ s.1 := by
          have := List.mem_of_find?_eq_some y
          have e3 : x.2 = q := by omega
          rw [← e3]; exact this
        exact absurd z (A.plAt hx).2.2.1
  have so1 : (bareOf n (plS s.1 n)).Pairwise (· < ·) := by
    unfold bareOf
    refine List.Pairwise.filter _ ?_
    unfold posts
    exact List.Pairwise.map _ (fun a b (h : a < b) => by omega) List.pairwise_lt_range
  have uniq : ∀ {a b : List Int}, a.Pairwise (· < ·) → b.Pairwise (· < ·) → (∀ q, q ∈ a ↔ q ∈ b) → a = b := by
    intro a
    induction a with
    | nil =>
      intro b _ _ h
      cases b with
      | nil => rfl
      | cons x r => exact absurd ((h x).mpr List.mem_cons_self) (by simp)
    | cons x a ih =>
      intro b ha hb h
      cases b with
      | nil => exact absurd ((h x).mp List.mem_cons_self) (by simp)
      | cons y b =>
        rw [List.pairwise_cons] at ha hb
        have hxy : x = y := by
          have h1 := (h x).mp List.mem_cons_self
          have h2 := (h y).mpr List.mem_cons_self
          rcases List.mem_cons.mp h1 with h1 | h1
          · exact h1
          · rcases List.mem_cons.mp h2 with h2 | h2
            · exact h2.symm
            · have := ha.1 y h2; have := hb.1 x h1; omega
        subst hxy
        rw [ih ha.2 hb.2 fun q => ?_]
        constructor
        · intro hq
          rcases List.mem_cons.mp ((h q).mp (List.mem_cons_of_mem _ hq)) with z | z
          · have := ha.1 q hq; omega
          · exact z
        · intro hq
          rcases List.mem_cons.mp ((h q).mpr (List.mem_cons_of_mem _ hq)) with z | z
          · have := hb.1 q hq; omega
          · exact z
  exact uniq so1 A.so mem
theorem SAll.mx : Mx e hands n (plS s.1 n) := by
  refine ⟨A.pm, fun i hz => ⟨hz, ?_⟩⟩
  have hi : i < n := by have := (List.getElem?_eq_some_iff.mp hz).1; rwa [plS_len] at this
  have hb : (i : Int) ∈ s.2 := by rw [← A.bareEq]; exact (mem_bare (plS_len _ _)).mpr ⟨by omega, by omega, by rw [Int.toNat_natCast]; exact hz⟩
  obtain ⟨R, nd, hk, hv, hR⟩ := A.shut _ hb
  refine ⟨fun j => j = i ∨ ∃ h, h ∈ R ∧ lookW s.1 h = (j : Int), .inl rfl, fun j h hj hh he => ?_⟩
  have hin : h ∈ R := by
    rcases hj with rfl | ⟨h', h1, h2⟩
    · exact hv h hh he
    · exact hR h' h1 h hh (by rw [h2]; exact he)
  have hm := look_mem A.ok.nd (hk h hin)
  obtain ⟨p0, p1, _, p3⟩ := A.plAt hm
  exact ⟨(lookW s.1 h).toNat, .inr ⟨h, hin, by omega⟩, p3⟩
end
theorem mx_same {n : Nat} {pl : List (Option Int)} (M : Mx e hands n pl) (hnd : hands.Nodup) : (bareOf n pl).length = defi e hands n ∧ ∀ p, p ∈ lackOf e pl hands n ↔ p ∈ toldOf e hands n := by
  have s1 : PSet n (lackOf e pl hands n) := ⟨M.nodup, fun p hp => M.range hp⟩
  have s2 := told_set (e := e) (hands := hands) (n := n)
  have a1 := lack_told M hnd
  have a2 := told_len (e := e) (n := n) hnd
  have b1 := defi_le e hands s1
  have b2 := lack_le M.pm s2.nd s2.rg
  have hb : (bareOf n pl).length = defi e hands n := by omega
  exact ⟨hb, fun p => ⟨lack_eq M hnd s2.nd s2.rg (by omega) p, told_sub hnd s1 (by omega) p⟩⟩
section
variable {n : Nat} {s : Ways × List Int} (A : SAll e hands n s)
include A
end
end Mt
end
section
namespace Mt
variable {e : Int → Int → Bool}
noncomputable def lessL (there away : List Int) : List Int := there.filter fun h => !decide (h ∈ away)
variable {n : Nat}
end Mt
end
section
namespace Mt
variable {e : Int → Int → Bool} {n : Nat}
noncomputable def stepL (e : Int → Int → Bool) (n : Nat) (there : List Int) (due : List Int) (h : Int) : List Int := if defi e (lessL there (due ++ [h])) n = 0 then due ++ [h] else due
noncomputable def grantL (e : Int → Int → Bool) (n : Nat) (there asks : List Int) : List Int := asks.foldl (stepL e n there) []
theorem stepL_mem {T D : List Int} {h x : Int} (hx : x ∈ D) : x ∈ stepL e n T D h := by
  unfold stepL
  split
  · exact List.mem_append_left _ hx
  · exact hx
theorem fold_mem {T : List Int} : ∀ (rest D : List Int) {x : Int}, x ∈ D → x ∈ rest.foldl (stepL e n T) D
  | [], _, _, h => h
  | a :: rest, D, x, h => by rw [List.foldl_cons]; exact fold_mem rest _ (stepL_mem h)
end Mt
end
section
namespace Mt
variable {e : Int → Int → Bool} {n : Nat}
end Mt
end
section
namespace Mt
variable {e : Int → Int → Bool} {n : Nat}
noncomputable abbrev inL (D : List Int) : Int → Bool := fun x => decide (x ∈ D)
theorem filter_in_app {P D : List Int} {h : Int} (hP : h ∉ P) : P.filter (inL (D ++ [h])) = P.filter (inL D) := by
  apply List.filter_congr
  intro x hx
  refine decide_eq_decide.mpr ⟨fun z => ?_, fun z => List.mem_append_left _ z⟩
  rcases List.mem_append.mp z with z | z
  · exact z
  · rw [List.mem_singleton.mp z] at hx; exact absurd hx hP
theorem fold_filter {T : List Int} : ∀ (rest P D : List Int), D = P.filter (inL D) → (P ++ rest).Nodup →
    rest.foldl (stepL e n T) D = (P ++ rest).filter (inL (rest.foldl (stepL e n T) D)) ∧ D = P.filter (inL (rest.foldl (stepL e n T) D))
  | [], P, D, hD, _ => by rw [List.append_nil]; exact ⟨hD, hD⟩
  | h :: rest, P, D, hD, hn => by
    have hn' : (P ++ [h] ++ rest).Nodup := by rw [List.append_assoc]; exact hn
    have hP : h ∉ P := fun z => by
      have := (List.nodup_append.mp hn).2.2 h z h List.mem_cons_self
      exact this rfl
    have hDh : h ∉ D := fun z => by rw [hD] at z; exact hP (List.mem_filter.mp z).1
    rw [List.foldl_cons]
    by_cases hm : defi e (lessL T (D ++ [h])) n = 0
    · have e1 : stepL e n T D h = D ++ [h] := if_pos hm
      rw [e1]
      have hD1 : D ++ [h] = (P ++ [h]).filter (inL (D ++ [h])) := by
        rw [List.filter_append, filter_in_app hP, ← hD]
        congr 1
        rw [List.filter_eq_self.mpr]
        intro x hx
        exact decide_eq_true (List.mem_append_right _ hx)
      obtain ⟨h1, h2⟩ := fold_filter rest (P ++ [h]) (D ++ [h]) hD1 hn'
      refine ⟨by rw [List.append_assoc] at h1; exact h1, ?_⟩
      rw [List.filter_append] at h2
      have hh : h ∈ rest.foldl (stepL e n T) (D ++ [h]) := fold_mem rest _ (List.mem_append_right _ (List.mem_singleton.mpr rfl))
      have e3 : [h].filter (inL (rest.foldl (stepL e n T) (D ++ [h]))) = [h] := by
        rw [List.filter_eq_self.mpr]
        intro x hx
        rw [List.mem_singleton.mp hx]; exact decide_eq_true hh
      rw [e3] at h2
      exact List.append_cancel_right h2
    · have e1 : stepL e n T D h = D := if_neg hm
      rw [e1]
      have hD1 : D = (P ++ [h]).filter (inL D) := by
        rw [List.filter_append, ← hD]
        have : [h].filter (inL D) = [] := by
          rw [List.filter_eq_nil_iff]
          intro x hx
          rw [List.mem_singleton.mp hx]
          simpa using hDh
        rw [this, List.append_nil]
      obtain ⟨h1, h2⟩ := fold_filter rest (P ++ [h]) D hD1 hn'
      refine ⟨by rw [List.append_assoc] at h1; exact h1, ?_⟩
      rw [List.filter_append] at h2
      have hh : h ∉ rest.foldl (stepL e n T) D := fun z => hDh (by
        rw [h2]
        exact List.mem_append_right _ (List.mem_filter.mpr ⟨List.mem_singleton.mpr rfl, decide_eq_true z⟩))
      have e3 : [h].filter (inL (rest.foldl (stepL e n T) D)) = [] := by
        rw [List.filter_eq_nil_iff]
        intro x hx
        rw [List.mem_singleton.mp hx]
        simpa using hh
      rw [e3, List.append_nil] at h2
      exact h2
theorem grant_ahead {T asks : List Int} (ha : asks.Nodup) (k : Nat) : (asks.take k).foldl (stepL e n T) [] = (asks.take k).filter (inL (grantL e n T asks)) := by
  have h1 := (fold_filter (e := e) (n := n) (T := T) (asks.take k) [] [] rfl (by rw [List.nil_append]; exact ha.sublist (List.take_sublist _ _))).1
  rw [List.nil_append] at h1
  have h2 := (fold_filter (e := e) (n := n) (T := T) (asks.drop k) (asks.take k) _ h1 (by rw [List.take_append_drop]; exact ha)).2
  have h3 : (asks.drop k).foldl (stepL e n T) ((asks.take k).foldl (stepL e n T) []) = grantL e n T asks := by
    rw [← List.foldl_append, List.take_append_drop]; rfl
  rw [h3] at h2
  exact h2
theorem take_succ {asks : List Int} {k : Nat} {h : Int} (hk : asks[k]? = some h) : asks.take (k + 1) = asks.take k ++ [h] := by
  rw [List.take_add_one, hk]; rfl
theorem grant_at {T asks : List Int} {k : Nat} {h : Int} (ha : asks.Nodup) (hk : asks[k]? = some h) : h ∈ grantL e n T asks ↔ defi e (lessL T (((asks.take k).filter (inL (grantL e n T asks))) ++ [h])) n = 0 := by
  have hg := grant_ahead (e := e) (n := n) (T := T) ha k
  have hsp : grantL e n T asks = (asks.drop (k + 1)).foldl (stepL e n T) (stepL e n T ((asks.take k).foldl (stepL e n T) []) h) := by
    have : asks = asks.take k ++ (h :: asks.drop (k + 1)) := by
      conv => lhs; rw [← List.take_append_drop (k + 1) asks, take_succ hk]
      simp
    conv => lhs; rw [this]
    unfold grantL
    rw [List.foldl_append, List.foldl_cons]
  rw [hg] at hsp
  constructor
  · intro z
    have h4 := grant_ahead (e := e) (n := n) (T := T) ha (k + 1)
    rw [take_succ hk, List.foldl_append, hg, List.filter_append] at h4
    have e3 : [h].filter (inL (grantL e n T asks)) = [h] := by
      rw [List.filter_eq_self.mpr]
      intro x hx
      rw [List.mem_singleton.mp hx]; exact decide_eq_true z
    rw [e3] at h4
    by_cases hm : defi e (lessL T (((asks.take k).filter (inL (grantL e n T asks))) ++ [h])) n = 0
    · exact hm
    · have h5 : stepL e n T ((asks.take k).filter (inL (grantL e n T asks))) h = (asks.take k).filter (inL (grantL e n T asks)) := if_neg hm
      have h6 : [h].foldl (stepL e n T) ((asks.take k).filter (inL (grantL e n T asks))) = stepL e n T ((asks.take k).filter (inL (grantL e n T asks))) h := rfl
      rw [h6, h5] at h4
      have h7 := congrArg List.length h4
      rw [List.length_append, List.length_singleton] at h7
      omega
  · intro hm
    rw [hsp]
    refine fold_mem _ _ ?_
    have h5 : stepL e n T ((asks.take k).filter (inL (grantL e n T asks))) h = _ := if_pos hm
    rw [h5]
    exact List.mem_append_right _ (List.mem_singleton.mpr rfl)
end Mt
end
section
namespace Mt
variable {e : Int → Int → Bool} {n : Nat}
end Mt
end
section
namespace Kx
open PySem PySem.Spec PyProof.Rows L2
noncomputable def cellAt (ns : List Int) (k : Nat) : Int := ns.getD k 0
noncomputable def RCell : List PyData → PyData → Prop := fun ds d => ∃ (ns : List Int) (k : Nat), ds = [scr ns, .int k] ∧ d = .int (cellAt ns k)
section
variable {P : Program} {w : World} {K : PySem.W.Frag} {mg : Str → Option Value} {base : Heap} {f : Addr} {fd : FuncData}
theorem scCell : FnScope ["script", "k"] ["script", "k"] (defScope sCell) := ⟨rfl, rfl, rfl, by decide +kernel, rfl, by decide +kernel, by decide +kernel⟩
theorem ok_cell (hB : Blt mg) (F : Fun K "_law_cell_at" "_law_cell_at" sCell f fd) (hm : mg "_law_cell_at" = some (.ref f)) (hb : Binds K fd ["script", "k"] []) : Fn P w K mg base "_law_cell_at" 1 ["script", "k"] (spP K RCell) := by
  refine fn_P (k := 0) F scCell hm hb (by rintro _ _ ⟨ns, k, rfl, _⟩; rfl) fun cdv A outer s H E hr ds d hR => .inl ?_
  obtain ⟨ns, k, rfl, rfl⟩ := hR
  refine sr_if_out (et_lt (ev_var 1 rfl) (ev_lenS rfl hB.len (ev_var 0 rfl))) (fun hk => ?_) (fun hk => ?_)
  · have hk' : k < ns.length := by have := of_decide_eq_true hk; omega
    refine sr_one (s1_ret (ev_ixS (ev_var 0 rfl) (ev_var 1 rfl) (Int.natCast_nonneg k) ?_))
    rw [Int.toNat_natCast, List.getElem?_eq_getElem hk']
    unfold cellAt
    rw [List.getD_eq_getElem?_getD, List.getElem?_eq_getElem hk']; rfl
  · have hk' : ns.length ≤ k := by have := of_decide_eq_false hk; omega
    refine sr_eq (sr_one (s1_ret ev_int)) ?_
    unfold cellAt
    rw [List.getD_eq_getElem?_getD, List.getElem?_eq_none hk']; rfl
end
end Kx
end
section
namespace Kx
open PySem PySem.Spec PyProof.Rows L2 Mt
theorem cut_take {α : Type} (xs : List α) (k : Nat) : cutL xs none (some (k : Int)) = xs.take k := by
  unfold cutL
  rw [HT.sIx_nat, HT.sIx_none, List.drop_zero, Nat.sub_zero]
  by_cases h : k ≤ xs.length
  · rw [Nat.min_eq_left h]
  · rw [Nat.min_eq_right (by omega), List.take_length, List.take_of_length_le (by omega)]
theorem iD_take (l : List Int) (k : Nat) : (iD l).take k = iD (l.take k) := by unfold iD; rw [List.map_take]
end Kx
end
section
namespace Kx
open PySem PySem.Spec PyProof.Rows L2
noncomputable def tossT (c k : Int) : Int := (c % 1999999927 + 31) * (2 * k * k + 6007 * k + 104711) % 2147483587
noncomputable def toss (c k : Int) : Int := tossT c k * tossT c k % 2147483563 * (tossT c k + 65537) % 1999999817
noncomputable def RToss : List PyData → PyData → Prop := fun ds d => ∃ (c k : Int), ds = [.int c, .int k] ∧ 0 ≤ k ∧ k ≤ 2000 ∧ d = .int (toss c k)
theorem pick_le {α : Type} (xs : List α) (lo hi : Int) : (pickL xs (some lo) (some hi) (some 12)).length ≤ xs.length := by
  refine Nat.le_trans (pickL_len xs _ _ _) ?_
  unfold sliceRange sliceBounds
  simp only [List.length_map, List.length_range, Option.getD_some]
  split <;> omega
noncomputable def dealt (ns : List Int) (h : Int) : Int := ((pickL ns (some (3 + h)) (some 63) (some 12)).zipIdx.map fun z => z.1 * (7 * (z.2 : Int) + 1)).sum
noncomputable def RDealt : List PyData → PyData → Prop := fun ds d => ∃ (ns : List Int) (h : Int), ds = [scr ns, .int h, .int 12] ∧ ns.length ≤ 63 ∧ d = .int (dealt ns h)
noncomputable def manyH (ns : List Int) : Nat := max 1 (min 12 (ns.length - 3))
noncomputable def handsOf (ns : List Int) : List Int := (rgI 0 (manyH ns)).map (dealt ns)
noncomputable def RHands : List PyData → List PyData → Prop := fun ds xs => ∃ (ns : List Int), ds = [scr ns] ∧ ns.length ≤ 63 ∧ xs = iD (handsOf ns)
theorem hands_len (ns : List Int) : (handsOf ns).length = manyH ns := by unfold handsOf; rw [List.length_map, rgI_len]
theorem many12 (ns : List Int) : 1 ≤ manyH ns ∧ manyH ns ≤ 12 := by unfold manyH; omega
theorem enum_ints (ns : List Int) : enumD (iD ns) = ns.zipIdx.map fun z => (PyData.int (z.2 : Nat), PyData.int z.1) := by
  unfold enumD iD
  rw [List.zipIdx_map, List.map_map]
  rfl
section
variable {P : Program} {w : World} {K : PySem.W.Frag} {mg : Str → Option Value} {base : Heap} {f : Addr} {fd : FuncData}
theorem scToss : FnScope ["cell", "k", "toss"] ["cell", "k"] (defScope sToss) := ⟨rfl, rfl, rfl, by decide +kernel, rfl, by decide +kernel, by decide +kernel⟩
theorem ok_toss (F : Fun K "_law_tossed" "_law_tossed" sToss f fd) (hm : mg "_law_tossed" = some (.ref f)) (hb : Binds K fd ["cell", "k"] []) : Fn P w K mg base "_law_tossed" 1 ["cell", "k"] (spP K RToss) := by
  refine fn_P (k := 0) F scToss hm hb (by rintro _ _ ⟨c, k, rfl, _⟩; rfl) fun cdv A outer s H E hr ds d hR => .inl ?_
  obtain ⟨c, k, rfl, h0, h1, rfl⟩ := hR
  have hk : 0 ≤ 2 * k * k ∧ 2 * k * k ≤ 4000 * 2000 := ⟨Int.mul_nonneg (by omega) h0, Int.mul_le_mul (by omega) h1 h0 (by decide)⟩
  have ht0 : 0 ≤ tossT c k := Int.emod_nonneg _ (by decide)
  have ht1 : tossT c k < 2147483587 := Int.emod_lt_of_pos _ (by decide)
  refine sr_cons (s1_set 2 scToss.nd (ev_mod (ev_mul (ev_add (ev_mod (ev_var 0 rfl) ev_int (by decide)) ev_int) (ev_add (ev_add (ev_mul (ev_mul ev_int (ev_var 1 rfl) (.inl (by decide))) (ev_var 1 rfl) (.inr (by omega))) (ev_mul ev_int (ev_var 1 rfl) (.inl (by decide)))) ev_int) (.inr (by omega))) ev_int (by decide)))
    (sr_rt (s1_ret (ev_mod (ev_mul (ev_mod (ev_mul (ev_var 2 rfl) (ev_var 2 rfl) (.inr (by show -2 ^ 64 < tossT c k ∧ tossT c k < 2 ^ 64; omega))) ev_int (by decide)) (ev_add (ev_var 2 rfl) ev_int) (.inr (by show -2 ^ 64 < tossT c k + 65537 ∧ tossT c k + 65537 < 2 ^ 64; omega))) ev_int (by decide))))
noncomputable abbrev nDealt : List Str := ["script", "hand", "step", "at", "cell"]
theorem scDealt : FnScope nDealt ["script", "hand", "step"] (defScope sDealt) := ⟨rfl, rfl, rfl, by decide +kernel, rfl, by decide +kernel, by decide +kernel⟩
theorem ok_dealt (hB : Blt mg) (F : Fun K "_law_dealt" "_law_dealt" sDealt f fd) (hm : mg "_law_dealt" = some (.ref f)) (hb : Binds K fd ["script", "hand", "step"] []) : Fn P w K mg base "_law_dealt" 1 ["script", "hand", "step"] (spP K RDealt) := by
  refine fn_P (k := 0) F scDealt hm hb (by rintro _ _ ⟨a, b, rfl, _⟩; rfl) fun cdv A outer s H E hr ds d hR => .inl ?_
  obtain ⟨ns, h, rfl, hl, rfl⟩ := hR
  have hp := pick_le ns (3 + h) 63
  refine sr_eq (sr_one (s1_ret (ev_sum rfl rfl hB.sum (ev_eq (d' := .list (iD ((pickL ns (some (3 + h)) (some 63) (some 12)).zipIdx.map fun z => z.1 * (7 * (z.2 : Int) + 1)))) (ev_f (ef_comp2 3 4 (fun z : Int × Nat => (PyData.int (z.2 : Nat), PyData.int z.1)) (pickL ns (some (3 + h)) (some 63) (some 12)).zipIdx (fun _ => true) (fun z => .int (z.1 * (7 * (z.2 : Int) + 1))) rfl (cs_mk (defScope sDealt) nDealt rfl rfl (by decide +kernel)) scDealt.nd
    (enum_ints _ ▸ ei_enum rfl hB.enumerate (ev_f (ef_slice3S (ev_var 0 rfl) (eo_some (ev_add ev_int (ev_var 1 rfl))) (eo_some ev_int) (eo_some (ev_var 2 rfl)) (by decide) (by omega)))) (by rw [List.length_zipIdx]; omega) (fun C s2 H2 fp z hz => efs_nil)
    (fun C s2 H2 fp z hz _ => ev_mul (ev_var 4 rfl) (ev_add (ev_mul ev_int (ev_var 3 rfl) (.inl (by decide))) ev_int) (.inr ?_)))) ?_)))) rfl
  · have := List.snd_lt_of_mem_zipIdx hz
    omega
  · rw [List.filter_eq_self.mpr (by intros; rfl)]
    unfold iD
    rw [List.map_map]; rfl
noncomputable abbrev nHands : List Str := ["script", "hand"]
theorem scHands : FnScope nHands ["script"] (defScope sHands) := ⟨rfl, rfl, rfl, by decide +kernel, rfl, by decide +kernel, by decide +kernel⟩
theorem ok_hands (hB : Blt mg) (G : Fn P w K mg base "_law_dealt" 1 ["script", "hand", "step"] (spP K RDealt)) (F : Fun K "_law_hands" "_law_hands" sHands f fd) (hm : mg "_law_hands" = some (.ref f)) (hb : Binds K fd ["script"] []) : Fn P w K mg base "_law_hands" 2 ["script"] (spL K RHands) := by
  refine fn_L (k := 1) F scHands hm hb (by rintro _ _ ⟨a, rfl, _⟩; rfl) fun cdv A outer s H E hr ds d hR => ?_
  obtain ⟨ns, rfl, hl, rfl⟩ := hR
  have h12 := many12 ns
  refine sr_eq (sr_one (s1_retF (ef_map 1 PyData.int (rgI 0 (manyH ns)) (fun h => .int (dealt ns h)) rfl (cs_mk (defScope sHands) nHands rfl rfl (by decide +kernel)) scHands.nd (ei_rangeN (n := manyH ns) rfl hB.range (ev_eq (ev_max rfl rfl hB.max ev_int (ev_min rfl rfl hB.min ev_int (ev_sub (ev_lenS rfl hB.len (ev_var 0 rfl)) ev_int))) ?_) (by omega)) (by rw [rgI_len]; omega)
    (fun C s2 H2 fp t ht => ev_call G hr (by decide) rfl (ea_cons (ev_var 0 rfl) (ea_cons (ev_var 1 rfl) (ea_cons ev_int ea_nil))) ⟨ns, t, rfl, hl, rfl⟩)))) ?_
  · congr 1
    unfold manyH
    split <;> split <;> omega
  · unfold handsOf iD
    rw [List.map_map]; rfl
end
end Kx
end
section
namespace Kx
open PySem PySem.Spec PyProof.Rows L2
noncomputable def insAt (l : List Int) (k : Nat) (x : Int) : List Int := l.take k ++ x :: l.drop k
theorem insAt_mem {l : List Int} {k : Nat} {x y : Int} : y ∈ insAt l k x ↔ y = x ∨ y ∈ l := by
  unfold insAt
  rw [List.mem_append, List.mem_cons]
  constructor
  · rintro (h | h | h)
    · exact .inr (List.mem_of_mem_take h)
    · exact .inl h
    · exact .inr (List.mem_of_mem_drop h)
  · rintro (h | h)
    · exact .inr (.inl h)
    · rw [← List.take_append_drop k l, List.mem_append] at h
      exact h.elim .inl fun z => .inr (.inr z)
theorem insAt_len (l : List Int) (k : Nat) (x : Int) : (insAt l k x).length = l.length + 1 := by
  unfold insAt
  rw [List.length_append, List.length_cons, List.length_take, List.length_drop]
  omega
theorem insAt_nd {l : List Int} {k : Nat} {x : Int} (h : l.Nodup) (hx : x ∉ l) : (insAt l k x).Nodup := by
  unfold insAt
  have h' := h
  rw [← List.take_append_drop k l, List.nodup_append] at h'
  rw [List.nodup_append, List.nodup_cons]
  refine ⟨h'.1, ⟨fun z => hx (List.mem_of_mem_drop z), h'.2.1⟩, fun a ha b hb e => ?_⟩
  rcases List.mem_cons.mp hb with rfl | hb
  · exact hx (e ▸ List.mem_of_mem_take ha)
  · exact h'.2.2 a ha b hb e
theorem iD_ins (l : List Int) (k : Nat) (x : Int) : (iD l).take k ++ PyData.int x :: (iD l).drop k = iD (insAt l k x) := by
  unfold iD insAt
  rw [List.map_append, List.map_cons, List.map_take, List.map_drop]
noncomputable def stepTh (z : Int × Nat) (l : List Int) : List Int := if 0 < toss z.1 1 % 6 then insAt l (toss z.1 2 % ((l.length : Int) + 1)).toNat z.2 else l
noncomputable def thereOf (ns : List Int) : List Int := (handsOf ns).zipIdx.foldl (fun l z => stepTh z l) []
theorem mod_len (c : Int) (l : List Int) : 0 ≤ c % ((l.length : Int) + 1) ∧ c % ((l.length : Int) + 1) ≤ l.length := by
  have h1 := Int.emod_nonneg c (show ((l.length : Int) + 1) ≠ 0 by omega)
  have h2 := Int.emod_lt_of_pos c (show (0 : Int) < (l.length : Int) + 1 by omega)
  omega
theorem there_inv : ∀ (cs : List Int) (m : Nat) (l : List Int), l.Nodup → (∀ h ∈ l, 0 ≤ h ∧ h < m) → l.length ≤ m →
    ((cs.zipIdx m).foldl (fun l z => stepTh z l) l).Nodup ∧ (∀ h ∈ (cs.zipIdx m).foldl (fun l z => stepTh z l) l, 0 ≤ h ∧ h < (m + cs.length : Nat)) ∧ ((cs.zipIdx m).foldl (fun l z => stepTh z l) l).length ≤ m + cs.length
  | [], m, l, h1, h2, h3 => ⟨h1, h2, h3⟩
  | c :: cs, m, l, h1, h2, h3 => by
    rw [List.zipIdx_cons, List.foldl_cons]
    have key : (stepTh (c, m) l).Nodup ∧ (∀ h ∈ stepTh (c, m) l, 0 ≤ h ∧ h < (m + 1 : Nat)) ∧ (stepTh (c, m) l).length ≤ m + 1 := by
      unfold stepTh
      split
      · refine ⟨insAt_nd h1 fun z => ?_, fun h hh => ?_, by rw [insAt_len]; omega⟩
        · have := (h2 _ z).2; simp at this
        · rcases insAt_mem.mp hh with e | hh
          · have : h = (m : Int) := e
            omega
          · have := h2 h hh; omega
      · exact ⟨h1, fun h hh => by have := h2 h hh; omega, by omega⟩
    have := there_inv cs (m + 1) _ key.1 key.2.1 key.2.2
    refine ⟨this.1, fun h hh => ?_, ?_⟩
    · have := this.2.1 h hh; rw [List.length_cons]; omega
    · have := this.2.2; rw [List.length_cons]; omega
theorem there_nd (ns : List Int) : (thereOf ns).Nodup := (there_inv (handsOf ns) 0 [] List.nodup_nil (fun _ h => nomatch h) (Nat.le_refl _)).1
theorem there_lt (ns : List Int) : ∀ h ∈ thereOf ns, 0 ≤ h ∧ h < manyH ns := fun h hh => by
  have := (there_inv (handsOf ns) 0 [] List.nodup_nil (fun _ h => nomatch h) (Nat.le_refl _)).2.1 h hh
  rw [hands_len] at this; omega
theorem there_len (ns : List Int) : (thereOf ns).length ≤ manyH ns := by
  have := (there_inv (handsOf ns) 0 [] List.nodup_nil (fun _ h => nomatch h) (Nat.le_refl _)).2.2
  rw [hands_len] at this; unfold thereOf; omega
noncomputable def RThere : List PyData → List PyData → Prop := fun ds xs => ∃ (ns : List Int), ds = [scr ns] ∧ ns.length ≤ 63 ∧ xs = iD (thereOf ns)
noncomputable def stepAs (ns : List Int) (h : Int) (l : List Int) : List Int :=
  if 0 < toss ((handsOf ns).getD h.toNat 0) 3 % 4 ∨ cellAt ns 1 / 4 % 4 = 1 then insAt l (toss ((handsOf ns).getD h.toNat 0) 4 % ((l.length : Int) + 1)).toNat h else l
noncomputable def asksOf (ns there : List Int) : List Int := there.foldl (fun l h => stepAs ns h l) []
theorem asks_inv (ns : List Int) : ∀ (hs l : List Int), l.Nodup → hs.Nodup → (∀ h ∈ hs, h ∉ l) →
    (hs.foldl (fun l h => stepAs ns h l) l).Nodup ∧ (∀ h ∈ hs.foldl (fun l h => stepAs ns h l) l, h ∈ hs ∨ h ∈ l) ∧ (hs.foldl (fun l h => stepAs ns h l) l).length ≤ l.length + hs.length
  | [], l, h1, _, _ => ⟨h1, fun h hh => .inr hh, Nat.le_refl _⟩
  | x :: hs, l, h1, h2, h3 => by
    rw [List.foldl_cons]
    rw [List.nodup_cons] at h2
    have key : (stepAs ns x l).Nodup ∧ (∀ h ∈ stepAs ns x l, h = x ∨ h ∈ l) ∧ (stepAs ns x l).length ≤ l.length + 1 := by
      unfold stepAs
      split
      · exact ⟨insAt_nd h1 (h3 x List.mem_cons_self), fun h hh => insAt_mem.mp hh, by rw [insAt_len]; exact Nat.le_refl _⟩
      · exact ⟨h1, fun h hh => .inr hh, Nat.le_succ _⟩
    have := asks_inv ns hs _ key.1 h2.2 fun h hh z => by
      rcases key.2.1 h z with rfl | z
      · exact h2.1 hh
      · exact h3 h (List.mem_cons_of_mem _ hh) z
    refine ⟨this.1, fun h hh => ?_, by have := this.2.2; have := key.2.2; rw [List.length_cons]; omega⟩
    rcases this.2.1 h hh with z | z
    · exact .inl (List.mem_cons_of_mem _ z)
    · rcases key.2.1 h z with rfl | z
      · exact .inl List.mem_cons_self
      · exact .inr z
theorem asks_nd (ns : List Int) {there : List Int} (h : there.Nodup) : (asksOf ns there).Nodup := (asks_inv ns there [] List.nodup_nil h (fun _ _ z => nomatch z)).1
theorem asks_sub (ns : List Int) {there : List Int} (h : there.Nodup) : ∀ x ∈ asksOf ns there, x ∈ there := fun x hx => ((asks_inv ns there [] List.nodup_nil h (fun _ _ z => nomatch z)).2.1 x hx).elim id fun z => nomatch z
noncomputable def RAsks : List PyData → List PyData → Prop := fun ds xs => ∃ (ns there : List Int), ds = [scr ns, .list (iD there)] ∧ ns.length ≤ 63 ∧ there.length ≤ 100 ∧ (∀ h ∈ there, 0 ≤ h ∧ h < manyH ns) ∧ xs = iD (asksOf ns there)
section
variable {P : Program} {w : World} {K : PySem.W.Frag} {mg : Str → Option Value} {base : Heap} {f : Addr} {fd : FuncData}
noncomputable abbrev nThere : List Str := ["script", "found", "hand", "cell"]
theorem scThere : FnScope nThere ["script"] (defScope sThere) := ⟨rfl, rfl, rfl, by decide +kernel, rfl, by decide +kernel, by decide +kernel⟩
theorem ok_there (hB : Blt mg) (GT : Fn P w K mg base "_law_tossed" 1 ["cell", "k"] (spP K RToss)) (GH : Fn P w K mg base "_law_hands" 2 ["script"] (spL K RHands)) (F : Fun K "_law_there" "_law_there" sThere f fd) (hm : mg "_law_there" = some (.ref f)) (hb : Binds K fd ["script"] []) : Fn P w K mg base "_law_there" 3 ["script"] (spL K RThere) := by
  refine fn_L (k := 2) F scThere hm hb (by rintro _ _ ⟨a, rfl, _⟩; rfl) fun cdv A outer s H E hr ds d hR => ?_
  obtain ⟨ns, rfl, hl, rfl⟩ := hR
  have h12 := many12 ns
  have hlen := hands_len ns
  refine sr_cons (s1_setF 1 scThere.nd (ef_list ea_nil)) ?_
  refine sr_cons (δ1 := [.sh (scr ns), .ow (iD (thereOf ns)), .no, .no]) (s1_eq (s1_forE 2 3 (fun l : List Int => [.sh (scr ns), .ow (iD l), .no, .no]) (fun z : Int × Nat => (PyData.int (z.2 : Nat), PyData.int z.1)) (handsOf ns).zipIdx (fun z l => .nx (stepTh z l)) (fun n l => l.length ≤ n) (s0 := []) PassesOwn.never rfl scThere.nd
    (enum_ints _ ▸ ei_enum rfl hB.enumerate (ev_f (ef_call GH hr (by decide) rfl (ea_cons (ev_var 0 rfl) ea_nil) ⟨ns, rfl, hl, rfl⟩))) (Nat.le_refl _) (fun n z l hz hJ => ?_) (fun n z l l' hz hJ he => ?_)) ?_) (sr_one (s1_retO 1 rfl))
  · have hn : n < 12 := by
      have := (List.getElem?_eq_some_iff.mp hz).1
      rw [List.length_zipIdx] at this; omega
    have hmz := mod_len (toss z.1 2) l
    refine ⟨[.sh (scr ns), .ow (iD (stepTh z l)), .sh (.int (z.2 : Nat)), .sh (.int z.1)], sr_one (s1_if (els := []) (et_gt (ev_mod (ev_call GT hr (by decide) rfl (ea_cons (ev_var 3 rfl) (ea_cons (ev_int (i := 1)) ea_nil)) ⟨z.1, 1, rfl, by decide, by decide, rfl⟩) ev_int (by decide)) ev_int) (fun hc => ?_) (fun hc => ?_)), .keep (.keep (.lose (.lose .nil)))⟩
    · have e : stepTh z l = insAt l (toss z.1 2 % ((l.length : Int) + 1)).toNat z.2 := if_pos (of_decide_eq_true hc)
      rw [e, ← iD_ins]
      exact sr_one (s1_insert 1 rfl (ev_mod (ev_call GT hr (by decide) rfl (ea_cons (ev_var 3 rfl) (ea_cons (ev_int (i := 2)) ea_nil)) ⟨z.1, 2, rfl, by decide, by decide, rfl⟩) (ev_eq (ev_add (ev_share 1 rfl (ev_len rfl hB.len (ev_var 1 rfl))) ev_int) (by rw [iD_len])) (by omega)) (ev_var 2 rfl) hmz.1 (by rw [iD_len]; exact hmz.2) (by rw [iD_len]; omega))
    · have e : stepTh z l = l := if_neg (of_decide_eq_false hc)
      rw [e]; exact sr_nil
  · cases he
    unfold stepTh
    split
    · rw [insAt_len]; omega
    · omega
  · rw [loopR_fold]; rfl
noncomputable abbrev nAsks : List Str := ["script", "there", "found", "hand", "cell"]
theorem scAsks : FnScope nAsks ["script", "there"] (defScope sAsks) := ⟨rfl, rfl, rfl, by decide +kernel, rfl, by decide +kernel, by decide +kernel⟩
theorem ok_asks (hB : Blt mg) (GC : Fn P w K mg base "_law_cell_at" 1 ["script", "k"] (spP K RCell)) (GT : Fn P w K mg base "_law_tossed" 1 ["cell", "k"] (spP K RToss)) (GH : Fn P w K mg base "_law_hands" 2 ["script"] (spL K RHands)) (F : Fun K "_law_asks" "_law_asks" sAsks f fd) (hm : mg "_law_asks" = some (.ref f)) (hb : Binds K fd ["script", "there"] []) : Fn P w K mg base "_law_asks" 3 ["script", "there"] (spL K RAsks) := by
  refine fn_L (k := 2) F scAsks hm hb (by rintro _ _ ⟨a, b, rfl, _⟩; rfl) fun cdv A outer s H E hr ds d hR => ?_
  obtain ⟨ns, there, rfl, hl, hlt, hm', rfl⟩ := hR
  have hlen := hands_len ns
  refine sr_cons (s1_setF 2 scAsks.nd (ef_list ea_nil)) ?_
  refine sr_cons (δ1 := [.sh (scr ns), .sh (.list (iD there)), .ow (iD (asksOf ns there)), .no, .no]) (s1_eq (s1_forR 3 (fun l : List Int => [.sh (scr ns), .sh (.list (iD there)), .ow (iD l), .no, .no]) PyData.int there (fun h l => .nx (stepAs ns h l)) (fun n l => l.length ≤ n) (s0 := []) PassesOwn.never rfl scAsks.nd
    (ei_ints (ev_var 1 rfl)) (Nat.le_refl _) (fun n h l hz hJ => ?_) (fun n z l l' hz hJ he => ?_)) ?_) (sr_one (s1_retO 2 rfl))
  · have hn : n < there.length := (List.getElem?_eq_some_iff.mp hz).1
    have hh := hm' h (List.mem_of_getElem? hz)
    have hget : (handsOf ns)[h.toNat]? = some ((handsOf ns).getD h.toNat 0) := by
      rw [List.getD_eq_getElem?_getD, List.getElem?_eq_getElem (by rw [hlen]; omega)]; rfl
    have hmz := mod_len (toss ((handsOf ns).getD h.toNat 0) 4) l
    refine ⟨[.sh (scr ns), .sh (.list (iD there)), .ow (iD (stepAs ns h l)), .sh (.int h), .sh (.int ((handsOf ns).getD h.toNat 0))], sr_cons (s1_set 4 scAsks.nd (ev_ix (ev_f (ef_call GH hr (by decide) rfl (ea_cons (ev_var 0 rfl) ea_nil) ⟨ns, rfl, hl, rfl⟩)) (ev_var 3 rfl) hh.1 (iD_get hget))) (sr_one (s1_if (els := []) (et_or (et_gt (ev_mod (ev_call GT hr (by decide) rfl (ea_cons (ev_var 4 rfl) (ea_cons (ev_int (i := 3)) ea_nil)) ⟨_, 3, rfl, by decide, by decide, rfl⟩) ev_int (by decide)) ev_int) (fun _ => et_eqI hr (ev_mod (ev_fdiv (ev_call GC hr (by decide) rfl (ea_cons (ev_var 0 rfl) (ea_cons (ev_int (i := 1)) ea_nil)) ⟨ns, 1, rfl, rfl⟩) ev_int ⟨by decide, by decide⟩) ev_int (by decide)) ev_int)) (fun hc => ?_) (fun hc => ?_))), .keep (.keep (.keep (.lose (.lose .nil))))⟩
    · have hc' : 0 < toss ((handsOf ns).getD h.toNat 0) 3 % 4 ∨ cellAt ns 1 / 4 % 4 = 1 := by
        rw [Bool.or_eq_true, decide_eq_true_eq, decide_eq_true_eq] at hc; exact hc
      have e : stepAs ns h l = insAt l (toss ((handsOf ns).getD h.toNat 0) 4 % ((l.length : Int) + 1)).toNat h := if_pos hc'
      rw [e, ← iD_ins]
      exact sr_one (s1_insert 2 rfl (ev_mod (ev_call GT hr (by decide) rfl (ea_cons (ev_var 4 rfl) (ea_cons (ev_int (i := 4)) ea_nil)) ⟨_, 4, rfl, by decide, by decide, rfl⟩) (ev_eq (ev_add (ev_share 2 rfl (ev_len rfl hB.len (ev_var 2 rfl))) ev_int) (by rw [iD_len])) (by omega)) (ev_var 3 rfl) hmz.1 (by rw [iD_len]; exact hmz.2) (by rw [iD_len]; omega))
    · have hc' : ¬ (0 < toss ((handsOf ns).getD h.toNat 0) 3 % 4 ∨ cellAt ns 1 / 4 % 4 = 1) := by
        rw [Bool.or_eq_false_iff, decide_eq_false_iff_not, decide_eq_false_iff_not] at hc
        exact fun z => z.elim hc.1 hc.2
      have e : stepAs ns h l = l := if_neg hc'
      rw [e]; exact sr_nil
  · cases he
    unfold stepAs
    split
    · rw [insAt_len]; omega
    · omega
  · rw [loopR_fold]; rfl
end
end Kx
end
section
namespace Kx
open PySem PySem.Spec PyProof.Rows L2
section
variable {P : Program} {w : World} {K : PySem.W.Frag} {mg : Str → Option Value} {base : Heap} {f : Addr} {fd : FuncData}
end
end Kx
end
section
namespace Kx
open PySem PySem.Spec PyProof.Rows L2
theorem flat_iD (ns : List Int) : (iD ns).all flatD = true := by
  rw [List.all_eq_true]
  intro x hx
  obtain ⟨o, _, rfl⟩ := List.mem_map.mp hx
  rfl
theorem idx_iD {ns : List Int} {h : Int} (hm : h ∈ ns) : ((iD ns).map flatOf).findIdx? (fun z => eqV z (flatOf (.int h))) = some (ns.idxOf h) := by
  have hl := List.idxOf_lt_length_of_mem hm
  have ev : ∀ o : Int, eqV (flatOf (.int o)) (flatOf (.int h)) = decide (o = h) := fun k => by
    show (k == h) = _; by_cases e : k = h <;> simp [e]
  rw [List.findIdx?_eq_some_iff_getElem]
  refine ⟨by rw [List.length_map, iD_len]; exact hl, ?_, fun j hj => ?_⟩
  · simp only [iD, List.map_map, List.getElem_map, Function.comp]
    rw [ev]
    simp
  · simp only [iD, List.map_map, List.getElem_map, Function.comp]
    rw [ev]
    simp only [decide_eq_true_eq]
    intro z
    have hf := List.not_of_lt_findIdx (p := (· == h)) (xs := ns) hj
    rw [z] at hf
    simp at hf
noncomputable def partOf (ns : List Int) : Int := ([3, 5, 7, 9, 2] : List Int).getD (cellAt ns 1 % 5).toNat 0
theorem part_pos (ns : List Int) : 0 < partOf ns := by
  have h0 := Int.emod_nonneg (cellAt ns 1) (show (5 : Int) ≠ 0 by decide)
  have h1 := Int.emod_lt_of_pos (cellAt ns 1) (show (0 : Int) < 5 by decide)
  unfold partOf
  generalize cellAt ns 1 % 5 = i at *
  have : i = 0 ∨ i = 1 ∨ i = 2 ∨ i = 3 ∨ i = 4 := by omega
  rcases this with rfl | rfl | rfl | rfl | rfl <;> decide
theorem part_at (ns : List Int) : ([.int 3, .int 5, .int 7, .int 9, .int 2] : List PyData)[(cellAt ns 1 % 5).toNat]? = some (.int (partOf ns)) := by
  have h0 := Int.emod_nonneg (cellAt ns 1) (show (5 : Int) ≠ 0 by decide)
  have h1 := Int.emod_lt_of_pos (cellAt ns 1) (show (0 : Int) < 5 by decide)
  unfold partOf
  generalize cellAt ns 1 % 5 = i at *
  have : i = 0 ∨ i = 1 ∨ i = 2 ∨ i = 3 ∨ i = 4 := by omega
  rcases this with rfl | rfl | rfl | rfl | rfl <;> rfl
noncomputable def rowB (ns : List Int) (n : Nat) (c : Int) : List Int := (rgI 0 n).filter fun p => decide (toss c (20 + p) % partOf ns = 0)
noncomputable def rowOf (ns : List Int) (n : Nat) (order : List Int) (z : Int × Nat) : List Int :=
  if (z.2 : Int) ∈ order ∧ order.idxOf (z.2 : Int) < n ∧ (order.idxOf (z.2 : Int) : Int) ∉ rowB ns n z.1 then sortI (rowB ns n z.1 ++ [(order.idxOf (z.2 : Int) : Int)]) else rowB ns n z.1
noncomputable def ableOf (ns : List Int) (n : Nat) (order : List Int) : List (List Int) := (handsOf ns).zipIdx.map (rowOf ns n order)
theorem rowB_len (ns : List Int) (n : Nat) (c : Int) : (rowB ns n c).length ≤ n := by
  have := List.length_filter_le (fun p => decide (toss c (20 + p) % partOf ns = 0)) (rgI 0 n)
  rw [rgI_len] at this; exact this
theorem row_mem {ns : List Int} {n : Nat} {order : List Int} {z : Int × Nat} : ∀ p ∈ rowOf ns n order z, 0 ≤ p ∧ p < n := by
  intro p hp
  have hb : ∀ p ∈ rowB ns n z.1, 0 ≤ p ∧ p < n := fun p hp => by
    have := mem_rgI.mp (List.mem_filter.mp hp).1
    omega
  unfold rowOf at hp
  split at hp
  · rename_i h
    rcases List.mem_append.mp ((sortI_perm _).mem_iff.mp hp) with h1 | h1
    · exact hb p h1
    · rw [List.mem_singleton.mp h1]; omega
  · exact hb p hp
theorem rowB_nd (ns : List Int) (n : Nat) (c : Int) : (rowB ns n c).Pairwise (· < ·) := by
  refine List.Pairwise.filter _ ?_
  unfold rgI
  rw [List.pairwise_map]
  exact List.pairwise_lt_range.imp fun h => by omega
theorem row_rises {ns : List Int} {n : Nat} {order : List Int} {z : Int × Nat} : (rowOf ns n order z).Pairwise (· < ·) := by
  unfold rowOf
  split
  · rename_i h
    have h1 := sortI_sorted (rowB ns n z.1 ++ [(order.idxOf (z.2 : Int) : Int)])
    have h2 : (sortI (rowB ns n z.1 ++ [(order.idxOf (z.2 : Int) : Int)])).Nodup := by
      rw [(sortI_perm _).nodup_iff, List.nodup_append]
      refine ⟨(rowB_nd ns n z.1).imp fun h => by omega, by simp, fun a ha b hb e => ?_⟩
      rw [List.mem_singleton.mp hb] at e
      exact h.2.2 (e ▸ ha)
    exact (List.Pairwise.and h1 h2).imp fun ⟨a, b⟩ => by omega
  · exact rowB_nd ns n z.1
theorem row_len {ns : List Int} {n : Nat} {order : List Int} {z : Int × Nat} : (rowOf ns n order z).length ≤ n + 1 := by
  have := rowB_len ns n z.1
  unfold rowOf
  split
  · rw [(sortI_perm _).length_eq, List.length_append, List.length_singleton]; omega
  · omega
theorem able_len (ns : List Int) (n : Nat) (order : List Int) : (ableOf ns n order).length = manyH ns := by unfold ableOf; rw [List.length_map, List.length_zipIdx, hands_len]
theorem able_row {ns : List Int} {n : Nat} {order r : List Int} (h : r ∈ ableOf ns n order) : r.Pairwise (· < ·) ∧ (∀ p ∈ r, 0 ≤ p ∧ p < n) ∧ r.length ≤ n + 1 := by
  obtain ⟨z, _, rfl⟩ := List.mem_map.mp h
  exact ⟨row_rises, row_mem, row_len⟩
noncomputable def RAbleL : List PyData → List PyData → Prop := fun ds xs => ∃ (ns : List Int) (n : Nat) (order : List Int), ds = [scr ns, .int n, .list (iD order)] ∧ ns.length ≤ 63 ∧ n ≤ 40 ∧ order.length ≤ 100 ∧ xs = rwD (ableOf ns n order)
section
variable {P : Program} {w : World} {K : PySem.W.Frag} {mg : Str → Option Value} {base : Heap} {f : Addr} {fd : FuncData}
noncomputable abbrev nAbleL : List Str := ["script", "posts", "order", "part", "found", "hand", "cell", "some", "post"]
theorem scAbleL : FnScope nAbleL ["script", "posts", "order"] (defScope sAbleL) := ⟨rfl, rfl, rfl, by decide +kernel, rfl, by decide +kernel, by decide +kernel⟩
theorem ok_able (hB : Blt mg) (GC : Fn P w K mg base "_law_cell_at" 1 ["script", "k"] (spP K RCell)) (GT : Fn P w K mg base "_law_tossed" 1 ["cell", "k"] (spP K RToss)) (GH : Fn P w K mg base "_law_hands" 2 ["script"] (spL K RHands)) (F : Fun K "_law_able" "_law_able" sAbleL f fd) (hm : mg "_law_able" = some (.ref f)) (hb : Binds K fd ["script", "posts", "order"] []) : Fn P w K mg base "_law_able" 3 ["script", "posts", "order"] (spL K RAbleL) := by
  refine fn_L (k := 2) F scAbleL hm hb (by rintro _ _ ⟨a, b, c, rfl, _⟩; rfl) fun cdv A outer s H E hr ds d hR => ?_
  obtain ⟨ns, n, order, rfl, hl, hn, ho, rfl⟩ := hR
  have h12 := many12 ns
  have hlen := hands_len ns
  have hpp := part_pos ns
  have h5 := Int.emod_nonneg (cellAt ns 1) (show (5 : Int) ≠ 0 by decide)
  refine sr_cons (s1_set 3 scAbleL.nd (ev_ix (ev_f (ef_list (ea_cons ev_int (ea_cons ev_int (ea_cons ev_int (ea_cons ev_int (ea_cons ev_int ea_nil))))))) (ev_mod (ev_call GC hr (by decide) rfl (ea_cons (ev_var 0 rfl) (ea_cons (ev_int (i := 1)) ea_nil)) ⟨ns, 1, rfl, rfl⟩) ev_int (by decide)) h5 (part_at ns))) ?_
  refine sr_cons (s1_setF 4 scAbleL.nd (ef_list ea_nil)) ?_
  refine sr_cons (δ1 := [.sh (scr ns), .sh (.int n), .sh (.list (iD order)), .sh (.int (partOf ns)), .ow (rwD (ableOf ns n order)), .no, .no, .no, .no]) (s1_eq (s1_forE 5 6 (fun l : List (List Int) => [.sh (scr ns), .sh (.int n), .sh (.list (iD order)), .sh (.int (partOf ns)), .ow (rwD l), .no, .no, .no, .no]) (fun z : Int × Nat => (PyData.int (z.2 : Nat), PyData.int z.1)) (handsOf ns).zipIdx (fun z l => .nx (l ++ [rowOf ns n order z])) (fun m l => l.length ≤ m) (s0 := []) PassesOwn.never rfl scAbleL.nd
    (enum_ints _ ▸ ei_enum rfl hB.enumerate (ev_f (ef_call GH hr (by decide) rfl (ea_cons (ev_var 0 rfl) ea_nil) ⟨ns, rfl, hl, rfl⟩))) (Nat.le_refl _) (fun m z l hz hJ => ?_) (fun m z l l' hz hJ he => ?_)) ?_) (sr_one (s1_retO 4 rfl))
  · have hm12 : m < 12 := by
      have := (List.getElem?_eq_some_iff.mp hz).1
      rw [List.length_zipIdx] at this; omega
    have hrl := rowB_len ns n z.1
    refine ⟨[.sh (scr ns), .sh (.int n), .sh (.list (iD order)), .sh (.int (partOf ns)), .ow (rwD (l ++ [rowOf ns n order z])), .sh (.int (z.2 : Nat)), .sh (.int z.1), .sh (.list (iD (rowOf ns n order z))), .no],
      sr_cons (s1_setC 7 8 PyData.int (rgI 0 n) (fun p => decide (toss z.1 (20 + p) % partOf ns = 0)) PyData.int rfl (cs_mk (defScope sAbleL) nAbleL rfl rfl (by decide +kernel)) scAbleL.nd (ei_rangeN (n := n) rfl hB.range (ev_var 1 rfl) (by omega)) (by rw [rgI_len]; omega)
        (fun C s2 H2 fp t ht => efs_one (et_eqI hr (ev_mod (ev_call GT hr (by decide) rfl (ea_cons (ev_var 6 rfl) (ea_cons (ev_add ev_int (ev_var 8 rfl)) ea_nil)) ⟨z.1, 20 + t, rfl, by have := mem_rgI.mp ht; omega, by have := mem_rgI.mp ht; omega, rfl⟩) (ev_var 3 rfl) hpp) ev_int)) (fun C s2 H2 fp t ht _ => ev_var 8 rfl))
      (sr_share 7 rfl (sr_cons (δ1 := [.sh (scr ns), .sh (.int n), .sh (.list (iD order)), .sh (.int (partOf ns)), .ow (rwD l), .sh (.int (z.2 : Nat)), .sh (.int z.1), .sh (.list (iD (rowOf ns n order z))), .no])
        (s1_if (els := []) (k := decide ((z.2 : Int) ∈ order ∧ order.idxOf (z.2 : Int) < n ∧ (order.idxOf (z.2 : Int) : Int) ∉ rowB ns n z.1)) ?_ (fun hc => ?_) (fun hc => ?_))
        (sr_one (s1_eq (s1_append 4 rfl (ev_var 7 rfl) (by rw [show (rwD l).length = l.length from List.length_map _]; omega)) ?_)))), .keep (.keep (.keep (.keep (.keep (.lose (.lose (.lose (.keep .nil))))))))⟩
    · by_cases h1 : (z.2 : Int) ∈ order
      · refine et_eq (et_and3 (k := true) (m := decide ((order.idxOf (z.2 : Int) : Int) < n)) (n := !decide ((order.idxOf (z.2 : Int) : Int) ∈ rowB ns n z.1)) (et_eq (et_inI hr (ev_var 5 rfl) (ev_var 2 rfl)) (decide_eq_true h1)) (fun _ => et_lt (ev_index (ev_var 2 rfl) (ev_var 5 rfl) rfl (flat_iD order) (idx_iD h1)) (ev_var 1 rfl)) (fun _ _ => et_notInI hr (ev_index (ev_var 2 rfl) (ev_var 5 rfl) rfl (flat_iD order) (idx_iD h1)) (ev_var 7 rfl))) ?_
        rw [Bool.eq_iff_iff]
        simp only [Bool.true_and, Bool.and_eq_true, decide_eq_true_eq, Bool.not_eq_true', decide_eq_false_iff_not]
        constructor
        · rintro ⟨h2, h3⟩; exact ⟨h1, by omega, h3⟩
        · rintro ⟨_, h2, h3⟩; exact ⟨by omega, h3⟩
      · refine et_eq (et_and3 (k := false) (m := false) (n := false) (et_eq (et_inI hr (ev_var 5 rfl) (ev_var 2 rfl)) (decide_eq_false h1)) (fun z => nomatch z) (fun z => nomatch z)) ?_
        rw [decide_eq_false fun z => h1 z.1]; rfl
    · have hc' := of_decide_eq_true hc
      have e : rowOf ns n order z = sortI (rowB ns n z.1 ++ [(order.idxOf (z.2 : Int) : Int)]) := if_pos hc'
      rw [e]
      exact sr_one (s1_set 7 scAbleL.nd (ev_f (ef_sorted rfl hB.sorted (ev_eq (ev_f (ef_cat (ev_var 7 rfl) (ev_f (ef_list (ea_cons (ev_index (ev_var 2 rfl) (ev_var 5 rfl) rfl (flat_iD order) (idx_iD hc'.1)) ea_nil))) (by rw [List.length_map]; show (rowB ns n z.1).length + 1 ≤ 1000; omega))) (by unfold iD; rw [List.map_append]; rfl)) (by rw [List.length_append, List.length_singleton]; omega))))
    · have hc' := of_decide_eq_false hc
      have e : rowOf ns n order z = rowB ns n z.1 := if_neg hc'
      rw [e]; exact sr_nil
    · unfold rwD
      rw [List.map_append]; rfl
  · cases he
    rw [List.length_append, List.length_singleton]; omega
  · rw [loopR_fold]
    have : ∀ (zs : List (Int × Nat)) (l : List (List Int)), zs.foldl (fun l z => l ++ [rowOf ns n order z]) l = l ++ zs.map (rowOf ns n order) := by
      intro zs
      induction zs with
      | nil => intro l; simp
      | cons z zs ih => intro l; rw [List.foldl_cons, ih]; simp
    show Out.nx [.sh (scr ns), .sh (.int n), .sh (.list (iD order)), .sh (.int (partOf ns)), .ow (rwD ((handsOf ns).zipIdx.foldl (fun l z => l ++ [rowOf ns n order z]) [])), .no, .no, .no, .no] = _
    rw [this]; rfl
end
end Kx
end
section
namespace Kx
open PySem PySem.Spec PyProof.Rows L2
noncomputable def eA (able : List (List Int)) (h p : Int) : Bool := decide (p ∈ able.getD h.toNat [])
noncomputable def oneOf (row : List Int) (some : List Int) : Bool := row.any fun p => decide (p ∈ some)
noncomputable def ableFor (able : List (List Int)) (hands some : List Int) : List Int := hands.filter fun h => oneOf (able.getD h.toNat []) some
noncomputable def NN (able : List (List Int)) : Prop := ∀ r ∈ able, ∀ p ∈ r, 0 ≤ p
structure Good (able : List (List Int)) (hands : List Int) : Prop where
  la : able.length ≤ 100
  lr : ∀ r ∈ able, r.length ≤ 100
  lh : hands.length ≤ 100
  lt : ∀ h ∈ hands, 0 ≤ h ∧ h < able.length
theorem Good.get {able : List (List Int)} {hands : List Int} (g : Good able hands) {h : Int} (hh : h ∈ hands) : able[h.toNat]? = some (able.getD h.toNat []) ∧ (able.getD h.toNat []).length ≤ 100 := by
  have := g.lt h hh
  have hl : h.toNat < able.length := by omega
  rw [List.getD_eq_getElem?_getD, List.getElem?_eq_getElem hl]
  exact ⟨rfl, g.lr _ (List.getElem_mem hl)⟩
end Kx
end
section
namespace L2
open PySem PySem.Spec PyProof.Rows
theorem sr_rwk {X : Cx} {δ δ1 δ2 : Dn} {body : List Stmt} {d : PyData} (w : Wkn δ1 δ2) (hs : scalD d = true) (h : SR X δ body (.rw δ1 d)) : SR X δ body (.rw δ2 d) :=
  fun pins s σ H D I hh60 => Zz.a5 hh60 fun Hb own B E P => h pins s σ H D I ⟨Hb, own, B, E, fun own' σ' H' v E' r => P _ _ _ _ (E'.weaken w) (rep_scal hs r)⟩
theorem out_rw {X : Cx} {δ δ1 : Dn} {d : PyData} {S : Type} {emb : S → Dn} {body : List Stmt} (h : SR X δ body (.rw δ1 d)) : TurnOk X emb δ body (.out (.rw δ1 d)) := ⟨h, fun _ z => (nomatch z), fun _ z => (nomatch z), fun _ z => (nomatch z)⟩
end L2
namespace Kx
open PySem PySem.Spec PyProof.Rows L2 Mt
noncomputable def sv (st : Ways) (h : Int) : Int := if h ∈ keys st then lookW st h else -1
noncomputable def slD (st : Ways) (m : Nat) : List PyData := iD ((rgI 0 m).map (sv st))
theorem slD_len (st : Ways) (m : Nat) : (slD st m).length = m := by unfold slD; rw [iD_len, List.length_map, rgI_len]
theorem slD_get {st : Ways} {m : Nat} {h : Int} (h0 : 0 ≤ h) (h1 : h < m) : (slD st m)[h.toNat]? = some (.int (sv st h)) := by
  unfold slD
  refine iD_get ?_
  rw [List.getElem?_map]
  unfold rgI
  rw [List.getElem?_map, List.getElem?_range (by omega)]
  simp only [Option.map_some]
  congr 2
  omega
theorem put_mem (st : Ways) (h p : Int) : (h, p) ∈ putS st h p := by
  unfold putS
  split
  · rename_i hm
    obtain ⟨x, hx, e⟩ := List.mem_map.mp hm
    exact List.mem_map.mpr ⟨x, hx, by rw [if_pos e, e]⟩
  · simp
theorem sv_put {st : Ways} {h p k : Int} (nd : (keys st).Nodup) : sv (putS st h p) k = if k = h then p else sv st k := by
  unfold sv
  by_cases e : k = h
  · subst e
    rw [if_pos rfl, if_pos ((keys_put.1 k).mpr (.inr rfl)), look_of (keys_put.2 nd) (put_mem st k p)]
  · rw [if_neg e]
    by_cases hk : k ∈ keys st
    · rw [if_pos ((keys_put.1 k).mpr (.inl hk)), if_pos hk, look_put nd e hk]
    · rw [if_neg fun z => ((keys_put.1 k).mp z).elim hk e, if_neg hk]
theorem slD_put {st : Ways} {m : Nat} {h p : Int} (nd : (keys st).Nodup) (h0 : 0 ≤ h) (h1 : h < m) : (slD st m).set h.toNat (.int p) = slD (putS st h p) m := by
  apply List.ext_getElem?
  intro i
  by_cases hi : i < m
  · have gi : ∀ st : Ways, (slD st m)[i]? = some (.int (sv st (i : Int))) := fun st => by
      have := slD_get (st := st) (m := m) (h := (i : Int)) (by omega) (by omega)
      rwa [Int.toNat_natCast] at this
    rw [gi, sv_put nd]
    by_cases e : h.toNat = i
    · rw [← e, List.getElem?_set_self (by rw [slD_len]; omega), if_pos (by omega)]
    · rw [List.getElem?_set_ne e, gi, if_neg (by omega)]
  · rw [List.getElem?_eq_none (by rw [List.length_set, slD_len]; omega), List.getElem?_eq_none (by rw [slD_len]; omega)]
theorem nn_look {able : List (List Int)} {hands : List Int} {st : Ways} (N : NN able) (S : SOk (eA able) hands st) {h : Int} (hk : h ∈ keys st) : 0 ≤ lookW st h := by
  have h2 : lookW st h ∈ able.getD h.toNat [] := of_decide_eq_true (S.ok _ (look_mem S.nd hk)).2
  rw [List.getD_eq_getElem?_getD] at h2
  cases q : able[h.toNat]? with
  | none => rw [q] at h2; cases h2
  | some r => rw [q] at h2; exact N r (List.mem_of_getElem? q) _ h2
theorem sv_free {able : List (List Int)} {hands : List Int} {st : Ways} (N : NN able) (S : SOk (eA able) hands st) (h : Int) : decide (sv st h = -1) = !decide (h ∈ keys st) := by
  unfold sv
  by_cases hk : h ∈ keys st
  · have := nn_look N S hk
    rw [if_pos hk, decide_eq_true hk, decide_eq_false (by omega)]; rfl
  · rw [if_neg hk, decide_eq_false hk, decide_eq_true rfl]; rfl
section
variable {P : Program} {w : World} {K : PySem.W.Frag} {mg : Str → Option Value} {base : Heap} {f : Addr} {fd : FuncData}
noncomputable abbrev nSeat : List Str := ["able", "hands", "post", "seats", "seen", "hand"]
noncomputable abbrev pSeat : List Str := ["able", "hands", "post", "seats", "seen"]
theorem scSeat : FnScope nSeat pSeat (defScope sSeated) := ⟨rfl, rfl, rfl, by decide +kernel, rfl, by decide +kernel, by decide +kernel⟩
structure SeatOk (m : Nat) (able : List (List Int)) (hands : List Int) (st : Ways) (sn : List Int) : Prop where
  g : Good able hands
  nn : NN able
  ok : SOk (eA able) hands st
  nd : sn.Nodup
  inh : ∀ h ∈ sn, h ∈ hands
  lf : left hands sn ≤ m
noncomputable def RSeat (m : Nat) : List Ent → List Ent → PyData → Prop := fun as as' d => ∃ (a b : Addr) (able : List (List Int)) (hands : List Int) (post : Int) (st : Ways) (sn : List Int) (last : Ent),
  as = [.sh (.list (rwD able)), .sh (.list (iD hands)), .sh (.int post), .own (some a) (.l (slD st able.length)), .own (some b) (.l (iD sn))] ∧ SeatOk m able hands st sn ∧ (last = .own (some b) (.l (iD (seatF (eA able) hands m post st sn).2.2)) ∨ last = .no) ∧
  as' = [.no, .no, .no, .own (some a) (.l (slD (seatF (eA able) hands m post st sn).2.1 able.length)), last] ∧ d = .bool (seatF (eA able) hands m post st sn).1
noncomputable def embS (able : List (List Int)) (hands : List Int) (post : Int) (a b : Addr) (e : Ent) (s : Ways × List Int) : Dn := [.sh (.list (rwD able)), .sh (.list (iD hands)), .sh (.int post), .own (some a) (.l (slD s.1 able.length)), .own (some b) (.l (iD s.2)), e]
noncomputable def FS (e : Int → Int → Bool) (rec : Int → Ways → List Int → SR3) (emb : Ways × List Int → Dn) (post h : Int) (s : Ways × List Int) : Res (Ways × List Int) :=
  if e h post = true ∧ h ∉ s.2 then
    if h ∉ keys s.1 then .out (.rw (emb (putS s.1 h post, s.2 ++ [h])) (.bool true))
    else if (rec (lookW s.1 h) s.1 (s.2 ++ [h])).1 = true then .out (.rw (emb (putS (rec (lookW s.1 h) s.1 (s.2 ++ [h])).2.1 h post, (rec (lookW s.1 h) s.1 (s.2 ++ [h])).2.2)) (.bool true))
    else .nx ((rec (lookW s.1 h) s.1 (s.2 ++ [h])).2.1, (rec (lookW s.1 h) s.1 (s.2 ++ [h])).2.2)
  else .nx s
theorem loop_seat (e : Int → Int → Bool) (rec : Int → Ways → List Int → SR3) (emb : Ways × List Int → Dn) (post : Int) : ∀ (hs : List Int) (st : Ways) (sn : List Int), loopR (FS e rec emb post) hs (st, sn) =
    if (seatL e rec post hs st sn).1 = true then .out (.rw (emb (seatL e rec post hs st sn).2) (.bool true)) else .nx (seatL e rec post hs st sn).2
  | [], st, sn => rfl
  | h :: hs, st, sn => by
    unfold seatL loopR
    by_cases hc : e h post = true ∧ h ∉ sn
    · rw [if_pos hc]
      by_cases hk : h ∉ keys st
      · have : FS e rec emb post h (st, sn) = .out (.rw (emb (putS st h post, sn ++ [h])) (.bool true)) := by unfold FS; rw [if_pos hc, if_pos hk]
        rw [this, if_pos hk, if_pos rfl]
      · rw [if_neg hk]
        by_cases hy : (rec (lookW st h) st (sn ++ [h])).1 = true
        · have : FS e rec emb post h (st, sn) = .out (.rw (emb (putS (rec (lookW st h) st (sn ++ [h])).2.1 h post, (rec (lookW st h) st (sn ++ [h])).2.2)) (.bool true)) := by unfold FS; rw [if_pos hc, if_neg hk, if_pos hy]
          rw [this, if_pos hy, if_pos rfl]
        · have : FS e rec emb post h (st, sn) = .nx ((rec (lookW st h) st (sn ++ [h])).2.1, (rec (lookW st h) st (sn ++ [h])).2.2) := by unfold FS; rw [if_pos hc, if_neg hk, if_neg hy]
          rw [this, if_neg hy]
          exact loop_seat e rec emb post hs _ _
    · have : FS e rec emb post h (st, sn) = .nx (st, sn) := by unfold FS; rw [if_neg hc]
      rw [this, if_neg hc]
      exact loop_seat e rec emb post hs st sn
noncomputable def recOf (e : Int → Int → Bool) (hands : List Int) : Nat → Int → Ways → List Int → SR3
  | 0 => fun _ st sn => (false, st, sn)
  | m + 1 => seatF e hands m
theorem seatF_eq (e : Int → Int → Bool) (hands : List Int) (m : Nat) (post : Int) (st : Ways) (sn : List Int) : seatF e hands m post st sn = seatL e (recOf e hands m) post hands st sn := by cases m <;> rfl
theorem ok_seatS (m : Nat) (hG : ∀ m', m = m' + 1 → Fn P w K mg base "_law_seated" m pSeat (spM K (RSeat m'))) (F : Fun K "_law_seated" "_law_seated" sSeated f fd) (hm : mg "_law_seated" = some (.ref f)) (hb : Binds K fd pSeat []) : Fn P w K mg base "_law_seated" (m + 1) pSeat (spM K (RSeat m)) := by
  refine fn_M (k := m) F scSeat hm hb (by rintro _ _ _ ⟨a, b, c, d, e, f, g, h, rfl, _⟩; rfl) fun cdv A outer s H E hr as as' d hR => ?_
  obtain ⟨a, b, able, hands, post, st, sn, last, rfl, ⟨g, nn, S, nd, inh, lf⟩, hlast, rfl, rfl⟩ := hR
  have hlh := g.lh
  have SF := seatF_ok (e := eA able) (hands := hands) m post st sn S nd inh lf
  rw [seatF_eq] at SF hlast ⊢
  have fin : SR (bx P w K mg base nSeat "_law_seated" sSeated f cdv A outer s H E) (startE nSeat [.sh (.list (rwD able)), .sh (.list (iD hands)), .sh (.int post), .own (some a) (.l (slD st able.length)), .own (some b) (.l (iD sn))]) (defBody sSeated)
      (.rw (embS able hands post a b .no (seatL (eA able) (recOf (eA able) hands m) post hands st sn).2) (.bool (seatL (eA able) (recOf (eA able) hands m) post hands st sn).1)) := by
    refine sr_after (s1_forR 5 (embS able hands post a b .no) PyData.int hands (FS (eA able) (recOf (eA able) hands m) (embS able hands post a b .no) post) (fun _ s => SOk (eA able) hands s.1 ∧ s.2.Nodup ∧ (∀ h ∈ s.2, h ∈ hands) ∧ left hands s.2 ≤ m) (s0 := (st, sn)) PassesOwn.never rfl scSeat.nd (ei_ints (ev_var 1 rfl)) ⟨S, nd, inh, lf⟩ (fun i h s hi hJ => ?_) (fun i h s s' hi hJ he => ?_)) ?_
    · obtain ⟨st1, sn1⟩ := s
      obtain ⟨S1, nd1, inh1, lf1⟩ := hJ
      have S1 : SOk (eA able) hands st1 := S1
      have nd1 : sn1.Nodup := nd1
      have inh1 : ∀ h ∈ sn1, h ∈ hands := inh1
      have lf1 : left hands sn1 ≤ m := lf1
      have hh : h ∈ hands := List.mem_of_getElem? hi
      have g1 := g.get hh
      have hsl : sn1.length ≤ hands.length := nodup_sub_len nd1 inh1
      by_cases hc : eA able h post = true ∧ h ∉ sn1
      · have T1 : EtD (bx P w K mg base nSeat "_law_seated" sSeated f cdv A outer s H E) = EtD (bx P w K mg base nSeat "_law_seated" sSeated f cdv A outer s H E) := rfl
        have nd2 : (sn1 ++ [h]).Nodup := by
          rw [List.nodup_append]
          refine ⟨nd1, by simp, fun x hx y hy z => ?_⟩
          have : y = h := by simpa using hy
          exact hc.2 (this ▸ z ▸ hx)
        have inh2 : ∀ k ∈ sn1 ++ [h], k ∈ hands := fun k hk => by
          rcases List.mem_append.mp hk with hk | hk
          · exact inh1 k hk
          · have : k = h := by simpa using hk
            rw [this]; exact hh
        have lt2 := left_lt (hands := hands) hh hc.2
        have eap : iD sn1 ++ [PyData.int h] = iD (sn1 ++ [h]) := by unfold iD; rw [List.map_append]; rfl
        by_cases hk : h ∉ keys st1
        · have eF : FS (eA able) (recOf (eA able) hands m) (embS able hands post a b .no) post h (st1, sn1) = .out (.rw (embS able hands post a b .no (putS st1 h post, sn1 ++ [h])) (.bool true)) := by unfold FS; rw [if_pos hc, if_pos hk]
          rw [eF]
          refine out_rw (sr_rwk (δ1 := embS able hands post a b (.sh (.int h)) (putS st1 h post, sn1 ++ [h])) (.keep (.keep (.keep (.keep (.keep (.lose .nil)))))) rfl (sr_rw (s1_if (els := []) (k := true) (et_eq (et_and (et_inI hr (ev_var 2 rfl) (ev_ix (ev_var 0 rfl) (ev_var 5 rfl) (g.lt h hh).1 (rwD_get g1.1))) (fun _ => et_share 4 rfl (et_notInI hr (ev_var 5 rfl) (ev_var 4 rfl)))) ?_) (fun _ => ?_) (fun z => nomatch z))))
          · rw [show decide (post ∈ able.getD h.toNat []) = true from hc.1, decide_eq_false hc.2]; rfl
          · refine sr_cons (δ1 := embS able hands post a b (.sh (.int h)) (st1, sn1 ++ [h])) (s1_eq (s1_append 4 rfl (ev_var 5 rfl) (by rw [iD_len]; show sn1.length < 1000; omega)) (by rw [eap]; rfl)) (sr_rw (s1_ifM (m := true) (δ1 := embS able hands post a b (.sh (.int h)) (st1, sn1 ++ [h])) (etM_or1 (etM_d (et_eq (et_eqI hr (ev_share 3 rfl (ev_ix (ev_var 3 rfl) (ev_var 5 rfl) (g.lt h hh).1 (slD_get (g.lt h hh).1 (g.lt h hh).2))) (ev_eq (ev_neg ev_int) rfl)) ?_))) (fun _ => ?_) (fun z => nomatch z)))
            · rw [sv_free nn S1, decide_eq_false hk]; rfl
            · refine sr_cons (δ1 := embS able hands post a b (.sh (.int h)) (putS st1 h post, sn1 ++ [h])) (s1_eq (s1_setIx 3 rfl (ev_var 2 rfl) (ev_var 5 rfl) (g.lt h hh).1 (by rw [slD_len]; have := g.lt h hh; omega)) (by rw [slD_put S1.nd (g.lt h hh).1 (g.lt h hh).2]; rfl)) (sr_one (s1_retW ev_bl))
        · have hk' : h ∈ keys st1 := by simpa using hk
          obtain ⟨m', rfl⟩ : ∃ m', m = m' + 1 := ⟨m - 1, by omega⟩
          have GS := hG m' rfl
          have R := seatF_ok (e := eA able) (hands := hands) m' (lookW st1 h) st1 (sn1 ++ [h]) S1 nd2 inh2 (by omega)
          have callT : ∀ (P' : Prop), P' → P' := fun _ z => z
          by_cases hy : (seatF (eA able) hands m' (lookW st1 h) st1 (sn1 ++ [h])).1 = true
          · have eF : FS (eA able) (recOf (eA able) hands (m' + 1)) (embS able hands post a b .no) post h (st1, sn1) = .out (.rw (embS able hands post a b .no (putS (seatF (eA able) hands m' (lookW st1 h) st1 (sn1 ++ [h])).2.1 h post, (seatF (eA able) hands m' (lookW st1 h) st1 (sn1 ++ [h])).2.2)) (.bool true)) := by unfold FS; rw [if_pos hc, if_neg hk]; exact if_pos hy
            rw [eF]
            generalize hr' : seatF (eA able) hands m' (lookW st1 h) st1 (sn1 ++ [h]) = r at hy R
            refine out_rw (sr_rwk (δ1 := embS able hands post a b (.sh (.int h)) (putS r.2.1 h post, r.2.2)) (.keep (.keep (.keep (.keep (.keep (.lose .nil)))))) rfl (sr_rw (s1_if (els := []) (k := true) (et_eq (et_and (et_inI hr (ev_var 2 rfl) (ev_ix (ev_var 0 rfl) (ev_var 5 rfl) (g.lt h hh).1 (rwD_get g1.1))) (fun _ => et_share 4 rfl (et_notInI hr (ev_var 5 rfl) (ev_var 4 rfl)))) ?_) (fun _ => ?_) (fun z => nomatch z))))
            · rw [show decide (post ∈ able.getD h.toNat []) = true from hc.1, decide_eq_false hc.2]; rfl
            · refine sr_cons (δ1 := embS able hands post a b (.sh (.int h)) (st1, sn1 ++ [h])) (s1_eq (s1_append 4 rfl (ev_var 5 rfl) (by rw [iD_len]; show sn1.length < 1000; omega)) (by rw [eap]; rfl)) (sr_rw (s1_ifM (m := true) (δ1 := embS able hands post a b (.sh (.int h)) (r.2.1, r.2.2)) (etM_or2 (δ1 := embS able hands post a b (.sh (.int h)) (st1, sn1 ++ [h])) (etM_d (et_eq (et_eqI hr (ev_share 3 rfl (ev_ix (ev_var 3 rfl) (ev_var 5 rfl) (g.lt h hh).1 (slD_get (g.lt h hh).1 (g.lt h hh).2))) (ev_eq (ev_neg ev_int) rfl)) ?_)) (etM_val (ev_callM GS hr (by omega) rfl (eam_d (ev_var 0 rfl) (eam_d (ev_var 1 rfl) (eam_d (ev_share 3 rfl (ev_eq (ev_ix (ev_var 3 rfl) (ev_var 5 rfl) (g.lt h hh).1 (slD_get (g.lt h hh).1 (g.lt h hh).2)) (congrArg PyData.int (if_pos hk' : sv st1 h = lookW st1 h)))) (eam_sl 3 rfl (eam_sl 4 rfl eam_nil))))) (fun i => if i = 3 then .l (slD r.2.1 able.length) else .l (iD r.2.2)) ⟨rfl, rfl, trivial⟩ (fun ad => ⟨ad 3, ad 4, able, hands, lookW st1 h, st1, sn1 ++ [h], .own (some (ad 4)) (.l (iD r.2.2)), rfl, ⟨g, nn, S1, nd2, inh2, by omega⟩, .inl (by rw [hr']), by rw [hr']; rfl, by rw [hr', hy]⟩)))) (fun _ => ?_) (fun z => nomatch z)))
              · rw [sv_free nn S1, decide_eq_true hk']; rfl
              · refine sr_cons (δ1 := embS able hands post a b (.sh (.int h)) (putS r.2.1 h post, r.2.2)) (s1_eq (s1_setIx 3 rfl (ev_var 2 rfl) (ev_var 5 rfl) (g.lt h hh).1 (by rw [slD_len]; have := g.lt h hh; omega)) (by rw [slD_put R.ok.nd (g.lt h hh).1 (g.lt h hh).2]; rfl)) (sr_one (s1_retW ev_bl))
          · have eF : FS (eA able) (recOf (eA able) hands (m' + 1)) (embS able hands post a b .no) post h (st1, sn1) = .nx ((seatF (eA able) hands m' (lookW st1 h) st1 (sn1 ++ [h])).2.1, (seatF (eA able) hands m' (lookW st1 h) st1 (sn1 ++ [h])).2.2) := by unfold FS; rw [if_pos hc, if_neg hk]; exact if_neg hy
            rw [eF]
            generalize hr' : seatF (eA able) hands m' (lookW st1 h) st1 (sn1 ++ [h]) = r at hy R
            have hy' : r.1 = false := Bool.eq_false_iff.mpr hy
            refine ⟨embS able hands post a b (.sh (.int h)) (r.2.1, r.2.2), sr_one (s1_if (els := []) (k := true) (et_eq (et_and (et_inI hr (ev_var 2 rfl) (ev_ix (ev_var 0 rfl) (ev_var 5 rfl) (g.lt h hh).1 (rwD_get g1.1))) (fun _ => et_share 4 rfl (et_notInI hr (ev_var 5 rfl) (ev_var 4 rfl)))) ?_) (fun _ => ?_) (fun z => nomatch z)), .keep (.keep (.keep (.keep (.keep (.lose .nil)))))⟩
            · rw [show decide (post ∈ able.getD h.toNat []) = true from hc.1, decide_eq_false hc.2]; rfl
            · refine sr_cons (δ1 := embS able hands post a b (.sh (.int h)) (st1, sn1 ++ [h])) (s1_eq (s1_append 4 rfl (ev_var 5 rfl) (by rw [iD_len]; show sn1.length < 1000; omega)) (by rw [eap]; rfl)) (sr_one (s1_ifM (m := false) (δ1 := embS able hands post a b (.sh (.int h)) (r.2.1, r.2.2)) (els := []) (etM_or2 (δ1 := embS able hands post a b (.sh (.int h)) (st1, sn1 ++ [h])) (etM_d (et_eq (et_eqI hr (ev_share 3 rfl (ev_ix (ev_var 3 rfl) (ev_var 5 rfl) (g.lt h hh).1 (slD_get (g.lt h hh).1 (g.lt h hh).2))) (ev_eq (ev_neg ev_int) rfl)) ?_)) (etM_val (ev_callM GS hr (by omega) rfl (eam_d (ev_var 0 rfl) (eam_d (ev_var 1 rfl) (eam_d (ev_share 3 rfl (ev_eq (ev_ix (ev_var 3 rfl) (ev_var 5 rfl) (g.lt h hh).1 (slD_get (g.lt h hh).1 (g.lt h hh).2)) (congrArg PyData.int (if_pos hk' : sv st1 h = lookW st1 h)))) (eam_sl 3 rfl (eam_sl 4 rfl eam_nil))))) (fun i => if i = 3 then .l (slD r.2.1 able.length) else .l (iD r.2.2)) ⟨rfl, rfl, trivial⟩ (fun ad => ⟨ad 3, ad 4, able, hands, lookW st1 h, st1, sn1 ++ [h], .own (some (ad 4)) (.l (iD r.2.2)), rfl, ⟨g, nn, S1, nd2, inh2, by omega⟩, .inl (by rw [hr']), by rw [hr']; rfl, by rw [hr', hy']⟩)))) (fun z => nomatch z) (fun _ => sr_nil)))
              rw [sv_free nn S1, decide_eq_true hk']; rfl
      · have eF : FS (eA able) (recOf (eA able) hands m) (embS able hands post a b .no) post h (st1, sn1) = .nx (st1, sn1) := by unfold FS; rw [if_neg hc]
        rw [eF]
        refine ⟨_, sr_skip (et_eq (et_and (et_inI hr (ev_var 2 rfl) (ev_ix (ev_var 0 rfl) (ev_var 5 rfl) (g.lt h hh).1 (rwD_get g1.1))) (fun _ => et_share 4 rfl (et_notInI hr (ev_var 5 rfl) (ev_var 4 rfl)))) ?_) sr_nil, .keep (.keep (.keep (.keep (.keep (.lose .nil)))))⟩
        show (eA able h post && !decide (h ∈ sn1)) = false
        cases h1 : eA able h post with
        | false => rfl
        | true =>
          by_cases h2 : h ∈ sn1
          · simp [h2]
          · exact absurd ⟨h1, h2⟩ hc
    · obtain ⟨st1, sn1⟩ := s
      obtain ⟨S1, nd1, inh1, lf1⟩ := hJ
      have hh : h ∈ hands := List.mem_of_getElem? hi
      unfold FS at he
      split at he
      · rename_i hc
        split at he
        · cases he
        · split at he
          · cases he
          · cases he
            have lt2 := left_lt (hands := hands) hh hc.2
            have lf1 : left hands sn1 ≤ m := lf1
            obtain ⟨m', rfl⟩ : ∃ m', m = m' + 1 := ⟨m - 1, by have := lt2; omega⟩
            have nd2 : (sn1 ++ [h]).Nodup := by
              rw [List.nodup_append]
              refine ⟨nd1, by simp, fun x hx y hy z => ?_⟩
              have : y = h := by simpa using hy
              exact hc.2 (this ▸ z ▸ hx)
            have inh2 : ∀ k ∈ sn1 ++ [h], k ∈ hands := fun k hk => by
              rcases List.mem_append.mp hk with hk | hk
              · exact inh1 k hk
              · have : k = h := by simpa using hk
                rw [this]; exact hh
            have lt2' : left hands (sn1 ++ [h]) < left hands sn1 := lt2
            have R := seatF_ok (e := eA able) (hands := hands) m' (lookW st1 h) st1 (sn1 ++ [h]) S1 nd2 inh2 (by omega)
            refine ⟨R.ok, R.snd, R.inh, ?_⟩
            have : left hands (seatF (eA able) hands m' (lookW st1 h) st1 (sn1 ++ [h])).2.2 ≤ left hands sn1 := by
              unfold left
              have e2 : (hands.filter fun k => decide (k ∉ (seatF (eA able) hands m' (lookW st1 h) st1 (sn1 ++ [h])).2.2)) = (hands.filter fun k => decide (k ∉ sn1)).filter fun k => decide (k ∉ (seatF (eA able) hands m' (lookW st1 h) st1 (sn1 ++ [h])).2.2) := by
                rw [List.filter_filter]
                apply List.filter_congr
                intro k _
                by_cases q : k ∈ (seatF (eA able) hands m' (lookW st1 h) st1 (sn1 ++ [h])).2.2
                · simp [q]
                · have q2 : k ∉ sn1 := fun z => q (R.sub k (List.mem_append_left _ z))
                  simp [q, q2]
              rw [e2]; exact List.length_filter_le _ _
            exact Nat.le_trans this lf1
      · cases he
        exact ⟨S1, nd1, inh1, lf1⟩
    · rw [loop_seat]
      by_cases hy : (seatL (eA able) (recOf (eA able) hands m) post hands st sn).1 = true
      · rw [if_pos hy, hy]; rfl
      · rw [if_neg hy, Bool.eq_false_iff.mpr hy]
        exact sr_one (s1_retW ev_bl)
  refine .rw fin ?_ rfl
  rcases hlast with rfl | rfl
  · exact .lose (.lose (.lose (.keep (.keep (.keep .nil)))))
  · exact .lose (.lose (.lose (.keep (.lose (.keep .nil)))))
theorem ok_seat (F : Fun K "_law_seated" "_law_seated" sSeated f fd) (hm : mg "_law_seated" = some (.ref f)) (hb : Binds K fd pSeat []) : ∀ m, Fn P w K mg base "_law_seated" (m + 1) pSeat (spM K (RSeat m))
  | 0 => ok_seatS 0 (fun m' z => by cases z) F hm hb
  | m + 1 => ok_seatS (m + 1) (fun m' z => by cases z; exact ok_seat F hm hb m) F hm hb
end
end Kx
end
section
namespace Kx
open PySem PySem.Spec PyProof.Rows L2 Mt
structure MsOk (n : Nat) (able : List (List Int)) (hands : List Int) : Prop where
  g : Good able hands
  nn : NN able
  nd : hands.Nodup
  n12 : n ≤ 40
  lh : hands.length ≤ 14
noncomputable def RMs : List PyData → PyData → Prop := fun ds d => ∃ (n : Nat) (able : List (List Int)) (hands : List Int), ds = [.int n, .list (rwD able), .list (iD hands)] ∧ MsOk n able hands ∧ d = .bool (decide (defi (eA able) hands n = 0))
noncomputable def FMs (e : Int → Int → Bool) (hands : List Int) (p : Int) (st : Ways) : Res Ways := if (seatF e hands hands.length p st []).1 = true then .nx (seatF e hands hands.length p st []).2.1 else .out (.rt (.bool false))
theorem loopR_app {S α : Type} (F : α → S → Res S) : ∀ (xs ys : List α) (s : S), loopR F (xs ++ ys) s = match loopR F xs s with
    | .nx s' => loopR F ys s'
    | .br s' => .br s'
    | .out o => .out o
  | [], ys, s => rfl
  | x :: xs, ys, s => by
    have h1 : ∀ zs, loopR F (x :: zs) s = match F x s with
        | .nx s' => loopR F zs s'
        | .br s' => .br s'
        | .out o => .out o := fun zs => by first | rfl | (rw [loopR]; cases F x s <;> rfl)
    rw [List.cons_append, h1, h1]
    cases F x s with
    | nx s' => exact loopR_app F xs ys s'
    | br s' => rfl
    | out o => rfl
theorem loop_ms (e : Int → Int → Bool) (hands : List Int) : ∀ n : Nat, loopR (FMs e hands) (rgI 0 n) [] = if (seatAll e hands n).2 = [] then .nx (seatAll e hands n).1 else .out (.rt (.bool false))
  | 0 => rfl
  | n + 1 => by
    have e1 : rgI 0 (n + 1) = rgI 0 n ++ [(n : Int)] := by unfold rgI; rw [List.range_succ, List.map_append]; simp
    rw [e1, loopR_app, loop_ms e hands n]
    by_cases hb : (seatAll e hands n).2 = []
    · rw [if_pos hb]
      show loopR (FMs e hands) [(n : Int)] (seatAll e hands n).1 = _
      by_cases hy : (seatF e hands hands.length n (seatAll e hands n).1 []).1 = true
      · have h2 : (seatAll e hands (n + 1)).2 = [] := by
          show (if (seatF e hands hands.length n (seatAll e hands n).1 []).1 = true then (seatAll e hands n).2 else (seatAll e hands n).2 ++ [(n : Int)]) = []
          rw [if_pos hy]; exact hb
        rw [if_pos h2]
        unfold loopR FMs
        rw [if_pos hy]; rfl
      · have h2 : ¬ (seatAll e hands (n + 1)).2 = [] := by
          show ¬ (if (seatF e hands hands.length n (seatAll e hands n).1 []).1 = true then (seatAll e hands n).2 else (seatAll e hands n).2 ++ [(n : Int)]) = []
          rw [if_neg hy]; simp
        rw [if_neg h2]
        unfold loopR FMs
        rw [if_neg hy]
    · rw [if_neg hb]
      have h2 : ¬ (seatAll e hands (n + 1)).2 = [] := by
        show ¬ (if (seatF e hands hands.length n (seatAll e hands n).1 []).1 = true then (seatAll e hands n).2 else (seatAll e hands n).2 ++ [(n : Int)]) = []
        split
        · exact hb
        · simp
      rw [if_neg h2]
theorem ms_iff (e : Int → Int → Bool) {hands : List Int} (hnd : hands.Nodup) (n : Nat) : (seatAll e hands n).2 = [] ↔ defi e hands n = 0 := by
  have A := seatAll_ok e hands n
  have h1 := (mx_same A.mx hnd).1
  rw [A.bareEq] at h1
  rw [← h1]
  exact ⟨fun z => by rw [z]; rfl, fun z => List.eq_nil_of_length_eq_zero z⟩
section
variable {P : Program} {w : World} {K : PySem.W.Frag} {mg : Str → Option Value} {base : Heap} {f : Addr} {fd : FuncData}
noncomputable abbrev nMs : List Str := ["posts", "able", "hands", "seats", "post", "some"]
theorem scMs : FnScope nMs ["posts", "able", "hands"] (defScope sMans) := ⟨rfl, rfl, rfl, by decide +kernel, rfl, by decide +kernel, by decide +kernel⟩
theorem sl_start (able : List (List Int)) : able.map (fun _ => PyData.int (-1)) = slD [] able.length := by
  unfold slD iD rgI
  rw [List.map_map, List.map_map]
  apply List.ext_getElem
  · simp
  · intro i h1 h2
    simp [sv, keys]
theorem ok_ms (hB : Blt mg) (GS : ∀ m, Fn P w K mg base "_law_seated" (m + 1) pSeat (spM K (RSeat m))) (F : Fun K "_law_mans" "_law_mans" sMans f fd) (hm : mg "_law_mans" = some (.ref f)) (hb : Binds K fd ["posts", "able", "hands"] []) :
    Fn P w K mg base "_law_mans" 16 ["posts", "able", "hands"] (spP K RMs) := by
  refine fn_P (k := 15) F scMs hm hb (by rintro _ _ ⟨a, b, c, rfl, _⟩; rfl) fun cdv A outer s H E hr ds d hR => .inl ?_
  obtain ⟨n, able, hands, rfl, ⟨g, nn, hnd, h12, hlh⟩, rfl⟩ := hR
  refine sr_cons (δ1 := [.sh (.int n), .sh (.list (rwD able)), .sh (.list (iD hands)), .ow (slD [] able.length), .no, .no]) (s1_eq (s1_setC 3 5 rowD able (fun _ => true) (fun _ => .int (-1)) rfl (cs_mk (defScope sMans) nMs rfl rfl (by decide +kernel)) scMs.nd (ei_rows (ev_var 1 rfl)) (by have := g.la; omega) (fun C s2 H2 fp t ht => efs_nil) (fun C s2 H2 fp t ht _ => ev_eq (ev_neg ev_int) rfl)) ?_) ?_
  · rw [List.filter_eq_self.mpr (by intros; rfl), sl_start]; rfl
  refine sr_after (s1_forR 4 (fun st : Ways => [.sh (.int n), .sh (.list (rwD able)), .sh (.list (iD hands)), .ow (slD st able.length), .no, .no]) PyData.int (rgI 0 n) (FMs (eA able) hands) (fun _ st => SOk (eA able) hands st) (s0 := []) PassesOwn.never rfl scMs.nd (ei_rangeN (n := n) rfl hB.range (ev_var 0 rfl) (by omega)) ⟨List.nodup_nil, fun _ z => nomatch z⟩ (fun k p st hk S => ?_) (fun k p st st' hk S he => ?_)) ?_
  · have hl : left hands [] ≤ hands.length := List.length_filter_le _ _
    unfold FMs
    generalize hr' : seatF (eA able) hands hands.length p st [] = r
    by_cases hy : r.1 = true
    · rw [if_pos hy]
      exact ⟨[.sh (.int n), .sh (.list (rwD able)), .sh (.list (iD hands)), .ow (slD r.2.1 able.length), .sh (.int p), .no], sr_one (s1_ifM (els := []) (m := !true) (δ1 := [.sh (.int n), .sh (.list (rwD able)), .sh (.list (iD hands)), .ow (slD r.2.1 able.length), .sh (.int p), .no]) (etM_not (m := true) (etM_val (ev_callM (GS hands.length) hr (by omega) rfl (eam_d (ev_var 1 rfl) (eam_d (ev_var 2 rfl) (eam_d (ev_var 4 rfl) (eam_sl 3 rfl (eam_f (ef_list ea_nil) eam_nil))))) (fun _ => .l (slD r.2.1 able.length)) ⟨rfl, trivial⟩ (fun ad => ⟨ad 3, ad 4, able, hands, p, st, [], .no, rfl, ⟨g, nn, S, List.nodup_nil, (fun _ z => nomatch z), hl⟩, .inr rfl, by rw [hr']; rfl, by rw [hr', hy]⟩)))) (fun z => nomatch z) (fun _ => sr_nil)), .keep (.keep (.keep (.keep (.lose (.keep .nil)))))⟩
    · rw [if_neg hy]
      exact out_rt (sr_one (s1_ifM (els := []) (m := !false) (δ1 := [.sh (.int n), .sh (.list (rwD able)), .sh (.list (iD hands)), .ow (slD r.2.1 able.length), .sh (.int p), .no]) (etM_not (m := false) (etM_val (ev_callM (GS hands.length) hr (by omega) rfl (eam_d (ev_var 1 rfl) (eam_d (ev_var 2 rfl) (eam_d (ev_var 4 rfl) (eam_sl 3 rfl (eam_f (ef_list ea_nil) eam_nil))))) (fun _ => .l (slD r.2.1 able.length)) ⟨rfl, trivial⟩ (fun ad => ⟨ad 3, ad 4, able, hands, p, st, [], .no, rfl, ⟨g, nn, S, List.nodup_nil, (fun _ z => nomatch z), hl⟩, .inr rfl, by rw [hr']; rfl, by rw [hr', Bool.eq_false_iff.mpr hy]⟩)))) (fun _ => sr_one (s1_ret ev_bl)) (fun z => nomatch z)))
  · unfold FMs at he
    split at he
    · cases he
      exact (seatF_ok (e := eA able) (hands := hands) hands.length p st [] S List.nodup_nil (fun _ z => nomatch z) (List.length_filter_le _ _)).ok
    · cases he
  · rw [loop_ms]
    by_cases hz : (seatAll (eA able) hands n).2 = []
    · rw [if_pos hz, decide_eq_true ((ms_iff (eA able) hnd n).mp hz)]
      exact sr_one (s1_ret ev_bl)
    · rw [if_neg hz, decide_eq_false fun z => hz ((ms_iff (eA able) hnd n).mpr z)]
      rfl
end
end Kx
end
section
namespace Kx
open PySem PySem.Spec PyProof.Rows L2 Mt
theorem nn_able (ns : List Int) (n : Nat) (order : List Int) : NN (ableOf ns n order) := fun r hr p hp => ((able_row hr).2.1 p hp).1
theorem good_able {ns : List Int} {n : Nat} {order hands : List Int} (hn : n ≤ 40) (hl : hands.length ≤ 100) (hh : ∀ h ∈ hands, 0 ≤ h ∧ h < manyH ns) : Good (ableOf ns n order) hands := by
  have h12 := many12 ns
  refine ⟨by rw [able_len]; omega, fun r hr => by have := (able_row hr).2.2; omega, hl, fun h hx => ?_⟩
  rw [able_len]; exact hh h hx
theorem mem_sortI' {l : List Int} {p : Int} : p ∈ sortI l ↔ p ∈ l := (sortI_perm l).mem_iff
theorem sort_nd {l : List Int} (h : l.Nodup) : (sortI l).Nodup := (sortI_perm l).nodup_iff.mpr h
noncomputable def less (there away : List Int) : List Int := there.filter fun h => !decide (h ∈ away)
structure DayOk (n : Nat) (able : List (List Int)) (there : List Int) : Prop where
  g : Good able there
  nn : NN able
  nd : there.Nodup
  n12 : n ≤ 12
  lh : there.length ≤ 12
noncomputable def RMay : List PyData → PyData → Prop := fun ds d => ∃ (n : Nat) (able : List (List Int)) (there away : List Int), ds = [.int n, .list (rwD able), .list (iD there), .list (iD away)] ∧ DayOk n able there ∧ away.length ≤ 100 ∧ d = .bool (decide (defi (eA able) (less there away) n = 0))
end Kx
end
section
namespace Kx
open PySem PySem.Spec PyProof.Rows L2 Mt
theorem DayOk.less {n : Nat} {able : List (List Int)} {there : List Int} (h : DayOk n able there) (away : List Int) : MsOk n able (less there away) := by
  have hl : (Kx.less there away).length ≤ there.length := List.length_filter_le _ _
  have := h.n12
  have := h.lh
  refine ⟨⟨h.g.la, h.g.lr, by omega, fun x hx => h.g.lt x (List.mem_filter.mp hx).1⟩, h.nn, h.nd.filter _, by omega, by omega⟩
end Kx
end
section
namespace Kx
open PySem PySem.Spec PyProof.Rows L2 Mt
noncomputable def stepG (e : Int → Int → Bool) (n : Nat) (there : List Int) (due : List Int) (h : Int) : List Int := if defi e (less there (due ++ [h])) n = 0 then due ++ [h] else due
noncomputable def grantOf (e : Int → Int → Bool) (n : Nat) (there asks : List Int) : List Int := asks.foldl (stepG e n there) []
end Kx
end
section
namespace Kx
open PySem PySem.Spec PyProof.Rows L2 Mt
end Kx
end
section
namespace Kx
open PySem PySem.Spec PyProof.Rows L2 Mt
noncomputable def oD : Option Int → PyData
  | none => .none
  | some h => .int h
noncomputable def plD (pl : List (Option Int)) : List PyData := pl.map oD
theorem plD_len (pl : List (Option Int)) : (plD pl).length = pl.length := List.length_map _
theorem lay_oD (o : Option Int) : (oD o).canLay0 = true := by cases o <;> rfl
theorem scal_oD (o : Option Int) : scalD (oD o) = true := by cases o <;> rfl
theorem lay_plD (pl : List (Option Int)) : PyData.canLayAll0 (plD pl) = true := layAll fun x hx => by obtain ⟨o, _, rfl⟩ := List.mem_map.mp hx; exact lay_oD o
theorem flat_plD (pl : List (Option Int)) : (plD pl).all flatD = true := by
  rw [List.all_eq_true]
  intro x hx
  obtain ⟨o, _, rfl⟩ := List.mem_map.mp hx
  cases o <;> rfl
theorem eqv_oD (o : Option Int) (h : Int) : PyData.eqv (oD o) (.int h) = decide (o = some h) := by
  cases o with
  | none => rfl
  | some k => show PyData.eqv (.int k) (.int h) = _; rw [eqv_int]; simp
theorem any_plD (pl : List (Option Int)) (h : Int) : ((plD pl).any fun y => PyData.eqv y (.int h)) = decide (some h ∈ pl) := by
  unfold plD
  rw [List.any_map]
  induction pl with
  | nil => rfl
  | cons o r ih =>
    rw [List.any_cons, ih]
    show (PyData.eqv (oD o) (.int h) || _) = _
    rw [eqv_oD]
    by_cases e : o = some h
    · simp [e]
    · have e' : ¬ some h = o := fun z => e z.symm
      simp [e, e']
theorem idx_plD {pl : List (Option Int)} {h : Int} (hm : some h ∈ pl) : ((plD pl).map flatOf).findIdx? (fun z => eqV z (flatOf (.int h))) = some (pl.idxOf (some h)) := by
  have hl := List.idxOf_lt_length_of_mem hm
  have ev : ∀ o : Option Int, eqV (flatOf (oD o)) (flatOf (.int h)) = decide (o = some h) := fun o => by
    cases o with
    | none => rfl
    | some k => show (k == h) = _; by_cases e : k = h <;> simp [e]
  rw [List.findIdx?_eq_some_iff_getElem]
  refine ⟨by rw [List.length_map, plD_len]; exact hl, ?_, fun j hj => ?_⟩
  · simp only [plD, List.map_map, List.getElem_map, Function.comp]
    rw [ev]
    simp
  · simp only [plD, List.map_map, List.getElem_map, Function.comp]
    rw [ev]
    simp only [decide_eq_true_eq]
    intro z
    have hf := List.not_of_lt_findIdx (p := (· == some h)) (xs := pl) hj
    rw [z] at hf
    simp at hf
theorem has_dD (w : Ways) (h : Int) : (getK (dD w) (.inl h)).isSome = decide (h ∈ keys w) := by
  rw [dD_get, Option.isSome_map]
  induction w with
  | nil => rfl
  | cons p r ih =>
    rw [List.find?_cons]
    by_cases e : p.1 = h
    · simp [keys, e]
    · have e' : ¬ h = p.1 := fun z => e z.symm
      rw [decide_eq_false e]
      show (List.find? (fun p => decide (p.fst = h)) r).isSome = decide (h ∈ p.1 :: keys r)
      rw [ih]
      simp [e']
theorem look_dD {w : Ways} {h : Int} (hk : h ∈ keys w) : getK (dD w) (.inl h) = some (.int (lookW w h)) := by
  rw [dD_get]
  unfold lookW
  cases q : w.find? fun x => decide (x.1 = h) with
  | some p => rfl
  | none =>
    obtain ⟨p, hp, e⟩ := List.mem_map.mp hk
    rw [List.find?_eq_none] at q
    exact absurd (decide_eq_true e) (q p hp)
theorem dD_app (w : Ways) (h p : Int) : dD (w ++ [(h, p)]) = dD w ++ [(.int h, .int p)] := by unfold dD; rw [List.map_append]; rfl
theorem keys_len (w : Ways) : (keys w).length = w.length := List.length_map _
section
variable {P : Program} {w : World} {K : PySem.W.Frag} {mg : Str → Option Value} {base : Heap} {f : Addr} {fd : FuncData}
noncomputable abbrev nWays : List Str := ["able", "hands", "places", "starts", "ways", "waiting", "post", "hand"]
theorem scWays : FnScope nWays ["able", "hands", "places", "starts"] (defScope sWays) := ⟨rfl, rfl, rfl, by decide +kernel, rfl, by decide +kernel, by decide +kernel⟩
noncomputable def RWays : List PyData → PyData → Prop := fun ds d => ∃ (able : List (List Int)) (hands : List Int) (pl : List (Option Int)) (starts : List Int), ds = [.list (rwD able), .list (iD hands), .list (plD pl), .list (iD starts)] ∧ Good able hands ∧ pl.length ≤ 100 ∧ starts.length ≤ 100 ∧
  d = .dict (dD (waysFrom (eA able) pl hands starts))
noncomputable def embW (able : List (List Int)) (hands : List Int) (pl : List (Option Int)) (starts : List Int) (e : Ent) (s : Ways × List Int) : Dn := [.sh (.list (rwD able)), .sh (.list (iD hands)), .sh (.list (plD pl)), .sh (.list (iD starts)), .od (dD s.1), .ow (iD s.2), e, .no]
noncomputable def embH (able : List (List Int)) (hands : List Int) (pl : List (Option Int)) (starts : List Int) (p h : Int) (s : Ways × List Int) : Dn := [.sh (.list (rwD able)), .sh (.list (iD hands)), .sh (.list (plD pl)), .sh (.list (iD starts)), .od (dD s.1), .ow (iD s.2), .sh (.int p), .sh (.int h)]
noncomputable def nxtW (e : Int → Int → Bool) (pl : List (Option Int)) (hands : List Int) (s : Ways × List Int) : Ways × List Int := hands.foldl (wStep e pl (s.2.getLast?.getD 0)) (s.1, s.2.dropLast)
theorem runW_loop (e : Int → Int → Bool) (pl : List (Option Int)) (hands : List Int) : ∀ (k : Nat) (s : Ways × List Int), (runW (fun s : Ways × List Int => !(iD s.2).isEmpty) (nxtW e pl hands) k s).1 = wLoop e pl hands k s.1 s.2
  | 0, s => rfl
  | k + 1, (w, q) => by
    rw [runW, wLoop]
    rcases List.eq_nil_or_concat q with rfl | ⟨q', p, rfl⟩
    · rfl
    · have h1 : (!(iD (q'.concat p)).isEmpty) = true := by cases q' <;> rfl
      rw [if_pos h1, runW_loop e pl hands k]
      simp only [List.concat_eq_append, List.getLast?_append, List.getLast?_singleton, Option.some_or, nxtW, Option.getD_some]
theorem ok_ways (hB : Blt mg) (F : Fun K "ways_from" "ways_from" sWays f fd) (hm : mg "ways_from" = some (.ref f)) (hb : Binds K fd ["able", "hands", "places", "starts"] []) : Fn P w K mg base "ways_from" 1 ["able", "hands", "places", "starts"] (spP K RWays) := by
  refine fn_P (k := 0) F scWays hm hb (by rintro _ _ ⟨a, b, c, d, rfl, _⟩; rfl) fun cdv A outer s H E hr ds d hR => .inl ?_
  obtain ⟨able, hands, pl, starts, rfl, g, hpl, hsl, rfl⟩ := hR
  have hlh := g.lh
  refine sr_cons (s1_setD 4 scWays.nd) ?_
  refine sr_cons (s1_setF 5 scWays.nd (ef_listOf rfl hB.list (ev_var 3 rfl))) ?_
  refine sr_cons (s1_while (embW able hands pl starts .no) (fun s => !(iD s.2).isEmpty) (nxtW (eA able) pl hands) (fun n s => WI (eA able) pl hands starts s.1 s.2 none ∧ s.2.length + (hands.filter fun h => decide (h ∉ keys s.1)).length < n ∧ n ≤ starts.length + hands.length + 1) (starts.length + hands.length + 1) ([], starts) PassesOwn.never ?_
    (fun n s hJ => et_share 5 rfl (et_list (ev_var 5 rfl))) (fun n s hJ ht => ?_)) ?_
  · refine ⟨⟨List.nodup_nil, fun _ _ z => (nomatch z), fun pre h p post z => ?_, fun p hp => ?_, fun p hp => ?_⟩, ?_, Nat.le_refl _⟩
    · cases pre <;> cases z
    · rcases hp with hp | hp
      · exact .inl hp
      · cases hp
    · rcases hp with hp | ⟨_, z, _⟩
      · exact .inl hp
      · cases z
    · have := List.length_filter_le (fun h => decide (h ∉ keys [])) hands
      show starts.length + (hands.filter fun h => decide (h ∉ keys [])).length < _
      omega
  · obtain ⟨w, q⟩ := s
    obtain ⟨I, hlt, hle⟩ := hJ
    have I : WI (eA able) pl hands starts w q none := I
    obtain ⟨q', p, rfl⟩ : ∃ q' p, q = q' ++ [p] := by
      rcases List.eq_nil_or_concat q with rfl | ⟨q', p, rfl⟩
      · cases ht
      · exact ⟨q', p, by simp⟩
    have hlt : (q' ++ [p]).length + (hands.filter fun h => decide (h ∉ keys w)).length < n := hlt
    rw [List.length_append, List.length_singleton] at hlt
    have I1 : WI (eA able) pl hands starts w q' (some p) := by
      refine ⟨I.nd, I.ent, I.src, fun p1 hp => ?_, fun p1 hp => ?_⟩
      · refine I.qs p1 (.inl ?_)
        rcases hp with hp | hp
        · exact List.mem_append_left _ hp
        · cases hp; simp
      · rcases I.cl p1 hp with z | z | z
        · rcases List.mem_append.mp z with z | z
          · exact .inl z
          · exact .inr (.inl (by rw [List.mem_singleton.mp z]))
        · cases z
        · exact .inr (.inr z)
    have en : nxtW (eA able) pl hands (w, q' ++ [p]) = hands.foldl (wStep (eA able) pl p) (w, q') := by unfold nxtW; simp
    obtain ⟨I2, a2, m2, l2⟩ := fold_inv hands (w, q') (fun _ h => h) I1
    refine ⟨n - 1, embW able hands pl starts (.sh (.int p)) (hands.foldl (wStep (eA able) pl p) (w, q')), by omega, ?_, ?_, ?_⟩
    · refine sr_cons (δ1 := embW able hands pl starts (.sh (.int p)) (w, q')) (s1_eq (s1_pop 5 6 scWays.nd (by decide) (d := .int p) rfl (by simp [iD])) ?_) (sr_one (s1_eq (s1_forR 7 (embW able hands pl starts (.sh (.int p))) PyData.int hands (fun h s => .nx (wStep (eA able) pl p s h)) (fun _ s => WI (eA able) pl hands starts s.1 s.2 (some p) ∧ s.2.length + (hands.filter fun h => decide (h ∉ keys s.1)).length ≤ 200) (s0 := (w, q')) PassesOwn.never rfl scWays.nd (ei_ints (ev_var 1 rfl))
        ⟨I1, ?_⟩ (fun i h s hi hJ => ?_) (fun i h s s' hi hJ he => ?_)) ?_))
      · have e1 : (iD (q' ++ [p])).dropLast = iD q' := by unfold iD; rw [List.map_append]; simp
        show Out.nx [.sh (.list (rwD able)), .sh (.list (iD hands)), .sh (.list (plD pl)), .sh (.list (iD starts)), .od (dD w), .ow (iD (q' ++ [p])).dropLast, .sh (.int p), .no] = _
        rw [e1]; rfl
      · show q'.length + (hands.filter fun h => decide (h ∉ keys w)).length ≤ 200
        omega
      · obtain ⟨w1, q1⟩ := s
        obtain ⟨J1, J2⟩ := hJ
        have J1 : WI (eA able) pl hands starts w1 q1 (some p) := J1
        have J2 : q1.length + (hands.filter fun h => decide (h ∉ keys w1)).length ≤ 200 := J2
        have hh : h ∈ hands := List.mem_of_getElem? hi
        have g1 := g.get hh
        have hwl : w1.length ≤ 100 := by
          have := nodup_sub_len J1.nd (b := hands) fun k hk => by obtain ⟨⟨k', p'⟩, hm, rfl⟩ := List.mem_map.mp hk; exact (J1.ent _ _ hm).1
          rw [keys_len] at this; omega
        by_cases hc : eA able h p = true ∧ h ∉ keys w1
        · have es : wStep (eA able) pl p (w1, q1) h = (w1 ++ [(h, p)], if some h ∈ pl then q1 ++ [(pl.idxOf (some h) : Int)] else q1) := if_pos hc
          rw [es]
          refine ⟨embH able hands pl starts p h (w1 ++ [(h, p)], if some h ∈ pl then q1 ++ [(pl.idxOf (some h) : Int)] else q1), sr_one (s1_if (els := []) (k := true) (et_eq (et_and (et_inI hr (ev_var 6 rfl) (ev_ix (ev_var 0 rfl) (ev_var 7 rfl) (g.lt h hh).1 (rwD_get g1.1))) (fun _ => et_oNotIn 4 hr (ev_var 7 rfl) (κ := .inl h) rfl rfl)) ?_) (fun _ => sr_cons (δ1 := embH able hands pl starts p h (w1 ++ [(h, p)], q1)) (s1_eq (s1_dput 4 hr rfl (ev_var 7 rfl) (κ := .inl h) rfl (ev_var 6 rfl) ?_) ?_) (sr_one (s1_if (els := []) (et_eq (et_inD hr (ev_var 7 rfl) (ev_var 2 rfl) (sm_int h) (lay_plD pl)) (any_plD pl h)) (fun hm => ?_) (fun hm => ?_)))) (fun z => nomatch z)), .keep (.keep (.keep (.keep (.keep (.keep (.keep (.lose .nil)))))))⟩
          · rw [has_dD, show decide (p ∈ able.getD h.toNat []) = true from hc.1, decide_eq_false hc.2]; rfl
          · show (dD w1).length < 1000
            rw [dD_len]; omega
          · have hg : getK (dD w1) (.inl h) = none := by
              have := has_dD w1 h
              rw [decide_eq_false hc.2] at this
              simpa using this
            show Out.nx [.sh (.list (rwD able)), .sh (.list (iD hands)), .sh (.list (plD pl)), .sh (.list (iD starts)), .od (putD (dD w1) (.inl h) (.int h) (.int p)), .ow (iD q1), .sh (.int p), .sh (.int h)] = _
            rw [putD_new hg, ← dD_app]; rfl
          · have hm' : some h ∈ pl := of_decide_eq_true hm
            rw [if_pos hm']
            refine sr_one (s1_eq (s1_append 5 rfl (ev_index (ev_var 2 rfl) (ev_var 7 rfl) rfl (flat_plD pl) (idx_plD hm')) ?_) ?_)
            · rw [iD_len]; show q1.length < 1000; omega
            · unfold embH iD
              rw [List.map_append]; rfl
          · have hm' : ¬ some h ∈ pl := of_decide_eq_false hm
            rw [if_neg hm']
            exact sr_nil
        · have es : wStep (eA able) pl p (w1, q1) h = (w1, q1) := if_neg hc
          rw [es]
          refine ⟨embH able hands pl starts p h (w1, q1), sr_skip (et_eq (et_and (et_inI hr (ev_var 6 rfl) (ev_ix (ev_var 0 rfl) (ev_var 7 rfl) (g.lt h hh).1 (rwD_get g1.1))) (fun _ => et_oNotIn 4 hr (ev_var 7 rfl) (κ := .inl h) rfl rfl)) ?_) sr_nil, .keep (.keep (.keep (.keep (.keep (.keep (.keep (.lose .nil)))))))⟩
          rw [has_dD]
          show (eA able h p && !decide (h ∈ keys w1)) = false
          cases h1 : eA able h p with
          | false => rfl
          | true =>
            by_cases h2 : h ∈ keys w1
            · simp [h2]
            · exact absurd ⟨h1, h2⟩ hc
      · obtain ⟨w1, q1⟩ := s
        obtain ⟨J1, J2⟩ := hJ
        obtain ⟨K1, _, _, K4⟩ := step_inv J1 (List.mem_of_getElem? hi)
        cases he
        exact ⟨K1, Nat.le_trans K4 J2⟩
      · rw [loopR_fold]; rfl
    · rw [en]
      exact .keep (.keep (.keep (.keep (.keep (.keep (.lose (.keep .nil)))))))
    · rw [en]
      refine ⟨⟨I2.nd, I2.ent, I2.src, fun p1 hp => ?_, fun p1 hp => ?_⟩, ?_, by omega⟩
      · rcases hp with hp | hp
        · exact I2.qs p1 (.inl hp)
        · cases hp
      · rcases I2.cl p1 hp with z | z | z
        · exact .inl z
        · cases z
          exact .inr (.inr a2)
        · exact .inr (.inr z)
      · have l2 : _ ≤ q'.length + (hands.filter fun h => decide (h ∉ keys w)).length := l2
        omega
  · refine sr_eq (sr_one (s1_retD 4 rfl)) ?_
    have := runW_loop (eA able) pl hands (starts.length + hands.length + 1) ([], starts)
    show Out.rt (.dict (dD (runW (fun s : Ways × List Int => !(iD s.2).isEmpty) (nxtW (eA able) pl hands) (starts.length + hands.length + 1) ([], starts)).1)) = _
    rw [this]; rfl
end
end Kx
end
section
namespace L2
open PySem PySem.Spec PyProof.Rows
theorem repsK_scal {K : PySem.W.Frag} {A A' : Addr → Prop} {H : Hp} : ∀ {kvs : List (PyData × PyData)} {us : List (Key × V)}, (∀ p ∈ kvs, scalD p.2 = true) → RepsK K A H kvs us → RepsK K A' H kvs us
  | [], _, _, h => h
  | p :: r, _, hs, h => by
    obtain ⟨κ, v, us', rfl, hk, hv, hr⟩ := h
    exact ⟨κ, v, us', rfl, hk, repP_eq.mpr (rep_scal (hs p List.mem_cons_self) (repP_eq.mp hv)), repsK_scal (fun q hq => hs q (List.mem_cons_of_mem _ hq)) hr⟩
theorem rep_dictS {K : PySem.W.Frag} {A A' : Addr → Prop} {H : Hp} {kvs : List (PyData × PyData)} {v : V} (hs : ∀ p ∈ kvs, scalD p.2 = true) (h : Rep K A H (.dict kvs) v) : Rep K A' H (.dict kvs) v := by
  rcases h with h | ⟨a, us, o, h1, h2, h3⟩ | h
  · exact .inl h
  · exact .inr (.inl ⟨a, us, o, h1, h2, repsK_scal hs h3⟩)
  · exact .inr (.inr h)
theorem ev_shareD {X : Cx} {δ : Dn} {e : Expr} {xs : List PyData} {kvs : List (PyData × PyData)} (i : Nat) {oa : Option Addr} (hδ : δ[i]? = some (.own oa (.l xs))) (h : EvD X (δ.set i (.sh (.list xs))) e (.dict kvs)) (hs : ∀ p ∈ kvs, scalD p.2 = true) : EvD X δ e (.dict kvs) :=
  ev_of h fun Hb own B σ H Q E q => ⟨Hb, _, B, E.share hδ, fun v H' s1 r => q v H' s1 (rep_dictS hs r)⟩
theorem dD_scal (m : List (Int × Int)) : ∀ p ∈ dD m, scalD p.2 = true := by
  intro p hp
  obtain ⟨q, _, rfl⟩ := List.mem_map.mp hp
  rfl
end L2
namespace Kx
open PySem PySem.Spec PyProof.Rows L2 Mt
theorem ei_dD {X : Cx} {δ : Dn} {e tg : Expr} {w : Ways} (h : EvD X δ e (.dict (dD w))) : EiD X δ tg e ((keys w).map PyData.int) := by
  have := ei_dict (tg := tg) h (dD_keys w)
  have e1 : (dD w).map (·.1) = (keys w).map PyData.int := by unfold dD keys; rw [List.map_map, List.map_map]; rfl
  rw [e1] at this
  exact this
theorem plD_set (pl : List (Option Int)) (i : Nat) (h : Int) : (plD pl).set i (.int h) = plD (pl.set i (some h)) := by unfold plD; rw [List.map_set]; rfl
theorem plD_get {pl : List (Option Int)} {i : Nat} (hi : i < pl.length) : (plD pl)[i]? = some (oD (pl.getD i none)) := by
  unfold plD
  rw [List.getElem?_map, List.getElem?_eq_getElem hi, List.getD_eq_getElem?_getD, List.getElem?_eq_getElem hi]; rfl
section
variable {P : Program} {w : World} {K : PySem.W.Frag} {mg : Str → Option Value} {base : Heap} {f : Addr} {fd : FuncData}
noncomputable abbrev nMove : List Str := ["places", "ways", "free", "hand", "post", "moved"]
theorem scMove : FnScope nMove ["places", "ways", "free"] (defScope sMove) := ⟨rfl, rfl, rfl, by decide +kernel, rfl, by decide +kernel, by decide +kernel⟩
structure MoveOk (pl : List (Option Int)) (w : Ways) (fr : Int) : Prop where
  ex : ∃ (e : Int → Int → Bool) (hands : List Int) (n : Nat) (s : Int), PM e hands n pl ∧ WI e pl hands [s] w [] none ∧ 0 ≤ s ∧ pl[s.toNat]? = some none
  key : fr ∈ keys w
  nin : some fr ∉ pl
  len : pl.length ≤ 100
noncomputable def RMove : List Ent → List Ent → PyData → Prop := fun as as' d => ∃ (a : Addr) (pl : List (Option Int)) (w : Ways) (fr : Int), as = [.own (some a) (.l (plD pl)), .sh (.dict (dD w)), .sh (.int fr)] ∧ MoveOk pl w fr ∧ as' = [.own (some a) (.l (plD (mAlong w w.length pl fr))), .no, .no] ∧ d = .none
noncomputable abbrev MS := List (Option Int) × Option Int
noncomputable def nxtM (w : Ways) (s : MS) : MS := match s.2 with
  | none => s
  | some h => (s.1.set (lookW w h).toNat (some h), s.1.getD (lookW w h).toNat none)
noncomputable def tstM (s : MS) : Bool := !isN (oD s.2)
theorem runM (w : Ways) : ∀ (k : Nat) (cur : List (Option Int)) (h : Int), (runW tstM (nxtM w) k (cur, some h)).1 = mAlong w k cur h
  | 0, _, _ => rfl
  | k + 1, cur, h => by
    rw [runW, mAlong, if_pos (show tstM (cur, some h) = true from rfl)]
    show (runW tstM (nxtM w) k (cur.set (lookW w h).toNat (some h), cur.getD (lookW w h).toNat none)).1 = _
    cases q : cur.getD (lookW w h).toNat none with
    | none =>
      have : ∀ k, runW tstM (nxtM w) k (cur.set (lookW w h).toNat (some h), none) = (cur.set (lookW w h).toNat (some h), none) := fun k => by cases k <;> rfl
      rw [this]
    | some h' => exact runM w k _ h'
theorem ok_move (F : Fun K "move_along" "move_along" sMove f fd) (hm : mg "move_along" = some (.ref f)) (hb : Binds K fd ["places", "ways", "free"] []) : Fn P w K mg base "move_along" 1 ["places", "ways", "free"] (spM K RMove) := by
  refine fn_M (k := 0) F scMove hm hb (by rintro _ _ _ ⟨a, pl, w, fr, rfl, _⟩; rfl) fun cdv A outer s H E hr as as' d hR => ?_
  obtain ⟨a, pl, w, fr, rfl, ok, rfl, rfl⟩ := hR
  obtain ⟨⟨e, hands, n, st, PMo, I, h0, hs⟩, hk, hni, hlen⟩ := ok
  have C0 : CI w n pl pl fr w.length e hands := by
    obtain ⟨pre, p, post, hw⟩ := key_split hk
    refine ⟨⟨pre, p, post, hw, ?_, fun _ _ _ => rfl⟩, PMo, hni⟩
    have := congrArg List.length hw
    rw [List.length_append, List.length_cons] at this
    omega
  refine .nx (sr_cons (s1_set 3 scMove.nd (ev_var 2 rfl)) (sr_one (s1_while (fun s : MS => [.own (some a) (.l (plD s.1)), .sh (.dict (dD w)), .sh (.int fr), .sh (oD s.2), .no, .no]) tstM (nxtM w) (fun k s => ∀ h, s.2 = some h → CI w n pl s.1 h k e hands) w.length (pl, some fr) PassesOwn.never (fun h z => by cases z; exact C0)
    (fun k s hJ => et_notN (ev_var 3 rfl)) (fun k s hJ ht => ?_)))) ?_
  · obtain ⟨cur, oh⟩ := s
    cases oh with
    | none => cases ht
    | some h =>
      have C : CI w n pl cur h k e hands := hJ h rfl
      obtain ⟨k', rfl⟩ : ∃ k', k = k' + 1 := by
        obtain ⟨_, _, _, _, z, _⟩ := C.ex
        exact ⟨k - 1, by omega⟩
      obtain ⟨hp0, hmw, hkw, hlt, ha, P', hn⟩ := C.next I h0 hs
      have hcl : cur.length = n := C.pm.len
      refine ⟨k', [.own (some a) (.l (plD (cur.set (lookW w h).toNat (some h)))), .sh (.dict (dD w)), .sh (.int fr), .sh (oD (cur.getD (lookW w h).toNat none)), .sh (.int (lookW w h)), .sh (oD (cur.getD (lookW w h).toNat none))], rfl, ?_, .keep (.keep (.keep (.keep (.lose (.lose .nil))))), fun h' z => ?_⟩
      · refine sr_cons (s1_set 4 scMove.nd (ev_dGet hr (ev_var 1 rfl) (dD_keys w) (ev_var 3 rfl) (κ := .inl h) rfl (look_dD hkw))) ?_
        refine sr_cons (s1_set 5 scMove.nd (ev_share 0 rfl (ev_ix (ev_var 0 rfl) (ev_var 4 rfl) hp0 (plD_get (pl := cur) (i := (lookW w h).toNat) (by omega))) (scal_oD _))) ?_
        refine sr_cons (δ1 := [.own (some a) (.l (plD (cur.set (lookW w h).toNat (some h)))), .sh (.dict (dD w)), .sh (.int fr), .sh (oD (some h)), .sh (.int (lookW w h)), .sh (oD (cur.getD (lookW w h).toNat none))]) (s1_eq (s1_setIx 0 rfl (ev_var 3 rfl) (ev_var 4 rfl) hp0 (by show _ < (plD cur).length; rw [plD_len]; omega)) ?_) (sr_one (s1_set 3 scMove.nd (ev_var 5 rfl)))
        rw [← plD_set]; rfl
      · rcases hn with ⟨z1, _⟩ | ⟨h2, z1, _, _, C'⟩
        · have z : cur.getD (lookW w h).toNat none = some h' := z
          rw [z1] at z; cases z
        · have z : cur.getD (lookW w h).toNat none = some h' := z
          rw [z1] at z; cases z
          exact C'
  · have := runM w w.length pl fr
    show Wkn [.own (some a) (.l (plD (runW tstM (nxtM w) w.length (pl, some fr)).1)), .sh (.dict (dD w)), .sh (.int fr), .sh (oD (runW tstM (nxtM w) w.length (pl, some fr)).2), .no, .no] _
    rw [this]
    exact .keep (.lose (.lose (.lose (.keep (.keep .nil)))))
noncomputable abbrev nMan : List Str := ["able", "hands", "places", "post", "ways", "free", "hand"]
theorem scMan : FnScope nMan ["able", "hands", "places", "post"] (defScope sMan) := ⟨rfl, rfl, rfl, by decide +kernel, rfl, by decide +kernel, by decide +kernel⟩
structure ManOk (able : List (List Int)) (hands : List Int) (pl : List (Option Int)) (post : Nat) : Prop where
  g : Good able hands
  pm : PM (eA able) hands pl.length pl
  len : pl.length ≤ 100
  bare : pl[post]? = some none
noncomputable def RMan : List Ent → List Ent → PyData → Prop := fun as as' d => ∃ (a : Addr) (able : List (List Int)) (hands : List Int) (pl : List (Option Int)) (post : Nat), as = [.sh (.list (rwD able)), .sh (.list (iD hands)), .own (some a) (.l (plD pl)), .sh (.int post)] ∧ ManOk able hands pl post ∧
  as' = [.no, .no, .own (some a) (.l (plD (manPost (eA able) pl hands post))), .no] ∧ d = .none
theorem ways_len {e : Int → Int → Bool} {pl : List (Option Int)} {hands starts : List Int} (h : hands.length ≤ 100) : (waysFrom e pl hands starts).length ≤ 100 := by
  have I := ways_inv (e := e) (pl := pl) (hands := hands) starts
  have := nodup_sub_len I.nd (b := hands) fun k hk => by obtain ⟨⟨k', p'⟩, hm, rfl⟩ := List.mem_map.mp hk; exact (I.ent _ _ hm).1
  rw [keys_len] at this; omega
theorem ok_man (hB : Blt mg) (GW : Fn P w K mg base "ways_from" 1 ["able", "hands", "places", "starts"] (spP K RWays)) (GM : Fn P w K mg base "move_along" 1 ["places", "ways", "free"] (spM K RMove))
    (F : Fun K "man_post" "man_post" sMan f fd) (hm : mg "man_post" = some (.ref f)) (hb : Binds K fd ["able", "hands", "places", "post"] []) : Fn P w K mg base "man_post" 2 ["able", "hands", "places", "post"] (spM K RMan) := by
  refine fn_M (k := 1) F scMan hm hb (by rintro _ _ _ ⟨a, pl, w, fr, q, rfl, _⟩; rfl) fun cdv A outer s H E hr as as' d hR => ?_
  obtain ⟨a, able, hands, pl, post, rfl, ⟨g, pm, hlen, hbare⟩, rfl, rfl⟩ := hR
  have hlh := g.lh
  have hwl : (waysFrom (eA able) pl hands [(post : Int)]).length ≤ 100 := ways_len hlh
  generalize hw : waysFrom (eA able) pl hands [(post : Int)] = ww at hwl
  refine .nx (sr_cons (s1_set 4 scMan.nd (ev_shareD 2 rfl (ev_call GW hr (by decide) rfl (ea_cons (ev_var 0 rfl) (ea_cons (ev_var 1 rfl) (ea_cons (ev_var 2 rfl) (ea_cons (ev_f (ef_list (ea_cons (ev_var 3 rfl) ea_nil))) ea_nil)))) ⟨able, hands, pl, [(post : Int)], rfl, g, hlen, by show 1 ≤ 100; decide, congrArg (fun w => PyData.dict (dD w)) hw.symm⟩) (dD_scal _)))
    (sr_cons (s1_setC 5 6 PyData.int (keys ww) (fun h => decide (some h ∉ pl)) PyData.int rfl (cs_mk (defScope sMan) nMan rfl rfl (by decide +kernel)) scMan.nd (ei_dD (ev_var 4 rfl)) (by rw [keys_len]; omega)
      (fun C s2 H2 fp t ht => efs_one (et_share 2 rfl (et_eq (et_notInD hr (ev_var 6 rfl) (ev_var 2 rfl) (sm_int t) (lay_plD pl)) ?_))) (fun C s2 H2 fp t ht _ => ev_var 6 rfl))
    (sr_one (δ := [.sh (.list (rwD able)), .sh (.list (iD hands)), .own (some a) (.l (plD pl)), .sh (.int post), .sh (.dict (dD ww)), .ow (iD (freeOf pl ww)), .no]) (s1_if (els := []) (o := .nx [.sh (.list (rwD able)), .sh (.list (iD hands)), .own (some a) (.l (plD (manPost (eA able) pl hands post))), .sh (.int post), .sh (.dict (dD ww)), .ow (iD (freeOf pl ww)), .no])
      (et_share 5 rfl (et_list (ev_var 5 rfl))) (fun h => ?_) (fun h => ?_))))) (.lose (.lose (.keep (.lose (.lose (.lose (.keep .nil)))))))
  · rw [any_plD]
    by_cases h : some t ∈ pl <;> simp [h]
  · cases hf : freeOf pl ww with
    | nil => rw [hf] at h; cases h
    | cons fr r =>
      have em : manPost (eA able) pl hands post = mAlong ww ww.length pl fr := by unfold manPost; rw [hw, hf]
      have hfm : fr ∈ freeOf pl ww := by rw [hf]; simp
      obtain ⟨hk, hfn⟩ := List.mem_filter.mp hfm
      have hfn : some fr ∉ pl := by simpa using hfn
      rw [em]
      have I := ways_inv (e := eA able) (pl := pl) (hands := hands) [(post : Int)]
      rw [hw] at I
      refine sr_one (s1_exprM (ev_callM GM hr (by decide) rfl (eam_sl 2 rfl (eam_d (ev_var 4 rfl) (eam_d (ev_share 5 rfl (ev_ix (ev_var 5 rfl) ev_int (by decide) (d := .int fr) rfl)) eam_nil))) (fun _ => .l (plD (mAlong ww ww.length pl fr))) ⟨rfl, trivial⟩ (fun ad => ⟨ad 0, pl, ww, fr, rfl, ⟨⟨eA able, hands, pl.length, (post : Int), pm, I, by omega, by rw [Int.toNat_natCast]; exact hbare⟩, hk, hfn, hlen⟩, rfl, rfl⟩)))
  · cases hf : freeOf pl ww with
    | nil =>
      have em : manPost (eA able) pl hands post = pl := by unfold manPost; rw [hw, hf]
      rw [em]
      exact sr_nil
    | cons fr r => rw [hf] at h; cases h
end
end Kx
end
section
namespace Kx
open PySem PySem.Spec PyProof.Rows L2 Mt
theorem rgI_posts (n : Nat) : rgI 0 n = posts n := by
  unfold rgI posts
  apply List.map_congr_left
  intro a _
  omega
theorem isN_oD (o : Option Int) : isN (oD o) = decide (o = none) := by cases o <;> rfl
theorem rep_none (n : Nat) : (List.replicate n [PyData.none]).flatten = plD (List.replicate n none) := by
  induction n with
  | zero => rfl
  | succ n ih => rw [List.replicate_succ, List.flatten_cons, ih, List.replicate_succ]; rfl
theorem fold_all (e : Int → Int → Bool) (hands : List Int) (n : Nat) : ∀ k, (rgI 0 k).foldl (fun pl p => manPost e pl hands p) (List.replicate n none) = manAll e hands n k
  | 0 => rfl
  | k + 1 => by
    have e1 : rgI 0 (k + 1) = rgI 0 k ++ [(k : Int)] := by
      unfold rgI
      rw [List.range_succ, List.map_append]
      simp
    rw [e1, List.foldl_append, fold_all e hands n k]; rfl
noncomputable def mngD (n : Nat) (able : List (List Int)) (hands : List Int) : PyData :=
  if bareN (eA able) hands n = [] then .tuple [.str "manned", .list (plD (plOf (eA able) hands n))] else .tuple [.str "short", .list (iD (sortI (toldOf (eA able) hands n)))]
noncomputable def mngT (n : Nat) (able : List (List Int)) (hands : List Int) : OT :=
  if bareN (eA able) hands n = [] then .t [.sh (.str "manned"), .l ((plD (plOf (eA able) hands n)).map .sh)] else .t [.sh (.str "short"), .l ((iD (sortI (toldOf (eA able) hands n))).map .sh)]
theorem mngT_dat (n : Nat) (able : List (List Int)) (hands : List Int) : (mngT n able hands).dat = some (mngD n able hands) := by
  unfold mngT mngD
  split
  · show (match (some (PyData.str "manned") : Option PyData), OT.dats [.l _] with | some z, some zs => some (z :: zs) | _, _ => none).map PyData.tuple = _
    rw [OT.dats, dat_lsh]; rfl
  · show (match (some (PyData.str "short") : Option PyData), OT.dats [.l _] with | some z, some zs => some (z :: zs) | _, _ => none).map PyData.tuple = _
    rw [OT.dats, dat_lsh]; rfl
section
variable {P : Program} {w : World} {K : PySem.W.Frag} {mg : Str → Option Value} {base : Heap} {f : Addr} {fd : FuncData}
noncomputable abbrev nLk : List Str := ["able", "hands", "places", "bare", "ways", "hand"]
theorem scLk : FnScope nLk ["able", "hands", "places", "bare"] (defScope sLacking) := ⟨rfl, rfl, rfl, by decide +kernel, rfl, by decide +kernel, by decide +kernel⟩
structure LkOk (able : List (List Int)) (hands : List Int) (pl : List (Option Int)) (bare : List Int) : Prop where
  g : Good able hands
  len : pl.length ≤ 100
  few : bare.length + hands.length < 64
  all : ∀ h ∈ keys (waysFrom (eA able) pl hands bare), some h ∈ pl
noncomputable def RLk : List PyData → List PyData → Prop := fun ds xs => ∃ (able : List (List Int)) (hands : List Int) (pl : List (Option Int)) (bare : List Int), ds = [.list (rwD able), .list (iD hands), .list (plD pl), .list (iD bare)] ∧ LkOk able hands pl bare ∧
  xs = iD (sortI (bare ++ (keys (waysFrom (eA able) pl hands bare)).map fun h => (pl.idxOf (some h) : Int)))
theorem ways_lenH {e : Int → Int → Bool} {pl : List (Option Int)} {hands starts : List Int} : (waysFrom e pl hands starts).length ≤ hands.length := by
  have I := ways_inv (e := e) (pl := pl) (hands := hands) starts
  have := nodup_sub_len I.nd (b := hands) fun k hk => by obtain ⟨⟨k', p'⟩, hm, rfl⟩ := List.mem_map.mp hk; exact (I.ent _ _ hm).1
  rw [keys_len] at this; exact this
theorem ok_lk (hB : Blt mg) (GW : Fn P w K mg base "ways_from" 1 ["able", "hands", "places", "starts"] (spP K RWays)) (F : Fun K "lacking_from" "lacking_from" sLacking f fd) (hm : mg "lacking_from" = some (.ref f)) (hb : Binds K fd ["able", "hands", "places", "bare"] []) :
    Fn P w K mg base "lacking_from" 2 ["able", "hands", "places", "bare"] (spL K RLk) := by
  refine fn_L (k := 1) F scLk hm hb (by rintro _ _ ⟨a, b, c, d, rfl, _⟩; rfl) fun cdv A outer s H E hr ds d hR => ?_
  obtain ⟨able, hands, pl, bare, rfl, ⟨g, hlen, hfew, hall⟩, rfl⟩ := hR
  have hwl : (waysFrom (eA able) pl hands bare).length ≤ hands.length := ways_lenH
  refine sr_cons (s1_set 4 scLk.nd (ev_call GW hr (by decide) rfl (ea_cons (ev_var 0 rfl) (ea_cons (ev_var 1 rfl) (ea_cons (ev_var 2 rfl) (ea_cons (ev_var 3 rfl) ea_nil)))) ⟨able, hands, pl, bare, rfl, g, hlen, by omega, rfl⟩)) ?_
  refine sr_one (s1_retF (ef_sorted rfl hB.sorted (ev_eq (ev_f (ef_cat (ev_var 3 rfl) (ev_f (ef_map 5 PyData.int (keys (waysFrom (eA able) pl hands bare)) (fun h => .int (pl.idxOf (some h) : Nat)) rfl (cs_mk (defScope sLacking) nLk rfl rfl (by decide +kernel)) scLk.nd (ei_dD (ev_var 4 rfl)) (by rw [keys_len]; omega)
    (fun C s2 H2 fp t ht => ev_index (ev_var 2 rfl) (ev_var 5 rfl) rfl (flat_plD pl) (idx_plD (hall t ht))))) ?_)) ?_) ?_))
  · rw [iD_len, List.length_map, keys_len]; omega
  · unfold iD
    rw [List.map_append, List.map_map]; rfl
  · rw [List.length_append, List.length_map, keys_len]; omega
noncomputable abbrev nMng : List Str := ["posts", "able", "hands", "places", "post", "bare"]
theorem scMng : FnScope nMng ["posts", "able", "hands"] (defScope sMng) := ⟨rfl, rfl, rfl, by decide +kernel, rfl, by decide +kernel, by decide +kernel⟩
structure MngOk (n : Nat) (able : List (List Int)) (hands : List Int) : Prop where
  g : Good able hands
  few : n + hands.length < 64
noncomputable def RMng : List PyData → PyData → Prop := fun ds d => ∃ (n : Nat) (able : List (List Int)) (hands : List Int), ds = [.int n, .list (rwD able), .list (iD hands)] ∧ MngOk n able hands ∧ d = mngD n able hands
noncomputable def RMngN : List PyData → OT → Prop := fun ds t => ∃ (n : Nat) (able : List (List Int)) (hands : List Int), ds = [.int n, .list (rwD able), .list (iD hands)] ∧ MngOk n able hands ∧ t = mngT n able hands
theorem ok_mngN (hB : Blt mg) (GM : Fn P w K mg base "man_post" 2 ["able", "hands", "places", "post"] (spM K RMan)) (GL : Fn P w K mg base "lacking_from" 2 ["able", "hands", "places", "bare"] (spL K RLk))
    (F : Fun K "manning_of" "manning_of" sMng f fd) (hm : mg "manning_of" = some (.ref f)) (hb : Binds K fd ["posts", "able", "hands"] []) : Fn P w K mg base "manning_of" 3 ["posts", "able", "hands"] (spN K RMngN) := by
  refine fn_N (k := 2) F scMng hm hb (by rintro _ _ ⟨a, b, c, rfl, _⟩; rfl) fun cdv A outer s H E hr ds d hR => ?_
  obtain ⟨n, able, hands, rfl, ⟨g, hfew⟩, rfl⟩ := hR
  have M : Mx (eA able) hands n (plOf (eA able) hands n) := manAll_mx n
  have hpl : (plOf (eA able) hands n).length = n := M.pm.len
  refine sr_cons (s1_setF 3 scMng.nd (ef_eq (ys := plD (List.replicate n none)) (ef_rep (n := (n : Int)) (ev_f (ef_list (ea_cons ev_non ea_nil))) (ev_var 0 rfl) (by omega) (by rw [List.length_singleton, Int.toNat_natCast]; omega) (by omega)) (by rw [Int.toNat_natCast]; exact rep_none n))) ?_
  refine sr_cons (δ1 := [.sh (.int n), .sh (.list (rwD able)), .sh (.list (iD hands)), .ow (plD (plOf (eA able) hands n)), .no, .no]) (s1_eq (s1_forR 4 (fun pl : List (Option Int) => [.sh (.int n), .sh (.list (rwD able)), .sh (.list (iD hands)), .ow (plD pl), .no, .no]) PyData.int (rgI 0 n) (fun p pl => .nx (manPost (eA able) pl hands p)) (fun k pl => k ≤ n ∧ pl = manAll (eA able) hands n k) (s0 := List.replicate n none) PassesOwn.never rfl scMng.nd
    (ei_rangeN (n := n) rfl hB.range (ev_var 0 rfl) (by omega)) ⟨Nat.zero_le _, rfl⟩ (fun k p pl hk hJ => ?_) (fun k p pl pl' hk hJ he => ?_)) ?_) ?_
  · obtain ⟨hkn, rfl⟩ := hJ
    obtain ⟨hk1, hk2⟩ := List.getElem?_eq_some_iff.mp hk
    rw [rgI_len] at hk1
    have hp : p = (k : Int) := by rw [← hk2]; simp [rgI]
    subst hp
    have AO := manAll_ok (e := eA able) (hands := hands) n k hkn
    have hl : (manAll (eA able) hands n k).length = n := AO.pm.len
    refine ⟨_, sr_one (s1_exprM (ev_callM GM hr (by decide) rfl (eam_d (ev_var 1 rfl) (eam_d (ev_var 2 rfl) (eam_sl 3 rfl (eam_d (ev_var 4 rfl) eam_nil)))) (fun _ => .l (plD (manPost (eA able) (manAll (eA able) hands n k) hands k))) ⟨rfl, trivial⟩ (fun ad => ⟨ad 2, able, hands, manAll (eA able) hands n k, k, rfl, ⟨g, by rw [hl]; exact AO.pm, by omega, AO.rest k (Nat.le_refl _) hk1⟩, rfl, rfl⟩))), .keep (.keep (.keep (.keep (.lose (.keep .nil)))))⟩
  · obtain ⟨hkn, rfl⟩ := hJ
    obtain ⟨hk1, hk2⟩ := List.getElem?_eq_some_iff.mp hk
    rw [rgI_len] at hk1
    have hp : p = (k : Int) := by rw [← hk2]; simp [rgI]
    subst hp
    cases he
    exact ⟨hk1, rfl⟩
  · rw [loopR_fold]
    show Out.nx [.sh (.int n), .sh (.list (rwD able)), .sh (.list (iD hands)), .ow (plD ((rgI 0 n).foldl (fun pl p => manPost (eA able) pl hands p) (List.replicate n none))), .no, .no] = _
    rw [fold_all]; rfl
  refine sr_cons (s1_setC 5 4 PyData.int (rgI 0 n) (fun p => decide ((plOf (eA able) hands n).getD p.toNat none = none)) PyData.int rfl (cs_mk (defScope sMng) nMng rfl rfl (by decide +kernel)) scMng.nd (ei_rangeN (n := n) rfl hB.range (ev_var 0 rfl) (by omega)) (by rw [rgI_len]; omega)
    (fun C s2 H2 fp t ht => efs_one (et_share 3 rfl (et_eq (et_isN (ev_ix (ev_var 3 rfl) (ev_var 4 rfl) (mem_rgI.mp ht).1 (plD_get (i := t.toNat) (by have := mem_rgI.mp ht; omega)))) (isN_oD _)))) (fun C s2 H2 fp t ht _ => ev_var 4 rfl)) ?_
  have eb : ((rgI 0 n).filter fun p => decide ((plOf (eA able) hands n).getD p.toNat none = none)) = bareN (eA able) hands n := by rw [rgI_posts]; rfl
  rw [eb]
  have hbl : (bareN (eA able) hands n).length ≤ n := by
    have h1 := List.length_filter_le (fun p : Int => decide ((plOf (eA able) hands n).getD p.toNat none = none)) (rgI 0 n)
    rw [rgI_len, eb] at h1
    exact h1
  refine sr_if_out (et_not (et_share 5 rfl (et_list (ev_var 5 rfl)))) (fun h => ?_) (fun h => ?_)
  · have h' : bareN (eA able) hands n = [] := by
      cases hb : bareN (eA able) hands n with
      | nil => rfl
      | cons _ _ => rw [hb] at h; cases h
    refine sr_eq (sr_one (s1_retX (ex_tup (exa_cons (ex_d ev_str) (exa_cons (ex_own 3 rfl) exa_nil))))) ?_
    unfold mngT
    rw [if_pos h']
  · have h' : ¬ bareN (eA able) hands n = [] := by
      intro z
      rw [z] at h; cases h
    refine sr_share 3 rfl (sr_share 5 rfl (sr_eq (sr_one (s1_retX (ex_tup (exa_cons (ex_d ev_str) (exa_cons (ex_f (ef_call GL hr (by decide) rfl (ea_cons (ev_var 1 rfl) (ea_cons (ev_var 2 rfl) (ea_cons (ev_var 3 rfl) (ea_cons (ev_var 5 rfl) ea_nil)))) ⟨able, hands, plOf (eA able) hands n, bareN (eA able) hands n, rfl, ⟨g, by omega, by omega, M.placed⟩, rfl⟩)) exa_nil))))) ?_))
    unfold mngT
    rw [if_neg h']; rfl
theorem ok_mng (hB : Blt mg) (GM : Fn P w K mg base "man_post" 2 ["able", "hands", "places", "post"] (spM K RMan)) (GL : Fn P w K mg base "lacking_from" 2 ["able", "hands", "places", "bare"] (spL K RLk))
    (F : Fun K "manning_of" "manning_of" sMng f fd) (hm : mg "manning_of" = some (.ref f)) (hb : Binds K fd ["posts", "able", "hands"] []) : Fn P w K mg base "manning_of" 3 ["posts", "able", "hands"] (spP K RMng) :=
  (ok_mngN hB GM GL F hm hb).toP fun ds d ⟨n, able, hands, h1, h2, h3⟩ => ⟨mngT n able hands, ⟨n, able, hands, h1, h2, rfl⟩, by rw [h3]; exact mngT_dat n able hands⟩
end
end Kx
end
section
namespace Kx
open PySem PySem.Spec PyProof.Rows L2 Mt
noncomputable def wordOf (n : Nat) (able : List (List Int)) (hands : List Int) : Str := if bareN (eA able) hands n = [] then "manned" else "short"
noncomputable def lstOf (n : Nat) (able : List (List Int)) (hands : List Int) : List PyData := if bareN (eA able) hands n = [] then plD (plOf (eA able) hands n) else iD (sortI (toldOf (eA able) hands n))
theorem mngD_eq (n : Nat) (able : List (List Int)) (hands : List Int) : mngD n able hands = .tuple [.str (wordOf n able hands), .list (lstOf n able hands)] := by
  unfold mngD wordOf lstOf
  split <;> rfl
theorem word_ok (n : Nat) (able : List (List Int)) (hands : List Int) : (PyData.str (wordOf n able hands)).canLay0 = true := by unfold wordOf; split <;> decide +kernel
theorem sm_word (n : Nat) (able : List (List Int)) (hands : List Int) : Sm (.str (wordOf n able hands)) := ⟨word_ok n able hands, by show 0 ≤ 20; decide⟩
theorem bare_iff (n : Nat) (able : List (List Int)) (hands : List Int) : bareN (eA able) hands n = [] ↔ defi (eA able) hands n = 0 := by
  unfold defi
  exact ⟨fun h => by rw [h]; rfl, fun h => List.eq_nil_of_length_eq_zero h⟩
theorem eqv_str (a b : Str) : PyData.eqv (.str a) (.str b) = decide (a = b) := by
  show (a == b) = _
  by_cases h : a = b
  · subst h; simp
  · simp [h]
theorem word_man (n : Nat) (able : List (List Int)) (hands : List Int) : PyData.eqv (.str (wordOf n able hands)) (.str "manned") = decide (defi (eA able) hands n = 0) := by
  rw [eqv_str]
  unfold wordOf
  by_cases h : bareN (eA able) hands n = []
  · rw [if_pos h, decide_eq_true ((bare_iff n able hands).mp h)]; decide
  · rw [if_neg h, decide_eq_false fun z => h ((bare_iff n able hands).mpr z)]; decide
end Kx
end
section
namespace Kx
open PySem PySem.Spec PyProof.Rows L2
noncomputable abbrev OwnV (x : Str) (C : Addr) (mg : Str → Option Value) (base : Heap) : Prop := OwnCls x C [.type "ValueError", .type "Exception", .type "BaseException", .type "object"] "ValueError.__new__" mg base
theorem own_mk {K : PySem.W.Frag} {h : Heap} {mg : Str → Option Value} {x : Str} {C : Addr} (X : K.In h) (G : h.Ns mainGlobals mg) (e : PySem.W.nsIn K mainGlobals x = some (some (.ref C))) (q : PySem.W.excIn K C [.type "ValueError", .type "Exception", .type "BaseException", .type "object"] "ValueError.__new__" = true) : OwnV x C mg h := by
  refine ⟨PySem.W.mg_of X G e, ?_⟩; unfold PySem.W.excIn at q; split at q
  · rename_i dA cA sA lk; split at q
    · rename_i D tl z0 z1 z2 z3 nw z5 hmro hsl; simp only [Bool.and_eq_true, beq_iff_eq, Bool.not_eq_true'] at q; obtain ⟨⟨⟨⟨⟨rfl, rfl⟩, noDel⟩, tails⟩, okNs⟩, noIni⟩ := q
      obtain ⟨y1, y2, y3, y4, y5, y6, y7, y8, y9, y10, y11⟩ := cA; dsimp only at hmro noDel okNs noIni; subst hmro noDel
      have es : sA = #[z0, z1, z2, z3, some (.builtin "ValueError.__new__"), z5] := by obtain ⟨w⟩ := sA; simp only at hsl; rw [hsl]
      subst es; exact ⟨tl, y4, y1, y5, y2, y6, y7, y8, y9, y10, dA, z0, z1, z2, z3, z5, _, X _ _ lk, .of_isNs (PySem.W.isNs_of_in X okNs), PySem.W.nsMap_none_of_in X okNs noIni, PySem.W.tail_of_in X tails⟩
    · cases q
  · cases q
end Kx
end
section
namespace Kx
open PySem PySem.Spec PyProof.Rows L2 Mt
noncomputable def RWo : List PyData → List PyData → Prop := fun ds xs => ∃ (there away : List Int), ds = [.list (iD there), .list (iD away)] ∧ there.length ≤ 100 ∧ xs = iD (less there away)
theorem less_len (there away : List Int) : (less there away).length ≤ there.length := List.length_filter_le _ _
theorem DayOk.mng {n : Nat} {able : List (List Int)} {there : List Int} (h : DayOk n able there) (away : List Int) : MngOk n able (Kx.less there away) := by
  have hl := less_len there away
  have := h.n12
  have := h.lh
  exact ⟨⟨h.g.la, h.g.lr, by omega, fun x hx => h.g.lt x (List.mem_filter.mp hx).1⟩, by omega⟩
section
variable {P : Program} {w : World} {K : PySem.W.Frag} {mg : Str → Option Value} {base : Heap} {f : Addr} {fd : FuncData}
noncomputable abbrev nWo : List Str := ["hands", "some", "hand"]
theorem scWo : FnScope nWo ["hands", "some"] (defScope s_without) := ⟨rfl, rfl, rfl, by decide +kernel, rfl, by decide +kernel, by decide +kernel⟩
theorem ok_wo (F : Fun K "without" "without" s_without f fd) (hm : mg "without" = some (.ref f)) (hb : Binds K fd ["hands", "some"] []) : Fn P w K mg base "without" 1 ["hands", "some"] (spL K RWo) := by
  refine fn_L (k := 0) F scWo hm hb (by rintro _ _ ⟨a, b, rfl, _⟩; rfl) fun cdv A outer s H E hr ds d hR => ?_
  obtain ⟨there, away, rfl, hl, rfl⟩ := hR
  exact sr_rf (s1_retF (ef_comp 2 PyData.int there (fun h => !decide (h ∈ away)) PyData.int rfl (cs_mk (defScope s_without) nWo rfl rfl (by decide +kernel)) scWo.nd (ei_ints (ev_var 0 rfl)) (by omega) (fun C s2 H2 fp t ht => efs_one (et_notInI hr (ev_var 2 rfl) (ev_var 1 rfl))) (fun C s2 H2 fp t ht _ => ev_var 2 rfl)))
noncomputable abbrev nMay : List Str := ["posts", "able", "there", "away"]
theorem scMay : FnScope nMay ["posts", "able", "there", "away"] (defScope sMay) := ⟨rfl, rfl, rfl, by decide +kernel, rfl, by decide +kernel, by decide +kernel⟩
theorem ok_may (GM : Fn P w K mg base "manning_of" 3 ["posts", "able", "hands"] (spP K RMng)) (GW : Fn P w K mg base "without" 1 ["hands", "some"] (spL K RWo)) (F : Fun K "may_go" "may_go" sMay f fd) (hm : mg "may_go" = some (.ref f)) (hb : Binds K fd ["posts", "able", "there", "away"] []) :
    Fn P w K mg base "may_go" 4 ["posts", "able", "there", "away"] (spP K RMay) := by
  refine fn_P (k := 3) F scMay hm hb (by rintro _ _ ⟨a, b, c, d, rfl, _⟩; rfl) fun cdv A outer s H E hr ds d hR => .inl ?_
  obtain ⟨n, able, there, away, rfl, hd, ha, rfl⟩ := hR
  have := hd.lh
  refine sr_eq (sr_one (s1_ret (ev_eqD hr (ev_ixT (ev_eq (ev_call GM hr (by decide) rfl (ea_cons (ev_var 0 rfl) (ea_cons (ev_var 1 rfl) (ea_cons (ev_f (ef_call GW hr (by decide) rfl (ea_cons (ev_var 2 rfl) (ea_cons (ev_var 3 rfl) ea_nil)) ⟨there, away, rfl, by omega, rfl⟩)) ea_nil))) ⟨n, able, less there away, rfl, hd.mng away, rfl⟩) (mngD_eq _ _ _)) ev_int (by decide) rfl) ev_str (sm_word _ _ _) (by decide +kernel)))) ?_
  rw [word_man]
end
end Kx
end
section
namespace Kx
open PySem PySem.Spec PyProof.Rows L2 Mt
theorem less_nil (there : List Int) : less there [] = there := by unfold less; rw [List.filter_eq_self]; intro a _; simp
theorem less_perm {there a b : List Int} (h : ∀ x, x ∈ a ↔ x ∈ b) : less there a = less there b := by
  unfold less
  apply List.filter_congr
  intro x _
  rw [decide_eq_decide.mpr (h x)]
noncomputable def RRefX (cS : Addr) : List PyData → Rs → Prop := fun ds r => ∃ (n : Nat) (able : List (List Int)) (there : List Int), ds = [.int n, .list (rwD able), .list (iD there)] ∧ DayOk n able there ∧ r = if defi (eA able) there n = 0 then .d .none else .x cS
structure AskX (n : Nat) (able : List (List Int)) (there asks : List Int) : Prop where
  day : DayOk n able there
  nd : asks.Nodup
  sub : ∀ h ∈ asks, h ∈ there
theorem AskX.len {n : Nat} {able : List (List Int)} {there asks : List Int} (h : AskX n able there asks) : asks.length ≤ 12 := by
  have := nodup_sub_len h.nd h.sub
  have := h.day.lh
  omega
noncomputable def RGrX (cS : Addr) : List PyData → Rs → Prop := fun ds r => ∃ (n : Nat) (able : List (List Int)) (there asks : List Int), ds = [.int n, .list (rwD able), .list (iD there), .list (iD asks)] ∧ AskX n able there asks ∧ r = if defi (eA able) there n = 0 then .l (iD (grantOf (eA able) n there asks)) else .x cS
section
variable {P : Program} {w : World} {K : PySem.W.Frag} {mg : Str → Option Value} {base : Heap} {f : Addr} {fd : FuncData}
noncomputable abbrev nRef : List Str := ["posts", "able", "there"]
theorem scRef : FnScope nRef ["posts", "able", "there"] (defScope s_refuse_short) := ⟨rfl, rfl, rfl, by decide +kernel, rfl, by decide +kernel, by decide +kernel⟩
theorem ok_refX {cS : Addr} (hS : OwnV "Short" cS mg base) (GM : Fn P w K mg base "may_go" 4 ["posts", "able", "there", "away"] (spP K RMay)) (F : Fun K "refuse_short" "refuse_short" s_refuse_short f fd) (hm : mg "refuse_short" = some (.ref f)) (hb : Binds K fd ["posts", "able", "there"] []) :
    FnX P w K mg base "refuse_short" 5 ["posts", "able", "there"] (RRefX cS) := by
  refine fn_X (k := 4) F scRef hm hb (by rintro _ _ ⟨a, b, c, rfl, _⟩; rfl) fun cdv A outer s H E hr ds r hR => ?_
  obtain ⟨n, able, there, rfl, hd, rfl⟩ := hR
  by_cases h0 : defi (eA able) there n = 0
  · rw [if_pos h0]
    refine .inr (.inl ⟨rfl, _, sr_skip (et_eq (et_not (et_val (ev_call GM hr (by decide) rfl (ea_cons (ev_var 0 rfl) (ea_cons (ev_var 1 rfl) (ea_cons (ev_var 2 rfl) (ea_cons (ev_f (ef_list ea_nil)) ea_nil)))) ⟨n, able, there, [], rfl, hd, Nat.zero_le _, rfl⟩))) ?_) sr_nil⟩)
    rw [less_nil, decide_eq_true h0]; rfl
  · rw [if_neg h0]
    refine ⟨_, sx_here (x_if (m := true) (et_eq (et_not (et_val (ev_call GM hr (by decide) rfl (ea_cons (ev_var 0 rfl) (ea_cons (ev_var 1 rfl) (ea_cons (ev_var 2 rfl) (ea_cons (ev_f (ef_list ea_nil)) ea_nil)))) ⟨n, able, there, [], rfl, hd, Nat.zero_le _, rfl⟩))) ?_) (fun _ => sx_here (x_raise hS PySem.F.excBase_ValueError rfl rfl (ea_cons ev_str ea_nil))) (fun z => nomatch z))⟩
    rw [less_nil, decide_eq_false h0]; rfl
noncomputable abbrev nGr : List Str := ["posts", "able", "there", "asks", "granted", "hand"]
theorem scGr : FnScope nGr ["posts", "able", "there", "asks"] (defScope sGrant) := ⟨rfl, rfl, rfl, by decide +kernel, rfl, by decide +kernel, by decide +kernel⟩
theorem ok_grX {cS : Addr} (hB : Blt mg) (GM : Fn P w K mg base "may_go" 4 ["posts", "able", "there", "away"] (spP K RMay)) (GR : FnX P w K mg base "refuse_short" 5 ["posts", "able", "there"] (RRefX cS)) (F : Fun K "grant" "grant" sGrant f fd) (hm : mg "grant" = some (.ref f)) (hb : Binds K fd ["posts", "able", "there", "asks"] []) :
    FnX P w K mg base "grant" 6 ["posts", "able", "there", "asks"] (RGrX cS) := by
  refine fn_X (k := 5) F scGr hm hb (by rintro _ _ ⟨a, b, c, d, rfl, _⟩; rfl) fun cdv A outer s H E hr ds r hR => ?_
  obtain ⟨n, able, there, asks, rfl, hk, rfl⟩ := hR
  have hal := hk.len
  by_cases h0 : defi (eA able) there n = 0
  · rw [if_pos h0]
    refine sr_cons (s1_exprD (ev_callX GR hr (by decide) rfl (ea_cons (ev_var 0 rfl) (ea_cons (ev_var 1 rfl) (ea_cons (ev_var 2 rfl) ea_nil))) ⟨n, able, there, rfl, hk.day, by rw [if_pos h0]⟩)) ?_
    refine sr_cons (s1_setF 4 scGr.nd (ef_list ea_nil)) ?_
    refine sr_cons (δ1 := [.sh (.int n), .sh (.list (rwD able)), .sh (.list (iD there)), .sh (.list (iD asks)), .ow (iD (grantOf (eA able) n there asks)), .no]) (s1_eq (s1_forR 5 (fun l : List Int => [.sh (.int n), .sh (.list (rwD able)), .sh (.list (iD there)), .sh (.list (iD asks)), .ow (iD l), .no]) PyData.int asks (fun h l => .nx (stepG (eA able) n there l h)) (fun m l => l.length ≤ m) (s0 := []) PassesOwn.never rfl scGr.nd (ei_ints (ev_var 3 rfl)) (Nat.le_refl _) (fun m h l hm hJ => ?_) (fun m h l l' hm hJ he => ?_)) ?_) (sr_one (s1_retO 4 rfl))
    · have hm' : m < asks.length := (List.getElem?_eq_some_iff.mp hm).1
      refine ⟨[.sh (.int n), .sh (.list (rwD able)), .sh (.list (iD there)), .sh (.list (iD asks)), .ow (iD (stepG (eA able) n there l h)), .sh (.int h)], sr_one (s1_if (els := []) (k := decide (defi (eA able) (less there (l ++ [h])) n = 0)) (et_share 4 rfl (et_eq (et_val (ev_call GM hr (by decide) rfl (ea_cons (ev_var 0 rfl) (ea_cons (ev_var 1 rfl) (ea_cons (ev_var 2 rfl) (ea_cons (ev_f (ef_sorted rfl hB.sorted (ev_eq (d' := .list (iD (l ++ [h]))) (ev_f (ef_cat (ev_var 4 rfl) (ev_f (ef_list (ea_cons (ev_var 5 rfl) ea_nil))) (by rw [iD_len]; show l.length + 1 ≤ 1000; omega))) (by unfold iD; rw [List.map_append]; rfl)) (by rw [List.length_append, List.length_singleton]; omega))) ea_nil)))) ⟨n, able, there, sortI (l ++ [h]), rfl, hk.day, by rw [(sortI_perm _).length_eq, List.length_append, List.length_singleton]; omega, rfl⟩)) ?_)) (fun hc => ?_) (fun hc => ?_)), .keep (.keep (.keep (.keep (.keep (.lose .nil)))))⟩
      · rw [less_perm fun x => (sortI_perm (l ++ [h])).mem_iff]
      · have e : stepG (eA able) n there l h = l ++ [h] := if_pos (of_decide_eq_true hc)
        rw [e]
        refine sr_one (s1_eq (s1_append 4 rfl (ev_var 5 rfl) (by rw [iD_len]; omega)) ?_)
        unfold iD
        rw [List.map_append]; rfl
      · have e : stepG (eA able) n there l h = l := if_neg (of_decide_eq_false hc)
        rw [e]; exact sr_nil
    · cases he
      unfold stepG
      split
      · rw [List.length_append, List.length_singleton]; omega
      · omega
    · rw [loopR_fold]; rfl
  · rw [if_neg h0]
    exact ⟨_, sx_here (x_expr (er_call GR hr (by decide) rfl (ea_cons (ev_var 0 rfl) (ea_cons (ev_var 1 rfl) (ea_cons (ev_var 2 rfl) ea_nil))) ⟨n, able, there, rfl, hk.day, by rw [if_neg h0]⟩))⟩
end
end Kx
end
section
namespace Kx
open PySem PySem.Spec PyProof.Rows L2
section
variable {P : Program} {w : World} {K : PySem.W.Frag} {mg : Str → Option Value} {base : Heap} {f : Addr} {fd : FuncData}
noncomputable def ROne : List PyData → PyData → Prop := fun ds d => ∃ row some : List Int, ds = [.list (iD row), .list (iD some)] ∧ row.length ≤ 100 ∧ d = .bool (oneOf row some)
theorem scOne : FnScope ["row", "some", "post"] ["row", "some"] (defScope sOne) := ⟨rfl, rfl, rfl, by decide +kernel, rfl, by decide +kernel, by decide +kernel⟩
theorem ok_one (hB : Blt mg) (F : Fun K "stands_at_one" "stands_at_one" sOne f fd) (hm : mg "stands_at_one" = some (.ref f)) (hb : Binds K fd ["row", "some"] []) : Fn P w K mg base "stands_at_one" 1 ["row", "some"] (spP K ROne) := by
  refine fn_P (k := 0) F scOne hm hb (by rintro _ _ ⟨i, j, rfl, _⟩; rfl) fun cdv A outer s H E hr ds d hR => .inl ?_
  obtain ⟨row, some, rfl, hl, rfl⟩ := hR
  refine sr_eq (sr_one (s1_ret (ev_any (bs := row.map fun p => decide (p ∈ some)) rfl rfl hB.any (ev_eq (ev_f (ef_map 2 PyData.int row (fun p => .bool (decide (p ∈ some))) rfl (cs_mk (defScope sOne) ["row", "some", "post"] rfl rfl (by decide +kernel)) scOne.nd (ei_ints (ev_var 0 rfl)) (by omega)
    (fun C s2 H2 fp t ht => ev_inI hr (ev_var 2 rfl) (ev_var 1 rfl)))) ?_)))) ?_
  · unfold bD; rw [List.map_map]; rfl
  · unfold oneOf; rw [List.any_map]; rfl
noncomputable def RAbf : List PyData → List PyData → Prop := fun ds xs => ∃ (able : List (List Int)) (hands some : List Int), ds = [.list (rwD able), .list (iD hands), .list (iD some)] ∧ Good able hands ∧ xs = iD (ableFor able hands some)
theorem scAbf : FnScope ["able", "hands", "some", "hand"] ["able", "hands", "some"] (defScope sAble) := ⟨rfl, rfl, rfl, by decide +kernel, rfl, by decide +kernel, by decide +kernel⟩
theorem ok_abf (hB : Blt mg) (G : Fn P w K mg base "stands_at_one" 1 ["row", "some"] (spP K ROne)) (F : Fun K "able_for" "able_for" sAble f fd) (hm : mg "able_for" = some (.ref f)) (hb : Binds K fd ["able", "hands", "some"] []) :
    Fn P w K mg base "able_for" 2 ["able", "hands", "some"] (spL K RAbf) := by
  refine fn_L (k := 1) F scAbf hm hb (by rintro _ _ ⟨a, b, c, rfl, _⟩; rfl) fun cdv A outer s H E hr ds d hR => ?_
  obtain ⟨able, hands, some, rfl, g, rfl⟩ := hR
  refine sr_rf (s1_retF (ef_comp 3 PyData.int hands (fun h => oneOf (able.getD h.toNat []) some) PyData.int rfl (cs_mk (defScope sAble) ["able", "hands", "some", "hand"] rfl rfl (by decide +kernel)) scAbf.nd (ei_ints (ev_var 1 rfl)) (by have := g.lh; omega)
    (fun C s2 H2 fp t ht => efs_one (et_val ?_)) (fun C s2 H2 fp t ht _ => ev_var 3 rfl)))
  have g1 := g.get ht
  exact ev_call G hr (by decide) rfl (ea_cons (ev_ix (ev_var 0 rfl) (ev_var 3 rfl) (g.lt t ht).1 (rwD_get g1.1)) (ea_cons (ev_var 2 rfl) ea_nil)) ⟨_, some, rfl, g1.2, rfl⟩
end
end Kx
end
section
namespace Kx
open PySem PySem.Spec PyProof.Rows L2 Mt
theorem less_less (T D : List Int) (h : Int) : less (less T D) [h] = less T (D ++ [h]) := by
  unfold less
  rw [List.filter_filter]
  apply List.filter_congr
  intro x _
  by_cases z : x = h
  · simp [z]
  · by_cases y : x ∈ D <;> simp [z, y]
noncomputable def turnL (there asks granted : List Int) (h : Int) : List Int := less there ((asks.take (asks.idxOf h)).filter (inL granted))
noncomputable def lackL (n : Nat) (able : List (List Int)) (still : List Int) (h : Int) : List Int := sortI (toldOf (eA able) (less still [h]) n)
noncomputable def papT (n : Nat) (able : List (List Int)) (still : List Int) (h : Int) : OT := .t [.l ((iD (lackL n able still h)).map .sh), .l ((iD (ableFor able still (lackL n able still h))).map .sh)]
theorem papT_dat (n : Nat) (able : List (List Int)) (still : List Int) (h : Int) : (papT n able still h).dat = some (.tuple [.list (iD (lackL n able still h)), .list (iD (ableFor able still (lackL n able still h)))]) := by
  have e : ∀ xs : List PyData, OT.dats (xs.map .sh) = some xs := fun xs => by
    induction xs with
    | nil => rfl
    | cons x xs ih => show (match OT.dat (.sh x), OT.dats (xs.map .sh) with | some z, some zs => some (z :: zs) | _, _ => none) = _; rw [ih]; rfl
  unfold papT
  show (OT.dats [.l ((iD (lackL n able still h)).map .sh), .l ((iD (ableFor able still (lackL n able still h))).map .sh)]).map PyData.tuple = _
  simp only [OT.dats, OT.dat, e]
  rfl
theorem iD_scal' (ns : List Int) : (iD ns).all scalD = true := by
  rw [List.all_eq_true]
  intro x hx
  obtain ⟨o, _, rfl⟩ := List.mem_map.mp hx
  rfl
noncomputable def RTurn : List PyData → List PyData → Prop := fun ds xs => ∃ (there asks granted : List Int) (h : Int), ds = [.list (iD there), .list (iD asks), .list (iD granted), .int h] ∧ there.length ≤ 100 ∧ asks.length ≤ 100 ∧ h ∈ asks ∧ xs = iD (turnL there asks granted h)
noncomputable def RRfp : List PyData → OT → Prop := fun ds t => ∃ (n : Nat) (able : List (List Int)) (still : List Int) (h : Int), ds = [.int n, .list (rwD able), .list (iD still), .int h] ∧ DayOk n able still ∧ defi (eA able) (less still [h]) n ≠ 0 ∧ t = papT n able still h
noncomputable def RPapX (cN cS : Addr) : List PyData → Rs → Prop := fun ds r => ∃ (n : Nat) (able : List (List Int)) (there asks : List Int) (h : Int), ds = [.int n, .list (rwD able), .list (iD there), .list (iD asks), .int h] ∧ AskX n able there asks ∧
  r = if h ∉ asks then .x cN else if defi (eA able) there n ≠ 0 then .x cS else if h ∈ grantOf (eA able) n there asks then .d .none else .n (papT n able (turnL there asks (grantOf (eA able) n there asks) h) h)
theorem DayOk.sub {n : Nat} {able : List (List Int)} {there : List Int} (k : DayOk n able there) (away : List Int) : DayOk n able (Kx.less there away) := by
  have hl : (Kx.less there away).length ≤ there.length := List.length_filter_le _ _
  have := k.lh
  exact ⟨⟨k.g.la, k.g.lr, by omega, fun x hx => k.g.lt x (List.mem_filter.mp hx).1⟩, k.nn, k.nd.filter _, k.n12, by omega⟩
theorem turn_not {n : Nat} {able : List (List Int)} {there asks : List Int} {h : Int} (k : AskX n able there asks) (hh : h ∈ asks) (hn : h ∉ grantOf (eA able) n there asks) : defi (eA able) (less (turnL there asks (grantOf (eA able) n there asks) h) [h]) n ≠ 0 := by
  have hk : asks[asks.idxOf h]? = some h := by
    rw [List.getElem?_eq_getElem (List.idxOf_lt_length_of_mem hh)]
    simp
  unfold turnL
  rw [less_less]
  exact fun z => hn ((grant_at k.nd hk).mpr z)
section
variable {P : Program} {w : World} {K : PySem.W.Frag} {mg : Str → Option Value} {base : Heap} {f : Addr} {fd : FuncData}
noncomputable abbrev nTurn : List Str := ["there", "asks", "granted", "hand", "ahead", "other"]
theorem scTurn : FnScope nTurn ["there", "asks", "granted", "hand"] (defScope s_there_at_turn) := ⟨rfl, rfl, rfl, by decide +kernel, rfl, by decide +kernel, by decide +kernel⟩
theorem ok_turn (GW : Fn P w K mg base "without" 1 ["hands", "some"] (spL K RWo)) (F : Fun K "there_at_turn" "there_at_turn" s_there_at_turn f fd) (hm : mg "there_at_turn" = some (.ref f)) (hb : Binds K fd ["there", "asks", "granted", "hand"] []) : Fn P w K mg base "there_at_turn" 2 ["there", "asks", "granted", "hand"] (spL K RTurn) := by
  refine fn_L (k := 1) F scTurn hm hb (by rintro _ _ ⟨a, b, c, d, rfl, _⟩; rfl) fun cdv A outer s H E hr ds d hR => ?_
  obtain ⟨there, asks, granted, h, rfl, ht, ha, hh, rfl⟩ := hR
  have htk : (asks.take (asks.idxOf h)).length ≤ 1000 := by rw [List.length_take]; omega
  refine sr_cons (s1_set 4 scTurn.nd (ev_eq (d' := .list (iD (asks.take (asks.idxOf h)))) (ev_f (ef_slice (ev_var 1 rfl) eo_none (eo_some (ev_index (ev_var 1 rfl) (ev_var 3 rfl) rfl (flat_iD asks) (idx_iD hh))))) (by rw [cut_take, iD_take]))) ?_
  exact sr_rf (s1_retF (ef_call GW hr (by decide) rfl (ea_cons (ev_var 0 rfl) (ea_cons (ev_f (ef_comp 5 PyData.int (asks.take (asks.idxOf h)) (inL granted) PyData.int rfl (cs_mk (defScope s_there_at_turn) nTurn rfl rfl (by decide +kernel)) scTurn.nd (ei_ints (ev_var 4 rfl)) htk (fun C s2 H2 fp t ht => efs_one (et_inI hr (ev_var 5 rfl) (ev_var 2 rfl))) (fun C s2 H2 fp t ht _ => ev_var 5 rfl))) ea_nil)) ⟨there, _, rfl, ht, rfl⟩))
noncomputable abbrev nRfp : List Str := ["posts", "able", "there", "hand", "lacking"]
theorem scRfp : FnScope nRfp ["posts", "able", "there", "hand"] (defScope s_refusal_paper) := ⟨rfl, rfl, rfl, by decide +kernel, rfl, by decide +kernel, by decide +kernel⟩
theorem ok_rfp (GMN : Fn P w K mg base "manning_of" 3 ["posts", "able", "hands"] (spN K RMngN)) (GW : Fn P w K mg base "without" 1 ["hands", "some"] (spL K RWo)) (GA : Fn P w K mg base "able_for" 2 ["able", "hands", "some"] (spL K RAbf)) (F : Fun K "refusal_paper" "refusal_paper" s_refusal_paper f fd) (hm : mg "refusal_paper" = some (.ref f)) (hb : Binds K fd ["posts", "able", "there", "hand"] []) : Fn P w K mg base "refusal_paper" 4 ["posts", "able", "there", "hand"] (spN K RRfp) := by
  refine fn_N (k := 3) F scRfp hm hb (by rintro _ _ ⟨a, b, c, d, rfl, _⟩; rfl) fun cdv A outer s H E hr ds d hR => ?_
  obtain ⟨n, able, still, h, rfl, hd, hz, rfl⟩ := hR
  have hlh := hd.lh
  have hT : mngT n able (less still [h]) = .t [.sh (.str "short"), .l ((iD (lackL n able still h)).map .sh)] := by
    unfold mngT
    rw [if_neg fun z => hz ((bare_iff n able _).mp z)]; rfl
  refine sr_cons (s1_setF (xs := iD (lackL n able still h)) 4 scRfp.nd (ef_ixN (ts := [.sh (.str "short"), .l ((iD (lackL n able still h)).map .sh)]) (ex_call GMN hr (by decide) rfl (ea_cons (ev_var 0 rfl) (ea_cons (ev_var 1 rfl) (ea_cons (ev_f (ef_call GW hr (by decide) rfl (ea_cons (ev_var 2 rfl) (ea_cons (ev_f (ef_list (ea_cons (ev_var 3 rfl) ea_nil))) ea_nil)) ⟨still, [h], rfl, by omega, rfl⟩)) ea_nil))) ⟨n, able, less still [h], rfl, hd.mng [h], hT.symm⟩) ev_int (by decide) rfl (iD_scal' _))) ?_
  exact sr_one (s1_retX (ex_tup (exa_cons (ex_own 4 rfl) (exa_cons (ex_f (ef_share 4 rfl (ef_call GA hr (by decide) rfl (ea_cons (ev_var 1 rfl) (ea_cons (ev_var 2 rfl) (ea_cons (ev_var 4 rfl) ea_nil))) ⟨able, still, lackL n able still h, rfl, hd.g, rfl⟩) (iD_scal' _))) exa_nil))))
noncomputable abbrev nPap : List Str := ["posts", "able", "there", "asks", "hand", "granted", "still"]
theorem scPap : FnScope nPap ["posts", "able", "there", "asks", "hand"] (defScope sPaper) := ⟨rfl, rfl, rfl, by decide +kernel, rfl, by decide +kernel, by decide +kernel⟩
theorem ok_papX {cN cS : Addr} (hN : OwnV "NoAsk" cN mg base) (GG : FnX P w K mg base "grant" 6 ["posts", "able", "there", "asks"] (RGrX cS)) (GT : Fn P w K mg base "there_at_turn" 2 ["there", "asks", "granted", "hand"] (spL K RTurn)) (GR : Fn P w K mg base "refusal_paper" 4 ["posts", "able", "there", "hand"] (spN K RRfp))
    (F : Fun K "paper_of" "paper_of" sPaper f fd) (hm : mg "paper_of" = some (.ref f)) (hb : Binds K fd ["posts", "able", "there", "asks", "hand"] []) : FnX P w K mg base "paper_of" 7 ["posts", "able", "there", "asks", "hand"] (RPapX cN cS) := by
  refine fn_X (k := 6) F scPap hm hb (by rintro _ _ ⟨a, b, c, d, e, rfl, _⟩; rfl) fun cdv A outer s H E hr ds r hR => ?_
  obtain ⟨n, able, there, asks, h, rfl, hk, rfl⟩ := hR
  have hal := hk.len
  have hlh := hk.day.lh
  by_cases hh : h ∉ asks
  · rw [if_pos hh]
    exact ⟨_, sx_here (x_if (m := true) (et_eq (et_notInI hr (ev_var 4 rfl) (ev_var 3 rfl)) (by rw [decide_eq_false hh]; rfl)) (fun _ => sx_here (x_raise hN PySem.F.excBase_ValueError rfl rfl (ea_cons ev_str ea_nil))) (fun z => nomatch z))⟩
  · rw [if_neg hh]
    have hin : h ∈ asks := Decidable.not_not.mp hh
    by_cases h1 : defi (eA able) there n ≠ 0
    · rw [if_pos h1]
      exact ⟨_, sx_cons (s1_if (els := []) (k := false) (et_eq (et_notInI hr (ev_var 4 rfl) (ev_var 3 rfl)) (by rw [decide_eq_true hin]; rfl)) (fun z => nomatch z) (fun _ => sr_nil)) (sx_here (x_set (er_call GG hr (by decide) rfl (ea_cons (ev_var 0 rfl) (ea_cons (ev_var 1 rfl) (ea_cons (ev_var 2 rfl) (ea_cons (ev_var 3 rfl) ea_nil)))) ⟨n, able, there, asks, rfl, hk, by rw [if_neg h1]⟩)))⟩
    · rw [if_neg h1]
      have h1' : defi (eA able) there n = 0 := Decidable.not_not.mp h1
      by_cases hg : h ∈ grantOf (eA able) n there asks
      · rw [if_pos hg]
        refine .inl (sr_skip (et_eq (et_notInI hr (ev_var 4 rfl) (ev_var 3 rfl)) (by rw [decide_eq_true hin]; rfl)) ?_)
        refine sr_cons (s1_set 5 scPap.nd (ev_f (ef_callX GG hr (by decide) rfl (ea_cons (ev_var 0 rfl) (ea_cons (ev_var 1 rfl) (ea_cons (ev_var 2 rfl) (ea_cons (ev_var 3 rfl) ea_nil)))) ⟨n, able, there, asks, rfl, hk, by rw [if_pos h1']⟩))) ?_
        exact sr_if_out (k := true) (et_eq (et_inI hr (ev_var 4 rfl) (ev_var 5 rfl)) (decide_eq_true hg)) (fun _ => sr_one (s1_ret ev_non)) (fun z => nomatch z)
      · rw [if_neg hg]
        refine sr_skip (et_eq (et_notInI hr (ev_var 4 rfl) (ev_var 3 rfl)) (by rw [decide_eq_true hin]; rfl)) ?_
        refine sr_cons (s1_set 5 scPap.nd (ev_f (ef_callX GG hr (by decide) rfl (ea_cons (ev_var 0 rfl) (ea_cons (ev_var 1 rfl) (ea_cons (ev_var 2 rfl) (ea_cons (ev_var 3 rfl) ea_nil)))) ⟨n, able, there, asks, rfl, hk, by rw [if_pos h1']⟩))) ?_
        refine sr_skip (et_eq (et_inI hr (ev_var 4 rfl) (ev_var 5 rfl)) (decide_eq_false hg)) ?_
        refine sr_cons (s1_set 6 scPap.nd (ev_f (ef_call GT hr (by decide) rfl (ea_cons (ev_var 2 rfl) (ea_cons (ev_var 3 rfl) (ea_cons (ev_var 5 rfl) (ea_cons (ev_var 4 rfl) ea_nil)))) ⟨there, asks, _, h, rfl, by omega, by omega, hin, rfl⟩))) ?_
        exact sr_one (s1_retX (ex_call GR hr (by decide) rfl (ea_cons (ev_var 0 rfl) (ea_cons (ev_var 1 rfl) (ea_cons (ev_var 6 rfl) (ea_cons (ev_var 4 rfl) ea_nil)))) ⟨n, able, _, h, rfl, hk.day.sub _, turn_not hk hin hg, rfl⟩))
end
end Kx
end
section
namespace Kx
open PySem PySem.Spec PyProof.Rows L2 L3 Mt
theorem foldl_app {α β : Type} (f : α → List β) : ∀ (l : List α) (b : List β), l.foldl (fun a x => a ++ f x) b = b ++ l.flatMap f
  | [], b => by simp
  | x :: l, b => by rw [List.foldl_cons, foldl_app f l, List.flatMap_cons, List.append_assoc]
noncomputable def shownC (n : Nat) (able : List (List Int)) (there asks G : List Int) : List Int := (less asks G).flatMap fun h => lackL n able (turnL there asks G h) h
noncomputable def shownL (n : Nat) (able : List (List Int)) (there asks G : List Int) : List Int := sortI ((shownC n able there asks G).foldl ddup [])
theorem lack_rg {n : Nat} {able : List (List Int)} {still : List Int} {h p : Int} (hp : p ∈ lackL n able still h) : 0 ≤ p ∧ p < n :=
  (told_set (e := eA able) (n := n) (hands := less still [h])).rg p ((sortI_perm _).mem_iff.mp hp)
theorem lack_nd {n : Nat} {able : List (List Int)} {still : List Int} {h : Int} : (lackL n able still h).Nodup := (sortI_perm _).nodup_iff.mpr (told_set (e := eA able) (n := n) (hands := less still [h])).nd
theorem rg_len {n : Nat} {l : List Int} (nd : l.Nodup) (h : ∀ p ∈ l, 0 ≤ p ∧ p < n) : l.length ≤ n := by
  have := nodup_sub_len (b := rgI 0 n) nd fun p hp => mem_rgI.mpr (by have := h p hp; omega)
  rwa [rgI_len] at this
theorem lack_len {n : Nat} {able : List (List Int)} {still : List Int} {h : Int} : (lackL n able still h).length ≤ n := rg_len lack_nd fun p hp => lack_rg hp
theorem shownC_rg {n : Nat} {able : List (List Int)} {there asks G : List Int} {p : Int} (hp : p ∈ shownC n able there asks G) : 0 ≤ p ∧ p < n := by
  obtain ⟨h, _, q⟩ := List.mem_flatMap.mp hp
  exact lack_rg q
theorem ddl_len {n : Nat} {l : List Int} (h : ∀ p ∈ l, 0 ≤ p ∧ p < n) : (l.foldl ddup []).length ≤ n := rg_len (ddl_nd l [] List.nodup_nil) fun p hp => h p (by simpa using (ddl_mem l [] p).mp hp)
noncomputable def spareI (able : List (List Int)) (there S : List Int) : Int := ((ableFor able there S).length : Int) - (S.length : Int)
noncomputable def othL (able : List (List Int)) (asks S : List Int) : List Int := less asks (ableFor able asks S)
noncomputable def bndT (able : List (List Int)) (there asks S : List Int) : OT := .t [.sh (.int (spareI able there S + (othL able asks S).length)), .l ((iD S).map .sh), .sh (.int (spareI able there S)), .l ((iD (othL able asks S)).map .sh)]
noncomputable def bndD (able : List (List Int)) (there asks S : List Int) : PyData := .tuple [.int (spareI able there S + (othL able asks S).length), .list (iD S), .int (spareI able there S), .list (iD (othL able asks S))]
theorem bndT_dat (able : List (List Int)) (there asks S : List Int) : (bndT able there asks S).dat = some (bndD able there asks S) := by
  have e : ∀ xs : List PyData, OT.dats (xs.map .sh) = some xs := fun xs => by
    induction xs with
    | nil => rfl
    | cons x xs ih => show (match OT.dat (.sh x), OT.dats (xs.map .sh) with | some z, some zs => some (z :: zs) | _, _ => none) = _; rw [ih]; rfl
  unfold bndT bndD
  show (OT.dats [_, _, _, _]).map PyData.tuple = _
  simp only [OT.dats, OT.dat, e]
  rfl
theorem AskX.gA {n : Nat} {able : List (List Int)} {there asks : List Int} (k : AskX n able there asks) : Good able asks := by
  have h1 := k.len
  exact ⟨k.day.g.la, k.day.g.lr, by omega, fun x hx => k.day.g.lt x (k.sub x hx)⟩
noncomputable def RShX (cS : Addr) : List PyData → Rs → Prop := fun ds r => ∃ (n : Nat) (able : List (List Int)) (there asks : List Int), ds = [.int n, .list (rwD able), .list (iD there), .list (iD asks)] ∧ AskX n able there asks ∧ r = if defi (eA able) there n = 0 then .l (iD (shownL n able there asks (grantOf (eA able) n there asks))) else .x cS
noncomputable def RBdX (cS : Addr) : List PyData → Rs → Prop := fun ds r => ∃ (n : Nat) (able : List (List Int)) (there asks : List Int), ds = [.int n, .list (rwD able), .list (iD there), .list (iD asks)] ∧ AskX n able there asks ∧ r = if defi (eA able) there n = 0 then .n (bndT able there asks (shownL n able there asks (grantOf (eA able) n there asks))) else .x cS
section
variable {P : Program} {w : World} {K : PySem.W.Frag} {mg : Str → Option Value} {base : Heap} {f : Addr} {fd : FuncData}
noncomputable abbrev nSh : List Str := ["posts", "able", "there", "asks", "granted", "shown", "hand", "still"]
theorem scSh : FnScope nSh ["posts", "able", "there", "asks"] (defScope s_posts_shown) := ⟨rfl, rfl, rfl, by decide +kernel, rfl, by decide +kernel, by decide +kernel⟩
theorem ok_shX {cS : Addr} (hB : Blt mg) (GG : FnX P w K mg base "grant" 6 ["posts", "able", "there", "asks"] (RGrX cS)) (GW : Fn P w K mg base "without" 1 ["hands", "some"] (spL K RWo)) (GT : Fn P w K mg base "there_at_turn" 2 ["there", "asks", "granted", "hand"] (spL K RTurn)) (GR : Fn P w K mg base "refusal_paper" 4 ["posts", "able", "there", "hand"] (spN K RRfp))
    (F : Fun K "posts_shown" "posts_shown" s_posts_shown f fd) (hm : mg "posts_shown" = some (.ref f)) (hb : Binds K fd ["posts", "able", "there", "asks"] []) : FnX P w K mg base "posts_shown" 7 ["posts", "able", "there", "asks"] (RShX cS) := by
  refine fn_X (k := 6) F scSh hm hb (by rintro _ _ ⟨a, b, c, d, rfl, _⟩; rfl) fun cdv A outer s H E hr ds r hR => ?_
  obtain ⟨n, able, there, asks, rfl, hk, rfl⟩ := hR
  have hal := hk.len
  have hlh := hk.day.lh
  have h12 := hk.day.n12
  by_cases h0 : defi (eA able) there n = 0
  · rw [if_pos h0]
    refine sr_cons (s1_set 4 scSh.nd (ev_f (ef_callX GG hr (by decide) rfl (ea_cons (ev_var 0 rfl) (ea_cons (ev_var 1 rfl) (ea_cons (ev_var 2 rfl) (ea_cons (ev_var 3 rfl) ea_nil)))) ⟨n, able, there, asks, rfl, hk, by rw [if_pos h0]⟩))) ?_
    have hno : ∀ h, h ∈ asks → h ∉ grantOf (eA able) n there asks → defi (eA able) (less (turnL there asks (grantOf (eA able) n there asks) h) [h]) n ≠ 0 := fun h h1 h2 => turn_not hk h1 h2
    generalize grantOf (eA able) n there asks = G at hno ⊢
    have hrl : (less asks G).length ≤ 12 := Nat.le_trans (List.length_filter_le _ _) hal
    refine sr_cons (s1_setF 5 scSh.nd (ef_list ea_nil)) ?_
    refine sr_cons (δ1 := [.sh (.int n), .sh (.list (rwD able)), .sh (.list (iD there)), .sh (.list (iD asks)), .sh (.list (iD G)), .ow (iD (shownC n able there asks G)), .no, .no]) (s1_eq (s1_forR 6 (fun l : List Int => [.sh (.int n), .sh (.list (rwD able)), .sh (.list (iD there)), .sh (.list (iD asks)), .sh (.list (iD G)), .ow (iD l), .no, .no]) PyData.int (less asks G) (fun h l => .nx (l ++ lackL n able (turnL there asks G h) h)) (fun m l => l.length ≤ 12 * m) (s0 := []) PassesOwn.never rfl scSh.nd (ei_ints (ev_f (ef_call GW hr (by decide) rfl (ea_cons (ev_var 3 rfl) (ea_cons (ev_var 4 rfl) ea_nil)) ⟨asks, G, rfl, by omega, rfl⟩))) (Nat.le_refl _) (fun m h l hm hJ => ?_) (fun m h l l' hm hJ he => ?_)) ?_) ?_
    · have hm' : m < (less asks G).length := (List.getElem?_eq_some_iff.mp hm).1
      obtain ⟨q1, q2⟩ := List.mem_filter.mp (List.mem_of_getElem? hm)
      have q3 : h ∉ G := by simpa using q2
      have hll := lack_len (n := n) (able := able) (still := turnL there asks G h) (h := h)
      have hnz := hno h q1 q3
      have hps : papT n able (turnL there asks G h) h = .t [.l ((iD (lackL n able (turnL there asks G h) h)).map .sh), .l ((iD (ableFor able (turnL there asks G h) (lackL n able (turnL there asks G h) h))).map .sh)] := rfl
      refine ⟨[.sh (.int n), .sh (.list (rwD able)), .sh (.list (iD there)), .sh (.list (iD asks)), .sh (.list (iD G)), .ow (iD (l ++ lackL n able (turnL there asks G h) h)), .sh (.int h), .sh (.list (iD (turnL there asks G h)))], ?_, .keep (.keep (.keep (.keep (.keep (.keep (.lose (.lose .nil)))))))⟩
      refine sr_cons (s1_set 7 scSh.nd (ev_f (ef_call GT hr (by decide) rfl (ea_cons (ev_var 2 rfl) (ea_cons (ev_var 3 rfl) (ea_cons (ev_var 4 rfl) (ea_cons (ev_var 6 rfl) ea_nil)))) ⟨there, asks, G, h, rfl, by omega, by omega, q1, rfl⟩))) ?_
      refine sr_one (s1_eq (s1_extend (ys := iD (lackL n able (turnL there asks G h) h)) 5 rfl (ev_f (ef_ixN (ex_call GR hr (by decide) rfl (ea_cons (ev_var 0 rfl) (ea_cons (ev_var 1 rfl) (ea_cons (ev_var 7 rfl) (ea_cons (ev_var 6 rfl) ea_nil)))) ⟨n, able, _, h, rfl, hk.day.sub _, hnz, hps.symm⟩) ev_int (by decide) rfl (iD_scal' _))) (by rw [iD_len, iD_len]; omega)) ?_)
      unfold iD
      rw [List.map_append]; rfl
    · cases he
      have hll := lack_len (n := n) (able := able) (still := turnL there asks G h) (h := h)
      rw [List.length_append]; omega
    · rw [loopR_fold, foldl_app]; rfl
    have hcl : (shownC n able there asks G).length ≤ 144 := by
      unfold shownC
      rw [List.length_flatMap]
      have : ∀ l : List Int, (l.map fun h => (lackL n able (turnL there asks G h) h).length).sum ≤ 12 * l.length := by
        intro l
        induction l with
        | nil => simp
        | cons x l ih =>
          have hll := lack_len (n := n) (able := able) (still := turnL there asks G x) (h := x)
          simp only [List.map_cons, List.sum_cons, List.length_cons]; omega
      have := this (less asks G)
      omega
    have hdl := ddl_len (n := n) (l := shownC n able there asks G) fun p hp => shownC_rg hp
    exact sr_rf (s1_retF (ef_share 5 rfl (ef_sortSet rfl rfl hB.sorted rfl hB.set (ev_var 5 rfl) (by omega) (by omega)) (iD_scal' _)))
  · rw [if_neg h0]
    exact ⟨_, sx_here (x_set (er_call GG hr (by decide) rfl (ea_cons (ev_var 0 rfl) (ea_cons (ev_var 1 rfl) (ea_cons (ev_var 2 rfl) (ea_cons (ev_var 3 rfl) ea_nil)))) ⟨n, able, there, asks, rfl, hk, by rw [if_neg h0]⟩))⟩
noncomputable abbrev nBd : List Str := ["posts", "able", "there", "asks", "shown", "spare", "others"]
theorem scBd : FnScope nBd ["posts", "able", "there", "asks"] (defScope sBound) := ⟨rfl, rfl, rfl, by decide +kernel, rfl, by decide +kernel, by decide +kernel⟩
theorem ok_bdX {cS : Addr} (hB : Blt mg) (GS : FnX P w K mg base "posts_shown" 7 ["posts", "able", "there", "asks"] (RShX cS)) (GW : Fn P w K mg base "without" 1 ["hands", "some"] (spL K RWo)) (GA : Fn P w K mg base "able_for" 2 ["able", "hands", "some"] (spL K RAbf))
    (F : Fun K "bound_of" "bound_of" sBound f fd) (hm : mg "bound_of" = some (.ref f)) (hb : Binds K fd ["posts", "able", "there", "asks"] []) : FnX P w K mg base "bound_of" 8 ["posts", "able", "there", "asks"] (RBdX cS) := by
  refine fn_X (k := 7) F scBd hm hb (by rintro _ _ ⟨a, b, c, d, rfl, _⟩; rfl) fun cdv A outer s H E hr ds r hR => ?_
  obtain ⟨n, able, there, asks, rfl, hk, rfl⟩ := hR
  have hal := hk.len
  have hg := hk.gA
  have hgt := hk.day.g
  by_cases h0 : defi (eA able) there n = 0
  · rw [if_pos h0]
    refine sr_cons (s1_setF 4 scBd.nd (ef_callX GS hr (by decide) rfl (ea_cons (ev_var 0 rfl) (ea_cons (ev_var 1 rfl) (ea_cons (ev_var 2 rfl) (ea_cons (ev_var 3 rfl) ea_nil)))) ⟨n, able, there, asks, rfl, hk, by rw [if_pos h0]⟩)) ?_
    generalize shownL n able there asks (grantOf (eA able) n there asks) = S
    refine sr_cons (s1_set 5 scBd.nd (ev_eq (d' := .int (spareI able there S)) (ev_share 4 rfl (ev_sub (ev_len rfl hB.len (ev_f (ef_call GA hr (by decide) rfl (ea_cons (ev_var 1 rfl) (ea_cons (ev_var 2 rfl) (ea_cons (ev_var 4 rfl) ea_nil))) ⟨able, there, S, rfl, hgt, rfl⟩))) (ev_len rfl hB.len (ev_var 4 rfl)))) (by rw [iD_len, iD_len]; rfl))) ?_
    refine sr_cons (s1_setF (xs := iD (othL able asks S)) 6 scBd.nd (ef_share 4 rfl (ef_call GW hr (by decide) rfl (ea_cons (ev_var 3 rfl) (ea_cons (ev_f (ef_call GA hr (by decide) rfl (ea_cons (ev_var 1 rfl) (ea_cons (ev_var 3 rfl) (ea_cons (ev_var 4 rfl) ea_nil))) ⟨able, asks, S, rfl, hg, rfl⟩)) ea_nil)) ⟨asks, _, rfl, by omega, rfl⟩) (iD_scal' _))) ?_
    exact sr_one (s1_retX (ex_tup (exa_cons (ex_d (ev_eq (d' := .int (spareI able there S + (othL able asks S).length)) (ev_add (ev_var 5 rfl) (ev_share 6 rfl (ev_len rfl hB.len (ev_var 6 rfl)))) (by rw [iD_len]))) (exa_cons (ex_own 4 rfl) (exa_cons (ex_d (ev_var 5 rfl)) (exa_cons (ex_own 6 rfl) exa_nil))))))
  · rw [if_neg h0]
    exact ⟨_, sx_here (x_set (er_call GS hr (by decide) rfl (ea_cons (ev_var 0 rfl) (ea_cons (ev_var 1 rfl) (ea_cons (ev_var 2 rfl) (ea_cons (ev_var 3 rfl) ea_nil)))) ⟨n, able, there, asks, rfl, hk, by rw [if_neg h0]⟩))⟩
end
end Kx
end
section
namespace Kx
open PySem PySem.Spec PyProof.Rows L2 L3 Mt
noncomputable def n17 (ns : List Int) : Nat := (cellAt ns 0 / 2 % 13).toNat
noncomputable def o17 (ns : List Int) : List Int := if cellAt ns 0 % 2 = 0 then [] else thereOf ns
theorem n17_le (ns : List Int) : n17 ns ≤ 12 := by
  have h4 := Int.emod_lt_of_pos (cellAt ns 0 / 2) (show (0 : Int) < 13 by decide)
  unfold n17; omega
theorem rep_one (xs : List PyData) {i : Int} (h0 : 0 ≤ i) (h1 : i < 2) : (List.replicate i.toNat xs).flatten = if i = 0 then [] else xs := by
  have : i = 0 ∨ i = 1 := by omega
  rcases this with rfl | rfl
  · rfl
  · simp
theorem pick_map {α β : Type} (g : α → β) (xs : List α) (l u t : Option Int) : pickL (xs.map g) l u t = (pickL xs l u t).map g := by
  unfold pickL
  rw [List.length_map, List.map_filterMap]
  congr 1
  funext i
  rw [List.getElem?_map]
theorem pick_rev {α : Type} (xs : List α) : (pickL xs none none (some (-1))).length ≤ xs.length := by
  refine Nat.le_trans (pickL_len xs _ _ _) ?_
  unfold sliceRange sliceBounds
  simp only [List.length_map, List.length_range, Option.getD_some]
  have h0 : ¬ ((-1 : Int) > 0) := by decide
  rw [if_neg h0, if_neg h0, if_neg h0]
  split
  · rw [show (-(-1 : Int)) = 1 by decide, Int.ediv_one]; omega
  · omega
noncomputable def RIsX (cS : Addr) : List PyData → Rs → Prop := fun ds r => ∃ (n : Nat) (able : List (List Int)) (there asks row : List Int), ds = [.int n, .list (rwD able), .list (iD there), .list (iD asks), .list (iD row)] ∧ AskX n able there asks ∧ r = if defi (eA able) there n = 0 then .d (.bool (decide (row = grantOf (eA able) n there asks))) else .x cS
noncomputable def rowsW (asks : List Int) : List (List Int) := [asks, [], [-1], pickL asks none none (some (-1)), asks.take 1 ++ asks]
noncomputable def papD (n : Nat) (able : List (List Int)) (still : List Int) (h : Int) : PyData := .tuple [.list (iD (lackL n able still h)), .list (iD (ableFor able still (lackL n able still h)))]
noncomputable def dW (way n : Nat) (able : List (List Int)) (there asks : List Int) : PyData :=
  if way = 5 then .list (iD (grantOf (eA able) n there asks)) else if way = 6 then bndD able there asks (shownL n able there asks (grantOf (eA able) n there asks))
  else if way = 7 then (if asks.getLastD 0 ∈ grantOf (eA able) n there asks then .none else papD n able (turnL there asks (grantOf (eA able) n there asks) (asks.getLastD 0)) (asks.getLastD 0))
  else .bool (decide ((rowsW asks).getD way [] = grantOf (eA able) n there asks))
noncomputable def RAskd (cS : Addr) : List PyData → Rs → Prop := fun ds r => ∃ (way n : Nat) (able : List (List Int)) (there asks : List Int), ds = [.int way, .int n, .list (rwD able), .list (iD there), .list (iD asks)] ∧ way ≤ 7 ∧ (way = 7 → asks ≠ []) ∧ AskX n able there asks ∧ r = if defi (eA able) there n = 0 then .d (dW way n able there asks) else .x cS
noncomputable def RRf : List PyData → PyData → Prop := fun ds d => ∃ (way n : Nat) (able : List (List Int)) (there asks : List Int), ds = [.int way, .int n, .list (rwD able), .list (iD there), .list (iD asks)] ∧ way ≤ 7 ∧ (way = 7 → asks ≠ []) ∧ AskX n able there asks ∧ d = .str (if defi (eA able) there n = 0 then "told" else "short")
section
variable {P : Program} {w : World} {K : PySem.W.Frag} {mg : Str → Option Value} {base : Heap} {f : Addr} {fd : FuncData}
variable {cN cS : Addr}
noncomputable abbrev nIsG : List Str := ["posts", "able", "there", "asks", "granted"]
theorem scIsG : FnScope nIsG ["posts", "able", "there", "asks", "granted"] (defScope sIsG) := ⟨rfl, rfl, rfl, by decide +kernel, rfl, by decide +kernel, by decide +kernel⟩
theorem ok_isX (GG : FnX P w K mg base "grant" 6 ["posts", "able", "there", "asks"] (RGrX cS)) (F : Fun K "is_granting" "is_granting" sIsG f fd) (hm : mg "is_granting" = some (.ref f)) (hb : Binds K fd ["posts", "able", "there", "asks", "granted"] []) :
    FnX P w K mg base "is_granting" 7 ["posts", "able", "there", "asks", "granted"] (RIsX cS) := by
  refine fn_X (k := 6) F scIsG hm hb (by rintro _ _ ⟨a, b, c, d, e, rfl, _⟩; rfl) fun cdv A outer s H E hr ds r hR => ?_
  obtain ⟨n, able, there, asks, row, rfl, hk, rfl⟩ := hR
  by_cases h0 : defi (eA able) there n = 0
  · rw [if_pos h0]
    refine .inl (sr_eq (sr_one (s1_ret (ev_eqD hr (ev_var 4 rfl) (ev_f (ef_callX GG hr (by decide) rfl (ea_cons (ev_var 0 rfl) (ea_cons (ev_var 1 rfl) (ea_cons (ev_var 2 rfl) (ea_cons (ev_var 3 rfl) ea_nil)))) ⟨n, able, there, asks, rfl, hk, by rw [if_pos h0]⟩)) (sm_iD _) (lay_iD _)))) ?_)
    rw [eqv_iD]
  · rw [if_neg h0]
    exact ⟨_, sx_here (x_ret (er_cmpR (ev_var 4 rfl) (er_call GG hr (by decide) rfl (ea_cons (ev_var 0 rfl) (ea_cons (ev_var 1 rfl) (ea_cons (ev_var 2 rfl) (ea_cons (ev_var 3 rfl) ea_nil)))) ⟨n, able, there, asks, rfl, hk, by rw [if_neg h0]⟩)))⟩
noncomputable abbrev nAk : List Str := ["way", "posts", "able", "there", "asks", "rows"]
theorem scAk : FnScope nAk ["way", "posts", "able", "there", "asks"] (defScope s__law_asked) := ⟨rfl, rfl, rfl, by decide +kernel, rfl, by decide +kernel, by decide +kernel⟩
theorem last_get {asks : List Int} (h : asks ≠ []) : asks[asks.length - 1]? = some (asks.getLastD 0) := by
  rw [List.getLastD_eq_getLast?, List.getLast?_eq_getElem?]
  rw [List.getElem?_eq_getElem (by have := List.length_pos_iff.mpr h; omega)]; rfl
theorem ok_askd (hB : Blt mg) (GG : FnX P w K mg base "grant" 6 ["posts", "able", "there", "asks"] (RGrX cS)) (GB : FnX P w K mg base "bound_of" 8 ["posts", "able", "there", "asks"] (RBdX cS)) (GPp : FnX P w K mg base "paper_of" 7 ["posts", "able", "there", "asks", "hand"] (RPapX cN cS)) (GI : FnX P w K mg base "is_granting" 7 ["posts", "able", "there", "asks", "granted"] (RIsX cS))
    (F : Fun K "_law_asked" "_law_asked" s__law_asked f fd) (hm : mg "_law_asked" = some (.ref f)) (hb : Binds K fd ["way", "posts", "able", "there", "asks"] []) : FnX P w K mg base "_law_asked" 9 ["way", "posts", "able", "there", "asks"] (RAskd cS) := by
  refine fn_X (k := 8) F scAk hm hb (by rintro _ _ ⟨a, b, c, d, e, rfl, _⟩; rfl) fun cdv A outer s H E hr ds r hR => ?_
  obtain ⟨way, n, able, there, asks, rfl, hw, hne, hk, rfl⟩ := hR
  have hal := hk.len
  have hpl := pick_rev asks
  have htk : (asks.take 1).length ≤ 1 := by rw [List.length_take]; omega
  have hl1 : (asks.take 1 ++ asks).length ≤ 13 := by rw [List.length_append]; omega
  have hrw : way < 5 → (rowsW asks)[way]? = some ((rowsW asks).getD way []) := fun h => by
    rw [List.getD_eq_getElem?_getD, List.getElem?_eq_getElem (show way < (rowsW asks).length by exact h)]; rfl
  by_cases h0 : defi (eA able) there n = 0
  · rw [if_pos h0]
    by_cases w5 : way = 5
    · subst w5
      refine .inl (sr_if_out (k := true) (et_eq (et_eqI hr (ev_var 0 rfl) ev_int) rfl) (fun _ => sr_one (s1_ret (ev_f (ef_callX GG hr (by decide) rfl (ea_cons (ev_var 1 rfl) (ea_cons (ev_var 2 rfl) (ea_cons (ev_var 3 rfl) (ea_cons (ev_var 4 rfl) ea_nil)))) ⟨n, able, there, asks, rfl, hk, by rw [if_pos h0]⟩)))) (fun z => nomatch z))
    by_cases w6 : way = 6
    · subst w6
      refine .inl (sr_skip (et_eq (et_eqI hr (ev_var 0 rfl) ev_int) rfl) ?_)
      exact sr_if_out (k := true) (et_eq (et_eqI hr (ev_var 0 rfl) ev_int) rfl) (fun _ => sr_one (s1_ret (ex_ev (ex_callX GB hr (by decide) rfl (ea_cons (ev_var 1 rfl) (ea_cons (ev_var 2 rfl) (ea_cons (ev_var 3 rfl) (ea_cons (ev_var 4 rfl) ea_nil)))) ⟨n, able, there, asks, rfl, hk, by rw [if_pos h0]⟩) (bndT_dat _ _ _ _)))) (fun z => nomatch z)
    by_cases w7 : way = 7
    · subst w7
      have hla := last_get (hne rfl)
      have hin : asks.getLastD 0 ∈ asks := List.mem_of_getElem? hla
      have hla2 : (iD asks).getLast? = some (.int (asks.getLastD 0)) := by rw [List.getLast?_eq_getElem?]; unfold iD; rw [List.length_map, List.getElem?_map, hla]; rfl
      have hdw : dW 7 n able there asks = if asks.getLastD 0 ∈ grantOf (eA able) n there asks then .none else papD n able (turnL there asks (grantOf (eA able) n there asks) (asks.getLastD 0)) (asks.getLastD 0) := rfl
      rw [hdw]
      refine .inl (sr_skip (et_eq (et_eqI hr (ev_var 0 rfl) ev_int) rfl) (sr_skip (et_eq (et_eqI hr (ev_var 0 rfl) ev_int) rfl) ?_))
      by_cases hg : asks.getLastD 0 ∈ grantOf (eA able) n there asks
      · rw [if_pos hg]
        exact sr_if_out (k := true) (et_eq (et_eqI hr (ev_var 0 rfl) ev_int) rfl) (fun _ => sr_one (s1_ret (ev_callX GPp hr (by decide) rfl (ea_cons (ev_var 1 rfl) (ea_cons (ev_var 2 rfl) (ea_cons (ev_var 3 rfl) (ea_cons (ev_var 4 rfl) (ea_cons (ev_ixL (ev_var 4 rfl) (ev_eq (ev_neg ev_int) rfl) hla2) ea_nil))))) ⟨n, able, there, asks, _, rfl, hk, by rw [if_neg (fun y => y hin), if_neg (fun y => y h0), if_pos hg]⟩))) (fun z => nomatch z)
      · rw [if_neg hg]
        exact sr_if_out (k := true) (et_eq (et_eqI hr (ev_var 0 rfl) ev_int) rfl) (fun _ => sr_one (s1_ret (ex_ev (ex_callX GPp hr (by decide) rfl (ea_cons (ev_var 1 rfl) (ea_cons (ev_var 2 rfl) (ea_cons (ev_var 3 rfl) (ea_cons (ev_var 4 rfl) (ea_cons (ev_ixL (ev_var 4 rfl) (ev_eq (ev_neg ev_int) rfl) hla2) ea_nil))))) ⟨n, able, there, asks, _, rfl, hk, by rw [if_neg (fun y => y hin), if_neg (fun y => y h0), if_neg hg]⟩) (papT_dat _ _ _ _)))) (fun z => nomatch z)
    have hw5 : way < 5 := by omega
    have hdw : dW way n able there asks = .bool (decide ((rowsW asks).getD way [] = grantOf (eA able) n there asks)) := by
      unfold dW
      rw [if_neg w5, if_neg w6, if_neg w7]
    rw [hdw]
    refine .inl (sr_skip (et_eq (et_eqI hr (ev_var 0 rfl) ev_int) (decide_eq_false (by omega))) (sr_skip (et_eq (et_eqI hr (ev_var 0 rfl) ev_int) (decide_eq_false (by omega))) (sr_skip (et_eq (et_eqI hr (ev_var 0 rfl) ev_int) (decide_eq_false (by omega))) ?_)))
    refine sr_cons (s1_set 5 scAk.nd (ev_eq (d' := .list (rwD (rowsW asks))) (ev_f (ef_list (ea_cons (ev_f (ef_listOf rfl hB.list (ev_var 4 rfl))) (ea_cons (ev_f (ef_list ea_nil)) (ea_cons (ev_f (ef_list (ea_cons (ev_eq (ev_neg ev_int) rfl) ea_nil))) (ea_cons (ev_eq (d' := .list (iD (pickL asks none none (some (-1))))) (ev_f (ef_slice3 (l := none) (u := none) (t := some (-1)) (ev_var 4 rfl) eo_none eo_none (eo_some (ev_eq (ev_neg ev_int) rfl)) (by decide) (by unfold iD; rw [pick_map, List.length_map]; omega))) (by unfold iD; rw [pick_map])) (ea_cons (ev_eq (d' := .list (iD (asks.take 1 ++ asks))) (ev_f (ef_cat (ev_f (ef_slice (ev_var 4 rfl) eo_none (eo_some ev_int))) (ev_var 4 rfl) ?_)) ?_) ea_nil))))))) rfl)) ?_
    · rw [iD_len]
      have : (cutL (iD asks) none (some 1)).length ≤ 12 := by rw [show (some (1 : Int)) = some ((1 : Nat) : Int) from rfl, cut_take, iD_take, iD_len]; omega
      omega
    · have : cutL (iD asks) none (some 1) = iD (asks.take 1) := by rw [show (some (1 : Int)) = some ((1 : Nat) : Int) from rfl, cut_take, iD_take]
      rw [this]; unfold iD; rw [List.map_append]
    exact sr_one (s1_ret (ev_callX GI hr (by decide) rfl (ea_cons (ev_var 1 rfl) (ea_cons (ev_var 2 rfl) (ea_cons (ev_var 3 rfl) (ea_cons (ev_var 4 rfl) (ea_cons (ev_ix (ev_var 5 rfl) (ev_var 0 rfl) (by omega) (rwD_get (by rw [Int.toNat_natCast]; exact hrw hw5))) ea_nil))))) ⟨n, able, there, asks, (rowsW asks).getD way [], rfl, hk, by rw [if_pos h0]⟩))
  · rw [if_neg h0]
    by_cases w5 : way = 5
    · subst w5
      exact ⟨_, sx_here (x_if (m := true) (et_eq (et_eqI hr (ev_var 0 rfl) ev_int) rfl) (fun _ => sx_here (x_ret (er_call GG hr (by decide) rfl (ea_cons (ev_var 1 rfl) (ea_cons (ev_var 2 rfl) (ea_cons (ev_var 3 rfl) (ea_cons (ev_var 4 rfl) ea_nil)))) ⟨n, able, there, asks, rfl, hk, by rw [if_neg h0]⟩))) (fun z => nomatch z))⟩
    have k5 : decide ((way : Int) = 5) = false := decide_eq_false (by omega)
    by_cases w6 : way = 6
    · subst w6
      exact ⟨_, sx_cons (s1_if (els := []) (k := false) (et_eq (et_eqI hr (ev_var 0 rfl) ev_int) rfl) (fun z => nomatch z) (fun _ => sr_nil)) (sx_here (x_if (m := true) (et_eq (et_eqI hr (ev_var 0 rfl) ev_int) rfl) (fun _ => sx_here (x_ret (er_call GB hr (by decide) rfl (ea_cons (ev_var 1 rfl) (ea_cons (ev_var 2 rfl) (ea_cons (ev_var 3 rfl) (ea_cons (ev_var 4 rfl) ea_nil)))) ⟨n, able, there, asks, rfl, hk, by rw [if_neg h0]⟩))) (fun z => nomatch z)))⟩
    have k6 : decide ((way : Int) = 6) = false := decide_eq_false (by omega)
    by_cases w7 : way = 7
    · subst w7
      have hla := last_get (hne rfl)
      have hin : asks.getLastD 0 ∈ asks := List.mem_of_getElem? hla
      have hla2 : (iD asks).getLast? = some (.int (asks.getLastD 0)) := by rw [List.getLast?_eq_getElem?]; unfold iD; rw [List.length_map, List.getElem?_map, hla]; rfl
      exact ⟨_, sx_cons (s1_if (els := []) (k := false) (et_eq (et_eqI hr (ev_var 0 rfl) ev_int) rfl) (fun z => nomatch z) (fun _ => sr_nil)) (sx_cons (s1_if (els := []) (k := false) (et_eq (et_eqI hr (ev_var 0 rfl) ev_int) rfl) (fun z => nomatch z) (fun _ => sr_nil)) (sx_here (x_if (m := true) (et_eq (et_eqI hr (ev_var 0 rfl) ev_int) rfl) (fun _ => sx_here (x_ret (er_call GPp hr (by decide) rfl (ea_cons (ev_var 1 rfl) (ea_cons (ev_var 2 rfl) (ea_cons (ev_var 3 rfl) (ea_cons (ev_var 4 rfl) (ea_cons (ev_ixL (ev_var 4 rfl) (ev_eq (ev_neg ev_int) rfl) hla2) ea_nil))))) ⟨n, able, there, asks, _, rfl, hk, by rw [if_neg (fun y => y hin), if_pos h0]⟩))) (fun z => nomatch z))))⟩
    have k7 : decide ((way : Int) = 7) = false := decide_eq_false (by omega)
    have hw5 : way < 5 := by omega
    refine ⟨_, sx_cons (s1_if (els := []) (k := false) (et_eq (et_eqI hr (ev_var 0 rfl) ev_int) k5) (fun z => nomatch z) (fun _ => sr_nil)) (sx_cons (s1_if (els := []) (k := false) (et_eq (et_eqI hr (ev_var 0 rfl) ev_int) k6) (fun z => nomatch z) (fun _ => sr_nil)) (sx_cons (s1_if (els := []) (k := false) (et_eq (et_eqI hr (ev_var 0 rfl) ev_int) k7) (fun z => nomatch z) (fun _ => sr_nil)) (sx_cons (s1_set 5 scAk.nd (ev_eq (d' := .list (rwD (rowsW asks))) (ev_f (ef_list (ea_cons (ev_f (ef_listOf rfl hB.list (ev_var 4 rfl))) (ea_cons (ev_f (ef_list ea_nil)) (ea_cons (ev_f (ef_list (ea_cons (ev_eq (ev_neg ev_int) rfl) ea_nil))) (ea_cons (ev_eq (d' := .list (iD (pickL asks none none (some (-1))))) (ev_f (ef_slice3 (l := none) (u := none) (t := some (-1)) (ev_var 4 rfl) eo_none eo_none (eo_some (ev_eq (ev_neg ev_int) rfl)) (by decide) (by unfold iD; rw [pick_map, List.length_map]; omega))) (by unfold iD; rw [pick_map])) (ea_cons (ev_eq (d' := .list (iD (asks.take 1 ++ asks))) (ev_f (ef_cat (ev_f (ef_slice (ev_var 4 rfl) eo_none (eo_some ev_int))) (ev_var 4 rfl) ?_)) ?_) ea_nil))))))) rfl)) (sx_here (x_ret (er_call GI hr (by decide) rfl (ea_cons (ev_var 1 rfl) (ea_cons (ev_var 2 rfl) (ea_cons (ev_var 3 rfl) (ea_cons (ev_var 4 rfl) (ea_cons (ev_ix (ev_var 5 rfl) (ev_var 0 rfl) (by omega) (rwD_get (by rw [Int.toNat_natCast]; exact hrw hw5))) ea_nil))))) ⟨n, able, there, asks, (rowsW asks).getD way [], rfl, hk, by rw [if_neg h0]⟩))))))⟩
    · rw [iD_len]
      have : (cutL (iD asks) none (some 1)).length ≤ 12 := by rw [show (some (1 : Int)) = some ((1 : Nat) : Int) from rfl, cut_take, iD_take, iD_len]; omega
      omega
    · have : cutL (iD asks) none (some 1) = iD (asks.take 1) := by rw [show (some (1 : Int)) = some ((1 : Nat) : Int) from rfl, cut_take, iD_take]
      rw [this]; unfold iD; rw [List.map_append]
noncomputable abbrev nRf : List Str := ["way", "posts", "able", "there", "asks", "caught", "e"]
theorem scRf : FnScope nRf ["way", "posts", "able", "there", "asks"] (defScope s__law_refused) := ⟨rfl, rfl, rfl, by decide +kernel, rfl, by decide +kernel, by decide +kernel⟩
structure Cl13 (K : PySem.W.Frag) (mg : Str → Option Value) (cS cL c1 c2 c3 c4 c5 c6 c7 c8 c9 : Addr) : Prop where
  xc : L2.XCls K cS
  mL : mg "LeaveError" = some (.ref cL)
  ex : PySem.W.exmOne K (.ref cS) (.ref cL) = some true
  m1 : mg "Away" = some (.ref c1)
  m2 : mg "Full" = some (.ref c2)
  m3 : mg "NoAsk" = some (.ref c3)
  m4 : mg "NoDay" = some (.ref c4)
  m5 : mg "NoHand" = some (.ref c5)
  m6 : mg "NoHouse" = some (.ref c6)
  m7 : mg "NoPost" = some (.ref c7)
  m8 : mg "NoRow" = some (.ref c8)
  m9 : mg "Twice" = some (.ref c9)
  no : PySem.W.kitAny K (.ref cS) ([c1, c2, c3, c4, c5, c6, c7, c8, c9].map Value.ref) = some false
  y1 : PySem.W.kitOne K (.ref cS) (.ref cS) = some true
  y2 : PySem.W.kitOne K (.ref cS) (.type "ValueError") = some true
theorem ok_rf {cL c1 c2 c3 c4 c5 c6 c7 c8 c9 : Addr} (hB : Blt mg) (hN : mg "Short" = some (.ref cS)) (hc : Cl13 K mg cS cL c1 c2 c3 c4 c5 c6 c7 c8 c9) (GK : FnX P w K mg base "_law_asked" 9 ["way", "posts", "able", "there", "asks"] (RAskd cS)) (F : Fun K "_law_refused" "_law_refused" s__law_refused f fd) (hm : mg "_law_refused" = some (.ref f)) (hb : Binds K fd ["way", "posts", "able", "there", "asks"] []) :
    Fn P w K mg base "_law_refused" 10 ["way", "posts", "able", "there", "asks"] (spP K RRf) := by
  refine fn_P (k := 9) F scRf hm hb (by rintro _ _ ⟨a, b, c, d, e, rfl, _⟩; rfl) fun cdv A outer s H E hr ds d hR => .inl ?_
  obtain ⟨way, n, able, there, asks, rfl, hw, hne, hk, rfl⟩ := hR
  refine sr_cons (s1_set 5 scRf.nd ev_non) ?_
  by_cases h0 : defi (eA able) there n = 0
  · rw [if_pos h0]
    refine sr_cons (s1_tryOk (sr_one (s1_exprD (ev_callX GK hr (by decide) rfl (ea_cons (ev_var 0 rfl) (ea_cons (ev_var 1 rfl) (ea_cons (ev_var 2 rfl) (ea_cons (ev_var 3 rfl) (ea_cons (ev_var 4 rfl) ea_nil))))) ⟨way, n, able, there, asks, rfl, hw, hne, hk, by rw [if_pos h0]⟩)))) ?_
    exact sr_if_out (k := true) (et_eq (et_isN (ev_var 5 rfl)) rfl) (fun _ => sr_one (s1_ret ev_str)) (fun z => nomatch z)
  · rw [if_neg h0]
    refine sr_cons (s1_tryAs 6 (C := cS) (fun E' => sx_here (x_expr (er_call GK hr (by decide) rfl (ea_cons (ev_var 0 rfl) (ea_cons (ev_var 1 rfl) (ea_cons (ev_var 2 rfl) (ea_cons (ev_var 3 rfl) (ea_cons (ev_var 4 rfl) ea_nil))))) ⟨way, n, able, there, asks, rfl, hw, hne, hk, by rw [if_neg h0]⟩))) (fun e' E' => sr_one (s1_set 5 scRf.nd (ev_var 6 rfl))) hc.ex hc.mL rfl scRf.nd) ?_
    refine sr_skip (et_eq (et_isN (ev_var 5 rfl)) rfl) ?_
    refine sr_skip (et_val (ev_isiT rfl hB.isinstance (ev_var 5 rfl) hc.xc (.cons rfl hc.m1 (.cons rfl hc.m2 (.cons rfl hc.m3 (.cons rfl hc.m4 (.cons rfl hc.m5 (.cons rfl hc.m6 (.cons rfl hc.m7 (.cons rfl hc.m8 (.cons rfl hc.m9 .nil))))))))) hc.no)) ?_
    exact sr_one (s1_ret (ev_ix (ev_f (ef_list (ea_cons ev_str (ea_cons ev_str ea_nil)))) (ev_intB rfl hB.int (ev_and (k := true) (m := true) (ev_isiC rfl hB.isinstance (ev_var 5 rfl) hc.xc rfl hN hc.y1) (fun _ => ev_one (ev_isiV (T := "ValueError") rfl hB.isinstance (ev_var 5 rfl) hc.xc rfl hB.ValueError (by decide +kernel) hc.y2)))) (by decide) rfl))
end
end Kx
end
section
namespace Kx
open PySem PySem.Spec PyProof.Rows L2 L3 Mt
section
variable {P : Program} {w : World} {K : PySem.W.Frag} {mg : Str → Option Value} {base : Heap} {f : Addr} {fd : FuncData}
noncomputable abbrev nLaw : List Str := ["script", "order", "posts", "able", "there", "asks", "due", "handed", "way", "some"]
theorem scLaw : FnScope nLaw ["script"] (defScope sLaw) := ⟨rfl, rfl, rfl, by decide +kernel, rfl, by decide +kernel, by decide +kernel⟩
noncomputable def waysN (asks : List Int) : Nat := 7 + if asks = [] then 0 else 1
theorem ok_law (hB : Blt mg) (GC : Fn P w K mg base "_law_cell_at" 1 ["script", "k"] (spP K RCell)) (GTh : Fn P w K mg base "_law_there" 3 ["script"] (spL K RThere)) (GA : Fn P w K mg base "_law_able" 3 ["script", "posts", "order"] (spL K RAbleL)) (GAs : Fn P w K mg base "_law_asks" 3 ["script", "there"] (spL K RAsks)) (GM : Fn P w K mg base "_law_mans" 16 ["posts", "able", "hands"] (spP K RMs))
    (GR : Fn P w K mg base "_law_refused" 10 ["way", "posts", "able", "there", "asks"] (spP K RRf)) (F : Fun K "law" "law" sLaw f fd) : FnOk P w K mg base CX0 19 f fd ["script"] (spLaw K) := by
  refine fn_law (k := 18) F scLaw fun cdv A outer s H E hr ns h63 => ?_
  have h12 := many12 ns
  have htl := there_len ns
  have htn := there_nd ns
  have htm := there_lt ns
  have hn12 := n17_le ns
  have h2a := Int.emod_nonneg (cellAt ns 0) (show (2 : Int) ≠ 0 by decide)
  have h2b := Int.emod_lt_of_pos (cellAt ns 0) (show (0 : Int) < 2 by decide)
  have h13 := Int.emod_nonneg (cellAt ns 0 / 2) (show (13 : Int) ≠ 0 by decide)
  have e1 : ((n17 ns : Nat) : Int) = cellAt ns 0 / 2 % 13 := by unfold n17; omega
  have ol : (o17 ns).length ≤ 12 := by
    unfold o17
    split
    · exact Nat.zero_le _
    · omega
  have sn : (sortI (thereOf ns)).Nodup := sort_nd htn
  have sl : (sortI (thereOf ns)).length ≤ 12 := by rw [(sortI_perm _).length_eq]; omega
  have hX : AskX (n17 ns) (ableOf ns (n17 ns) (o17 ns)) (sortI (thereOf ns)) (asksOf ns (sortI (thereOf ns))) := ⟨⟨good_able (by omega) (by omega) fun h hh => htm h (mem_sortI'.mp hh), nn_able _ _ _, sn, hn12, sl⟩, asks_nd ns sn, asks_sub ns sn⟩
  refine sr_cons (s1_set 1 scLaw.nd (ev_f (ef_call GTh hr (by decide) rfl (ea_cons (ev_var 0 rfl) ea_nil) ⟨ns, rfl, h63, rfl⟩))) ?_
  refine sr_cons (s1_set 2 scLaw.nd (ev_eq (ev_mod (ev_fdiv (ev_call GC hr (by decide) rfl (ea_cons (ev_var 0 rfl) (ea_cons (ev_int (i := 0)) ea_nil)) ⟨ns, 0, rfl, rfl⟩) ev_int ⟨by decide, by decide⟩) ev_int (by decide)) (congrArg PyData.int e1.symm))) ?_
  refine sr_cons (s1_set 3 scLaw.nd (ev_f (ef_call GA hr (by decide) rfl (ea_cons (ev_var 0 rfl) (ea_cons (ev_var 2 rfl) (ea_cons (ev_eq (d' := .list (iD (o17 ns))) (ev_f (ef_rep (n := cellAt ns 0 % 2) (ev_var 1 rfl) (ev_mod (ev_call GC hr (by decide) rfl (ea_cons (ev_var 0 rfl) (ea_cons (ev_int (i := 0)) ea_nil)) ⟨ns, 0, rfl, rfl⟩) ev_int (by decide)) h2a ?_ (by omega))) ?_) ea_nil))) ⟨ns, n17 ns, o17 ns, rfl, h63, by omega, by omega, rfl⟩))) ?_
  · rw [iD_len]
    have : (cellAt ns 0 % 2).toNat ≤ 1 := by omega
    have := Nat.mul_le_mul_left (thereOf ns).length this
    omega
  · rw [rep_one _ h2a h2b]
    unfold o17
    split <;> rfl
  refine sr_cons (s1_set 4 scLaw.nd (ev_f (ef_sorted rfl hB.sorted (ev_var 1 rfl) (by omega)))) ?_
  refine sr_cons (s1_set 5 scLaw.nd (ev_f (ef_call GAs hr (by decide) rfl (ea_cons (ev_var 0 rfl) (ea_cons (ev_var 4 rfl) ea_nil)) ⟨ns, sortI (thereOf ns), rfl, h63, by omega, fun h hh => htm h ((sortI_perm _).mem_iff.mp hh), rfl⟩))) ?_
  generalize asksOf ns (sortI (thereOf ns)) = asks at *
  generalize sortI (thereOf ns) = there at *
  generalize ableOf ns (n17 ns) (o17 ns) = able at *
  generalize n17 ns = n at *
  have hal := hX.len
  have hla := hX.day.g.la
  have hms : MsOk n able there := by have := hX.day.less []; rwa [less_nil] at this
  have hlayH : PyData.canLay0 (.list [.list (rwD able), .list (iD there), .list (iD asks)]) = true := by
    show (PyData.canLayAll0 (rwD able) && (PyData.canLayAll0 (iD there) && (PyData.canLayAll0 (iD asks) && true))) = true
    rw [lay_rwD, lay_iD, lay_iD]; rfl
  have hsH : Sm (.list [.list (rwD able), .list (iD there), .list (iD asks)]) := ⟨hlayH, by
    show max (PyData.depthAll (rwD able) + 1) (max (PyData.depthAll (iD there) + 1) (max (PyData.depthAll (iD asks) + 1) 0)) + 1 ≤ 20
    have h1 := dep_rwD able
    have h2 := dep_iD there
    have h3 := dep_iD asks
    omega⟩
  refine sr_cons (s1_set 6 scLaw.nd (ev_ix (d := .str (if defi (eA able) there n = 0 then "told" else "short")) (ev_f (ef_list (ea_cons ev_str (ea_cons ev_str ea_nil)))) (ev_intB rfl hB.int (ev_call GM hr (by decide) rfl (ea_cons (ev_var 2 rfl) (ea_cons (ev_var 3 rfl) (ea_cons (ev_var 4 rfl) ea_nil))) ⟨n, able, there, rfl, hms, rfl⟩)) (by split <;> decide) ?_)) ?_
  · by_cases h0 : defi (eA able) there n = 0
    · rw [decide_eq_true h0, if_pos h0]; rfl
    · rw [decide_eq_false h0, if_neg h0]; rfl
  refine sr_cons (s1_set 7 scLaw.nd (ev_eq (d' := .list [.list (rwD able), .list (iD there), .list (iD asks)]) (ev_f (ef_list (ea_cons (ev_f (ef_map 9 rowD able rowD rfl (cs_mk (defScope sLaw) nLaw rfl rfl (by decide +kernel)) scLaw.nd (ei_rows (ev_var 3 rfl)) (by omega) (fun C s2 H2 fp t ht => ev_f (ef_listOf rfl hB.list (ev_var 9 rfl))))) (ea_cons (ev_f (ef_listOf rfl hB.list (ev_var 4 rfl))) (ea_cons (ev_f (ef_listOf rfl hB.list (ev_var 5 rfl))) ea_nil))))) rfl)) ?_
  have hwn : waysN asks ≤ 8 := by unfold waysN; split <;> omega
  refine sr_after (s1_forR 8 (fun _ : Unit => [.sh (scr ns), .sh (.list (iD (thereOf ns))), .sh (.int n), .sh (.list (rwD able)), .sh (.list (iD there)), .sh (.list (iD asks)), .sh (.str (if defi (eA able) there n = 0 then "told" else "short")), .sh (.list [.list (rwD able), .list (iD there), .list (iD asks)]), .no, .no]) PyData.int (rgI 0 (waysN asks)) (fun _ _ => .nx ()) (fun _ _ => True) (s0 := ()) PassesOwn.never rfl scLaw.nd (ei_rangeN (n := waysN asks) rfl hB.range (ev_eq (ev_add (ev_int (i := 7)) (ev_intB rfl hB.int (ev_neD hr (ev_var 5 rfl) (ev_f (ef_list ea_nil)) (sm_iD _) rfl))) ?_) (by omega)) trivial (fun m c _ hm _ => ?_) (fun _ _ _ _ _ _ _ => trivial)) ?_
  · have e : PyData.eqv (.list (iD asks)) (.list []) = decide (asks = []) := eqv_iD asks []
    rw [e]
    unfold waysN
    by_cases z : asks = []
    · rw [if_pos z, decide_eq_true z]; rfl
    · rw [if_neg z, decide_eq_false z]; rfl
  · have hc := mem_rgI.mp (List.mem_of_getElem? hm)
    obtain ⟨wy, rfl⟩ : ∃ k : Nat, c = (k : Int) := ⟨c.toNat, by omega⟩
    have hw7 : wy ≤ 7 := by omega
    have hne : wy = 7 → asks ≠ [] := fun z y => by
      subst z
      unfold waysN at hc
      rw [if_pos y] at hc; omega
    have hlw : ∀ b : Bool, (PyData.str (if b = true then "told" else "short")).canLay0 = true := fun b => by cases b <;> decide +kernel
    have hsl : (PyData.str (if defi (eA able) there n = 0 then "told" else "short")).canLay0 = true := by
      by_cases h0 : defi (eA able) there n = 0
      · rw [if_pos h0]; decide +kernel
      · rw [if_neg h0]; decide +kernel
    exact ⟨_, sr_skip (et_eq (et_neD hr (ev_call GR hr (by decide) rfl (ea_cons (ev_var 8 rfl) (ea_cons (ev_var 2 rfl) (ea_cons (ev_ix (ev_var 7 rfl) ev_int (by decide) rfl) (ea_cons (ev_ix (ev_var 7 rfl) ev_int (by decide) rfl) (ea_cons (ev_ix (ev_var 7 rfl) ev_int (by decide) rfl) ea_nil))))) ⟨wy, n, able, there, asks, rfl, hw7, hne, hX, rfl⟩) (ev_var 6 rfl) ⟨hsl, by show 0 ≤ 20; decide⟩ hsl) (by rw [eqv_str, decide_eq_true rfl]; rfl)) sr_nil, .keep (.keep (.keep (.keep (.keep (.keep (.keep (.keep (.lose (.keep .nil)))))))))⟩
  · rw [loopR_fold (fun _ _ => ())]
    refine sr_eq (sr_one (s1_ret (ev_eqD hr (ev_var 7 rfl) (ev_f (ef_list (ea_cons (ev_var 3 rfl) (ea_cons (ev_var 4 rfl) (ea_cons (ev_var 5 rfl) ea_nil))))) hsH hlayH))) ?_
    rw [SeqAt.eqv_refl _ hlayH]
end
end Kx
end
section
namespace Kx
open PySem PySem.Spec PyProof.Rows L2
@[elab_as_elim] theorem ar1 {α : Type} {P : List α → Prop} : ∀ (us : List α), us.length = 1 → (∀ x0, P [x0]) → P us
  | [x0], _, k => k x0
@[elab_as_elim] theorem ar2 {α : Type} {P : List α → Prop} : ∀ (us : List α), us.length = 2 → (∀ x0 x1, P [x0, x1]) → P us
  | [x0, x1], _, k => k x0 x1
@[elab_as_elim] theorem ar3 {α : Type} {P : List α → Prop} : ∀ (us : List α), us.length = 3 → (∀ x0 x1 x2, P [x0, x1, x2]) → P us
  | [x0, x1, x2], _, k => k x0 x1 x2
@[elab_as_elim] theorem ar4 {α : Type} {P : List α → Prop} : ∀ (us : List α), us.length = 4 → (∀ x0 x1 x2 x3, P [x0, x1, x2, x3]) → P us
  | [x0, x1, x2, x3], _, k => k x0 x1 x2 x3
@[elab_as_elim] theorem ar5 {α : Type} {P : List α → Prop} : ∀ (us : List α), us.length = 5 → (∀ x0 x1 x2 x3 x4, P [x0, x1, x2, x3, x4]) → P us
  | [x0, x1, x2, x3, x4], _, k => k x0 x1 x2 x3 x4
theorem all_mk {l : PySem.W.OpenLaw} {w : World} {K : PySem.W.Frag} {h : Heap} {mg : Str → Option Value} {fa f1 f2 f3 f4 f5 f6 f7 f8 f9 f10 f11 f12 f13 f14 f15 f16 f17 f18 f19 f20 f21 f22 f23 f24 f25 f26 f27 f28 f29 : Addr} (X : K.In h) (G : h.Ns mainGlobals mg) (hfa : mg "law" = some (.ref fa))
    {od1 an1 od2 an2 od3 an3 od4 an4 od5 an5 od6 an6 od7 an7 od8 an8 od9 an9 od10 an10 od11 an11 od12 an12 od13 an13 od14 an14 od15 an15 od16 an16 od17 an17 od18 an18 od19 an19 od20 an20 od21 an21 od22 an22 od23 an23 od24 an24 od25 an25 od26 an26 od27 an27 od28 an28 od29 an29 : Option Addr} {sl1 sl2 sl3 sl4 sl5 sl6 sl7 sl8 sl9 sl10 sl11 sl12 sl13 sl14 sl15 sl16 sl17 sl18 sl19 sl20 sl21 sl22 sl23 sl24 sl25 sl26 sl27 sl28 sl29 : Array (Option Value)} {oc1 kV1 dc1 pm1 cd1 ct1 oc2 kV2 dc2 pm2 cd2 ct2 oc3 kV3 dc3 pm3 cd3 ct3 oc4 kV4 dc4 pm4 cd4 ct4 oc5 kV5 dc5 pm5 cd5 ct5 oc6 kV6 dc6 pm6 cd6 ct6 oc7 kV7 dc7 pm7 cd7 ct7 oc8 kV8 dc8 pm8 cd8 ct8 oc9 kV9 dc9 pm9 cd9 ct9 oc10 kV10 dc10 pm10 cd10 ct10 oc11 kV11 dc11 pm11 cd11 ct11 oc12 kV12 dc12 pm12 cd12 ct12 oc13 kV13 dc13 pm13 cd13 ct13 oc14 kV14 dc14 pm14 cd14 ct14 oc15 kV15 dc15 pm15 cd15 ct15 oc16 kV16 dc16 pm16 cd16 ct16 oc17 kV17 dc17 pm17 cd17 ct17 oc18 kV18 dc18 pm18 cd18 ct18 oc19 kV19 dc19 pm19 cd19 ct19 oc20 kV20 dc20 pm20 cd20 ct20 oc21 kV21 dc21 pm21 cd21 ct21 oc22 kV22 dc22 pm22 cd22 ct22 oc23 kV23 dc23 pm23 cd23 ct23 oc24 kV24 dc24 pm24 cd24 ct24 oc25 kV25 dc25 pm25 cd25 ct25 oc26 kV26 dc26 pm26 cd26 ct26 oc27 kV27 dc27 pm27 cd27 ct27 oc28 kV28 dc28 pm28 cd28 ct28 oc29 kV29 dc29 pm29 cd29 ct29 : Value}
    (a1 : PySem.W.nsIn K mainGlobals "ways_from" = some (some (.ref f1))) (l1 : K.lookup f1 = some ⟨oc1, od1, .func (PySem.W.fnOf "ways_from" "ways_from" (defArgs sWays) (defBody sWays) (defScope sWays) .none kV1 dc1 pm1 an1 cd1 ct1), sl1⟩) (c1 : PySem.W.codeIn K cd1 "ways_from" = true) (k1 : PySem.W.keepIn K (.ref f1) = true)
    (a2 : PySem.W.nsIn K mainGlobals "move_along" = some (some (.ref f2))) (l2 : K.lookup f2 = some ⟨oc2, od2, .func (PySem.W.fnOf "move_along" "move_along" (defArgs sMove) (defBody sMove) (defScope sMove) .none kV2 dc2 pm2 an2 cd2 ct2), sl2⟩) (c2 : PySem.W.codeIn K cd2 "move_along" = true) (k2 : PySem.W.keepIn K (.ref f2) = true)
    (a3 : PySem.W.nsIn K mainGlobals "man_post" = some (some (.ref f3))) (l3 : K.lookup f3 = some ⟨oc3, od3, .func (PySem.W.fnOf "man_post" "man_post" (defArgs sMan) (defBody sMan) (defScope sMan) .none kV3 dc3 pm3 an3 cd3 ct3), sl3⟩) (c3 : PySem.W.codeIn K cd3 "man_post" = true) (k3 : PySem.W.keepIn K (.ref f3) = true)
    (a4 : PySem.W.nsIn K mainGlobals "lacking_from" = some (some (.ref f4))) (l4 : K.lookup f4 = some ⟨oc4, od4, .func (PySem.W.fnOf "lacking_from" "lacking_from" (defArgs sLacking) (defBody sLacking) (defScope sLacking) .none kV4 dc4 pm4 an4 cd4 ct4), sl4⟩) (c4 : PySem.W.codeIn K cd4 "lacking_from" = true) (k4 : PySem.W.keepIn K (.ref f4) = true)
    (a5 : PySem.W.nsIn K mainGlobals "manning_of" = some (some (.ref f5))) (l5 : K.lookup f5 = some ⟨oc5, od5, .func (PySem.W.fnOf "manning_of" "manning_of" (defArgs sMng) (defBody sMng) (defScope sMng) .none kV5 dc5 pm5 an5 cd5 ct5), sl5⟩) (c5 : PySem.W.codeIn K cd5 "manning_of" = true) (k5 : PySem.W.keepIn K (.ref f5) = true)
    (a6 : PySem.W.nsIn K mainGlobals "without" = some (some (.ref f6))) (l6 : K.lookup f6 = some ⟨oc6, od6, .func (PySem.W.fnOf "without" "without" (defArgs s_without) (defBody s_without) (defScope s_without) .none kV6 dc6 pm6 an6 cd6 ct6), sl6⟩) (c6 : PySem.W.codeIn K cd6 "without" = true) (k6 : PySem.W.keepIn K (.ref f6) = true)
    (a7 : PySem.W.nsIn K mainGlobals "may_go" = some (some (.ref f7))) (l7 : K.lookup f7 = some ⟨oc7, od7, .func (PySem.W.fnOf "may_go" "may_go" (defArgs sMay) (defBody sMay) (defScope sMay) .none kV7 dc7 pm7 an7 cd7 ct7), sl7⟩) (c7 : PySem.W.codeIn K cd7 "may_go" = true) (k7 : PySem.W.keepIn K (.ref f7) = true)
    (a8 : PySem.W.nsIn K mainGlobals "refuse_short" = some (some (.ref f8))) (l8 : K.lookup f8 = some ⟨oc8, od8, .func (PySem.W.fnOf "refuse_short" "refuse_short" (defArgs s_refuse_short) (defBody s_refuse_short) (defScope s_refuse_short) .none kV8 dc8 pm8 an8 cd8 ct8), sl8⟩) (c8 : PySem.W.codeIn K cd8 "refuse_short" = true) (k8 : PySem.W.keepIn K (.ref f8) = true)
    (a9 : PySem.W.nsIn K mainGlobals "grant" = some (some (.ref f9))) (l9 : K.lookup f9 = some ⟨oc9, od9, .func (PySem.W.fnOf "grant" "grant" (defArgs sGrant) (defBody sGrant) (defScope sGrant) .none kV9 dc9 pm9 an9 cd9 ct9), sl9⟩) (c9 : PySem.W.codeIn K cd9 "grant" = true) (k9 : PySem.W.keepIn K (.ref f9) = true)
    (a10 : PySem.W.nsIn K mainGlobals "stands_at_one" = some (some (.ref f10))) (l10 : K.lookup f10 = some ⟨oc10, od10, .func (PySem.W.fnOf "stands_at_one" "stands_at_one" (defArgs sOne) (defBody sOne) (defScope sOne) .none kV10 dc10 pm10 an10 cd10 ct10), sl10⟩) (c10 : PySem.W.codeIn K cd10 "stands_at_one" = true) (k10 : PySem.W.keepIn K (.ref f10) = true)
    (a11 : PySem.W.nsIn K mainGlobals "able_for" = some (some (.ref f11))) (l11 : K.lookup f11 = some ⟨oc11, od11, .func (PySem.W.fnOf "able_for" "able_for" (defArgs sAble) (defBody sAble) (defScope sAble) .none kV11 dc11 pm11 an11 cd11 ct11), sl11⟩) (c11 : PySem.W.codeIn K cd11 "able_for" = true) (k11 : PySem.W.keepIn K (.ref f11) = true)
    (a12 : PySem.W.nsIn K mainGlobals "there_at_turn" = some (some (.ref f12))) (l12 : K.lookup f12 = some ⟨oc12, od12, .func (PySem.W.fnOf "there_at_turn" "there_at_turn" (defArgs s_there_at_turn) (defBody s_there_at_turn) (defScope s_there_at_turn) .none kV12 dc12 pm12 an12 cd12 ct12), sl12⟩) (c12 : PySem.W.codeIn K cd12 "there_at_turn" = true) (k12 : PySem.W.keepIn K (.ref f12) = true)
    (a13 : PySem.W.nsIn K mainGlobals "refusal_paper" = some (some (.ref f13))) (l13 : K.lookup f13 = some ⟨oc13, od13, .func (PySem.W.fnOf "refusal_paper" "refusal_paper" (defArgs s_refusal_paper) (defBody s_refusal_paper) (defScope s_refusal_paper) .none kV13 dc13 pm13 an13 cd13 ct13), sl13⟩) (c13 : PySem.W.codeIn K cd13 "refusal_paper" = true) (k13 : PySem.W.keepIn K (.ref f13) = true)
    (a14 : PySem.W.nsIn K mainGlobals "paper_of" = some (some (.ref f14))) (l14 : K.lookup f14 = some ⟨oc14, od14, .func (PySem.W.fnOf "paper_of" "paper_of" (defArgs sPaper) (defBody sPaper) (defScope sPaper) .none kV14 dc14 pm14 an14 cd14 ct14), sl14⟩) (c14 : PySem.W.codeIn K cd14 "paper_of" = true) (k14 : PySem.W.keepIn K (.ref f14) = true)
    (a15 : PySem.W.nsIn K mainGlobals "posts_shown" = some (some (.ref f15))) (l15 : K.lookup f15 = some ⟨oc15, od15, .func (PySem.W.fnOf "posts_shown" "posts_shown" (defArgs s_posts_shown) (defBody s_posts_shown) (defScope s_posts_shown) .none kV15 dc15 pm15 an15 cd15 ct15), sl15⟩) (c15 : PySem.W.codeIn K cd15 "posts_shown" = true) (k15 : PySem.W.keepIn K (.ref f15) = true)
    (a16 : PySem.W.nsIn K mainGlobals "bound_of" = some (some (.ref f16))) (l16 : K.lookup f16 = some ⟨oc16, od16, .func (PySem.W.fnOf "bound_of" "bound_of" (defArgs sBound) (defBody sBound) (defScope sBound) .none kV16 dc16 pm16 an16 cd16 ct16), sl16⟩) (c16 : PySem.W.codeIn K cd16 "bound_of" = true) (k16 : PySem.W.keepIn K (.ref f16) = true)
    (a17 : PySem.W.nsIn K mainGlobals "is_granting" = some (some (.ref f17))) (l17 : K.lookup f17 = some ⟨oc17, od17, .func (PySem.W.fnOf "is_granting" "is_granting" (defArgs sIsG) (defBody sIsG) (defScope sIsG) .none kV17 dc17 pm17 an17 cd17 ct17), sl17⟩) (c17 : PySem.W.codeIn K cd17 "is_granting" = true) (k17 : PySem.W.keepIn K (.ref f17) = true)
    (a18 : PySem.W.nsIn K mainGlobals "_law_cell_at" = some (some (.ref f18))) (l18 : K.lookup f18 = some ⟨oc18, od18, .func (PySem.W.fnOf "_law_cell_at" "_law_cell_at" (defArgs sCell) (defBody sCell) (defScope sCell) .none kV18 dc18 pm18 an18 cd18 ct18), sl18⟩) (c18 : PySem.W.codeIn K cd18 "_law_cell_at" = true) (k18 : PySem.W.keepIn K (.ref f18) = true)
    (a19 : PySem.W.nsIn K mainGlobals "_law_tossed" = some (some (.ref f19))) (l19 : K.lookup f19 = some ⟨oc19, od19, .func (PySem.W.fnOf "_law_tossed" "_law_tossed" (defArgs sToss) (defBody sToss) (defScope sToss) .none kV19 dc19 pm19 an19 cd19 ct19), sl19⟩) (c19 : PySem.W.codeIn K cd19 "_law_tossed" = true) (k19 : PySem.W.keepIn K (.ref f19) = true)
    (a20 : PySem.W.nsIn K mainGlobals "_law_dealt" = some (some (.ref f20))) (l20 : K.lookup f20 = some ⟨oc20, od20, .func (PySem.W.fnOf "_law_dealt" "_law_dealt" (defArgs sDealt) (defBody sDealt) (defScope sDealt) .none kV20 dc20 pm20 an20 cd20 ct20), sl20⟩) (c20 : PySem.W.codeIn K cd20 "_law_dealt" = true) (k20 : PySem.W.keepIn K (.ref f20) = true)
    (a21 : PySem.W.nsIn K mainGlobals "_law_hands" = some (some (.ref f21))) (l21 : K.lookup f21 = some ⟨oc21, od21, .func (PySem.W.fnOf "_law_hands" "_law_hands" (defArgs sHands) (defBody sHands) (defScope sHands) .none kV21 dc21 pm21 an21 cd21 ct21), sl21⟩) (c21 : PySem.W.codeIn K cd21 "_law_hands" = true) (k21 : PySem.W.keepIn K (.ref f21) = true)
    (a22 : PySem.W.nsIn K mainGlobals "_law_there" = some (some (.ref f22))) (l22 : K.lookup f22 = some ⟨oc22, od22, .func (PySem.W.fnOf "_law_there" "_law_there" (defArgs sThere) (defBody sThere) (defScope sThere) .none kV22 dc22 pm22 an22 cd22 ct22), sl22⟩) (c22 : PySem.W.codeIn K cd22 "_law_there" = true) (k22 : PySem.W.keepIn K (.ref f22) = true)
    (a23 : PySem.W.nsIn K mainGlobals "_law_able" = some (some (.ref f23))) (l23 : K.lookup f23 = some ⟨oc23, od23, .func (PySem.W.fnOf "_law_able" "_law_able" (defArgs sAbleL) (defBody sAbleL) (defScope sAbleL) .none kV23 dc23 pm23 an23 cd23 ct23), sl23⟩) (c23 : PySem.W.codeIn K cd23 "_law_able" = true) (k23 : PySem.W.keepIn K (.ref f23) = true)
    (a24 : PySem.W.nsIn K mainGlobals "_law_asks" = some (some (.ref f24))) (l24 : K.lookup f24 = some ⟨oc24, od24, .func (PySem.W.fnOf "_law_asks" "_law_asks" (defArgs sAsks) (defBody sAsks) (defScope sAsks) .none kV24 dc24 pm24 an24 cd24 ct24), sl24⟩) (c24 : PySem.W.codeIn K cd24 "_law_asks" = true) (k24 : PySem.W.keepIn K (.ref f24) = true)
    (a25 : PySem.W.nsIn K mainGlobals "_law_seated" = some (some (.ref f25))) (l25 : K.lookup f25 = some ⟨oc25, od25, .func (PySem.W.fnOf "_law_seated" "_law_seated" (defArgs sSeated) (defBody sSeated) (defScope sSeated) .none kV25 dc25 pm25 an25 cd25 ct25), sl25⟩) (c25 : PySem.W.codeIn K cd25 "_law_seated" = true) (k25 : PySem.W.keepIn K (.ref f25) = true)
    (a26 : PySem.W.nsIn K mainGlobals "_law_mans" = some (some (.ref f26))) (l26 : K.lookup f26 = some ⟨oc26, od26, .func (PySem.W.fnOf "_law_mans" "_law_mans" (defArgs sMans) (defBody sMans) (defScope sMans) .none kV26 dc26 pm26 an26 cd26 ct26), sl26⟩) (c26 : PySem.W.codeIn K cd26 "_law_mans" = true) (k26 : PySem.W.keepIn K (.ref f26) = true)
    (a27 : PySem.W.nsIn K mainGlobals "_law_asked" = some (some (.ref f27))) (l27 : K.lookup f27 = some ⟨oc27, od27, .func (PySem.W.fnOf "_law_asked" "_law_asked" (defArgs s__law_asked) (defBody s__law_asked) (defScope s__law_asked) .none kV27 dc27 pm27 an27 cd27 ct27), sl27⟩) (c27 : PySem.W.codeIn K cd27 "_law_asked" = true) (k27 : PySem.W.keepIn K (.ref f27) = true)
    (a28 : PySem.W.nsIn K mainGlobals "_law_refused" = some (some (.ref f28))) (l28 : K.lookup f28 = some ⟨oc28, od28, .func (PySem.W.fnOf "_law_refused" "_law_refused" (defArgs s__law_refused) (defBody s__law_refused) (defScope s__law_refused) .none kV28 dc28 pm28 an28 cd28 ct28), sl28⟩) (c28 : PySem.W.codeIn K cd28 "_law_refused" = true) (k28 : PySem.W.keepIn K (.ref f28) = true)
    (a29 : PySem.W.nsIn K mainGlobals "law" = some (some (.ref f29))) (l29 : K.lookup f29 = some ⟨oc29, od29, .func (PySem.W.fnOf "law" "law" (defArgs sLaw) (defBody sLaw) (defScope sLaw) .none kV29 dc29 pm29 an29 cd29 ct29), sl29⟩) (c29 : PySem.W.codeIn K cd29 "law" = true) (k29 : PySem.W.keepIn K (.ref f29) = true)
    {c_Short c_LeaveError c_Away c_Full c_NoAsk c_NoDay c_NoHand c_NoHouse c_NoPost c_NoRow c_Twice : Addr}
    (cC_Short : PySem.W.nsIn K mainGlobals "Short" = some (some (.ref c_Short)))
    (cC_LeaveError : PySem.W.nsIn K mainGlobals "LeaveError" = some (some (.ref c_LeaveError)))
    (cC_Away : PySem.W.nsIn K mainGlobals "Away" = some (some (.ref c_Away)))
    (cC_Full : PySem.W.nsIn K mainGlobals "Full" = some (some (.ref c_Full)))
    (cC_NoAsk : PySem.W.nsIn K mainGlobals "NoAsk" = some (some (.ref c_NoAsk)))
    (cC_NoDay : PySem.W.nsIn K mainGlobals "NoDay" = some (some (.ref c_NoDay)))
    (cC_NoHand : PySem.W.nsIn K mainGlobals "NoHand" = some (some (.ref c_NoHand)))
    (cC_NoHouse : PySem.W.nsIn K mainGlobals "NoHouse" = some (some (.ref c_NoHouse)))
    (cC_NoPost : PySem.W.nsIn K mainGlobals "NoPost" = some (some (.ref c_NoPost)))
    (cC_NoRow : PySem.W.nsIn K mainGlobals "NoRow" = some (some (.ref c_NoRow)))
    (cC_Twice : PySem.W.nsIn K mainGlobals "Twice" = some (some (.ref c_Twice)))
    (cE_NoAsk : PySem.W.excIn K c_NoAsk [.type "ValueError", .type "Exception", .type "BaseException", .type "object"] "ValueError.__new__" = true)
    (cE_Short : PySem.W.excIn K c_Short [.type "ValueError", .type "Exception", .type "BaseException", .type "object"] "ValueError.__new__" = true)
    (xga_Short : PySem.W.findIn K (.ref c_Short) "__getattribute__" = some (some (.builtin "BaseException.__getattribute__")))
    (xgt_Short : PySem.W.findIn K (.ref c_Short) "__getattr__" = some none)
    (xcl_Short : PySem.W.findIn K (.ref c_Short) "__class__" = some (some (.builtin "object.__class__")))
    (xob_Short : PySem.W.mroIn K c_Short (.type "object") = some true)
    (xbx_Short : PySem.W.mroIn K c_Short (.type "BaseException") = some true)
    (xhd_Short : PySem.W.hasDictIn K c_Short = true)
    (xsp : PySem.W.specialIn K (.builtin "object.__class__") "__get__" = some (some (.builtin "getset_descriptor.__get__"))) (xtk : PySem.W.takesIn K (.builtin "object.__class__") = some true)
    (h_ex : PySem.W.exmOne K (.ref c_Short) (.ref c_LeaveError) = some true)
    (h_no : PySem.W.kitAny K (.ref c_Short) [.ref c_Away, .ref c_Full, .ref c_NoAsk, .ref c_NoDay, .ref c_NoHand, .ref c_NoHouse, .ref c_NoPost, .ref c_NoRow, .ref c_Twice] = some false)
    (h_y1 : PySem.W.kitOne K (.ref c_Short) (.ref c_Short) = some true)
    (h_y2 : PySem.W.kitOne K (.ref c_Short) (.type "ValueError") = some true)
    (z1 : PySem.W.nsIn K mainGlobals "len" = some none)
    (z2 : PySem.W.nsIn K mainGlobals "list" = some none)
    (z3 : PySem.W.nsIn K mainGlobals "range" = some none)
    (z4 : PySem.W.nsIn K mainGlobals "any" = some none)
    (z5 : PySem.W.nsIn K mainGlobals "all" = some none)
    (z6 : PySem.W.nsIn K mainGlobals "isinstance" = some none)
    (z7 : PySem.W.nsIn K mainGlobals "int" = some none)
    (z8 : PySem.W.nsIn K mainGlobals "bool" = some none)
    (z9 : PySem.W.nsIn K mainGlobals "max" = some none)
    (z10 : PySem.W.nsIn K mainGlobals "min" = some none)
    (z11 : PySem.W.nsIn K mainGlobals "sorted" = some none)
    (z12 : PySem.W.nsIn K mainGlobals "tuple" = some none)
    (z13 : PySem.W.nsIn K mainGlobals "set" = some none)
    (z14 : PySem.W.nsIn K mainGlobals "enumerate" = some none)
    (z15 : PySem.W.nsIn K mainGlobals "sum" = some none)
    (z16 : PySem.W.nsIn K mainGlobals "str" = some none)
    (z17 : PySem.W.nsIn K mainGlobals "dict" = some none)
    (z18 : PySem.W.nsIn K mainGlobals "ValueError" = some none)
    : ∃ fd : FuncData, (∀ (s : Shared) (v : Value), BindsTo s fd ⟨[v], []⟩ [("script", v)]) ∧ ∀ base : Heap, K.In base → base.Ns mainGlobals mg → FnOk l.prog w K mg base CX0 19 fa fd ["script"] (spLaw K) := by
  have e := hfa.symm.trans (PySem.W.mg_of X G a29)
  cases e
  have F1 := fun_mk (st := sWays) l1 c1 k1
  have b1 := F1.binds (ps := ["able", "hands", "places", "starts"]) fun _ _ _ _ _ _ us hl => ar4 us hl (fun _ _ _ _ => rfl)
  have g1 := PySem.W.mg_of X G a1
  have F2 := fun_mk (st := sMove) l2 c2 k2
  have b2 := F2.binds (ps := ["places", "ways", "free"]) fun _ _ _ _ _ _ us hl => ar3 us hl (fun _ _ _ => rfl)
  have g2 := PySem.W.mg_of X G a2
  have F3 := fun_mk (st := sMan) l3 c3 k3
  have b3 := F3.binds (ps := ["able", "hands", "places", "post"]) fun _ _ _ _ _ _ us hl => ar4 us hl (fun _ _ _ _ => rfl)
  have g3 := PySem.W.mg_of X G a3
  have F4 := fun_mk (st := sLacking) l4 c4 k4
  have b4 := F4.binds (ps := ["able", "hands", "places", "bare"]) fun _ _ _ _ _ _ us hl => ar4 us hl (fun _ _ _ _ => rfl)
  have g4 := PySem.W.mg_of X G a4
  have F5 := fun_mk (st := sMng) l5 c5 k5
  have b5 := F5.binds (ps := ["posts", "able", "hands"]) fun _ _ _ _ _ _ us hl => ar3 us hl (fun _ _ _ => rfl)
  have g5 := PySem.W.mg_of X G a5
  have F6 := fun_mk (st := s_without) l6 c6 k6
  have b6 := F6.binds (ps := ["hands", "some"]) fun _ _ _ _ _ _ us hl => ar2 us hl (fun _ _ => rfl)
  have g6 := PySem.W.mg_of X G a6
  have F7 := fun_mk (st := sMay) l7 c7 k7
  have b7 := F7.binds (ps := ["posts", "able", "there", "away"]) fun _ _ _ _ _ _ us hl => ar4 us hl (fun _ _ _ _ => rfl)
  have g7 := PySem.W.mg_of X G a7
  have F8 := fun_mk (st := s_refuse_short) l8 c8 k8
  have b8 := F8.binds (ps := ["posts", "able", "there"]) fun _ _ _ _ _ _ us hl => ar3 us hl (fun _ _ _ => rfl)
  have g8 := PySem.W.mg_of X G a8
  have F9 := fun_mk (st := sGrant) l9 c9 k9
  have b9 := F9.binds (ps := ["posts", "able", "there", "asks"]) fun _ _ _ _ _ _ us hl => ar4 us hl (fun _ _ _ _ => rfl)
  have g9 := PySem.W.mg_of X G a9
  have F10 := fun_mk (st := sOne) l10 c10 k10
  have b10 := F10.binds (ps := ["row", "some"]) fun _ _ _ _ _ _ us hl => ar2 us hl (fun _ _ => rfl)
  have g10 := PySem.W.mg_of X G a10
  have F11 := fun_mk (st := sAble) l11 c11 k11
  have b11 := F11.binds (ps := ["able", "hands", "some"]) fun _ _ _ _ _ _ us hl => ar3 us hl (fun _ _ _ => rfl)
  have g11 := PySem.W.mg_of X G a11
  have F12 := fun_mk (st := s_there_at_turn) l12 c12 k12
  have b12 := F12.binds (ps := ["there", "asks", "granted", "hand"]) fun _ _ _ _ _ _ us hl => ar4 us hl (fun _ _ _ _ => rfl)
  have g12 := PySem.W.mg_of X G a12
  have F13 := fun_mk (st := s_refusal_paper) l13 c13 k13
  have b13 := F13.binds (ps := ["posts", "able", "there", "hand"]) fun _ _ _ _ _ _ us hl => ar4 us hl (fun _ _ _ _ => rfl)
  have g13 := PySem.W.mg_of X G a13
  have F14 := fun_mk (st := sPaper) l14 c14 k14
  have b14 := F14.binds (ps := ["posts", "able", "there", "asks", "hand"]) fun _ _ _ _ _ _ us hl => ar5 us hl (fun _ _ _ _ _ => rfl)
  have g14 := PySem.W.mg_of X G a14
  have F15 := fun_mk (st := s_posts_shown) l15 c15 k15
  have b15 := F15.binds (ps := ["posts", "able", "there", "asks"]) fun _ _ _ _ _ _ us hl => ar4 us hl (fun _ _ _ _ => rfl)
  have g15 := PySem.W.mg_of X G a15
  have F16 := fun_mk (st := sBound) l16 c16 k16
  have b16 := F16.binds (ps := ["posts", "able", "there", "asks"]) fun _ _ _ _ _ _ us hl => ar4 us hl (fun _ _ _ _ => rfl)
  have g16 := PySem.W.mg_of X G a16
  have F17 := fun_mk (st := sIsG) l17 c17 k17
  have b17 := F17.binds (ps := ["posts", "able", "there", "asks", "granted"]) fun _ _ _ _ _ _ us hl => ar5 us hl (fun _ _ _ _ _ => rfl)
  have g17 := PySem.W.mg_of X G a17
  have F18 := fun_mk (st := sCell) l18 c18 k18
  have b18 := F18.binds (ps := ["script", "k"]) fun _ _ _ _ _ _ us hl => ar2 us hl (fun _ _ => rfl)
  have g18 := PySem.W.mg_of X G a18
  have F19 := fun_mk (st := sToss) l19 c19 k19
  have b19 := F19.binds (ps := ["cell", "k"]) fun _ _ _ _ _ _ us hl => ar2 us hl (fun _ _ => rfl)
  have g19 := PySem.W.mg_of X G a19
  have F20 := fun_mk (st := sDealt) l20 c20 k20
  have b20 := F20.binds (ps := ["script", "hand", "step"]) fun _ _ _ _ _ _ us hl => ar3 us hl (fun _ _ _ => rfl)
  have g20 := PySem.W.mg_of X G a20
  have F21 := fun_mk (st := sHands) l21 c21 k21
  have b21 := F21.binds (ps := ["script"]) fun _ _ _ _ _ _ us hl => ar1 us hl (fun _ => rfl)
  have g21 := PySem.W.mg_of X G a21
  have F22 := fun_mk (st := sThere) l22 c22 k22
  have b22 := F22.binds (ps := ["script"]) fun _ _ _ _ _ _ us hl => ar1 us hl (fun _ => rfl)
  have g22 := PySem.W.mg_of X G a22
  have F23 := fun_mk (st := sAbleL) l23 c23 k23
  have b23 := F23.binds (ps := ["script", "posts", "order"]) fun _ _ _ _ _ _ us hl => ar3 us hl (fun _ _ _ => rfl)
  have g23 := PySem.W.mg_of X G a23
  have F24 := fun_mk (st := sAsks) l24 c24 k24
  have b24 := F24.binds (ps := ["script", "there"]) fun _ _ _ _ _ _ us hl => ar2 us hl (fun _ _ => rfl)
  have g24 := PySem.W.mg_of X G a24
  have F25 := fun_mk (st := sSeated) l25 c25 k25
  have b25 := F25.binds (ps := ["able", "hands", "post", "seats", "seen"]) fun _ _ _ _ _ _ us hl => ar5 us hl (fun _ _ _ _ _ => rfl)
  have g25 := PySem.W.mg_of X G a25
  have F26 := fun_mk (st := sMans) l26 c26 k26
  have b26 := F26.binds (ps := ["posts", "able", "hands"]) fun _ _ _ _ _ _ us hl => ar3 us hl (fun _ _ _ => rfl)
  have g26 := PySem.W.mg_of X G a26
  have F27 := fun_mk (st := s__law_asked) l27 c27 k27
  have b27 := F27.binds (ps := ["way", "posts", "able", "there", "asks"]) fun _ _ _ _ _ _ us hl => ar5 us hl (fun _ _ _ _ _ => rfl)
  have g27 := PySem.W.mg_of X G a27
  have F28 := fun_mk (st := s__law_refused) l28 c28 k28
  have b28 := F28.binds (ps := ["way", "posts", "able", "there", "asks"]) fun _ _ _ _ _ _ us hl => ar5 us hl (fun _ _ _ _ _ => rfl)
  have g28 := PySem.W.mg_of X G a28
  have F29 := fun_mk (st := sLaw) l29 c29 k29
  have hB : Blt mg := ⟨PySem.W.mg_none_of X G z1, PySem.W.mg_none_of X G z2, PySem.W.mg_none_of X G z3, PySem.W.mg_none_of X G z4, PySem.W.mg_none_of X G z5, PySem.W.mg_none_of X G z6, PySem.W.mg_none_of X G z7, PySem.W.mg_none_of X G z8, PySem.W.mg_none_of X G z9, PySem.W.mg_none_of X G z10, PySem.W.mg_none_of X G z11, PySem.W.mg_none_of X G z12, PySem.W.mg_none_of X G z13, PySem.W.mg_none_of X G z14, PySem.W.mg_none_of X G z15, PySem.W.mg_none_of X G z16, PySem.W.mg_none_of X G z17, PySem.W.mg_none_of X G z18⟩
  refine ⟨PySem.W.fnOf "law" "law" (defArgs sLaw) (defBody sLaw) (defScope sLaw) .none kV29 dc29 pm29 an29 cd29 ct29, fun s v => .of_eq rfl, fun base hKb hGb => ?_⟩
  have m_Short := PySem.W.mg_of X G cC_Short
  have m_LeaveError := PySem.W.mg_of X G cC_LeaveError
  have m_Away := PySem.W.mg_of X G cC_Away
  have m_Full := PySem.W.mg_of X G cC_Full
  have m_NoAsk := PySem.W.mg_of X G cC_NoAsk
  have m_NoDay := PySem.W.mg_of X G cC_NoDay
  have m_NoHand := PySem.W.mg_of X G cC_NoHand
  have m_NoHouse := PySem.W.mg_of X G cC_NoHouse
  have m_NoPost := PySem.W.mg_of X G cC_NoPost
  have m_NoRow := PySem.W.mg_of X G cC_NoRow
  have m_Twice := PySem.W.mg_of X G cC_Twice
  have O_NoAsk := own_mk hKb hGb cC_NoAsk cE_NoAsk
  have O_Short := own_mk hKb hGb cC_Short cE_Short
  have X_Short : XCls K c_Short := ⟨xga_Short, xgt_Short, xcl_Short, xsp, xtk, xob_Short, xbx_Short, xhd_Short⟩
  have GWy := ok_ways (P := l.prog) (w := w) (base := base) hB F1 g1 b1
  have GMv := ok_move (P := l.prog) (w := w) (base := base)  F2 g2 b2
  have GMp := ok_man (P := l.prog) (w := w) (base := base) hB GWy GMv F3 g3 b3
  have GLk := ok_lk (P := l.prog) (w := w) (base := base) hB GWy F4 g4 b4
  have GMg := ok_mng (P := l.prog) (w := w) (base := base) hB GMp GLk F5 g5 b5
  have GMN := ok_mngN (P := l.prog) (w := w) (base := base) hB GMp GLk F5 g5 b5
  have GWo := ok_wo (P := l.prog) (w := w) (base := base)  F6 g6 b6
  have GMay := ok_may (P := l.prog) (w := w) (base := base) GMg GWo F7 g7 b7
  have GRf := ok_refX (P := l.prog) (w := w) (base := base) O_Short GMay F8 g8 b8
  have GG := ok_grX (P := l.prog) (w := w) (base := base) hB GMay GRf F9 g9 b9
  have GOn := ok_one (P := l.prog) (w := w) (base := base) hB F10 g10 b10
  have GAf := ok_abf (P := l.prog) (w := w) (base := base) hB GOn F11 g11 b11
  have GTu := ok_turn (P := l.prog) (w := w) (base := base) GWo F12 g12 b12
  have GRp := ok_rfp (P := l.prog) (w := w) (base := base) GMN GWo GAf F13 g13 b13
  have GPp := ok_papX (P := l.prog) (w := w) (base := base) O_NoAsk GG GTu GRp F14 g14 b14
  have GSh := ok_shX (P := l.prog) (w := w) (base := base) hB GG GWo GTu GRp F15 g15 b15
  have GB := ok_bdX (P := l.prog) (w := w) (base := base) hB GSh GWo GAf F16 g16 b16
  have GIs := ok_isX (P := l.prog) (w := w) (base := base) GG F17 g17 b17
  have GC := ok_cell (P := l.prog) (w := w) (base := base) hB F18 g18 b18
  have GT := ok_toss (P := l.prog) (w := w) (base := base)  F19 g19 b19
  have GD := ok_dealt (P := l.prog) (w := w) (base := base) hB F20 g20 b20
  have GH := ok_hands (P := l.prog) (w := w) (base := base) hB GD F21 g21 b21
  have GTh := ok_there (P := l.prog) (w := w) (base := base) hB GT GH F22 g22 b22
  have GA := ok_able (P := l.prog) (w := w) (base := base) hB GC GT GH F23 g23 b23
  have GAs := ok_asks (P := l.prog) (w := w) (base := base) hB GC GT GH F24 g24 b24
  have GSe := ok_seat (P := l.prog) (w := w) (base := base)  F25 g25 b25
  have GMs := ok_ms (P := l.prog) (w := w) (base := base) hB GSe F26 g26 b26
  have GAk := ok_askd (P := l.prog) (w := w) (base := base) hB GG GB GPp GIs F27 g27 b27
  have GRd := ok_rf (P := l.prog) (w := w) (base := base) hB m_Short ⟨X_Short, m_LeaveError, h_ex, m_Away, m_Full, m_NoAsk, m_NoDay, m_NoHand, m_NoHouse, m_NoPost, m_NoRow, m_Twice, h_no, h_y1, h_y2⟩ GAk F28 g28 b28
  exact ok_law hB GC GTh GA GAs GMs GRd F29
end Kx
namespace L2
open PySem PySem.Spec PyProof.Rows
theorem law_walkZ {l : PySem.W.OpenLaw} {k : Nat} {q : Program} {loose : List Str} {XP : (Str → Option Value) → Heap → Prop} {d : DefRec} {K : Params → PySem.W.Frag} {as : List Addr} {n t : Nat} (hk : ∀ P, as = (K P).map (·.1)) (hn : l.most = some 63) (hdf : d.params.defaults = []) (hr : Room k callerA)
    (F : ∀ (w : World) (mg : Str → Option Value) (fa : Addr) (h : Heap), (K w.params).In h → h.Ns mainGlobals mg → mg d.name = some (.ref fa) →
      ∃ fd : FuncData, (∀ (s : Shared) (u : Value), BindsTo s fd ⟨[u], []⟩ [("script", u)]) ∧ ∀ base : Heap, (K w.params).In base → base.Ns mainGlobals mg → FnOk l.prog w (K w.params) mg base CX0 k fa fd ["script"] (spLaw (K w.params))) :
    PySem.W.WalkX q loose XP (PySem.W.X.obsZ as) (PySem.W.X.valZ K n t) l.row.toRowW d [] (fun f vs => PySem.call f vs) :=
  fun w s₀ s₁ mg mb G Y a o pm cd doc dV kV h1 h2 h3 h4 h5 h6 args vals as' L hpre hlay hrd hwell hlow =>
    law_walk (YP := fun w h => (K w.params).In h) (K := K) (k := k) hn hdf hr (fun _ _ z => z) F w s₀ s₁ mg mb G (PySem.W.InK.keeps w s₀.heap s₁.heap (PySem.W.X.z_facts hk Y).2.1 L.keeps) a o pm cd doc dV kV h1 h2 h3 h4 h5 h6 args vals as' hpre hlay hrd hwell hlow
end L2
open PySem PySem.W PyProof.Rows
set_option maxRecDepth 100000 in
set_option maxHeartbeats 0 in
theorem PySem.Challenge.cw_furlough_k13_short_holds : PySem.Challenge.rw_furlough_k13_short.Holds := by
  w_on; o_law; z_head; (case hw => w_witness2)
  k_fill
  refine L2.law_walkZ (l := PySem.Challenge.rw_furlough_k13_short) (k := 19) (fun _ => rfl) rfl rfl ⟨rfl, by decide, by decide⟩ ?F
  case F =>
    intro w mg fa h KX G hmg
    refine' Kx.all_mk KX G hmg ?a1 ?l1 ?c1 ?k1 ?a2 ?l2 ?c2 ?k2 ?a3 ?l3 ?c3 ?k3 ?a4 ?l4 ?c4 ?k4 ?a5 ?l5 ?c5 ?k5 ?a6 ?l6 ?c6 ?k6 ?a7 ?l7 ?c7 ?k7 ?a8 ?l8 ?c8 ?k8 ?a9 ?l9 ?c9 ?k9 ?a10 ?l10 ?c10 ?k10 ?a11 ?l11 ?c11 ?k11 ?a12 ?l12 ?c12 ?k12 ?a13 ?l13 ?c13 ?k13 ?a14 ?l14 ?c14 ?k14 ?a15 ?l15 ?c15 ?k15 ?a16 ?l16 ?c16 ?k16 ?a17 ?l17 ?c17 ?k17 ?a18 ?l18 ?c18 ?k18 ?a19 ?l19 ?c19 ?k19 ?a20 ?l20 ?c20 ?k20 ?a21 ?l21 ?c21 ?k21 ?a22 ?l22 ?c22 ?k22 ?a23 ?l23 ?c23 ?k23 ?a24 ?l24 ?c24 ?k24 ?a25 ?l25 ?c25 ?k25 ?a26 ?l26 ?c26 ?k26 ?a27 ?l27 ?c27 ?k27 ?a28 ?l28 ?c28 ?k28 ?a29 ?l29 ?c29 ?k29 ?cC_Short ?cC_LeaveError ?cC_Away ?cC_Full ?cC_NoAsk ?cC_NoDay ?cC_NoHand ?cC_NoHouse ?cC_NoPost ?cC_NoRow ?cC_Twice ?cE_NoAsk ?cE_Short ?xga_Short ?xgt_Short ?xcl_Short ?xob_Short ?xbx_Short ?xhd_Short ?xsp ?xtk ?h_ex ?h_no ?h_y1 ?h_y2 ?z1 ?z2 ?z3 ?z4 ?z5 ?z6 ?z7 ?z8 ?z9 ?z10 ?z11 ?z12 ?z13 ?z14 ?z15 ?z16 ?z17 ?z18
    (case a1 => k_is)
    (case l1 => k_is)
    (case c1 => k_is)
    (case k1 => k_is)
    (case a2 => k_is)
    (case l2 => k_is)
    (case c2 => k_is)
    (case k2 => k_is)
    (case a3 => k_is)
    (case l3 => k_is)
    (case c3 => k_is)
    (case k3 => k_is)
    (case a4 => k_is)
    (case l4 => k_is)
    (case c4 => k_is)
    (case k4 => k_is)
    (case a5 => k_is)
    (case l5 => k_is)
    (case c5 => k_is)
    (case k5 => k_is)
    (case a6 => k_is)
    (case l6 => k_is)
    (case c6 => k_is)
    (case k6 => k_is)
    (case a7 => k_is)
    (case l7 => k_is)
    (case c7 => k_is)
    (case k7 => k_is)
    (case a8 => k_is)
    (case l8 => k_is)
    (case c8 => k_is)
    (case k8 => k_is)
    (case a9 => k_is)
    (case l9 => k_is)
    (case c9 => k_is)
    (case k9 => k_is)
    (case a10 => k_is)
    (case l10 => k_is)
    (case c10 => k_is)
    (case k10 => k_is)
    (case a11 => k_is)
    (case l11 => k_is)
    (case c11 => k_is)
    (case k11 => k_is)
    (case a12 => k_is)
    (case l12 => k_is)
    (case c12 => k_is)
    (case k12 => k_is)
    (case a13 => k_is)
    (case l13 => k_is)
    (case c13 => k_is)
    (case k13 => k_is)
    (case a14 => k_is)
    (case l14 => k_is)
    (case c14 => k_is)
    (case k14 => k_is)
    (case a15 => k_is)
    (case l15 => k_is)
    (case c15 => k_is)
    (case k15 => k_is)
    (case a16 => k_is)
    (case l16 => k_is)
    (case c16 => k_is)
    (case k16 => k_is)
    (case a17 => k_is)
    (case l17 => k_is)
    (case c17 => k_is)
    (case k17 => k_is)
    (case a18 => k_is)
    (case l18 => k_is)
    (case c18 => k_is)
    (case k18 => k_is)
    (case a19 => k_is)
    (case l19 => k_is)
    (case c19 => k_is)
    (case k19 => k_is)
    (case a20 => k_is)
    (case l20 => k_is)
    (case c20 => k_is)
    (case k20 => k_is)
    (case a21 => k_is)
    (case l21 => k_is)
    (case c21 => k_is)
    (case k21 => k_is)
    (case a22 => k_is)
    (case l22 => k_is)
    (case c22 => k_is)
    (case k22 => k_is)
    (case a23 => k_is)
    (case l23 => k_is)
    (case c23 => k_is)
    (case k23 => k_is)
    (case a24 => k_is)
    (case l24 => k_is)
    (case c24 => k_is)
    (case k24 => k_is)
    (case a25 => k_is)
    (case l25 => k_is)
    (case c25 => k_is)
    (case k25 => k_is)
    (case a26 => k_is)
    (case l26 => k_is)
    (case c26 => k_is)
    (case k26 => k_is)
    (case a27 => k_is)
    (case l27 => k_is)
    (case c27 => k_is)
    (case k27 => k_is)
    (case a28 => k_is)
    (case l28 => k_is)
    (case c28 => k_is)
    (case k28 => k_is)
    (case a29 => k_is)
    (case l29 => k_is)
    (case c29 => k_is)
    (case k29 => k_is)
    (case cC_Short => k_is)
    (case cC_LeaveError => k_is)
    (case cC_Away => k_is)
    (case cC_Full => k_is)
    (case cC_NoAsk => k_is)
    (case cC_NoDay => k_is)
    (case cC_NoHand => k_is)
    (case cC_NoHouse => k_is)
    (case cC_NoPost => k_is)
    (case cC_NoRow => k_is)
    (case cC_Twice => k_is)
    (case cE_NoAsk => k_exc)
    (case cE_Short => k_exc)
    (case xga_Short => k_is)
    (case xgt_Short => k_is)
    (case xcl_Short => k_is)
    (case xob_Short => k_is)
    (case xbx_Short => k_is)
    (case xhd_Short => k_is)
    (case xsp => k_is)
    (case xtk => k_is)
    (case h_ex => kts_exm)
    (case h_no => kit_is)
    (case h_y1 => kit_is)
    (case h_y2 => kit_is)
    (case z1 => k_is)
    (case z2 => k_is)
    (case z3 => k_is)
    (case z4 => k_is)
    (case z5 => k_is)
    (case z6 => k_is)
    (case z7 => k_is)
    (case z8 => k_is)
    (case z9 => k_is)
    (case z10 => k_is)
    (case z11 => k_is)
    (case z12 => k_is)
    (case z13 => k_is)
    (case z14 => k_is)
    (case z15 => k_is)
    (case z16 => k_is)
    (case z17 => k_is)
    (case z18 => k_is)
end
