import PyProof.Rows.All
import Wide.All
import OpenK.AllK
import Wide.FinOn
import Lean
import PyProof.EqAt
import PyProof.EqKinds
import PyProof.TupleCall
import PySem.Challenge.RW_furlough_k41_words_numbers_names
set_option Elab.async false
set_option linter.all false
set_option maxRecDepth 100000
set_option maxHeartbeats 4000000
section
namespace L2
open PySem PySem.Spec PyProof.Rows
abbrev Key := Sum Int Str
def keyIs : Key → Value → Bool
  | .inl k, v => Value.isInt k v
  | .inr x, v => Value.isStrOf x v
def keyH (w : World) : Key → Int
  | .inl k => hashInt k
  | .inr x => hashStr w x
theorem keyIs_shape : ∀ {k : Key} {v : Value}, keyIs k v = true → (∃ i t, k = Sum.inl i ∧ v = Value.int i t) ∨ (∃ x t, k = Sum.inr x ∧ v = Value.str x t)
  | .inl i, v, h => by
    obtain ⟨t, e⟩ := Value.isInt_shape (k := i) (v := v) h
    exact .inl ⟨i, t, rfl, e⟩
  | .inr x, v, h => by
    obtain ⟨t, e⟩ := Value.isStrOf_shape (x := x) (v := v) h
    exact .inr ⟨x, t, rfl, e⟩
theorem key_ll (a b : Int) : decide ((Sum.inl a : Key) = Sum.inl b) = (a == b) := by
  by_cases e : a = b
  · subst e; simp
  · have h : ¬ (Sum.inl a : Key) = Sum.inl b := fun q => e (Sum.inl.inj q)
    rw [decide_eq_false h]
    exact (beq_eq_false_iff_ne.mpr e).symm
theorem key_rr (a b : Str) : decide ((Sum.inr a : Key) = Sum.inr b) = decide (a = b) := by
  by_cases e : a = b
  · subst e; simp
  · have h : ¬ (Sum.inr a : Key) = Sum.inr b := fun q => e (Sum.inr.inj q)
    rw [decide_eq_false h, decide_eq_false e]
theorem key_lr (a : Int) (b : Str) : decide ((Sum.inl a : Key) = Sum.inr b) = false := decide_eq_false (fun q => nomatch q)
theorem key_rl (a : Str) (b : Int) : decide ((Sum.inr a : Key) = Sum.inl b) = false := decide_eq_false (fun q => nomatch q)
def mixKind (prog : Program) (w : World) : PySem.KeyKind prog w Key where
  is := keyIs
  hash := keyH w
  inj := fun v a b ha hb => by
    rcases keyIs_shape ha with ⟨i, t, rfl, rfl⟩ | ⟨x, t, rfl, rfl⟩
    · rcases keyIs_shape hb with ⟨j, u, rfl, e⟩ | ⟨y, u, rfl, e⟩
      · injection e with e1 _; rw [e1]
      · exact nomatch e
    · rcases keyIs_shape hb with ⟨j, u, rfl, e⟩ | ⟨y, u, rfl, e⟩
      · exact nomatch e
      · injection e with e1 _; rw [e1]
  byValue := fun k v h => by
    rcases keyIs_shape h with ⟨i, t, rfl, rfl⟩ | ⟨x, t, rfl, rfl⟩ <;> rfl
  pyHash := fun hv h => by
    rcases keyIs_shape hv with ⟨i, t, rfl, rfl⟩ | ⟨x, t, rfl, rfl⟩
    · exact wpAny_pyHash_int h
    · exact wpAny_pyHash_str h
  eqBool := fun hu hv h => by
    rcases keyIs_shape hu with ⟨i, t, rfl, rfl⟩ | ⟨x, t, rfl, rfl⟩
    · rcases keyIs_shape hv with ⟨j, u, rfl, rfl⟩ | ⟨y, u, rfl, rfl⟩
      · rw [key_ll] at h; exact wpAny_eqBool_int h
      · rw [key_lr] at h; exact SeqAt.EqAt.int_str i t y u _ _ _ _ h
    · rcases keyIs_shape hv with ⟨j, u, rfl, rfl⟩ | ⟨y, u, rfl, rfl⟩
      · rw [key_rl] at h; exact SeqAt.EqAt.str_int x t j u _ _ _ _ h
      · rw [key_rr] at h; exact wpAny_eqBool_str h
  «strs» := fun k x t v h => by
    rcases keyIs_shape h with ⟨i, u, rfl, e⟩ | ⟨y, u, rfl, e⟩
    · exact nomatch e
    · injection e with e1 _
      subst e1
      cases v <;> rfl
end L2
namespace L2
open PySem PySem.Spec PyProof.Rows
inductive V where
  | non | bl (b : Bool) | int (i : Int) | str (x : Str) | byt (b : Array UInt8) | flt (b : UInt64) | ref (a : Addr) | ty (n : String)
  deriving DecidableEq
def RelV : V → Value → Prop
  | .non, u => u = Value.none
  | .bl b, u => u = Value.bool b
  | .int i, u => ∃ t, u = Value.int i t
  | .str x, u => ∃ t, u = Value.str x t
  | .byt b, u => ∃ t, u = Value.bytes b t
  | .flt b, u => ∃ t, u = Value.float b t
  | .ref a, u => u = Value.ref a
  | .ty n, u => u = Value.type n
abbrev Vals : List V → List Value → Prop := Paired RelV
theorem Vals.length {xs : List V} {us : List Value} (r : Vals xs us) : xs.length = us.length := Paired.length r
theorem Vals.get : ∀ {xs : List V} {us : List Value} {i : Nat} {x : V}, Vals xs us → xs[i]? = some x → ∃ u, us[i]? = some u ∧ RelV x u
  | _, _, _, _, .nil, e => by simp at e
  | _, _, 0, _, .cons r _, e => by simp at e; subst e; exact ⟨_, rfl, r⟩
  | _, _, i + 1, x, .cons _ t, e => by
    obtain ⟨u, h1, h2⟩ := Vals.get (i := i) (x := x) t (by simpa using e)
    exact ⟨u, by simpa using h1, h2⟩
theorem Vals.append : ∀ {xs ys : List V} {us ws : List Value}, Vals xs us → Vals ys ws → Vals (xs ++ ys) (us ++ ws)
  | _, _, _, _, .nil, s => s
  | _, _, _, _, .cons r t, s => .cons r (Vals.append t s)
theorem Vals.take : ∀ {xs : List V} {us : List Value} (n : Nat), Vals xs us → Vals (xs.take n) (us.take n)
  | _, _, 0, _ => .nil
  | _, _, _ + 1, .nil => .nil
  | _, _, n + 1, .cons r t => .cons r (Vals.take n t)
theorem Vals.drop : ∀ {xs : List V} {us : List Value} (n : Nat), Vals xs us → Vals (xs.drop n) (us.drop n)
  | _, _, 0, r => r
  | _, _, _ + 1, .nil => .nil
  | _, _, n + 1, .cons _ t => Vals.drop n t
def RelO : Option V → Option Value → Prop
  | some v, some u => RelV v u
  | none, none => True
  | _, _ => False
def KV {κ : Type} : List (κ × V) → List (κ × Value) → Prop := Paired fun (p : κ × V) (q : κ × Value) => p.1 = q.1 ∧ RelV p.2 q.2
def kV : Key → V
  | .inl i => .int i
  | .inr x => .str x
inductive HO where
  /-- a list -/
  | lst (xs : List V)
  /-- a tuple (never changes) -/
  | tup (xs : List V)
  /-- a dict whose keys are ints and texts; one whose keys are tuples of ints and texts (the empty one is both) -/
  | dK (kvs : List (Key × V)) | dT (kvs : List (List Key × V))
  /-- a set of ints: its members, its size -/
  | set (S : Int → Bool) (n : Nat)
  /-- an instance of the class at C, its dict at dx, its attributes -/
  | ins (C dx : Addr) (fs : List (Str × V))
  /-- the dict of the instance at x -/
  | own (x : Addr)
  /-- the dict of an exception -/
  | xd (fs : List (Str × V))
  /-- a bound method, f of x -/
  | met (f x : Addr)
  /-- a range object lo, lo + 1, .. below hi -/
  | rng (lo hi : Int)
  /-- a thing that is known to the object (the script; a dict while a loop walks it): read, never written while it is so -/
  | frz (o : Obj) (u : HO)
  /-- a code object's table -/
  | tbl (ps : Array Value)
  /-- any other thing, by what is true of its one object (a def of one's own: SetO a S n := HO.ext fun h => ..) -/
  | ext (φ : Heap → Prop)
abbrev Hp := Addr → Option HO
def upd (H : Hp) (a : Addr) (o : HO) : Hp := fun b => if b = a then some o else H b
theorem upd_same {H : Hp} {a : Addr} {o : HO} : upd H a o a = some o := by unfold upd; rw [if_pos rfl]
theorem upd_ne {H : Hp} {a b : Addr} {o : HO} (h : b ≠ a) : upd H a o b = H b := by unfold upd; rw [if_neg h]
theorem ne_of_none {H : Hp} {a b : Addr} {o : HO} (h : H a = some o) (h' : H b = none) : a ≠ b := by
  intro e; subst e; rw [h] at h'; cases h'
section
variable (P : Program) (w : World)
def ObjOk (H : Hp) (h : Heap) (a : Addr) : HO → Prop
  | .lst xs => xs.length ≤ sizeLine ∧ ∃ (its : List Value) (n : Nat), Vals xs its ∧ h.get? a = some { cls := .type "list", data := .seq its.toArray n }
  | .tup xs => xs.length ≤ sizeLine ∧ ∃ its : List Value, Vals xs its ∧ IsTup h a its.toArray
  | .dK kvs => kvs.length ≤ sizeLine ∧ (a == sysModules) = false ∧ ∃ vs, KV kvs vs ∧ h.DictOf (mixKind P w) a vs
  | .dT kvs => kvs.length ≤ sizeLine ∧ (a == sysModules) = false ∧ ∃ xs : List (List Key × Addr × Value),
      Paired (fun (p : List Key × V) (q : List Key × Addr × Value) => p.1 = q.1 ∧ H q.2.1 = some (.tup (p.1.map kV)) ∧ RelV p.2 q.2.2) kvs xs ∧
      ∃ o es ep, h.get? a = some o ∧ o.ExactDict ∧ o.data = .dict es ep ∧ es.toList = xs.map (entryOfKey (tupleKind (mixKind P w))) ∧ (xs.map (·.1)).Nodup
  | .set S n => h.SetOf (intKind P w) a S n
  | .ins C dx fs => H dx = some (.own a) ∧ fs.length ≤ 1000 ∧ dx ≠ a ∧ h.get? a = some (PySem.W.instObj C dx) ∧
      ∃ mA, h.Ns1 dx mA ∧ (∀ f, RelO (fs.lookup f) (mA f)) ∧ PySem.Within mA (fs.map (·.1))
  | .own _ => ∃ o, h.get? a = some o
  | .xd fs => ∃ mA, h.Ns1 a mA ∧ ∀ f, RelO (fs.lookup f) (mA f)
  | .rng lo hi => ∃ t u v, h.get? a = some { cls := .type "range", data := .fields #[.int lo t, .int hi u, .int 1 v] }
  | .frz o u => h.get? a = some o ∧ ObjOk H h a u
  | .tbl ps => h.get? a = some { cls := .none, data := .fields ps }
  | .met f x => h.get? a = some (PySem.W.methodObj (.ref f) (.ref x))
  | .ext φ => φ h ∧ (∃ o, h.get? a = some o) ∧ ∀ h1 h2 : Heap, φ h1 → (∀ o, h1.get? a = some o → h2.get? a = some o) → φ h2
def HOk (H : Hp) (h : Heap) : Prop := ∀ a o, H a = some o → ObjOk P w H h a o
end
section
variable {P : Program} {w : World} {H H' : Hp} {h h' : Heap} {a : Addr} {o : HO}
theorem ObjOk.lt (x : ObjOk P w H h a o) : a < h.objs.size := by
  cases o with
  | lst xs => obtain ⟨_, _, _, _, e⟩ := x; exact Heap.lt_size e
  | tup xs => obtain ⟨_, _, _, p⟩ := x; exact p.lt
  | dK kvs => obtain ⟨_, _, _, _, o, _, _, e, _⟩ := x; exact Heap.lt_size e
  | dT kvs => obtain ⟨_, _, _, _, o, _, _, e, _⟩ := x; exact Heap.lt_size e
  | set S n => obtain ⟨o, _, _, _, e, _⟩ := x; exact Heap.lt_size e
  | ins C dx fs => obtain ⟨_, _, _, e, _⟩ := x; exact Heap.lt_size e
  | own y => obtain ⟨_, e⟩ := x; exact Heap.lt_size e
  | xd fs => obtain ⟨_, ⟨_, _, _, e, _⟩, _⟩ := x; exact Heap.lt_size e
  | rng lo hi => obtain ⟨_, _, _, e⟩ := x; exact Heap.lt_size e
  | frz ob u => obtain ⟨e, _⟩ := x; exact Heap.lt_size e
  | tbl ps => exact Heap.lt_size (show h.get? a = some _ from x)
  | met f y => exact Heap.lt_size (show h.get? a = some _ from x)
  | ext φ => obtain ⟨_, ⟨_, e⟩, _⟩ := x; exact Heap.lt_size e
theorem Paired.mapP {α β : Type} {F G : α → β → Prop} : ∀ {l₁ : List α} {l₂ : List β}, Paired F l₁ l₂ → (∀ a b, F a b → G a b) → Paired G l₁ l₂
  | _, _, .nil, _ => .nil
  | _, _, .cons r t, f => .cons (f _ _ r) (Paired.mapP t f)
theorem ObjOk.stay (x : ObjOk P w H h a o) (k : ∀ b u, (b = a ∨ H b = some (.own a)) → h.get? b = some u → h'.get? b = some u)
    (ho : ∀ b, H b = some (.own a) → H' b = some (.own a)) (ht : ∀ b xs, H b = some (.tup xs) → H' b = some (.tup xs)) : ObjOk P w H' h' a o := by
  induction o with
  | lst xs => obtain ⟨z, its, n, r, e⟩ := x; exact ⟨z, its, n, r, k _ _ (.inl rfl) e⟩
  | tup xs => obtain ⟨z, its, r, ob, e, c⟩ := x; exact ⟨z, its, r, ob, k _ _ (.inl rfl) e, c⟩
  | dK kvs => obtain ⟨z, y, vs, r, ob, es, ep, e, c⟩ := x; exact ⟨z, y, vs, r, ob, es, ep, k _ _ (.inl rfl) e, c⟩
  | dT kvs =>
    obtain ⟨z, y, xs, r, ob, es, ep, e, c⟩ := x
    exact ⟨z, y, xs, Paired.mapP r fun p q z => ⟨z.1, ht _ _ z.2.1, z.2.2⟩, ob, es, ep, k _ _ (.inl rfl) e, c⟩
  | set S n => obtain ⟨ob, es, ep, t, e, c⟩ := x; exact ⟨ob, es, ep, t, k _ _ (.inl rfl) e, c⟩
  | ins C dx fs =>
    obtain ⟨d, z, ne, e, mA, ⟨od, es, ep, e2, c⟩, r⟩ := x
    exact ⟨ho _ d, z, ne, k _ _ (.inl rfl) e, mA, ⟨od, es, ep, k _ _ (.inr d) e2, c⟩, r⟩
  | own y => obtain ⟨ob, e⟩ := x; exact ⟨ob, k _ _ (.inl rfl) e⟩
  | xd fs => obtain ⟨mA, ⟨od, es, ep, e, c⟩, r⟩ := x; exact ⟨mA, ⟨od, es, ep, k _ _ (.inl rfl) e, c⟩, r⟩
  | rng lo hi => obtain ⟨t, u, v, e⟩ := x; exact ⟨t, u, v, k _ _ (.inl rfl) e⟩
  | frz ob u ih => obtain ⟨e, q⟩ := x; exact ⟨k _ _ (.inl rfl) e, ih q⟩
  | tbl ps =>
    have e : h.get? a = some { cls := .none, data := .fields ps } := x
    show h'.get? a = some { cls := .none, data := .fields ps }
    exact k a _ (.inl rfl) e
  | met f y =>
    have e : h.get? a = some (PySem.W.methodObj (.ref f) (.ref y)) := x
    show h'.get? a = some (PySem.W.methodObj (.ref f) (.ref y))
    exact k a _ (.inl rfl) e
  | ext φ => obtain ⟨p, ⟨o, e⟩, st⟩ := x; exact ⟨st _ _ p fun o q => k _ _ (.inl rfl) q, ⟨o, k _ _ (.inl rfl) e⟩, st⟩
theorem HOk.lt (x : HOk P w H h) (e : H a = some o) : a < h.objs.size := (x a o e).lt
theorem HOk.fresh (x : HOk P w H h) (e : h.objs.size ≤ a) : H a = none := by
  cases q : H a with
  | none => rfl
  | some u => exact absurd (Nat.lt_of_lt_of_le (x.lt q) e) (Nat.lt_irrefl _)
theorem HOk.kept (x : HOk P w H h) (k : ∀ b u, h.get? b = some u → h'.get? b = some u) : HOk P w H h' := fun a o e =>
  (x a o e).stay (fun b u _ q => k b u q) (fun _ q => q) fun _ _ q => q
theorem HOk.laid (x : HOk P w H h) (k : ∀ b u, h.get? b = some u → h'.get? b = some u) (hp : h.objs.size ≤ a) (new : ObjOk P w (upd H a o) h' a o) : HOk P w (upd H a o) h' := fun b u e => by
  have hn := x.fresh hp
  by_cases hb : b = a
  · subst hb; rw [upd_same] at e; cases e; exact new
  · rw [upd_ne hb] at e
    exact (x b u e).stay (fun c v _ q => k c v q) (fun c q => by rw [upd_ne (ne_of_none q hn)]; exact q) fun c xs q => by rw [upd_ne (ne_of_none q hn)]; exact q
end
def Rd (H : Hp) (a : Addr) (u : HO) : Prop := H a = some u ∨ ∃ o, H a = some (.frz o u)
theorem Rd.ok {P : Program} {w : World} {H : Hp} {h : Heap} {a : Addr} {u : HO} (r : Rd H a u) (x : HOk P w H h) : ObjOk P w H h a u := by
  rcases r with r | ⟨o, r⟩
  · exact x a u r
  · obtain ⟨_, q⟩ := x a _ r
    exact q
def Mut : Option HO → Prop
  | some (.lst _) => True
  | some (.dK _) => True
  | some (.dT _) => True
  | some (.set _ _) => True
  | some (.ins _ _ _) => True
  | some (.ext _) => True
  | _ => False
section
variable {P : Program} {w : World} {H : Hp} {h h' : Heap} {x e : Addr} {o' : HO}
theorem HOk.write (ok : HOk P w H h) (mu : Mut (H x)) (he : e = x ∨ H e = some (.own x)) (k : ∀ b u, b ≠ e → h.get? b = some u → h'.get? b = some u) (heo : ∃ u, h'.get? e = some u)
    (new : ObjOk P w (upd H x o') h' x o') : HOk P w (upd H x o') h' := fun b u q => by
  have nown : ∀ c y, H c = some (.own y) → c ≠ x := fun c y r z => by subst z; rw [r] at mu; exact mu
  have ntup : ∀ c xs, H c = some (.tup xs) → c ≠ x := fun c xs r z => by subst z; rw [r] at mu; exact mu
  by_cases hb : b = x
  · subst hb; rw [upd_same] at q; cases q; exact new
  · rw [upd_ne hb] at q
    by_cases hbe : b = e
    · have q' : H b = some (.own x) := by
        rcases he with z | z
        · exact absurd (hbe.trans z) hb
        · rw [hbe]; exact z
      rw [q] at q'; cases q'
      obtain ⟨v, hv⟩ := heo
      exact ⟨v, by rw [hbe]; exact hv⟩
    · refine (ok b u q).stay (fun c v hc r => k c v ?_ r) (fun c r => by rw [upd_ne (nown c b r)]; exact r) fun c xs r => by rw [upd_ne (ntup c xs r)]; exact r
      rcases hc with rfl | hc
      · exact hbe
      · rintro rfl
        rcases he with z | z
        · exact nown c b hc z
        · rw [hc] at z; cases z; exact hb rfl
end
structure Un (fs ex : List Addr) (H H' : Hp) (h h' : Heap) : Prop where
  keep : ∀ b o, h.get? b = some o → H b = none → b ∉ fs → b ∉ ex → h'.get? b = some o
  slot : ∀ b o, h.get? b = some o → H b = none → b ∈ fs → b ∉ ex → ∃ sl, h'.get? b = some { o with slots := sl }
  free : ∀ b o, h.get? b = some o → H b = none → b ∉ ex → H' b = none
  there : ∀ b o, h.get? b = some o → b ∉ ex → ∃ o', h'.get? b = some o'
  tups : ∀ b xs, H b = some (.tup xs) → H' b = some (.tup xs)
  frzs : ∀ b o u, H b = some (.frz o u) → H' b = some (.frz o u)
  tbls : ∀ b ps, H b = some (.tbl ps) → ∃ more, H' b = some (.tbl (ps ++ more))
section
variable {fs fs' ex ex' : List Addr} {H H1 H2 : Hp} {h h1 h2 h' : Heap} {a x e : Addr} {o : HO}
theorem Un.any (u : Un fs ex H H1 h h1) {b : Addr} {ob : Obj} (q : h.get? b = some ob) (n : H b = none) (hx : b ∉ ex) : ∃ sl, h1.get? b = some { ob with slots := sl } := by
  by_cases hb : b ∈ fs
  · exact u.slot b ob q n hb hx
  · exact ⟨ob.slots, u.keep b ob q n hb hx⟩
theorem Un.trans (a : Un fs ex H H1 h h1) (b : Un fs ex H1 H2 h1 h2) : Un fs ex H H2 h h2 where
  keep := fun c ob q n hc hx => b.keep c ob (a.keep c ob q n hc hx) (a.free c ob q n hx) hc hx
  slot := fun c ob q n hc hx => by
    obtain ⟨sl, e1⟩ := a.slot c ob q n hc hx
    obtain ⟨sl', e2⟩ := b.slot c _ e1 (a.free c ob q n hx) hc hx
    exact ⟨sl', e2⟩
  free := fun c ob q n hx => by
    obtain ⟨o', e1⟩ := a.there c ob q hx
    exact b.free c o' e1 (a.free c ob q n hx) hx
  there := fun c ob q hx => by
    obtain ⟨o', e1⟩ := a.there c ob q hx
    exact b.there c o' e1 hx
  tups := fun c xs q => b.tups c xs (a.tups c xs q)
  frzs := fun c ob xs q => b.frzs c ob xs (a.frzs c ob xs q)
  tbls := fun c ps q => by
    obtain ⟨m1, e1⟩ := a.tbls c ps q
    obtain ⟨m2, e2⟩ := b.tbls c _ e1
    exact ⟨m1 ++ m2, by rw [e2, Array.append_assoc]⟩
theorem Un.kept (k : ∀ b u, h.get? b = some u → h'.get? b = some u) : Un fs ex H H h h' :=
  ⟨fun b ob q _ _ _ => k b ob q, fun b ob q _ _ _ => ⟨ob.slots, k b ob q⟩, fun _ _ _ n _ => n, fun b ob q _ => ⟨ob, k b ob q⟩, fun _ _ q => q, fun _ _ _ q => q, fun _ ps q => ⟨#[], by rw [q]; simp⟩⟩
theorem Un.refl : Un fs ex H H h h := Un.kept fun _ _ q => q
theorem Un.laid (k : ∀ b u, h.get? b = some u → h'.get? b = some u) (hp : h.objs.size ≤ a) (hn : H a = none) : Un fs ex H (upd H a o) h h' where
  keep := fun b u q _ _ _ => k b u q
  slot := fun b u q _ _ _ => ⟨u.slots, k b u q⟩
  free := fun b u q n _ => by rw [upd_ne (Nat.ne_of_lt (Nat.lt_of_lt_of_le (Heap.lt_size q) hp))]; exact n
  there := fun b u q _ => ⟨u, k b u q⟩
  tups := fun b xs q => by rw [upd_ne (ne_of_none q hn)]; exact q
  frzs := fun b u xs q => by rw [upd_ne (ne_of_none q hn)]; exact q
  tbls := fun b ps q => ⟨#[], by rw [upd_ne (ne_of_none q hn), q]; simp⟩
theorem Un.write (mu : Mut (H x)) (he : e = x ∨ H e = some (.own x)) (k : ∀ b u, b ≠ e → h.get? b = some u → h'.get? b = some u) (heo : ∃ u, h'.get? e = some u) : Un fs ex H (upd H x o) h h' := by
  have hx : ∀ b, H b = none → b ≠ x := fun b n z => by subst z; rw [n] at mu; exact mu
  have hb : ∀ b, H b = none → b ≠ e := fun b n z => by
    subst z
    rcases he with r | r
    · exact hx b n r
    · rw [n] at r; cases r
  have hm : ∀ b u, H b = some u → ¬ Mut (some u) → b ≠ x := fun b u q nm z => by subst z; rw [q] at mu; exact nm mu
  refine ⟨fun b u q n _ _ => k b u (hb b n) q, fun b u q n _ _ => ⟨u.slots, k b u (hb b n) q⟩, fun b u q n _ => by rw [upd_ne (hx b n)]; exact n, fun b u q _ => ?_,
    fun b xs q => by rw [upd_ne (hm b _ q fun z => z)]; exact q, fun b u xs q => by rw [upd_ne (hm b _ q fun z => z)]; exact q, fun b ps q => ⟨#[], by rw [upd_ne (hm b _ q fun z => z), q]; simp⟩⟩
  by_cases hbe : b = e
  · subst hbe; exact heo
  · exact ⟨u, k b u hbe q⟩
theorem Un.mono (u : Un fs ex H H1 h h1) (hs : ∀ b ∈ fs, b ∈ fs') (hx : ∀ b ∈ ex, b ∈ ex') : Un fs' ex' H H1 h h1 :=
  ⟨fun b ob q n hb he => u.keep b ob q n (fun z => hb (hs b z)) fun z => he (hx b z), fun _ _ q n _ he => u.any q n fun z => he (hx _ z), fun b ob q n he => u.free b ob q n fun z => he (hx b z), fun b ob q he => u.there b ob q fun z => he (hx b z), u.tups, u.frzs, u.tbls⟩
end
def trk (h : Heap) (H : Hp) : List Addr := (List.range h.objs.size).filter fun a => (H a).isSome
def hidT (h : Heap) (H : Hp) : Heap := PySem.W.hideAll h (trk h H)
theorem hidT_size (h : Heap) (H : Hp) : (hidT h H).objs.size = h.objs.size := PySem.W.hideAll_size _ _
theorem hidT_get {h : Heap} {H : Hp} {b : Addr} {o : Obj} (e : h.get? b = some o) (n : H b = none) : (hidT h H).get? b = some o :=
  PySem.W.hideAll_get _ e fun hm => by
    have q : (H b).isSome = true := (List.mem_filter.mp hm).2
    rw [n] at q; simp at q
theorem of_hidT {h : Heap} {H : Hp} {b : Addr} {o : Obj} (e : (hidT h H).get? b = some o) : h.get? b = some o ∧ H b = none := by
  have e' : h.get? b = some o := PySem.W.of_hideAll (trk h H) e
  refine ⟨e', ?_⟩
  cases q : H b with
  | none => rfl
  | some x =>
    have hm : b ∈ trk h H := List.mem_filter.mpr ⟨List.mem_range.mpr (Heap.lt_size e'), by simp [q]⟩
    have z : (hidT h H).get? b = none := PySem.W.hideAll_none (trk h H) hm
    rw [z] at e; cases e
end L2
namespace L2
open PySem PySem.Spec PyProof.Rows
structure Mod (K : PySem.W.Frag) (mg : Str → Option Value) (base : Heap) : Prop where
  kin : K.In base
  glob : base.Ns mainGlobals mg
  blt : ∃ mb, base.Ns builtinsNs mb ∧ ∀ x : Str, x ≠ "__name__" → mb x = bootBuiltins x
  nolimit : base.NoLimit
structure Cx where
  prog : Program
  w : World
  K : PySem.W.Frag
  mg : Str → Option Value
  base : Heap
  A : Around
  N : List Str
  s₀ : Shared
  H₀ : Hp
  env : Env
  outer : List Env
  stack : List Env
  ex : List Addr
  fn : Str → Bool
  calm : Bool
  pn : List (Addr × Obj)
  xe : Value → Shared → Prop
def frs (l : List Env) : List Addr := l.filterMap (·.frame)
abbrev Cx.fs (X : Cx) : List Addr := frs X.outer
def Vis (sc : Scope) (x : Str) : Prop := sc.names.lookup x = some .local ∨ sc.names.lookup x = some .cell ∨ sc.names.lookup x = some .free
def Loc (sc : Scope) (x : Str) : Prop := sc.names.lookup x = some .local ∨ sc.names.lookup x = some .cell
def Look (env : Env) (h : Heap) (m : Str → Option Value) (x : Str) (u : Value) : Prop :=
  (env.kindOf x = some .local ∧ m x = some u) ∨ ((env.kindOf x = some .cell ∨ env.kindOf x = some .free) ∧ ∃ c, env.cells.lookup x = some c ∧ h.IsCell c (some u))
structure Cx.Ok (X : Cx) : Prop where
  mod : Mod X.K X.mg X.base
  kind : X.env.scope.kind = .function
  glob : X.env.globals = mainGlobals
  blt : X.env.builtins = builtinsNs
  above : X.s₀.heap.objs.size ≤ X.env.locals
  inj : ∀ x y c, X.env.cells.lookup x = some c → X.env.cells.lookup y = some c → x = y
  has : ∀ x, (X.env.kindOf x = some .cell ∨ X.env.kindOf x = some .free) → ∃ c, X.env.cells.lookup x = some c
  cab : ∀ x c, X.fn x = true → X.env.cells.lookup x = some c → X.s₀.heap.objs.size ≤ c
  hd : X.calm = true → X.A.handled = none
  frames : X.A.frames = some X.stack
  stk : X.stack = X.outer ∨ (X.stack = X.env :: X.outer ∧ X.env.frame = some X.env.locals)
  exf : ∀ b ∈ X.ex, b ≠ X.env.locals ∧ ∀ x c, X.env.cells.lookup x = some c → c ≠ b
  bs : ∀ b o, X.base.get? b = some o → X.s₀.heap.get? b = some o ∧ X.H₀ b = none
  bsz : X.base.objs.size ≤ X.s₀.heap.objs.size
  noex : ∀ b o, X.base.get? b = some o → b ∉ X.ex
  exfs : ∀ b ∈ X.ex, b ∉ X.fs
  funs : X.s₀.heap.FunFrames X.base X.outer
  frf : ∀ b ∈ X.fs, X.H₀ b = none
structure Inv (X : Cx) (pins : List (Addr × Obj)) (σ : List (Option V)) (H : Hp) (s : Shared) : Prop where
  ok : X.Ok
  os : s.os = X.s₀.os
  bare : AllBare s.gens
  base : Un X.fs X.ex X.H₀ H X.s₀.heap s.heap
  loc : ∃ m, s.heap.Ns X.env.locals m ∧ ∀ (i : Nat) (x : Str) (v : V), X.N[i]? = some x → σ[i]? = some (some v) → Vis X.env.scope x → ∃ u, RelV v u ∧ Look X.env s.heap m x u
  cell : ∀ x c, X.env.cells.lookup x = some c → ∃ v, s.heap.IsCell c v
  free : H X.env.locals = none
  freeC : ∀ x c, X.env.cells.lookup x = some c → H c = none
  pin : ∀ p ∈ X.pn ++ pins, s.heap.get? p.1 = some p.2 ∧ H p.1 = none ∧ p.1 ≠ X.env.locals ∧ p.1 ∉ X.fs ∧ ∀ v, p.2.data ≠ .cell v
  hok : HOk X.prog X.w H s.heap
  len : σ.length = X.N.length
section
variable {X : Cx} {pins : List (Addr × Obj)} {σ : List (Option V)} {H H' : Hp} {s : Shared} {h' : Heap}
theorem Cx.Ok.nofr (ok : X.Ok) {b : Addr} {o : Obj} (e : X.base.get? b = some o) : b ∉ X.fs := fun hb => by
  have := (ok.funs.mem hb).1
  rw [e] at this; cases this
theorem Inv.bs (I : Inv X pins σ H s) : ∀ b o, X.base.get? b = some o → s.heap.get? b = some o ∧ H b = none := fun b o e =>
  ⟨I.base.keep b o (I.ok.bs b o e).1 (I.ok.bs b o e).2 (I.ok.nofr e) (I.ok.noex b o e), I.base.free b o (I.ok.bs b o e).1 (I.ok.bs b o e).2 (I.ok.noex b o e)⟩
theorem Inv.bk (I : Inv X pins σ H s) : ∀ b o, X.base.get? b = some o → s.heap.get? b = some o := fun b o e => (I.bs b o e).1
theorem Inv.mod (I : Inv X pins σ H s) : Mod X.K X.mg X.base := I.ok.mod
theorem Inv.kIn (I : Inv X pins σ H s) : X.K.In s.heap := I.ok.mod.kin.keeps I.bk
theorem Inv.lt (I : Inv X pins σ H s) : X.env.locals < s.heap.objs.size := let ⟨_, hn, _⟩ := I.loc; hn.lt
theorem Inv.sz (I : Inv X pins σ H s) : X.s₀.heap.objs.size ≤ s.heap.objs.size := Nat.le_trans I.ok.above (Nat.le_of_lt I.lt)
theorem Inv.nofs (I : Inv X pins σ H s) {a : Addr} (h : s.heap.objs.size ≤ a) : a ∉ X.fs := fun hb => by
  obtain ⟨_, o, ho, _⟩ := I.ok.funs.mem hb
  exact absurd (Nat.lt_of_lt_of_le (Heap.lt_size ho) (Nat.le_trans I.sz h)) (Nat.lt_irrefl _)
theorem Inv.cne (I : Inv X pins σ H s) : ∀ x c, X.env.cells.lookup x = some c → c ≠ X.env.locals := fun x c e z => by
  obtain ⟨v, o, ho, hd⟩ := I.cell x c e
  obtain ⟨m, ⟨o', es, ep, ho', hd', _⟩, _⟩ := I.loc
  rw [z, ho'] at ho; cases ho; rw [hd'] at hd; cases hd
theorem Inv.funs (I : Inv X pins σ H s) : s.heap.FunFrames X.base X.outer := by
  have all : ∀ (l : List Env), (∀ b ∈ frs l, b ∈ X.fs) → X.s₀.heap.FunFrames X.base l → s.heap.FunFrames X.base l := by
    intro l
    induction l with
    | nil => intro _ _; trivial
    | cons env r ih =>
      intro hs hl
      obtain ⟨hk, ⟨L, o, hf, hn, ho, hd⟩, hr⟩ := hl
      have hL : L ∈ X.fs := hs L (by unfold frs; rw [List.filterMap_cons, hf]; exact List.mem_cons_self)
      obtain ⟨sl, e⟩ := I.base.slot L o ho (I.ok.frf L hL) hL fun z => I.ok.exfs L z hL
      exact ⟨hk, ⟨L, _, hf, hn, e, hd⟩, ih (fun b hb => hs b (by unfold frs; rw [List.filterMap_cons, hf]; exact List.mem_cons_of_mem _ hb)) hr⟩
  exact all X.outer (fun _ hb => hb) I.ok.funs
theorem Inv.stack (I : Inv X pins σ H s) : s.heap.FunFrames X.base X.stack := by
  rcases I.ok.stk with e | ⟨e, hf⟩
  · rw [e]; exact I.funs
  · rw [e]
    obtain ⟨m, hn, _⟩ := I.loc
    refine .cons (by rw [I.ok.kind]; decide) hf hn ?_ I.funs
    exact Heap.get?_none_of_le (Nat.le_trans I.ok.bsz I.ok.above)
theorem Inv.stkSub (I : Inv X pins σ H s) : ∀ b ∈ frs X.stack, b ∈ X.env.locals :: X.fs := fun b hb => by
  rcases I.ok.stk with e | ⟨e, hf⟩
  · rw [e] at hb; exact List.mem_cons_of_mem _ hb
  · rw [e] at hb
    unfold frs at hb
    rw [List.filterMap_cons, hf] at hb
    exact hb
theorem Inv.stkFree (I : Inv X pins σ H s) : ∀ b ∈ frs X.stack, H b = none := fun b hb => by
  rcases List.mem_cons.mp (I.stkSub b hb) with e | hb
  · rw [e]; exact I.free
  · obtain ⟨_, o, ho, _⟩ := I.ok.funs.mem hb
    exact I.base.free b o ho (I.ok.frf b hb) fun z => I.ok.exfs b z hb
theorem Inv.step {g' : Array GenState} {t' : Nat} {d' : Drawn} {ch : List Addr} (I : Inv X pins σ H s)
    (hch : ∀ b ∈ ch, (b ∈ X.ex ∨ X.s₀.heap.objs.size ≤ b) ∧ b ≠ X.env.locals ∧ (∀ x c, X.env.cells.lookup x = some c → c ≠ b) ∧ ∀ p ∈ X.pn ++ pins, p.1 ≠ b)
    (keep : ∀ b o, b ≠ X.env.locals → b ∉ X.fs → b ∉ ch → s.heap.get? b = some o → H b = none → h'.get? b = some o)
    (slot : ∀ b o, b ≠ X.env.locals → b ∈ X.fs → b ∉ ch → s.heap.get? b = some o → H b = none → ∃ sl, h'.get? b = some { o with slots := sl }) (free : ∀ b o, b ∉ ch → s.heap.get? b = some o → H b = none → H' b = none)
    (there : ∀ b o, b ∉ ch → s.heap.get? b = some o → ∃ o', h'.get? b = some o')
    (tups : ∀ b xs, H b = some (.tup xs) → H' b = some (.tup xs)) (frzs : ∀ b o u, H b = some (.frz o u) → H' b = some (.frz o u)) (tbls : ∀ b ps, H b = some (.tbl ps) → ∃ more, H' b = some (.tbl (ps ++ more)))
    (ns : ∀ m, s.heap.Ns X.env.locals m → h'.Ns X.env.locals m) (hok : HOk X.prog X.w H' h') (hg : AllBare g') :
    Inv X pins σ H' { s with heap := h', gens := g', drawn := d', toks := t' } := by
  have neL : ∀ b o, X.s₀.heap.get? b = some o → b ≠ X.env.locals := fun b o e => Nat.ne_of_lt (Nat.lt_of_lt_of_le (Heap.lt_size e) I.ok.above)
  have neC : ∀ b o, X.s₀.heap.get? b = some o → b ∉ X.ex → b ∉ ch := fun b o e hx hb => by
    rcases (hch b hb).1 with z | z
    · exact hx z
    · exact absurd (Nat.lt_of_lt_of_le (Heap.lt_size e) z) (Nat.lt_irrefl _)
  have cellK : ∀ x c, X.env.cells.lookup x = some c → ∀ v, s.heap.IsCell c v → h'.IsCell c v := fun x c e v ⟨o, ho, hd⟩ => by
    have nch : c ∉ ch := fun z => (hch c z).2.2.1 x c e rfl
    by_cases hc : c ∈ X.fs
    · obtain ⟨sl, q⟩ := slot c o (I.cne x c e) hc nch ho (I.freeC x c e)
      exact ⟨_, q, hd⟩
    · exact ⟨o, keep c o (I.cne x c e) hc nch ho (I.freeC x c e), hd⟩
  refine ⟨I.ok, I.os, hg, ⟨fun b o e n hb hx => ?_, fun b o e n hb hx => ?_, fun b o e n hx => ?_, fun b o e hx => ?_, fun b xs e => tups b xs (I.base.tups b xs e), fun b o xs e => frzs b o xs (I.base.frzs b o xs e), fun b ps e => ?_⟩, ?_, fun x c e => ?_, ?_, fun x c e => ?_, fun p hp => ?_, hok, I.len⟩
  · exact keep b o (neL b o e) hb (neC b o e hx) (I.base.keep b o e n hb hx) (I.base.free b o e n hx)
  · obtain ⟨sl, e1⟩ := I.base.slot b o e n hb hx
    obtain ⟨sl', e2⟩ := slot b _ (neL b o e) hb (neC b o e hx) e1 (I.base.free b o e n hx)
    exact ⟨sl', e2⟩
  · obtain ⟨o', e1⟩ := I.base.there b o e hx
    exact free b o' (neC b o e hx) e1 (I.base.free b o e n hx)
  · obtain ⟨o', e1⟩ := I.base.there b o e hx
    exact there b o' (neC b o e hx) e1
  · obtain ⟨m1, e1⟩ := I.base.tbls b ps e
    obtain ⟨m2, e2⟩ := tbls b _ e1
    exact ⟨m1 ++ m2, by rw [e2, Array.append_assoc]⟩
  · obtain ⟨m, hn, hl⟩ := I.loc
    refine ⟨m, ns m hn, fun i x v e1 e2 e3 => ?_⟩
    obtain ⟨u, r, l⟩ := hl i x v e1 e2 e3
    refine ⟨u, r, ?_⟩
    rcases l with l | ⟨k, c, e, z⟩
    · exact .inl l
    · exact .inr ⟨k, c, e, cellK x c e _ z⟩
  · obtain ⟨v, z⟩ := I.cell x c e
    exact ⟨v, cellK x c e v z⟩
  · obtain ⟨m, ⟨o, _, _, ho, _⟩, _⟩ := I.loc
    exact free _ o (fun z => (hch _ z).2.1 rfl) ho I.free
  · obtain ⟨v, o, ho, hd⟩ := I.cell x c e
    exact free c o (fun z => (hch c z).2.2.1 x c e rfl) ho (I.freeC x c e)
  · obtain ⟨e, n, ne, nf, d⟩ := I.pin p hp
    have nch : p.1 ∉ ch := fun z => (hch p.1 z).2.2.2 p hp rfl
    exact ⟨keep p.1 p.2 ne nf nch e n, free p.1 p.2 nch e n, ne, nf, d⟩
theorem Inv.un {t' : Nat} (I : Inv X pins σ H s) (u : Un X.fs [] H H' s.heap h') (hok : HOk X.prog X.w H' h') : Inv X pins σ H' { s with heap := h', toks := t' } := by
  obtain ⟨m, ⟨o, es, ep, ho, r⟩, _⟩ := id I.loc
  obtain ⟨sl, hL⟩ := u.any ho I.free (by simp)
  exact I.step (g' := s.gens) (d' := s.drawn) (ch := []) (fun _ z => nomatch z) (fun b o _ hb _ e n => u.keep b o e n hb (by simp)) (fun b o _ hb _ e n => u.slot b o e n hb (by simp)) (fun b o _ e n => u.free b o e n (by simp)) (fun b o _ e => u.there b o e (by simp)) u.tups u.frzs u.tbls (fun m' hm => by
    obtain ⟨o', es', ep', ho', r'⟩ := hm
    rw [ho] at ho'; cases ho'
    exact ⟨_, es', ep', hL, r'⟩) hok I.bare
theorem Inv.call {g' : Array GenState} {t' : Nat} {d' : Drawn} {ch : List Addr} (I : Inv X pins σ H s) (u : Un (frs X.stack) ch H H' s.heap h') (hok : HOk X.prog X.w H' h') (hg : AllBare g')
    (hch : ∀ b ∈ ch, (b ∈ X.ex ∨ X.s₀.heap.objs.size ≤ b) ∧ b ≠ X.env.locals ∧ (∀ x c, X.env.cells.lookup x = some c → c ≠ b) ∧ ∀ p ∈ X.pn ++ pins, p.1 ≠ b) :
    Inv X pins σ H' { s with heap := h', gens := g', drawn := d', toks := t' } := by
  obtain ⟨m, ⟨o, es, ep, ho, r⟩, _⟩ := id I.loc
  obtain ⟨sl, hL⟩ := u.any ho I.free fun z => (hch _ z).2.1 rfl
  exact I.step (ch := ch) hch (fun b o hL hb hc e n => u.keep b o e n (fun z => (List.mem_cons.mp (I.stkSub b z)).elim hL hb) hc) (fun b o _ _ hc e n => u.any e n hc) (fun b o hc e n => u.free b o e n hc) (fun b o hc e => u.there b o e hc) u.tups u.frzs u.tbls (fun m' hm => by
    obtain ⟨o', es', ep', ho', r'⟩ := hm
    rw [ho] at ho'; cases ho'
    exact ⟨_, es', ep', hL, r'⟩) hok hg
theorem Inv.turned {t' : Nat} {it : Addr} (I : Inv X pins σ H s) (k : ∀ b o, b ≠ it → s.heap.get? b = some o → h'.get? b = some o) (hn : H it = none) (hL : it ≠ X.env.locals)
    (h1 : it ∈ X.ex ∨ X.s₀.heap.objs.size ≤ it) (h2 : ∀ x c, X.env.cells.lookup x = some c → c ≠ it) (h3 : ∀ p ∈ X.pn ++ pins, p.1 ≠ it) : Inv X pins σ H { s with heap := h', toks := t' } := by
  have nit : ∀ b u, H b = some u → b ≠ it := fun b u e z => by rw [z, hn] at e; cases e
  refine I.step (g' := s.gens) (d' := s.drawn) (ch := [it]) (fun b hb => ?_) (fun b o _ _ hc e _ => k b o (fun z => hc (by simp [z])) e) (fun b o _ _ hc e _ => ⟨o.slots, k b o (fun z => hc (by simp [z])) e⟩) (fun _ _ _ _ n => n)
    (fun b o hc e => ⟨o, k b o (fun z => hc (by simp [z])) e⟩) (fun _ _ e => e) (fun _ _ _ e => e) (fun b ps e => ⟨#[], by rw [e]; simp⟩) (fun m hm => ?_) (fun b u e => ?_) I.bare
  · have e : b = it := by simpa using hb
    subst e
    exact ⟨h1, hL, h2, h3⟩
  · obtain ⟨o, es, ep, ho, r⟩ := hm
    exact ⟨o, es, ep, k _ o (Ne.symm hL) ho, r⟩
  · refine (I.hok b u e).stay (fun c v hc q => k c v ?_ q) (fun _ q => q) fun _ _ q => q
    rcases hc with z | z
    · rw [z]; exact nit b u e
    · exact nit c _ z
theorem Inv.tok (I : Inv X pins σ H s) (t : Nat) : Inv X pins σ H { s with toks := t } := I.un (h' := s.heap) (t' := t) Un.refl I.hok
theorem Inv.kept {t' : Nat} (I : Inv X pins σ H s) (k : ∀ b u, s.heap.get? b = some u → h'.get? b = some u) : Inv X pins σ H { s with heap := h', toks := t' } := I.un (Un.kept k) (I.hok.kept k)
theorem Inv.laid {a : Addr} {o : HO} {t' : Nat} (I : Inv X pins σ H s) (k : ∀ b u, s.heap.get? b = some u → h'.get? b = some u) (hp : s.heap.objs.size ≤ a) (new : ObjOk X.prog X.w (upd H a o) h' a o) :
    Inv X pins σ (upd H a o) { s with heap := h', toks := t' } := I.un (Un.laid k hp (I.hok.fresh hp)) (I.hok.laid k hp new)
theorem Inv.write {x e : Addr} {o : HO} {t' : Nat} (I : Inv X pins σ H s) (mu : Mut (H x)) (he : e = x ∨ H e = some (.own x)) (k : ∀ b u, b ≠ e → s.heap.get? b = some u → h'.get? b = some u) (heo : ∃ u, h'.get? e = some u)
    (new : ObjOk X.prog X.w (upd H x o) h' x o) : Inv X pins σ (upd H x o) { s with heap := h', toks := t' } := I.un (Un.write mu he k heo) (I.hok.write mu he k heo new)
theorem Inv.weak {σ' : List (Option V)} (I : Inv X pins σ H s) (hl : σ'.length = σ.length) (w : ∀ (i : Nat) v, σ'[i]? = some (some v) → σ[i]? = some (some v)) : Inv X pins σ' H s :=
  ⟨I.ok, I.os, I.bare, I.base, let ⟨m, hn, hl'⟩ := I.loc; ⟨m, hn, fun i x v e1 e2 e3 => hl' i x v e1 (w i v e2) e3⟩, I.cell, I.free, I.freeC, I.pin, I.hok, hl.trans I.len⟩
theorem Inv.pins_of {pins' : List (Addr × Obj)} (I : Inv X pins σ H s) (h : ∀ p ∈ pins', s.heap.get? p.1 = some p.2 ∧ H p.1 = none ∧ p.1 ≠ X.env.locals ∧ p.1 ∉ X.fs ∧ ∀ v, p.2.data ≠ .cell v) : Inv X pins' σ H s :=
  ⟨I.ok, I.os, I.bare, I.base, I.loc, I.cell, I.free, I.freeC, fun p hp => (List.mem_append.mp hp).elim (fun z => I.pin p (List.mem_append_left _ z)) (h p), I.hok, I.len⟩
theorem nodup_ix {N : List Str} (hN : N.Nodup) {i j : Nat} {x : Str} (a : N[i]? = some x) (b : N[j]? = some x) : i = j := by
  obtain ⟨h1, e1⟩ := List.getElem?_eq_some_iff.mp a
  obtain ⟨h2, e2⟩ := List.getElem?_eq_some_iff.mp b
  exact (List.getElem_inj hN).mp (e1.trans e2.symm)
theorem store_ok2 {M : Model} {A : Around} {E : Value → Shared → Prop} {i : Nat} {x : Str} {v : V} {u : Value} {Q : Unit → Shared → Prop} (I : Inv X pins σ H s) (hN : X.N.Nodup) (hi : X.N[i]? = some x) (hx : Loc X.env.scope x) (r : RelV v u)
    (h : ∀ s', Inv X pins (σ.set i (some v)) H s' → (∃ a, Heap.SameBut a s.heap s'.heap ∧ (a = X.env.locals ∨ X.env.cells.lookup x = some a)) → Q () s') (hf : X.fn x = true ∨ X.env.scope.names.lookup x = some .local := by first | exact .inl rfl | exact .inr rfl | assumption) : wpAny M A (storeName X.env x u) Q E s := by
  obtain ⟨m, hn, hl⟩ := id I.loc
  have hcls : (X.env.scope.kind == .class || (X.env.scope.kind == .module && X.env.locals != X.env.globals)) = false := by rw [I.ok.kind]; rfl
  have hiσ : i < σ.length := by rw [I.len]; exact (List.getElem?_eq_some_iff.mp hi).1
  have cne := I.cne
  have tracked : ∀ {a : Addr} {h' : Heap}, (∃ o, s.heap.get? a = some o ∧ H a = none) → Heap.SameBut a s.heap h' → HOk X.prog X.w H h' := fun {a h'} ha hs b ob e => by
    obtain ⟨_, _, hfree⟩ := ha
    refine (I.hok b ob e).stay (fun c w' hc q => (hs.2 c ?_).trans q) (fun _ q => q) fun _ _ q => q
    rintro rfl
    rcases hc with rfl | hc
    · rw [hfree] at e; cases e
    · rw [hfree] at hc; cases hc
  rcases hx with hk | hk
  · refine wpAny_storeName_local hk hn (fun h' hn' hs => ?_) hcls
    obtain ⟨oL, _, _, hoL, _⟩ := id hn
    refine h _ ⟨I.ok, I.os, I.bare, ⟨fun b o e n hb hx => ?_, fun b o e n hb hx => ?_, I.base.free, fun b o e hx => ?_, I.base.tups, I.base.frzs, I.base.tbls⟩, ⟨_, hn', fun j y v' e1 e2 e3 => ?_⟩, fun y c e => ?_, I.free, I.freeC, fun p hp => ?_, tracked ⟨oL, hoL, I.free⟩ hs, by simpa using I.len⟩ ⟨_, hs, .inl rfl⟩
    · exact (hs.2 b (Nat.ne_of_lt (Nat.lt_of_lt_of_le (Heap.lt_size e) I.ok.above))).trans (I.base.keep b o e n hb hx)
    · obtain ⟨sl, e1⟩ := I.base.slot b o e n hb hx
      exact ⟨sl, (hs.2 b (Nat.ne_of_lt (Nat.lt_of_lt_of_le (Heap.lt_size e) I.ok.above))).trans e1⟩
    · obtain ⟨o', e1⟩ := I.base.there b o e hx
      exact ⟨o', (hs.2 b (Nat.ne_of_lt (Nat.lt_of_lt_of_le (Heap.lt_size e) I.ok.above))).trans e1⟩
    · by_cases hj : j = i
      · subst hj
        rw [hi] at e1; cases e1
        rw [List.getElem?_set_self hiσ] at e2
        cases e2
        exact ⟨u, r, .inl ⟨hk, by simp⟩⟩
      · rw [List.getElem?_set_ne (Ne.symm hj)] at e2
        obtain ⟨u', r', q⟩ := hl j y v' e1 e2 e3
        refine ⟨u', r', ?_⟩
        rcases q with ⟨k, e⟩ | ⟨k, c, e, z⟩
        · refine .inl ⟨k, ?_⟩
          have : y ≠ x := fun e => hj (nodup_ix hN e1 (e ▸ hi))
          simp [this, e]
        · exact .inr ⟨k, c, e, z.sameBut hs (cne y c e)⟩
    · obtain ⟨w', z⟩ := I.cell y c e
      exact ⟨w', z.sameBut hs (cne y c e)⟩
    · obtain ⟨e, n, ne, nf, d⟩ := I.pin p hp
      exact ⟨(hs.2 p.1 ne).trans e, n, ne, nf, d⟩
  · have hfn : X.fn x = true := by
      rcases hf with z | z
      · exact z
      · rw [z] at hk; cases hk
    obtain ⟨c, hc⟩ := I.ok.has x (.inl hk)
    obtain ⟨w', z⟩ := I.cell x c hc
    refine wpAny_storeName_cell I.ok.kind hk hc z (fun h' hc' hs => ?_)
    obtain ⟨oc, hoc, hocd⟩ := id z
    refine h { s with heap := h' } ⟨I.ok, I.os, I.bare, ⟨fun b o e n hb hx => ?_, fun b o e n hb hx => ?_, I.base.free, fun b o e hx => ?_, I.base.tups, I.base.frzs, I.base.tbls⟩, ⟨m, hn.sameBut hs (Ne.symm (cne x c hc)), fun j y v' e1 e2 e3 => ?_⟩, fun y c' e => ?_, I.free, I.freeC, fun p hp => ?_, tracked ⟨oc, hoc, I.freeC x c hc⟩ hs, by simpa using I.len⟩ ⟨c, hs, .inr hc⟩
    · exact (hs.2 b (Nat.ne_of_lt (Nat.lt_of_lt_of_le (Heap.lt_size e) (I.ok.cab x c hfn hc)))).trans (I.base.keep b o e n hb hx)
    · obtain ⟨sl, e1⟩ := I.base.slot b o e n hb hx
      exact ⟨sl, (hs.2 b (Nat.ne_of_lt (Nat.lt_of_lt_of_le (Heap.lt_size e) (I.ok.cab x c hfn hc)))).trans e1⟩
    · obtain ⟨o', e1⟩ := I.base.there b o e hx
      exact ⟨o', (hs.2 b (Nat.ne_of_lt (Nat.lt_of_lt_of_le (Heap.lt_size e) (I.ok.cab x c hfn hc)))).trans e1⟩
    · by_cases hj : j = i
      · subst hj
        rw [hi] at e1; cases e1
        rw [List.getElem?_set_self hiσ] at e2
        cases e2
        exact ⟨u, r, .inr ⟨.inl hk, c, hc, hc'⟩⟩
      · rw [List.getElem?_set_ne (Ne.symm hj)] at e2
        obtain ⟨u', r', q⟩ := hl j y v' e1 e2 e3
        refine ⟨u', r', ?_⟩
        rcases q with q | ⟨k, c', e, z'⟩
        · exact .inl q
        · refine .inr ⟨k, c', e, z'.sameBut hs ?_⟩
          rintro rfl
          exact hj (nodup_ix hN e1 (I.ok.inj _ _ _ e hc ▸ hi))
    · by_cases hcc : c' = c
      · subst hcc; exact ⟨_, hc'⟩
      · obtain ⟨w2, z2⟩ := I.cell y c' e
        exact ⟨w2, z2.sameBut hs hcc⟩
    · obtain ⟨e, n, ne, nf, d⟩ := I.pin p hp
      refine ⟨(hs.2 p.1 ?_).trans e, n, ne, nf, d⟩
      intro q
      rw [q, hoc] at e
      have q' : oc = p.2 := Option.some.inj e
      exact d w' (by rw [← q']; exact hocd)
theorem store_ok {M : Model} {A : Around} {E : Value → Shared → Prop} {i : Nat} {x : Str} {v : V} {u : Value} {Q : Unit → Shared → Prop} (I : Inv X pins σ H s) (hN : X.N.Nodup) (hi : X.N[i]? = some x) (hx : Loc X.env.scope x) (r : RelV v u)
    (h : ∀ s', Inv X pins (σ.set i (some v)) H s' → Q () s') (hf : X.fn x = true ∨ X.env.scope.names.lookup x = some .local := by first | exact .inl rfl | exact .inr rfl | assumption) : wpAny M A (storeName X.env x u) Q E s :=
  store_ok2 I hN hi hx r (fun s' I' _ => h s' I') hf
theorem Inv.call' {s' : Shared} {ch : List Addr} (I : Inv X pins σ H s) (ho : s'.os = s.os) (u : Un (frs X.stack) ch H H' s.heap s'.heap) (hok : HOk X.prog X.w H' s'.heap) (hg : AllBare s'.gens)
    (hch : ∀ b ∈ ch, (b ∈ X.ex ∨ X.s₀.heap.objs.size ≤ b) ∧ b ≠ X.env.locals ∧ (∀ x c, X.env.cells.lookup x = some c → c ≠ b) ∧ ∀ p ∈ X.pn ++ pins, p.1 ≠ b) : Inv X pins σ H' s' := by
  obtain ⟨h', g', d', t', o'⟩ := s'
  have e : o' = s.os := ho
  subst e
  exact I.call (g' := g') (t' := t') (d' := d') u hok hg hch
end
abbrev XK := Value → Option Addr → Hp → Prop
abbrev St := List (Option V)
abbrev VK := V → Hp → Prop
abbrev TE := St → Hp → VK → Prop
abbrev TT := St → Hp → (Bool → Hp → Prop) → Prop
abbrev TA := St → Hp → (List V → Hp → Prop) → Prop
structure Ends where
  nx : St → Hp → Prop
  rt : VK
  bk : St → Hp → Prop := fun _ _ => False
  ct : St → Hp → Prop := fun _ _ => False
abbrev TS := Ends → St → Hp → Prop
def EP (X : Cx) (pins : List (Addr × Obj)) (σ : St) (Q : VK) (u : Value) (s' : Shared) : Prop := ∃ v H', Inv X pins σ H' s' ∧ RelV v u ∧ Q v H'
def TP (X : Cx) (pins : List (Addr × Obj)) (σ : St) (Q : Bool → Hp → Prop) (b : Bool) (s' : Shared) : Prop := ∃ H', Inv X pins σ H' s' ∧ Q b H'
def AP (X : Cx) (pins : List (Addr × Obj)) (σ : St) (Q : List V → Hp → Prop) (us : List Value) (s' : Shared) : Prop := ∃ vs H', Inv X pins σ H' s' ∧ Vals vs us ∧ Q vs H'
def SP (X : Cx) (pins : List (Addr × Obj)) (D : Ends) (f : Flow) (s' : Shared) : Prop :=
  match f with
  | .next => ∃ σ' H', Inv X pins σ' H' s' ∧ D.nx σ' H'
  | .brk => ∃ σ' H', Inv X pins σ' H' s' ∧ D.bk σ' H'
  | .cont => ∃ σ' H', Inv X pins σ' H' s' ∧ D.ct σ' H'
  | .ret u => ∃ v σ' H', Inv X pins σ' H' s' ∧ RelV v u ∧ D.rt v H'
def PE (X : Cx) (e : Expr) (t : TE) : Prop :=
  ∀ (pins : List (Addr × Obj)) (s : Shared) (σ : St) (H : Hp) (Q : VK), Inv X pins σ H s → t σ H Q → wpAny (model X.prog X.w) X.A (eval e X.env) (EP X pins σ Q) X.xe s
def PT (X : Cx) (e : Expr) (t : TT) : Prop :=
  ∀ (pins : List (Addr × Obj)) (s : Shared) (σ : St) (H : Hp) (Q : Bool → Hp → Prop), Inv X pins σ H s → t σ H Q → wpAny (model X.prog X.w) X.A (isTrue e X.env (eval e X.env)) (TP X pins σ Q) X.xe s
def PW (X : Cx) (e : Expr) (t : TT) : Prop :=
  ∀ (whole : Sem Value) (pins : List (Addr × Obj)) (s : Shared) (σ : St) (H : Hp) (Q : Bool → Hp → Prop), Inv X pins σ H s → t σ H Q → wpAny (model X.prog X.w) X.A (isTrue e X.env whole) (TP X pins σ Q) X.xe s
def PA (X : Cx) (es : List Expr) (t : TA) : Prop :=
  ∀ (pos : Pos) (pins : List (Addr × Obj)) (s : Shared) (σ : St) (H : Hp) (Q : List V → Hp → Prop), Inv X pins σ H s → t σ H Q → wpAny (model X.prog X.w) X.A (spliced (backTo pos (starEach es X.env))) (AP X pins σ Q) X.xe s
def PS (X : Cx) (st : Stmt) (t : TS) : Prop :=
  ∀ (pins : List (Addr × Obj)) (s : Shared) (σ : St) (H : Hp) (D : Ends), Inv X pins σ H s → t D σ H → wpAny (model X.prog X.w) X.A (exec st X.env) (SP X pins D) X.xe s
def PSs (X : Cx) (st : List Stmt) (t : TS) : Prop :=
  ∀ (pins : List (Addr × Obj)) (s : Shared) (σ : St) (H : Hp) (D : Ends), Inv X pins σ H s → t D σ H → wpAny (model X.prog X.w) X.A (execs st X.env) (SP X pins D) X.xe s
theorem thn {α : Type} {t : Sem α} {Q Q' : α → Shared → Prop} {M : Model} {A : Around} {E : Value → Shared → Prop} {s : Shared} (h : wpAny M A t Q E s) (hQ : ∀ a s, Q a s → Q' a s) : wpAny M A t Q' E s := wpAny_mono h hQ fun _ _ x => x
end L2
namespace L2
open PySem PySem.Spec PyProof.Rows
section
variable {X : Cx}
def tVar (i : Nat) : TE := fun σ H Q => ∃ v, σ[i]? = some (some v) ∧ Q v H
def tC (v : V) : TE := fun _ H Q => Q v H
theorem pe_var {i : Nat} {x : Str} {pos : Pos} (hN : X.N[i]? = some x) (hv : Vis X.env.scope x) (hd : (x == ("__debug__" : Str)) = false := by decide) (hcd : (x == ("__classdict__" : Str)) = false := by decide) : PE X (.Name x pos) (tVar i) := by
  intro pins s σ H Q I h
  obtain ⟨v, e, h⟩ := h
  obtain ⟨m, hn, hl⟩ := I.loc
  obtain ⟨u, r, l⟩ := hl i x v hN e hv
  have fin : EP X pins σ Q u s := ⟨v, H, I, r, h⟩
  rcases l with ⟨hk, hm⟩ | ⟨hk, c, hc, hcell⟩
  · exact wpAny_Name (wpAny_loadName_local I.ok.kind hk hn hm fin) hd
  · rcases hk with hk | hk
    · exact wpAny_Name (wpAny_loadName_cell I.ok.kind hk hc hcell fin) hd
    · exact wpAny_Name (wpAny_loadName_free I.ok.kind hk hc hcell fin hcd) hd
theorem pe_int {i j pos} : PE X (.Constant (.int i) j pos) (tC (.int i)) := fun _ _ _ H _ I h => wpAny_Constant_int ⟨.int i, H, I.tok _, ⟨_, rfl⟩, h⟩
theorem pe_bl {b j pos} : PE X (.Constant (.bool b) j pos) (tC (.bl b)) := fun _ _ _ H _ I h => Constant_bool ⟨.bl b, H, I, rfl, h⟩
theorem pe_non {j pos} : PE X (.Constant .none j pos) (tC .non) := fun _ _ _ H _ I h => Constant_none ⟨.non, H, I, rfl, h⟩
theorem pe_str {x j pos} : PE X (.Constant (.str x) j pos) (tC (.str x)) := fun _ _ _ H _ I h => Calls.Constant_str ⟨.str x, H, I.tok _, ⟨_, rfl⟩, h⟩
def Gl (X : Cx) (x : Str) : Prop := X.env.kindOf x = some .globalImplicit
theorem ld_glob {E : Value → Shared → Prop} {pins : List (Addr × Obj)} {s : Shared} {σ : St} {H : Hp} {x : Str} {u : Value} {pos : Pos} {Q : Value → Shared → Prop} (I : Inv X pins σ H s) (hg : Gl X x) (hm : X.mg x = some u) (h : Q u s)
    (hd : (x == ("__debug__" : Str)) = false := by decide) : wpAny (model X.prog X.w) X.A (eval (.Name x pos) X.env) Q E s :=
  Calls.Name_function_global I.ok.kind hg (Calls.loadGlobal_global (by rw [I.ok.glob]; exact I.mod.glob.keeps I.bk) hm h) hd
theorem ld_blt {E : Value → Shared → Prop} {pins : List (Addr × Obj)} {s : Shared} {σ : St} {H : Hp} {x : Str} {u : Value} {pos : Pos} {Q : Value → Shared → Prop} (I : Inv X pins σ H s) (hg : Gl X x) (hm : X.mg x = none) (hv : bootBuiltins x = some u) (h : Q u s)
    (hn : x ≠ "__name__" := by decide) (hd : (x == ("__debug__" : Str)) = false := by decide) : wpAny (model X.prog X.w) X.A (eval (.Name x pos) X.env) Q E s := by
  obtain ⟨mb, h1, h2⟩ := I.mod.blt
  exact Calls.Name_function_global I.ok.kind hg (Calls.loadGlobal_builtin (by rw [I.ok.glob]; exact I.mod.glob.keeps I.bk) hm (by rw [I.ok.blt]; exact h1.keeps I.bk) ((h2 x hn).trans hv) h) hd
theorem pe_glob {x : Str} {v : V} {u : Value} {pos : Pos} (hg : Gl X x) (hm : X.mg x = some u) (r : RelV v u) (hd : (x == ("__debug__" : Str)) = false := by decide) : PE X (.Name x pos) (tC v) :=
  fun _ _ _ H _ I h => ld_glob I hg hm ⟨v, H, I, r, h⟩ hd
theorem pe_bltn {x : Str} {v : V} {u : Value} {pos : Pos} (hg : Gl X x) (hm : X.mg x = none) (hv : bootBuiltins x = some u) (r : RelV v u) (hn : x ≠ "__name__" := by decide) (hd : (x == ("__debug__" : Str)) = false := by decide) : PE X (.Name x pos) (tC v) :=
  fun _ _ _ H _ I h => ld_blt I hg hm hv ⟨v, H, I, r, h⟩ hn hd
variable {a b : Expr} {ta tb : TE} {pos : Pos}
def PC (X : Cx) (op : CmpOp) (a b : Expr) (t : TE) : Prop :=
  ∀ (pins : List (Addr × Obj)) (s : Shared) (σ : St) (H : Hp) (Q : VK), Inv X pins σ H s → t σ H Q →
    wpAny (model X.prog X.w) X.A (eval a X.env) (fun v s₁ => wpAny (model X.prog X.w) X.A (eval b X.env) (fun u s₂ => wpAny (model X.prog X.w) X.A (compareOp op v u) (EP X pins σ Q) X.xe s₂) X.xe s₁) X.xe s
theorem nobehind (b : Expr) {op : CmpOp} (h : op ≠ .In) (h2 : op ≠ .NotIn) : behindInMarks op b = false := by
  have e1 : (op == CmpOp.In) = false := by cases op <;> first | rfl | exact absurd rfl h
  have e2 : (op == CmpOp.NotIn) = false := by cases op <;> first | rfl | exact absurd rfl h2
  cases b <;> simp [behindInMarks, e1, e2]
def tIsN (ta : TE) : TE := fun σ H Q => ta σ H fun x H1 => Q (.bl (decide (x = .non))) H1
theorem RelV.none_iff {x : V} {v : Value} (r : RelV x v) : (v == Value.none) = decide (x = .non) := by
  cases x with
  | non => cases r; rfl
  | bl _ => cases r; rfl
  | int _ => obtain ⟨t, rfl⟩ := r; rfl
  | str _ => obtain ⟨t, rfl⟩ := r; rfl
  | byt _ => obtain ⟨t, rfl⟩ := r; rfl
  | flt _ => obtain ⟨t, rfl⟩ := r; rfl
  | ref _ => cases r; rfl
  | ty _ => cases r; rfl
theorem pc_isN {j pos'} (ha : PE X a ta) : PC X .Is a (.Constant .none j pos') (tIsN ta) := by
  intro pins s σ H Q I h
  refine thn (ha pins s σ H _ I h) fun v s1 ⟨x, H1, I1, r1, q1⟩ => ?_
  exact Constant_none (is_none_gen ⟨.bl _, H1, I1, by rw [r1.none_iff]; rfl, q1⟩)
def tB (t : TE) : TT := fun σ H Q => t σ H fun x H1 => ∃ c, x = .bl c ∧ Q c H1
theorem pt_cmp {op : CmpOp} {t : TE} (h : PC X op a b t) (h1 : behindInMarks op b = false := by first | exact nobehind _ (by decide) (by decide) | rfl) : PT X (.Compare a [op] [b] pos) (tB t) := by
  intro pins s σ H Q I hw
  refine wpAny_isTrue_Compare1 (thn (h pins s σ H _ I hw) fun v s1 h1 => thn h1 fun u s2 h2 => thn h2 fun c s3 ⟨x, H1, I1, r1, q1⟩ => ?_) h1
  obtain ⟨d, rfl, q⟩ := q1
  cases r1
  exact wpAny_truthy_bool ⟨H1, I1, q⟩
theorem pt_val {e : Expr} {t : TE} (h : PE X e t) (he : ∀ whole, isTrue e X.env whole = (do let v ← whole; standAt e.pos; holding [v] (truthy v)) := by intro _; rfl) : PT X e (tB t) := by
  intro pins s σ H Q I hw
  refine isTrue_plain (thn (h pins s σ H _ I hw) fun v s1 ⟨x, H1, I1, r1, q1⟩ => ?_) (he _)
  obtain ⟨d, rfl, q⟩ := q1
  cases r1
  exact wpAny_truthy_bool ⟨H1, I1, q⟩
variable {tA tB' : TT} {rest : List Expr}
def tAnd (t u : TT) : TT := fun σ H Q => t σ H fun c H1 => if c = true then u σ H1 Q else Q false H1
def tOr (t u : TT) : TT := fun σ H Q => t σ H fun c H1 => if c = true then Q true H1 else u σ H1 Q
def tNot (t : TT) : TT := fun σ H Q => t σ H fun c H1 => Q (!c) H1
theorem pw_and1 (ha : PT X a tA) : PW X (.BoolOp .And [a] pos) tA := by
  intro wh pins s σ H Q I h
  refine isTrue_and (thn (ha pins s σ H Q I h) fun c s1 e => ?_)
  cases c with
  | true => exact isTrue_and_nil e
  | false => exact e
theorem pw_or1 (ha : PT X a tA) : PW X (.BoolOp .Or [a] pos) tA := by
  intro wh pins s σ H Q I h
  refine isTrue_or (thn (ha pins s σ H Q I h) fun c s1 e => ?_)
  cases c with
  | false => exact isTrue_or_nil e
  | true => exact e
theorem pw_and (ha : PT X a tA) (hb : PW X (.BoolOp .And (b :: rest) pos) tB') : PW X (.BoolOp .And (a :: b :: rest) pos) (tAnd tA tB') := by
  intro wh pins s σ H Q I h
  refine isTrue_and (thn (ha pins s σ H _ I h) fun c s1 ⟨H1, I1, q1⟩ => ?_)
  cases c with
  | true => exact hb wh pins s1 σ H1 Q I1 q1
  | false => exact ⟨H1, I1, q1⟩
theorem pw_or (ha : PT X a tA) (hb : PW X (.BoolOp .Or (b :: rest) pos) tB') : PW X (.BoolOp .Or (a :: b :: rest) pos) (tOr tA tB') := by
  intro wh pins s σ H Q I h
  refine isTrue_or (thn (ha pins s σ H _ I h) fun c s1 ⟨H1, I1, q1⟩ => ?_)
  cases c with
  | true => exact ⟨H1, I1, q1⟩
  | false => exact hb wh pins s1 σ H1 Q I1 q1
theorem pt_not (ha : PT X a tA) : PT X (.UnaryOp .Not a pos) (tNot tA) := by
  intro pins s σ H Q I h
  exact isTrue_not (ha pins s σ H (fun c H1 => Q (!c) H1) I h)
def tAndV (ta tb : TE) : TE := fun σ H Q => ta σ H fun x H1 => ∃ c, x = .bl c ∧ if c = true then tb σ H1 Q else Q (.bl false) H1
def tOrV (ta tb : TE) : TE := fun σ H Q => ta σ H fun x H1 => ∃ c, x = .bl c ∧ if c = true then Q (.bl true) H1 else tb σ H1 Q
def tNotV (ta : TE) : TE := fun σ H Q => ta σ H fun x H1 => ∃ c, x = .bl c ∧ Q (.bl (!c)) H1
theorem pe_one {op} {t : TE} (h : PE X a t) : PE X (.BoolOp op [a] pos) t := fun pins s σ H Q I hw => BoolOp_one (h pins s σ H Q I hw)
theorem pe_and (ha : PE X a ta) (hb : PE X (.BoolOp .And (b :: rest) pos) tb) : PE X (.BoolOp .And (a :: b :: rest) pos) (tAndV ta tb) := by
  intro pins s σ H Q I h
  refine BoolOp_and (thn (ha pins s σ H _ I h) fun v s1 ⟨x, H1, I1, r1, q1⟩ => ?_)
  obtain ⟨c, rfl, q1⟩ := q1
  cases r1
  refine wpAny_truthy_bool ?_
  cases c with
  | true => exact hb pins s1 σ H1 Q I1 q1
  | false => exact ⟨.bl false, H1, I1, rfl, q1⟩
theorem pe_or (ha : PE X a ta) (hb : PE X (.BoolOp .Or (b :: rest) pos) tb) : PE X (.BoolOp .Or (a :: b :: rest) pos) (tOrV ta tb) := by
  intro pins s σ H Q I h
  refine BoolOp_or (thn (ha pins s σ H _ I h) fun v s1 ⟨x, H1, I1, r1, q1⟩ => ?_)
  obtain ⟨c, rfl, q1⟩ := q1
  cases r1
  refine wpAny_truthy_bool ?_
  cases c with
  | false => exact hb pins s1 σ H1 Q I1 q1
  | true => exact ⟨.bl true, H1, I1, rfl, q1⟩
theorem pe_not (ha : PE X a ta) : PE X (.UnaryOp .Not a pos) (tNotV ta) := by
  intro pins s σ H Q I h
  refine UnaryOp_ (thn (ha pins s σ H _ I h) fun v s1 ⟨x, H1, I1, r1, q1⟩ => ?_)
  obtain ⟨c, rfl, q1⟩ := q1
  cases r1
  exact not_of (wpAny_truthy_bool ⟨.bl (!c), H1, I1, rfl, q1⟩)
end
end L2
namespace L2
open PySem PySem.Spec PyProof.Rows
def SqL (K : PySem.W.Frag) (H : Hp) (a : Addr) (xs : List V) : Prop :=
  Rd H a (.lst xs) ∨
    ∃ (o : Obj) (its : Array Value) (n : Nat), K.lookup a = some o ∧ o.cls = .type "list" ∧ o.dict = none ∧ o.data = .seq its n ∧ its.size ≤ sizeLine ∧ Vals xs its.toList
def SqT (K : PySem.W.Frag) (H : Hp) (a : Addr) (xs : List V) : Prop :=
  Rd H a (.tup xs) ∨
    ∃ (o : Obj) (its : Array Value) (n : Nat), K.lookup a = some o ∧ o.cls = .type "tuple" ∧ o.data = .seq its n ∧ its.size ≤ sizeLine ∧ Vals xs its.toList
def absV : Value → Option V
  | .none => some .non
  | .bool b => some (.bl b)
  | .int i _ => some (.int i)
  | .str x _ => some (.str x)
  | .bytes b _ => some (.byt b)
  | .float b _ => some (.flt b)
  | .ref a => some (.ref a)
  | .type n => some (.ty n)
  | _ => none
theorem RelV.abs {x : V} {u : Value} (r : RelV x u) : absV u = some x := by
  cases x with
  | non => cases r; rfl
  | bl _ => cases r; rfl
  | int _ => obtain ⟨t, rfl⟩ := r; rfl
  | str _ => obtain ⟨t, rfl⟩ := r; rfl
  | byt _ => obtain ⟨t, rfl⟩ := r; rfl
  | flt _ => obtain ⟨t, rfl⟩ := r; rfl
  | ref _ => cases r; rfl
  | ty _ => cases r; rfl
theorem RelV.inj {x y : V} {u : Value} (r : RelV x u) (q : RelV y u) : x = y := Option.some.inj (r.abs.symm.trans q.abs)
theorem Vals.inj : ∀ {xs ys : List V} {us : List Value}, Vals xs us → Vals ys us → xs = ys
  | _, _, _, .nil, .nil => rfl
  | _, _, _, .cons r t, .cons r' t' => by rw [r.inj r', Vals.inj t t']
section
variable {X : Cx} {pins : List (Addr × Obj)} {σ : St} {H : Hp} {s : Shared} {a : Addr} {xs ys : List V}
theorem SqL.of {K : PySem.W.Frag} (h : H a = some (.lst xs)) : SqL K H a xs := .inl (.inl h)
theorem SqT.of {K : PySem.W.Frag} (h : H a = some (.tup xs)) : SqT K H a xs := .inl (.inl h)
theorem Inv.list (I : Inv X pins σ H s) (h : SqL X.K H a xs) : ∃ its : List Value, Vals xs its ∧ PlainL s.heap a its.toArray ∧ xs.length ≤ sizeLine := by
  rcases h with h | ⟨o, its, n, hk, hc, hd, hs, hz, r⟩
  · obtain ⟨z, its, n, r, e⟩ := h.ok I.hok
    exact ⟨its, r, ⟨_, n, e, rfl, rfl, rfl⟩, z⟩
  · refine ⟨its.toList, r, ⟨o, n, I.kIn a o hk, hc, hd, by simpa using hs⟩, ?_⟩
    have e := r.length
    simp only [Array.length_toList] at e
    omega
theorem Inv.tuple (I : Inv X pins σ H s) (h : SqT X.K H a xs) : ∃ its : List Value, Vals xs its ∧ IsTup s.heap a its.toArray ∧ xs.length ≤ sizeLine := by
  rcases h with h | ⟨o, its, n, hk, hc, hs, hz, r⟩
  · obtain ⟨z, its, r, p⟩ := h.ok I.hok
    exact ⟨its, r, p, z⟩
  · refine ⟨its.toList, r, ⟨o, I.kIn a o hk, hc, n, by simpa using hs⟩, ?_⟩
    have e := r.length
    simp only [Array.length_toList] at e
    omega
theorem Inv.list_inj (I : Inv X pins σ H s) (h : SqL X.K H a xs) (h' : SqL X.K H a ys) : xs = ys := by
  obtain ⟨its, r, ⟨o, n, e, _, _, d⟩, _⟩ := I.list h
  obtain ⟨its', r', ⟨o', n', e', _, _, d'⟩, _⟩ := I.list h'
  rw [e] at e'; cases e'
  rw [d] at d'
  injection d' with d1 _
  have : its = its' := by simpa using congrArg Array.toList d1
  subst this
  exact r.inj r'
end
abbrev Cx.wish (X : Cx) (E : Value → Shared → Prop) : Cx := { X with xe := E }
abbrev Cx.nox (X : Cx) : Cx := X.wish fun _ _ => False
theorem Cx.Ok.wish {X : Cx} (ok : X.Ok) (E : Value → Shared → Prop) : (X.wish E).Ok :=
  ⟨ok.mod, ok.kind, ok.glob, ok.blt, ok.above, ok.inj, ok.has, ok.cab, ok.hd, ok.frames, ok.stk, ok.exf, ok.bs, ok.bsz, ok.noex, ok.exfs, ok.funs, ok.frf⟩
theorem Cx.Ok.unwish {X : Cx} {E : Value → Shared → Prop} (ok : (X.wish E).Ok) : X.Ok :=
  ⟨ok.mod, ok.kind, ok.glob, ok.blt, ok.above, ok.inj, ok.has, ok.cab, ok.hd, ok.frames, ok.stk, ok.exf, ok.bs, ok.bsz, ok.noex, ok.exfs, ok.funs, ok.frf⟩
section
variable {X : Cx} {pins : List (Addr × Obj)} {σ : St} {H : Hp} {s : Shared} {E : Value → Shared → Prop}
theorem Inv.wish (I : Inv X pins σ H s) (E : Value → Shared → Prop) : Inv (X.wish E) pins σ H s := ⟨I.ok.wish E, I.os, I.bare, I.base, I.loc, I.cell, I.free, I.freeC, I.pin, I.hok, I.len⟩
theorem Inv.unwish (I : Inv (X.wish E) pins σ H s) : Inv X pins σ H s := ⟨I.ok.unwish, I.os, I.bare, I.base, I.loc, I.cell, I.free, I.freeC, I.pin, I.hok, I.len⟩
theorem SP.unwish {D : Ends} {f : Flow} {s' : Shared} (h : SP (X.wish E) pins D f s') : SP X pins D f s' := by
  cases f with
  | next => obtain ⟨σ', H', I, q⟩ := h; exact ⟨σ', H', I.unwish, q⟩
  | brk => obtain ⟨σ', H', I, q⟩ := h; exact ⟨σ', H', I.unwish, q⟩
  | cont => obtain ⟨σ', H', I, q⟩ := h; exact ⟨σ', H', I.unwish, q⟩
  | ret u => obtain ⟨v, σ', H', I, r, q⟩ := h; exact ⟨v, σ', H', I.unwish, r, q⟩
theorem PSs.nox {st : List Stmt} {t : TS} (h : PSs X.nox st t) : PSs X st t := fun pins s σ H D I hw =>
  wpAny_mono (h pins s σ H D (I.wish _) hw) (fun _ _ q => q.unwish) fun _ _ z => False.elim z
end
section
variable {X : Cx} {st : Stmt} {rest : List Stmt} {t u : TS} {e : Expr} {te : TE} {pos : Pos}
def tNext : TS := fun D σ H => D.nx σ H
def tSeq (t u : TS) : TS := fun D σ H => t { D with nx := u D } σ H
theorem pss_nil : PSs X [] tNext := fun _ _ σ H _ I h => wpAny_execs_nil ⟨σ, H, I, h⟩
theorem pss_cons (h1 : PS X st t) (h2 : PSs X rest u) : PSs X (st :: rest) (tSeq t u) := by
  intro pins s σ H D I h
  refine wpAny_execs_cons (thn (h1 pins s σ H { D with nx := u D } I h) fun f s1 q => ?_)
  cases f with
  | next =>
    obtain ⟨σ', H', I', q⟩ := q
    exact h2 pins s1 σ' H' D I' q
  | ret v => exact q
  | brk => exact q
  | cont => exact q
theorem pss_one (h1 : PS X st t) : PSs X [st] t := by
  intro pins s σ H D I h
  refine wpAny_execs_cons (thn (h1 pins s σ H D I h) fun f s1 q => ?_)
  cases f with
  | next => exact wpAny_execs_nil q
  | ret v => exact q
  | brk => exact q
  | cont => exact q
theorem Inv.quiet {pins : List (Addr × Obj)} {σ : St} {H : Hp} {s : Shared} (I : Inv X pins σ H s) : interactive X.env = false := by simp [interactive, I.ok.kind]
def tDrop (te : TE) : TS := fun D σ H => te σ H fun _ H1 => D.nx σ H1
theorem ps_expr (he : PE X e te) (hs : swapsWith e none pos.line X.env = pure false := by rfl) : PS X (.Expr e pos) (tDrop te) := by
  intro pins s σ H D I h
  exact wpAny_Expr_any (thn (he pins s σ H _ I h) fun v s1 ⟨x, H1, I1, r1, q1⟩ => ⟨σ, H1, I1, q1⟩) I.quiet hs
def tRet (te : TE) : TS := fun D σ H => te σ H D.rt
theorem ps_ret (he : PE X e te) : PS X (.Return (some e) pos) (tRet te) := by
  intro pins s σ H D I h
  exact wpAny_Return_some (thn (he pins s σ H _ I h) fun v s1 ⟨x, H1, I1, r1, q1⟩ => ⟨x, σ, H1, I1, r1, q1⟩)
def tIfS (c : TT) (t u : TS) : TS := fun D σ H => c σ H fun b H1 => if b = true then t D σ H1 else u D σ H1
theorem ps_if {c : Expr} {a b : List Stmt} {tc : TT} (hc : PT X c tc) (ha : PSs X a t) (hb : PSs X b u) : PS X (.If c a b pos) (tIfS tc t u) := by
  intro pins s σ H D I h
  refine wpAny_If (thn (hc pins s σ H _ I h) fun d s1 ⟨H1, I1, q1⟩ => ?_)
  cases d with
  | true => exact ha pins s1 σ H1 D I1 q1
  | false => exact hb pins s1 σ H1 D I1 q1
def tNever : TS := fun _ _ _ => False
theorem pss_never {sts : List Stmt} : PSs X sts tNever := fun _ _ _ _ _ _ h => h.elim
end
abbrev TG := V → St → Hp → (St → Hp → Prop) → Prop
def PG (X : Cx) (target : Expr) (t : TG) : Prop :=
  ∀ (pins : List (Addr × Obj)) (s : Shared) (σ : St) (H : Hp) (v : V) (u : Value) (Q : St → Hp → Prop), Inv X pins σ H s → RelV v u → t v σ H Q →
    wpAny (model X.prog X.w) X.A (assign target X.env u) (fun _ s' => ∃ σ' H', Inv X pins σ' H' s' ∧ Q σ' H') X.xe s
section
variable {X : Cx} {pos : Pos}
def gName (i : Nat) : TG := fun v σ H Q => Q (σ.set i (some v)) H
theorem pg_name {i : Nat} {x : Str} (hN : X.N.Nodup) (hi : X.N[i]? = some x) (hx : Loc X.env.scope x) (hf : X.fn x = true ∨ X.env.scope.names.lookup x = some .local := by first | exact .inl rfl | exact .inr rfl | assumption) : PG X (.Name x pos) (gName i) := by
  intro pins s σ H v u Q I r h
  exact wpAny_assign_Name (store_ok I hN hi hx r (fun s' I' => ⟨_, H, I', h⟩) hf)
def tAsg (te : TE) (g : TG) : TS := fun D σ H => te σ H fun x H1 => g x σ H1 D.nx
theorem ps_set {i : Nat} {x : Str} {e : Expr} {te : TE} {pos' : Pos} (hN : X.N.Nodup) (hi : X.N[i]? = some x) (hx : Loc X.env.scope x) (he : PE X e te) (hs : swapsWith e (some (.Name x pos')) pos.line X.env = pure false := by rfl) (hf : X.fn x = true ∨ X.env.scope.names.lookup x = some .local := by first | exact .inl rfl | exact .inr rfl | assumption) :
    PS X (.Assign [.Name x pos'] e pos) (tAsg te (gName i)) := by
  intro pins s σ H D I h
  refine wpAny_Assign_Name (thn (he pins s σ H _ I h) fun v s1 ⟨y, H1, I1, r1, q1⟩ => ?_) hs
  exact store_ok I1 hN hi hx r1 (fun s2 I2 => ⟨_, H1, I2, q1⟩) hf
end
section
variable {X : Cx} {pos : Pos}
end
structure It where
  go : Nat → Hp → Prop
  yld : Nat → Hp → V → Hp → Prop
  stop : Nat → Hp → Prop
def FpOk (X : Cx) (pins : List (Addr × Obj)) (H : Hp) (b : Addr) : Prop :=
  H b = none ∧ b ≠ X.env.locals ∧ b ∉ X.fs ∧ (b ∈ X.ex ∨ X.s₀.heap.objs.size ≤ b) ∧ (∀ x c, X.env.cells.lookup x = some c → c ≠ b) ∧ ∀ p ∈ X.pn ++ pins, p.1 ≠ b
theorem Inv.fpOk {X : Cx} {pins : List (Addr × Obj)} {σ : St} {H H' : Hp} {s : Shared} {b : Addr} (I : Inv X pins σ H s) (hb : s.heap.objs.size ≤ b) (hn : H' b = none) : FpOk X pins H' b := by
  refine ⟨hn, Nat.ne_of_gt (Nat.lt_of_lt_of_le I.lt hb), I.nofs hb, .inr (Nat.le_trans I.sz hb), fun x c e z => ?_, fun p hp z => ?_⟩
  · obtain ⟨v, q⟩ := I.cell x c e
    exact absurd (Nat.lt_of_lt_of_le q.lt (by rw [z]; exact hb)) (Nat.lt_irrefl _)
  · exact absurd (Nat.lt_of_lt_of_le (Heap.lt_size (I.pin p hp).1) (by rw [z]; exact hb)) (Nat.lt_irrefl _)
structure Turn (P : Program) (w : World) (K : PySem.W.Frag) (tg : Expr) (J : It) (fp : List Addr) (it : Addr) (tn : Nat → Heap → Prop) : Prop where
  mem : it ∈ fp
  obj : ∀ i h, tn i h → ∀ b ∈ fp, ∃ o, h.get? b = some o ∧ ∀ v, o.data ≠ .cell v
  keep : ∀ i h h', tn i h → (∀ b ∈ fp, ∀ o, h.get? b = some o → h'.get? b = some o) → tn i h'
  item : ∀ (X : Cx), X.prog = P → X.w = w → X.K = K → X.calm = true → ∀ (i : Nat) (pins : List (Addr × Obj)) (s : Shared) (σ : St) (H : Hp) (E : Value → Shared → Prop), Inv X pins σ H s → (∀ b ∈ fp, FpOk X pins H b) → tn i s.heap → J.go i H →
    wpAny (model P w) X.A (pyNext (.ref it)) (fun r s1 => ∃ u, r = some u ∧
      wpAny (model P w) X.A (letOwnedTupleGo tg (.ref it) u) (fun _ s2 => ∃ x H', Inv X pins σ H' s2 ∧ RelV x u ∧ J.yld i H x H' ∧ tn (i + 1) s2.heap ∧ ∀ b ∈ fp, H' b = none) E s1) E s
  done : ∀ (X : Cx), X.prog = P → X.w = w → X.K = K → X.calm = true → ∀ (i : Nat) (pins : List (Addr × Obj)) (s : Shared) (σ : St) (H : Hp) (E : Value → Shared → Prop), Inv X pins σ H s → (∀ b ∈ fp, FpOk X pins H b) → tn i s.heap → J.stop i H →
    wpAny (model P w) X.A (pyNext (.ref it)) (fun r s1 => r = none ∧ Inv X pins σ H s1) E s
  self : ∀ (A : Around) (i : Nat) (s : Shared) (Q : Value → Shared → Prop) (E : Value → Shared → Prop), tn i s.heap → Q (.ref it) s → wpAny (model P w) A (pyIter (.ref it)) Q E s
abbrev TI := St → Hp → (It → Hp → Prop) → Prop
def PIE (X : Cx) (pins : List (Addr × Obj)) (σ : St) (tg : Expr) (R : It → Hp → Prop) (itv : Value) (s2 : Shared) : Prop :=
  ∃ (it : Addr) (fp : List Addr) (tn : Nat → Heap → Prop) (J : It) (H' : Hp), itv = .ref it ∧ Inv X pins σ H' s2 ∧ Turn X.prog X.w X.K tg J fp it tn ∧ tn 0 s2.heap ∧ (∀ b ∈ fp, FpOk X pins H' b) ∧ R J H'
def PI (X : Cx) (tg iter : Expr) (wi : TI) : Prop :=
  ∀ (pins : List (Addr × Obj)) (s : Shared) (σ : St) (H : Hp) (R : It → Hp → Prop), Inv X pins σ H s → wi σ H R →
    wpAny (model X.prog X.w) X.A (eval iter X.env) (fun v s1 => wpAny (model X.prog X.w) X.A (pyIter v) (PIE X pins σ tg R) X.xe s1) X.xe s
theorem go_of {M : Model} {A : Around} {E : Value → Shared → Prop} {s : Shared} {tg : Expr} {it : Addr} {u : Value} {o : Obj} {n : String} {vs : Array Value} {Q : Unit → Shared → Prop} (ho : s.heap.get? it = some o) (hc : o.cls = .type n) (hd : o.data = .fields vs)
    (hn : ["enumerate", "zip", "dict_itemiterator", "dict_reverseitemiterator", "odict_iterator", "itertools.zip_longest", "itertools.pairwise"].contains n = false) (hQ : Q () s) : wpAny M A (letOwnedTupleGo tg (.ref it) u) Q E s := by
  unfold letOwnedTupleGo
  cases tg <;> first
    | exact wpAny_pure hQ
    | (cases u <;> first
        | exact wpAny_pure hQ
        | (refine wpAny_bind (wpAny_load ho ?_)
           rw [hc, hd]
           show wpAny M A (if (["enumerate", "zip", "dict_itemiterator", "dict_reverseitemiterator", "odict_iterator", "itertools.zip_longest", "itertools.pairwise"].contains n && vs[0]? == some (rawInt _)) = true then _ else _) Q E s
           rw [if_neg (by intro h; rw [hn, Bool.false_and] at h; cases h)]
           exact wpAny_pure hQ))
def Itl (K : PySem.W.Frag) (a : Addr) : It :=
  ⟨fun i H => ∃ xs x, SqL K H a xs ∧ xs[i]? = some x, fun i H x H' => H' = H ∧ ∀ xs, SqL K H a xs → xs[i]? = some x, fun i H => ∃ xs, SqL K H a xs ∧ xs.length ≤ i⟩
def Itr (lo : Int) (n : Nat) : It := ⟨fun i _ => i < n, fun i H x H' => H' = H ∧ x = .int (lo + i), fun i _ => n ≤ i⟩
theorem turn_list {P : Program} {w : World} {K : PySem.W.Frag} {tg : Expr} (a it : Addr) : Turn P w K tg (Itl K a) [it] it (fun i h => h.IsListIter it a i) where
  mem := by simp
  obj := fun i h st b hb => by
    have e : b = it := by simpa using hb
    subst e
    obtain ⟨o, e, c, d⟩ := st
    exact ⟨o, e, fun v z => by rw [d] at z; cases z⟩
  keep := fun i h h' st k => st.at fun o e => k it (by simp) o e
  item := by
    intro X hP hw hK hc i pins s σ H E I hf st hg
    subst hP hw hK
    obtain ⟨xs, x, hq, hx⟩ := hg
    obtain ⟨its, rv, p, hz⟩ := I.list hq
    obtain ⟨u, hu, ru⟩ := rv.get hx
    obtain ⟨f0, f1, f2, f3, f4, f5⟩ := hf it (by simp)
    refine wpAny_pyNext_list_item st p.isList (x := u) (by simpa using hu) fun h' st' sb => ?_
    have I1 : Inv X pins σ H { s with heap := h' } := I.turned (t' := s.toks) (fun b o hb e => (sb.2 b hb).trans e) f0 f1 f3 f4 f5
    obtain ⟨o, e, c, d⟩ := id st'
    exact ⟨u, rfl, go_of (s := { s with heap := h' }) e c d (by decide) ⟨x, H, I1, ru, ⟨rfl, fun ys hy => by rw [I.list_inj hy hq]; exact hx⟩, st', fun b hb => (hf b hb).1⟩⟩
  done := by
    intro X hP hw hK hc i pins s σ H E I hf st hg
    subst hP hw hK
    obtain ⟨xs, hq, hx⟩ := hg
    obtain ⟨its, rv, p, hz⟩ := I.list hq
    obtain ⟨f0, f1, f2, f3, f4, f5⟩ := hf it (by simp)
    have hl := rv.length
    exact wpAny_pyNext_list_end (I.ok.hd hc) st p.isList (by simp; omega) fun h' eb => ⟨rfl, I.turned (t' := s.toks) (fun b o hb e => eb b o hb e) f0 f1 f3 f4 f5⟩
  self := fun _ _ _ _ _ st h => wpAny_pyIter_listiter st h
theorem turn_range {P : Program} {w : World} {K : PySem.W.Frag} {tg : Expr} (it : Addr) (lo : Int) (n : Nat) : Turn P w K tg (Itr lo n) [it] it (fun i h => IsRangeIter h it (lo + (i : Nat) * 1) ((n : Int) - (i : Nat)) 1) where
  mem := by simp
  obj := fun i h st b hb => by
    have e : b = it := by simpa using hb
    subst e
    exact ⟨_, st, fun v z => by
      have z' : Data.fields _ = Data.cell v := z
      cases z'⟩
  keep := fun i h h' st k => k it (by simp) _ st
  item := by
    intro X hP hw hK hc i pins s σ H E I hf st hg
    subst hP hw hK
    obtain ⟨f0, f1, f2, f3, f4, f5⟩ := hf it (by simp)
    have W := Walks.range (prog := X.prog) (w := X.w) (I.ok.hd hc) it lo 1 n
    refine W.item i s _ _ hg st fun v h' tk hv st' kk => ?_
    obtain ⟨t, rfl⟩ := hv
    have I1 : Inv X pins σ H { s with heap := h', toks := tk } := I.turned (fun b o hb e => kk b o (by simpa using hb) e) f0 f1 f3 f4 f5
    refine ⟨_, rfl, go_of (s := { s with heap := h', toks := tk }) (n := "range_iterator") st' rfl rfl (by decide) ⟨.int (lo + i), H, I1, ⟨t, ?_⟩, ⟨rfl, rfl⟩, st', fun b hb => (hf b hb).1⟩⟩
    rw [Int.mul_one]
  done := by
    intro X hP hw hK hc i pins s σ H E I hf st hg
    subst hP hw hK
    obtain ⟨f0, f1, f2, f3, f4, f5⟩ := hf it (by simp)
    exact wpAny_pyNext_range_end (I.ok.hd hc) st (by have : n ≤ i := hg; omega) fun h' eb => ⟨rfl, I.turned (t' := s.toks) (fun b o hb e => eb b o hb e) f0 f1 f3 f4 f5⟩
  self := fun _ _ _ _ _ st h => wpAny_pyIter_rangeiter st h
end L2
namespace L2
open PySem PySem.Spec PyProof.Rows
section
variable {X : Cx} {tg : Expr}
def iList (K : PySem.W.Frag) (tl : TE) : TI := fun σ H R => tl σ H fun x H1 => ∃ a, x = .ref a ∧ (∃ xs, SqL K H1 a xs) ∧ R (Itl K a) H1
theorem pi_list {l : Expr} {tl : TE} (hl : PE X l tl) : PI X tg l (iList X.K tl) := by
  intro pins s σ H R I h
  refine thn (hl pins s σ H _ I h) fun v s1 ⟨x, H1, I1, r1, q1⟩ => ?_
  obtain ⟨a, e, ⟨xs, hq⟩, q⟩ := q1
  subst e
  cases r1
  obtain ⟨its, rv, p, hz⟩ := I1.list hq
  refine wpAny_pyIter_list p.isList ?_
  refine ⟨s1.heap.objs.size, [s1.heap.objs.size], _, _, H1, rfl, I1.kept (t' := s1.toks) fun b o e => Heap.get?_push_of_some _ e, turn_list a _, ⟨_, Heap.get?_push_size _ rfl, rfl, rfl⟩, fun b hb => ?_, q⟩
  have e : b = s1.heap.objs.size := by simpa using hb
  subst e
  exact I1.fpOk (Nat.le_refl _) (I1.hok.fresh (Nat.le_refl _))
theorem range_it {pins : List (Addr × Obj)} {σ : St} {H : Hp} {s : Shared} {R : It → Hp → Prop} {E : Value → Shared → Prop} {lo hi : Int} {t u v : Tok} {tk : Nat} (I : Inv X pins σ H s) (h1 : -(2 ^ 62) ≤ lo) (h2 : lo < 2 ^ 62) (h3 : -(2 ^ 62) ≤ hi) (h4 : hi < 2 ^ 62)
    (q : R (Itr lo (hi - lo).toNat) H) : wpAny (model X.prog X.w) X.A (pyIter (.ref s.heap.objs.size)) (PIE X pins σ tg R) E { s with heap := s.heap.push { cls := .type "range", data := .fields #[.int lo t, .int hi u, .int 1 v] }, toks := tk } := by
  refine wpAny_pyIter_range (IsRange.new ..) (small_one h1 h2 h3 h4) ?_
  have I1 : Inv X pins σ H { s with heap := s.heap.push { cls := .type "range", data := .fields #[.int lo t, .int hi u, .int 1 v] }, toks := tk } := I.kept fun b o e => Heap.get?_push_of_some _ e
  refine ⟨(s.heap.push { cls := .type "range", data := .fields #[.int lo t, .int hi u, .int 1 v] }).objs.size, [(s.heap.push { cls := .type "range", data := .fields #[.int lo t, .int hi u, .int 1 v] }).objs.size], _, _, H, rfl,
    I1.kept (t' := tk) fun b o e => Heap.get?_push_of_some _ e, turn_range _ lo (hi - lo).toNat, ?_, fun b hb => ?_, q⟩
  · have e1 : lo + ((0 : Nat) : Int) * 1 = lo := by simp
    have e2 : (((hi - lo).toNat : Nat) : Int) - ((0 : Nat) : Int) = Builtin.Range.rangeSize lo hi 1 := by rw [rangeSize_one]; split <;> omega
    show IsRangeIter _ _ (lo + ((0 : Nat) : Int) * 1) ((((hi - lo).toNat : Nat) : Int) - ((0 : Nat) : Int)) 1
    rw [e1, e2]
    exact Heap.get?_push_size _ rfl
  · have e : b = (s.heap.push { cls := .type "range", data := .fields #[.int lo t, .int hi u, .int 1 v] }).objs.size := by simpa using hb
    subst e
    exact I1.fpOk (Nat.le_refl _) (I1.hok.fresh (Nat.le_refl _))
def iRng1 (ta : TA) : TI := fun σ H R => ta σ H fun vs H1 => ∃ j : Int, vs = [.int j] ∧ -(2 ^ 62) ≤ j ∧ j < 2 ^ 62 ∧ R (Itr 0 j.toNat) H1
theorem pi_range1 {a : Expr} {ta : TA} {p pos : Pos} (hg : Gl X "range") (hm : X.mg "range" = none) (ha : PA X [a] ta) (hs : starEach [a] X.env = [(false, eval a X.env)] := by rfl) : PI X tg (.Call (.Name "range" p) [a] [] pos) (iRng1 ta) := by
  intro pins s σ H R I h
  refine Call_ (ld_blt I hg hm boot_range (PyProof.Rows.callWith_type1 (thn (ha pos pins s σ H _ I h) fun us s1 ⟨vs, H1, I1, r1, q1⟩ => ?_) hs rfl))
  obtain ⟨j, e, q1, q2, q⟩ := q1
  subst e
  cases r1 with
  | cons r rr =>
    cases rr
    obtain ⟨t, rfl⟩ := r
    exact call_range_1 (range_it I1 (by omega) (by omega) q1 q2 (by simpa using q))
def tFor (wi : TI) (g : TG) (tb : TS) : TS := fun D σ H => wi σ H fun J H1 => ∃ W : Nat → Nat → St → Hp → Prop, (∃ m, W 0 m σ H1) ∧ ∀ i m σ H, W i m σ H →
  (J.stop i H ∧ D.nx σ H) ∨ (J.go i H ∧ ∃ N : St → Hp → Prop, (∀ σ' H', N σ' H' → ∃ m', m' < m ∧ W (i + 1) m' σ' H') ∧ ∀ x H', J.yld i H x H' → g x σ H' fun σ2 H2 => tb { D with nx := N, ct := N, bk := D.nx } σ2 H2)
def pinsAt (fp : List Addr) (h : Heap) : List (Addr × Obj) := fp.filterMap fun b => (h.get? b).map fun o => (b, o)
theorem mem_pinsAt {fp : List Addr} {h : Heap} {b : Addr} {o : Obj} (hb : b ∈ fp) (e : h.get? b = some o) : (b, o) ∈ pinsAt fp h := List.mem_filterMap.mpr ⟨b, hb, by rw [e]; rfl⟩
theorem of_pinsAt {fp : List Addr} {h : Heap} {p : Addr × Obj} (hp : p ∈ pinsAt fp h) : p.1 ∈ fp ∧ h.get? p.1 = some p.2 := by
  obtain ⟨b, hb, e⟩ := List.mem_filterMap.mp hp
  cases q : h.get? b with
  | none => rw [q] at e; cases e
  | some o =>
    rw [q] at e
    have e' : (b, o) = p := Option.some.inj e
    subst e'
    exact ⟨hb, q⟩
theorem Inv.pinned {pins : List (Addr × Obj)} {σ : St} {H : Hp} {s : Shared} {fp : List Addr} (I : Inv X pins σ H s) (hf : ∀ b ∈ fp, FpOk X pins H b) (ho : ∀ b ∈ fp, ∃ o, s.heap.get? b = some o ∧ ∀ v, o.data ≠ .cell v) : Inv X (pins ++ pinsAt fp s.heap) σ H s :=
  I.pins_of fun p hp => (List.mem_append.mp hp).elim (fun z => I.pin p (List.mem_append_right _ z)) fun z => by
    obtain ⟨hb, e⟩ := of_pinsAt z
    obtain ⟨f0, f1, f2, _⟩ := hf p.1 hb
    obtain ⟨o, e', d⟩ := ho p.1 hb
    rw [e] at e'; cases e'
    exact ⟨e, f0, f1, f2, d⟩
theorem Inv.unpinned {pins pl : List (Addr × Obj)} {σ : St} {H : Hp} {s : Shared} (I : Inv X (pins ++ pl) σ H s) : Inv X pins σ H s := I.pins_of fun p hp => I.pin p (List.mem_append_right _ (List.mem_append_left _ hp))
theorem ps_for {iter : Expr} {body : List Stmt} {wi : TI} {g : TG} {tb : TS} {pos : Pos} (hp : PassesOwn (model X.prog X.w) X.A X.env X.xe) (hc : X.calm = true) (hi : PI X tg iter wi) (hg : PG X tg g) (hb : PSs X body tb)
    (hs : ∀ x, foldedSetIterable iter X.env x = pure x := by intro _; rfl) : PS X (.For tg iter body [] pos) (tFor wi g tb) := by
  intro pins s σ H D I h
  refine wpAny_For (thn (hi pins s σ H _ I h) fun v s1 h1 => thn h1 fun itv s2 h2 => ?_) hs
  obtain ⟨it, fp, tn, J, H2, e, I2, T, st2, f2, W, ⟨m0, w0⟩, turn⟩ := h2
  subst e
  have stat : ∀ {H' : Hp}, (∀ b ∈ fp, H' b = none) → ∀ b ∈ fp, FpOk X pins H' b := fun hn b hb => ⟨hn b hb, (f2 b hb).2⟩
  refine codeAny_forLoop_any (fun n s' => ∃ i σ' H', Inv X pins σ' H' s' ∧ tn i s'.heap ∧ (∀ b ∈ fp, H' b = none) ∧ W i n σ' H') ?_ m0 ⟨0, σ, H2, I2, st2, fun b hb => (f2 b hb).1, w0⟩
  rintro n s3 ⟨i, σ3, H3, I3, st3, fr3, w3⟩
  rcases turn i n σ3 H3 w3 with ⟨stop, qn⟩ | ⟨go, N, hN, step⟩
  · refine wpAny_passesOwn hp (thn (T.done X rfl rfl rfl hc i pins s3 σ3 H3 X.xe I3 (stat fr3) st3 stop) fun r s4 ⟨hr, I4⟩ => ?_)
    subst hr
    exact wpAny_execs_nil ⟨σ3, H3, I4, qn⟩
  · refine wpAny_passesOwn hp (thn (T.item X rfl rfl rfl hc i pins s3 σ3 H3 X.xe I3 (stat fr3) st3 go) fun r s4 ⟨u, hr, h4⟩ => ?_)
    subst hr
    refine wpAny_passesOwn hp (thn h4 fun _ s5 ⟨x, H5, I5, r5, y5, st5, fr5⟩ => ?_)
    have I5' := I5.pinned (stat fr5) (T.obj _ _ st5)
    refine wpAny_passesOwn hp (thn (hg _ s5 σ3 H5 x u _ I5' r5 (step x H5 y5)) fun _ s6 ⟨σ6, H6, I6, q6⟩ => ?_)
    refine wpAny_passesOwn hp (thn (hb _ s6 σ6 H6 _ I6 q6) fun f s7 q7 => ?_)
    have again : ∀ {σ7 : St} {H7 : Hp}, Inv X (pins ++ pinsAt fp s5.heap) σ7 H7 s7 → N σ7 H7 → ∃ m, m < n ∧ ∃ i σ' H', Inv X pins σ' H' s7 ∧ tn i s7.heap ∧ (∀ b ∈ fp, H' b = none) ∧ W i m σ' H' := fun {σ7 H7} I7 n7 => by
      obtain ⟨m', hm, w7⟩ := hN σ7 H7 n7
      refine ⟨m', hm, i + 1, σ7, H7, I7.unpinned, T.keep _ _ _ st5 fun b hb o e => (I7.pin (b, o) (List.mem_append_right _ (List.mem_append_right _ (mem_pinsAt hb e)))).1, fun b hb => ?_, w7⟩
      obtain ⟨o, e, d⟩ := T.obj _ _ st5 b hb
      exact (I7.pin (b, o) (List.mem_append_right _ (List.mem_append_right _ (mem_pinsAt hb e)))).2.1
    cases f with
    | next => obtain ⟨σ7, H7, I7, n7⟩ := q7; exact again I7 n7
    | cont => obtain ⟨σ7, H7, I7, n7⟩ := q7; exact again I7 n7
    | brk => obtain ⟨σ7, H7, I7, q7⟩ := q7; exact ⟨σ7, H7, I7.unpinned, q7⟩
    | ret v => obtain ⟨x7, σ7, H7, I7, r7, q7⟩ := q7; exact ⟨x7, σ7, H7, I7.unpinned, r7, q7⟩
end
end L2
namespace L2
open PySem PySem.Spec PyProof.Rows
abbrev R2 := V → V → Hp → VK → Prop
def OpR (X : Cx) (f : Value → Value → Sem Value) (r : R2) : Prop :=
  ∀ (pins : List (Addr × Obj)) (s : Shared) (σ : St) (H : Hp) (x y : V) (v u : Value) (Q : VK), Inv X pins σ H s → RelV x v → RelV y u → r x y H Q →
    wpAny (model X.prog X.w) X.A (f v u) (EP X pins σ Q) X.xe s
def CallR (X : Cx) (f : Value) (r : List V → Hp → VK → Prop) : Prop :=
  ∀ (pins : List (Addr × Obj)) (s : Shared) (σ : St) (H : Hp) (xs : List V) (us : List Value) (Q : VK), Inv X pins σ H s → Vals xs us → r xs H Q →
    wpAny (model X.prog X.w) X.A (call f us) (EP X pins σ Q) X.xe s
def tOp (r : R2) (ta tb : TE) : TE := fun σ H Q => ta σ H fun x H1 => tb σ H1 fun y H2 => r x y H2 Q
def rI (C : Int → Int → Prop) (g : Int → Int → V) : R2 := fun x y H Q => ∃ i j, x = .int i ∧ y = .int j ∧ C i j ∧ Q (g i j) H
def rI0 (g : Int → Int → V) : R2 := fun x y H Q => ∃ i j, x = .int i ∧ y = .int j ∧ Q (g i j) H
section
variable {X : Cx} {a b c : Expr} {ta tb tc : TE} {pos : Pos}
theorem binT (ha : PE X a ta) (hb : PE X b tb) {pins : List (Addr × Obj)} {s : Shared} {σ : St} {H : Hp} {R : V → V → Hp → Prop} (I : Inv X pins σ H s)
    (h : ta σ H fun x H1 => tb σ H1 fun y H2 => R x y H2) {Q : Value → Shared → Prop} {f : Value → Value → Sem Value}
    (hf : ∀ v u s2 x y H2, Inv X pins σ H2 s2 → RelV x v → RelV y u → R x y H2 → wpAny (model X.prog X.w) X.A (f v u) Q X.xe s2) :
    wpAny (model X.prog X.w) X.A (eval a X.env) (fun v s₁ => wpAny (model X.prog X.w) X.A (eval b X.env) (fun u s₂ => wpAny (model X.prog X.w) X.A (f v u) Q X.xe s₂) X.xe s₁) X.xe s := by
  refine thn (ha pins s σ H _ I h) fun v s1 ⟨x, H1, I1, r1, q1⟩ => ?_
  refine thn (hb pins s1 σ H1 _ I1 q1) fun u s2 ⟨y, H2, I2, r2, q2⟩ => ?_
  exact hf v u s2 x y H2 I2 r1 r2 q2
theorem pe_op {op : Operator} {r : R2} (ho : OpR X (binaryOp op) r) (ha : PE X a ta) (hb : PE X b tb) : PE X (.BinOp a op b pos) (tOp r ta tb) := by
  intro pins s σ H Q I h
  exact wpAny_BinOp (binT ha hb I h fun v u s2 x y H2 I2 rx ry q => ho pins s2 σ H2 x y v u Q I2 rx ry q)
theorem opI {f : Value → Value → Sem Value} {C : Int → Int → Prop} {g : Int → Int → Int}
    (rule : ∀ (i j : Int) (t u : Tok) (s : Shared) (Q : Value → Shared → Prop) (E : Value → Shared → Prop), C i j → Q (.int (g i j) s.toks) { s with toks := s.toks + 1 } → wpAny (model X.prog X.w) X.A (f (.int i t) (.int j u)) Q E s) :
    OpR X f (rI C fun i j => .int (g i j)) := by
  intro pins s σ H x y v u Q I rx ry h
  obtain ⟨i, j, rfl, rfl, hc, q⟩ := h
  obtain ⟨t, rfl⟩ := rx
  obtain ⟨t', rfl⟩ := ry
  exact rule i j t t' s _ _ hc ⟨.int (g i j), H, I.tok _, ⟨_, rfl⟩, q⟩
theorem opI0 {f : Value → Value → Sem Value} {g : Int → Int → Int}
    (rule : ∀ (i j : Int) (t u : Tok) (s : Shared) (Q : Value → Shared → Prop) (E : Value → Shared → Prop), Q (.int (g i j) s.toks) { s with toks := s.toks + 1 } → wpAny (model X.prog X.w) X.A (f (.int i t) (.int j u)) Q E s) :
    OpR X f (rI0 fun i j => .int (g i j)) := by
  intro pins s σ H x y v u Q I rx ry h
  obtain ⟨i, j, rfl, rfl, q⟩ := h
  obtain ⟨t, rfl⟩ := rx
  obtain ⟨t', rfl⟩ := ry
  exact rule i j t t' s _ _ ⟨.int (g i j), H, I.tok _, ⟨_, rfl⟩, q⟩
theorem opB0 {f : Value → Value → Sem Value} {g : Int → Int → Bool}
    (rule : ∀ (i j : Int) (t u : Tok) (s : Shared) (Q : Value → Shared → Prop) (E : Value → Shared → Prop), Q (.bool (g i j)) s → wpAny (model X.prog X.w) X.A (f (.int i t) (.int j u)) Q E s) :
    OpR X f (rI0 fun i j => .bl (g i j)) := by
  intro pins s σ H x y v u Q I rx ry h
  obtain ⟨i, j, rfl, rfl, q⟩ := h
  obtain ⟨t, rfl⟩ := rx
  obtain ⟨t', rfl⟩ := ry
  exact rule i j t t' s _ _ ⟨.bl (g i j), H, I, rfl, q⟩
def CDiv (i j : Int) : Prop := 0 < j ∧ j < 1073741824
def CMul (i j : Int) : Prop := (-(2 ^ 64) < i ∧ i < 2 ^ 64) ∨ (-(2 ^ 64) < j ∧ j < 2 ^ 64)
theorem CMul.ok {i j : Int} (h : CMul i j) : IntMulOk i j := by
  rcases h with ⟨h1, h2⟩ | ⟨h1, h2⟩
  · exact .of_left (intBits_le_64 h1 h2)
  · exact .of_right (intBits_le_64 h1 h2)
theorem op_add : OpR X (binaryOp .Add) (rI0 fun i j => .int (i + j)) := opI0 fun _ _ _ _ _ _ _ q => add_int q
theorem op_sub : OpR X (binaryOp .Sub) (rI0 fun i j => .int (i - j)) := opI0 fun _ _ _ _ _ _ _ q => sub_int q
theorem op_mul : OpR X (binaryOp .Mult) (rI CMul fun i j => .int (i * j)) := opI fun _ _ _ _ _ _ _ hc q => mul_int q hc.ok
theorem op_fdiv : OpR X (binaryOp .FloorDiv) (rI CDiv fun i j => .int (i / j)) := opI fun i j _ _ _ _ _ hc q => by
  have h1 : (0 : Int) < j := hc.1
  have h2 : j < 1073741824 := hc.2
  exact floordiv_int (by omega) (by rw [Int.fdiv_eq_ediv_of_nonneg i (by omega)]; exact q) (.inl (PyProof.noPylong_small (by omega)))
theorem op_mod : OpR X (binaryOp .Mod) (rI (fun _ j => 0 < j) fun i j => .int (i % j)) := opI fun i j _ _ _ _ _ hc q => by
  have h1 : (0 : Int) < j := hc
  exact mod_int' (by omega) (by rw [Int.fmod_eq_emod_of_nonneg i (by omega)]; exact q)
end
section
variable {X : Cx} {a b c : Expr} {ta tb tc : TE} {pos : Pos}
theorem fin_bl {pins : List (Addr × Obj)} {σ : St} {H : Hp} {s : Shared} {Q : VK} {k k' : Bool} (I : Inv X pins σ H s) (q : Q (.bl k) H) (e : k = k') : EP X pins σ Q (.bool k') s := by
  subst e
  exact ⟨.bl k, H, I, rfl, q⟩
theorem op_lt : OpR X (compareOp .Lt) (rI0 fun i j => .bl (decide (i < j))) := opB0 fun _ _ _ _ _ _ _ q => lt_int q
theorem op_gt : OpR X (compareOp .Gt) (rI0 fun i j => .bl (decide (j < i))) := opB0 fun _ _ _ _ _ _ _ q => gt_int q
theorem op_in_str : OpR X (compareOp .In) (fun x y H Q => ∃ i j, x = .str i ∧ y = .str j ∧ Q (.bl (!(Builtin.Str.occurrences j i 0 j.length 1).isEmpty)) H) := by
  intro pins s σ H x y v u Q I rx ry h
  obtain ⟨i, j, rfl, rfl, q⟩ := h
  obtain ⟨t, rfl⟩ := rx
  obtain ⟨t', rfl⟩ := ry
  exact in_str (fin_bl I q rfl)
theorem op_notin_str : OpR X (compareOp .NotIn) (fun x y H Q => ∃ i j, x = .str i ∧ y = .str j ∧ Q (.bl (!(!(Builtin.Str.occurrences j i 0 j.length 1).isEmpty))) H) := by
  intro pins s σ H x y v u Q I rx ry h
  obtain ⟨i, j, rfl, rfl, q⟩ := h
  obtain ⟨t, rfl⟩ := rx
  obtain ⟨t', rfl⟩ := ry
  exact notIn_str (fin_bl I q rfl)
theorem nomark (b : Expr) {op : CmpOp} (h : op ≠ .In := by decide) (h2 : op ≠ .NotIn := by decide) : behindInMarks op b = false := by
  have e1 : (op == CmpOp.In) = false := by cases op <;> first | rfl | exact absurd rfl h
  have e2 : (op == CmpOp.NotIn) = false := by cases op <;> first | rfl | exact absurd rfl h2
  cases b <;> simp [behindInMarks, e1, e2]
theorem pe_cmpR {op : CmpOp} {r : R2} (ho : OpR X (compareOp op) r) (ha : PE X a ta) (hb : PE X b tb) (hm : behindInMarks op b = false) : PE X (.Compare a [op] [b] pos) (tOp r ta tb) := by
  intro pins s σ H Q I h
  exact wpAny_Compare1 (binT ha hb I h fun v u s2 x y H2 I2 rx ry q => ho pins s2 σ H2 x y v u Q I2 rx ry q) hm
def tTest (t : TE) : TT := fun σ H Q => t σ H fun x H' => ∃ k, x = .bl k ∧ Q k H'
theorem pt_cmpR {op : CmpOp} {r : R2} (ho : OpR X (compareOp op) r) (ha : PE X a ta) (hb : PE X b tb) (hm : behindInMarks op b = false) : PT X (.Compare a [op] [b] pos) (tTest (tOp r ta tb)) := by
  intro pins s σ H Q I h
  refine wpAny_isTrue_Compare1 (thn (ha pins s σ H _ I h) fun v s1 ⟨x, H1, I1, r1, q1⟩ => thn (hb pins s1 σ H1 _ I1 q1) fun u s2 ⟨y, H2, I2, r2, q2⟩ =>
    thn (ho pins s2 σ H2 x y v u _ I2 r1 r2 q2) fun c s3 ⟨z, H3, I3, r3, k, e, q3⟩ => ?_) hm
  subst e
  cases r3
  exact wpAny_truthy_bool ⟨H3, I3, q3⟩
theorem line63 : (sizeLine : Nat) < 2 ^ 63 := by rw [sizeLine_eq]; decide
theorem op_add_str : OpR X (binaryOp .Add) (fun x y H Q => ∃ i j, x = .str i ∧ y = .str j ∧ i.length + j.length ≤ sizeLine ∧ Q (.str (i ++ j)) H) := by
  intro pins s σ H x y v u Q I rx ry h
  obtain ⟨i, j, rfl, rfl, hz, q⟩ := h
  obtain ⟨t, rfl⟩ := rx
  obtain ⟨t', rfl⟩ := ry
  exact add_str (fun t' tk => ⟨.str (i ++ j), H, I.tok _, ⟨_, rfl⟩, q⟩) hz
theorem vals1 {x : V} {us : List Value} (r : Vals [x] us) : ∃ u, us = [u] ∧ RelV x u := by
  cases r with
  | cons r1 r2 => cases r2; exact ⟨_, rfl, r1⟩
theorem call_int1 : CallR X (.type "int") (fun xs H Q => (∃ i, xs = [.int i] ∧ Q (.int i) H) ∨ ∃ k, xs = [.bl k] ∧ Q (.int (if k then 1 else 0)) H) := by
  intro pins s σ H xs us Q I r h
  rcases h with ⟨i, rfl, q⟩ | ⟨k, rfl, q⟩
  · obtain ⟨u, rfl, t, rfl⟩ := vals1 r
    exact call_int_int ⟨.int i, H, I, ⟨_, rfl⟩, q⟩
  · obtain ⟨u, rfl, r1⟩ := vals1 r
    cases r1
    exact call_int_bool ⟨.int (if k then 1 else 0), H, I.tok _, ⟨_, rfl⟩, q⟩
theorem call_str_int : CallR X (.type "str") (fun xs H Q => ∃ i, xs = [.int i] ∧ i.natAbs.log2 < 1920 ∧ Q (.str (toString i)) H) := by
  intro pins s σ H xs us Q I r h
  obtain ⟨i, rfl, hz, q⟩ := h
  obtain ⟨u, rfl, t, rfl⟩ := vals1 r
  exact PySem.P.str_of_int hz ⟨.str _, H, I.tok _, ⟨_, rfl⟩, q⟩
end
end L2
namespace L2
open PySem PySem.Spec PyProof.Rows
structure ObjM (h : Heap) (x dx C : Addr) (mA : Str → Option Value) : Prop where
  obj : h.get? x = some (PySem.W.instObj C dx)
  ns : h.Ns1 dx mA
  ne : dx ≠ x
theorem lookIn_ns {h : Heap} {dx : Addr} {mA : Str → Option Value} (n : h.Ns1 dx mA) : ∃ od, h.get? dx = some od ∧ ∀ name, PySem.W.lookIn name od = some (mA name) := by
  obtain ⟨o, es, ep, ho, hd, hk, _, hm⟩ := n
  refine ⟨o, ho, fun name => ?_⟩
  have e := hm name
  unfold nsFind findBy at e
  rw [← Array.find?_toList] at e
  unfold PySem.W.lookIn
  rw [hd]
  dsimp only
  split
  · rename_i y q
    rw [q] at e
    exact congrArg some e
  · rename_i q
    rw [q] at e
    have a : es.toList.any (·.refKey) = false := by
      rw [List.any_eq_false]
      intro y hy
      obtain ⟨z, t, hkey⟩ := hk y (Array.mem_toList_iff.mp hy)
      simp [DictEntry.refKey, hkey]
    have a' : ¬ es.toList.any (·.refKey) = true := by rw [a]; exact Bool.false_ne_true
    rw [if_neg a']
    exact congrArg some e
theorem ObjM.look {h : Heap} {x dx C : Addr} {mA : Str → Option Value} (I : ObjM h x dx C mA) : ∃ od, PySem.W.InstAt h x (PySem.W.instObj C dx) C (some od) ∧ ∀ name, PySem.W.lookIn name od = some (mA name) :=
  let ⟨od, ho, hl⟩ := lookIn_ns I.ns
  ⟨od, ⟨I.obj, rfl, rfl, ho⟩, hl⟩
section
variable {prog : Program} {w : World} {A : Around} {E : Value → Shared → Prop} {s : Shared} {K : PySem.W.Frag} {x dx C f : Addr} {mA : Str → Option Value} {name : Str} {v : Value}
end
section
variable {P : Program} {w : World} {H H' : Hp} {h h' : Heap} {a C dx : Addr} {fs fs' : List (Str × V)}
theorem ins_get (hok : HOk P w H h) (e : H a = some (.ins C dx fs)) : ∃ mA, ObjM h a dx C mA ∧ (∀ f, RelO (fs.lookup f) (mA f)) ∧ PySem.Within mA (fs.map (·.1)) ∧ fs.length ≤ 1000 ∧ H dx = some (.own a) := by
  obtain ⟨d, z, ne, ob, mA, n, r, q⟩ := (show ObjOk P w H h a (.ins C dx fs) from hok a _ e)
  exact ⟨mA, ⟨ob, n, ne⟩, r, q, z, d⟩
end
structure Cls (K : PySem.W.Frag) (C : Addr) : Prop where
  pg : PySem.W.plainGet K C Str.empty = true
  hd : PySem.W.hasDictIn K C = true
  po : PySem.W.plainOver K C = true
  sa : PySem.W.findIn K (.ref C) "__setattr__" = some (some (.builtin "object.__setattr__"))
theorem Cls.get {K : PySem.W.Frag} {C : Addr} (c : Cls K C) (f : Str) : PySem.W.plainGet K C f = true := c.pg
section
variable {X : Cx} {pins : List (Addr × Obj)} {σ : St} {H : Hp} {s : Shared} {a C dx : Addr} {fs : List (Str × V)} {f : Str} {v : V} {A : Around} {E : Value → Shared → Prop}
end
section
variable {X : Cx} {o e value : Expr} {f : Str} {pos pos' tpos : Pos} {ta tv : TE}
end
section
variable {X : Cx} {pins : List (Addr × Obj)} {σ : St} {H : Hp} {s : Shared} {A : Around} {E : Value → Shared → Prop} {Q : Value → Shared → Prop} {c : Value} {b : Bool}
inductive TyOf (K : PySem.W.Frag) (H : Hp) : V → Value → Prop where
  | non : TyOf K H .non (.type "NoneType")
  | bl (x : Bool) : TyOf K H (.bl x) (.type "bool")
  | int (i : Int) : TyOf K H (.int i) (.type "int")
  | str (x : Str) : TyOf K H (.str x) (.type "str")
  | flt (x : UInt64) : TyOf K H (.flt x) (.type "float")
  | lst {a : Addr} {xs : List V} (e : H a = some (.lst xs)) : TyOf K H (.ref a) (.type "list")
  | frz {a : Addr} {o : Obj} {xs : List V} (e : H a = some (.frz o (.lst xs))) : TyOf K H (.ref a) (.type "list")
  | tup {a : Addr} {xs : List V} (e : H a = some (.tup xs)) : TyOf K H (.ref a) (.type "tuple")
  | dK {a : Addr} {kvs : List (Key × V)} (e : H a = some (.dK kvs)) : TyOf K H (.ref a) (.type "dict")
  | dT {a : Addr} {kvs : List (List Key × V)} (e : H a = some (.dT kvs)) : TyOf K H (.ref a) (.type "dict")
  | ins {a C dx : Addr} {fs : List (Str × V)} (e : H a = some (.ins C dx fs)) (cl : Cls K C) (ha : PySem.W.findIn K (.ref C) "__class__" = some (some (.builtin "object.__class__")))
      (hn : PySem.W.specialIn K (.builtin "object.__class__") "__get__" = some (some (.builtin "getset_descriptor.__get__"))) (htk : PySem.W.takesIn K (.builtin "object.__class__") = some true)
      (hm : PySem.W.mroIn K C (.type "object") = some true) : TyOf K H (.ref a) (.ref C)
theorem isinst_ok {x : V} {u t : Value} (I : Inv X pins σ H s) (rx : RelV x u) (ty : TyOf X.K H x t) (e : PySem.W.kitOne X.K t c = some b) (h : ∀ tk, Q (.bool b) { s with toks := tk }) :
    wpAny (model X.prog X.w) A (call (.builtin "isinstance") [u, c]) Q E s := by
  cases ty with
  | non => cases (show u = Value.none from rx); exact PySem.W.kia_one PySem.W.kitx_none I.kIn True.intro e (fun z => nomatch z) h
  | bl y => cases (show u = Value.bool y from rx); exact PySem.W.kia_one PySem.W.kitx_bool I.kIn True.intro e (fun z => nomatch z) h
  | int i => obtain ⟨t, q⟩ := (show ∃ t, u = Value.int i t from rx); cases q; exact PySem.W.kia_one PySem.W.kitx_int I.kIn True.intro e (fun z => nomatch z) h
  | str y => obtain ⟨t, q⟩ := (show ∃ t, u = Value.str y t from rx); cases q; exact PySem.W.kia_one PySem.W.kitx_str I.kIn True.intro e (fun z => nomatch z) h
  | flt y => obtain ⟨t, q⟩ := (show ∃ t, u = Value.float y t from rx); cases q; exact PySem.W.kia_one PySem.W.kitx_float I.kIn True.intro e (fun z => nomatch z) h
  | @lst a xs ea =>
    cases (show u = Value.ref a from rx)
    obtain ⟨_, _, n, _, h1⟩ := (show ObjOk X.prog X.w H s.heap a (.lst xs) from I.hok a _ ea)
    exact PySem.W.kia_one PySem.W.kitx_list I.kIn ⟨_, h1, rfl⟩ e (fun z => nomatch z) h
  | @frz a ob xs ea =>
    cases (show u = Value.ref a from rx)
    obtain ⟨_, _, _, n, _, h1⟩ := (show ObjOk X.prog X.w H s.heap a (.frz ob (.lst xs)) from I.hok a _ ea)
    exact PySem.W.kia_one PySem.W.kitx_list I.kIn ⟨_, h1, rfl⟩ e (fun z => nomatch z) h
  | @tup a xs ea =>
    cases (show u = Value.ref a from rx)
    obtain ⟨_, _, _, p⟩ := (show ObjOk X.prog X.w H s.heap a (.tup xs) from I.hok a _ ea)
    obtain ⟨o, h1, h2, _⟩ := p
    exact PySem.W.kia_one PySem.W.kitx_tuple I.kIn ⟨o, h1, h2⟩ e (fun z => nomatch z) h
  | @dK a kvs ea =>
    cases (show u = Value.ref a from rx)
    obtain ⟨_, _, vs, _, p⟩ := (show ObjOk X.prog X.w H s.heap a (.dK kvs) from I.hok a _ ea)
    obtain ⟨o, es, ep, h1, h2, _⟩ := p
    exact PySem.W.kia_one PySem.W.kitx_dict I.kIn ⟨o, h1, h2.1⟩ e (fun z => nomatch z) h
  | @dT a kvs ea =>
    cases (show u = Value.ref a from rx)
    obtain ⟨_, _, xs, _, o, es, ep, h1, h2, _⟩ := (show ObjOk X.prog X.w H s.heap a (.dT kvs) from I.hok a _ ea)
    exact PySem.W.kia_one PySem.W.kitx_dict I.kIn ⟨o, h1, h2.1⟩ e (fun z => nomatch z) h
  | @ins a C dx fs ea cl ha hn htk hm =>
    cases (show u = Value.ref a from rx)
    obtain ⟨mA, O, _⟩ := ins_get I.hok ea
    obtain ⟨od, J, _⟩ := O.look
    exact PySem.W.kia_one (PySem.W.kitx_own (cl.get _) cl.hd ha hn htk hm) I.kIn J e (fun z => nomatch z) h
end
end L2
namespace L2
open PySem PySem.Spec PyProof.Rows
structure Room (k : Nat) (A : Around) : Prop where
  hd : A.handled = none
  dp : A.depth + 3 * k + 5 < recursionLimit
  un : A.units + 16 * k + 200 < cLine
theorem Room.mono {j k : Nat} {A : Around} (r : Room k A) (h : j ≤ k) : Room j A := ⟨r.hd, by have := r.dp; omega, by have := r.un; omega⟩
theorem Room.deeper {k : Nat} {A : Around} (r : Room (k + 1) A) (env : Env) : Room k (A.deeper env) :=
  ⟨r.hd, by have := r.dp; show A.depth + 1 + 3 * k + 5 < _; omega, by have := r.un; show A.units + 3 + 16 * k + 200 < _; omega⟩
theorem Room.depth {k : Nat} {A : Around} (r : Room k A) : A.depth < recursionLimit := by have := r.dp; omega
theorem Room.units {k : Nat} {A : Around} (r : Room k A) : A.units + 64 < cLine := by have := r.un; omega
def tNil : TA := fun _ H Q => Q [] H
def tCons (ta : TE) (tr : TA) : TA := fun σ H Q => ta σ H fun x H1 => tr σ H1 fun xs H2 => Q (x :: xs) H2
section
variable {X : Cx} {e : Expr} {es : List Expr} {te : TE} {t : TA} {pos : Pos}
theorem pa_nil : PA X [] tNil := fun _ _ _ _ H Q I h => Calls.spliced_nil ⟨[], H, I, .nil, h⟩
theorem pa_cons (ha : PE X e te) (hr : PA X es t) (hs : starEach (e :: es) X.env = (false, eval e X.env) :: starEach es X.env := by rfl) : PA X (e :: es) (tCons te t) := by
  intro pos pins s σ H Q I h
  rw [hs]
  show wpAny _ _ (spliced ((false, eval e X.env) :: backTo pos (starEach es X.env))) _ _ s
  refine Calls.spliced_cons (thn (ha pins s σ H _ I h) fun u s1 ⟨x, H1, I1, r1, q1⟩ => ?_)
  exact thn (hr pos pins s1 σ H1 _ I1 q1) fun us s2 ⟨xs, H2, I2, r2, q2⟩ => ⟨x :: xs, H2, I2, .cons r1 r2, q2⟩
def tLst (t : TA) : TE := fun σ H Q => t σ H fun xs H1 => xs.length ≤ sizeLine ∧ ∀ p, H1 p = none → Q (.ref p) (upd H1 p (.lst xs))
theorem pe_lst (h : PA X es t) : PE X (.List es pos) (tLst t) := by
  intro pins s σ H Q I hq
  refine wpAny_List_spliced (thn (h pos pins s σ H _ I hq) fun us s1 ⟨xs, H1, I1, r, z, q⟩ => ⟨by rw [← r.length]; exact z, ?_⟩)
  have hf : H1 s1.heap.objs.size = none := I1.hok.fresh (Nat.le_refl _)
  refine ⟨.ref s1.heap.objs.size, upd H1 s1.heap.objs.size (.lst xs), I1.laid (t' := s1.toks) (fun b u e => Heap.get?_push_of_some _ e) (Nat.le_refl _) ?_, rfl, q _ hf⟩
  exact ⟨z, us, 0, r, Heap.get?_push_size _ rfl⟩
end
abbrev Sp := List V → Hp → VK → XK → Prop
abbrev CXT := List Env → Hp → Shared → XK → Value → Shared → Prop
structure Env0 (P : Program) (w : World) (K : PySem.W.Frag) (mg : Str → Option Value) (base : Heap) (A : Around) (outer : List Env) (s : Shared) (H : Hp) : Prop where
  frames : A.frames = some outer
  mod : Mod K mg base
  bs : ∀ b o, base.get? b = some o → s.heap.get? b = some o ∧ H b = none
  bsz : base.objs.size ≤ s.heap.objs.size
  funs : s.heap.FunFrames base outer
  frf : ∀ b ∈ frs outer, H b = none
  hok : HOk P w H s.heap
  bare : AllBare s.gens
def CE (outer : List Env) (P : Program) (w : World) (H : Hp) (s : Shared) (Q : VK) (u : Value) (s' : Shared) : Prop :=
  ∃ v H', s'.os = s.os ∧ AllBare s'.gens ∧ Un (frs outer) [] H H' s.heap s'.heap ∧ HOk P w H' s'.heap ∧ RelV v u ∧ Q v H'
def CR (CX : CXT) (outer : List Env) (P : Program) (w : World) (H : Hp) (s : Shared) (Q : VK) (E : XK) (r : Result) (s' : Shared) : Prop :=
  match r with
  | .ok (.ret u) => CE outer P w H s Q u s'
  | .ok _ => False
  | .error e => CX outer H s E e s'
structure FnOk (P : Program) (w : World) (K : PySem.W.Frag) (mg : Str → Option Value) (base : Heap) (CX : CXT) (k : Nat) (f : Addr) (fd : FuncData) (ps : List Str) (sp : Sp) : Prop where
  len : ∀ vs H Q E, sp vs H Q E → vs.length = ps.length
  run : ∀ (A : Around) (outer : List Env) (s : Shared) (H : Hp) (args : Args) (us : List Value) (vs : List V) (Q : VK) (E : XK), Room k A → Env0 P w K mg base A outer s H → BindsTo s fd args (ps.zip us) → Vals vs us → sp vs H Q E →
    codeAny (model P w) A (.call (.ref f) args) (CR CX outer P w H s Q E) s
section
variable {X : Cx} {pins : List (Addr × Obj)} {σ : St} {H : Hp} {s s' : Shared}
theorem Inv.env0 (I : Inv X pins σ H s) : Env0 X.prog X.w X.K X.mg X.base X.A X.stack s H :=
  ⟨I.ok.frames, I.ok.mod, I.bs, Nat.le_trans I.ok.bsz I.sz, I.stack, I.stkFree, I.hok, I.bare⟩
theorem Inv.after {Q : VK} {u : Value} (I : Inv X pins σ H s) (h : CE X.stack X.prog X.w H s Q u s') : EP X pins σ Q u s' := by
  obtain ⟨v, H', os, bare, un, hok, r, q⟩ := h
  obtain ⟨hh, g, d, t, os'⟩ := s'
  obtain rfl : os' = s.os := os
  exact ⟨v, H', I.call (h' := hh) (g' := g) (d' := d) (t' := t) (ch := []) un hok bare (fun b z => absurd z (by simp)), r, q⟩
end
def tCall (sp : Sp) (dvs : List V) (E : XK) (t : TA) : TE := fun σ H Q => t σ H fun vs H1 => sp (vs ++ dvs) H1 Q E
def Binds (K : PySem.W.Frag) (fd : FuncData) (ps : List Str) (ds : List Value) : Prop :=
  ∀ (s : Shared) (us : List Value), K.In s.heap → (us ++ ds).length = ps.length → BindsTo s fd ⟨us, []⟩ (ps.zip (us ++ ds))
theorem Binds.all {K : PySem.W.Frag} {fd : FuncData} {ps : List Str} (h : ∀ us : List Value, us.length = ps.length → bindArgs fd ⟨us, []⟩ = pure (ps.zip us)) : Binds K fd ps [] := fun s us _ hl => by
  rw [List.append_nil] at hl ⊢
  exact .of_eq (h us hl)
def Passes (CX : CXT) (X : Cx) (E : XK) : Prop := ∀ (pins : List (Addr × Obj)) (σ : St) (H : Hp) (s : Shared) (e : Value) (s' : Shared), Inv X pins σ H s → CX X.stack H s E e s' → X.xe e s'
section
variable {X : Cx} {CX : CXT} {k : Nat} {f C : Addr} {fd : FuncData} {ps : List Str} {sp : Sp} {dvs : List V} {ds : List Value} {E : XK} {x m : Str} {p pos apos : Pos} {e o : Expr} {es : List Expr} {ta : TE} {t : TA}
theorem run_fn {pins : List (Addr × Obj)} {σ : St} {H : Hp} {s : Shared} {Q : VK} {us : List Value} {vs : List V} (F : FnOk X.prog X.w X.K X.mg X.base CX k f fd ps sp) (hr : Room k X.A) (hb : Binds X.K fd ps ds) (hd : Vals dvs ds) (hx : Passes CX X E)
    (I : Inv X pins σ H s) (r : Vals vs us) (h : sp (vs ++ dvs) H Q E) : wpAny (model X.prog X.w) X.A (call (.ref f) us) (EP X pins σ Q) X.xe s := by
  have r2 : Vals (vs ++ dvs) (us ++ ds) := r.append hd
  have hl : (us ++ ds).length = ps.length := by rw [← r2.length]; exact F.len _ _ _ _ h
  refine wpAny_call (codeAny_mono (F.run X.A X.stack s H ⟨us, []⟩ (us ++ ds) (vs ++ dvs) Q E hr I.env0 (hb s us I.kIn hl) r2 h) fun r s' hq => ?_)
  cases r with
  | error e => exact hx pins σ H s e s' I hq
  | ok fl =>
    cases fl with
    | ret u => exact I.after hq
    | next => exact False.elim hq
    | brk => exact False.elim hq
    | cont => exact False.elim hq
theorem pe_call (F : FnOk X.prog X.w X.K X.mg X.base CX k f fd ps sp) (hr : Room k X.A) (hg : Gl X x) (hm : X.mg x = some (.ref f)) (hk : PySem.W.keepIn X.K (.ref f) = true) (hb : Binds X.K fd ps ds) (hd : Vals dvs ds) (hx : Passes CX X E)
    (ha : PA X (e :: es) t) (hdb : (x == ("__debug__" : Str)) = false := by decide) (he : starEach (e :: es) X.env = (false, eval e X.env) :: starEach es X.env := by rfl) (hpl : (backTo pos (starEach es X.env)).any (·.1) = false := by rfl) :
    PE X (.Call (.Name x p) (e :: es) [] pos) (tCall sp dvs E t) := by
  intro pins s σ H Q I h
  refine wpAny_Call_Name_kw (ld_glob I hg hm ?_ hdb)
  refine PySem.W.callWith_K (h₀ := X.base) I.ok.mod.kin hk (thn (ha pos pins s σ H _ I h) fun us s1 ⟨vs, H1, I1, r, q⟩ => ⟨I1.kIn, ?_⟩) he hpl
  exact run_fn F hr hb hd hx I1 r q
theorem pe_call0 (F : FnOk X.prog X.w X.K X.mg X.base CX k f fd ps sp) (hr : Room k X.A) (hg : Gl X x) (hm : X.mg x = some (.ref f)) (hk : PySem.W.keepIn X.K (.ref f) = true) (hb : Binds X.K fd ps ds) (hd : Vals dvs ds) (hx : Passes CX X E)
    (hdb : (x == ("__debug__" : Str)) = false := by decide) : PE X (.Call (.Name x p) [] [] pos) (tCall sp dvs E tNil) := by
  intro pins s σ H Q I h
  refine wpAny_Call_Name_kw (ld_glob I hg hm ?_ hdb)
  exact PySem.W.callWith_K0 I.kIn hk (run_fn (us := []) F hr hb hd hx I .nil h)
end
section
variable {X : Cx} {CX : CXT} {k : Nat} {f C : Addr} {fd : FuncData} {ps ks : List Str} {sp : Sp} {E : XK} {x m : Str} {p pos apos kpos : Pos} {e o : Expr} {es : List Expr} {kws : List Keyword} {te ta : TE} {t tk : TA} {nm : Option Str}
variable {g : List Value → List Value → List Value} {gV : List V → List V → List V}
end
structure FnScope (N P : List Str) (sc : Scope) : Prop where
  kind : sc.kind = .function
  co : sc.isCoroutine = false
  gen : sc.isGenerator = false
  nd : N.Nodup
  pre : N.take P.length = P
  par : ∀ x ∈ P, sc.names.lookup x = some .local ∨ sc.names.lookup x = some .cell
  nofree : ∀ y ∈ sc.names, y.2 ≠ .free
theorem bindL_out {kindOf : Str → Option NameKind} {x : Str} : ∀ {binds : List (Str × Value)} {m : Str → Option Value}, (∀ v, (x, v) ∉ binds) → bindL kindOf binds m x = m x
  | [], _, _ => rfl
  | (n, v) :: r, m, h => by
    unfold bindL
    rw [bindL_out fun w hw => h w (List.mem_cons_of_mem _ hw)]
    split
    · have : x ≠ n := by rintro rfl; exact h v List.mem_cons_self
      simp [this]
    · rfl
theorem bindC_out {kindOf : Str → Option NameKind} {x : Str} : ∀ {binds : List (Str × Value)} {m : Str → Option Value}, (∀ v, (x, v) ∉ binds) → bindC kindOf binds m x = m x
  | [], _, _ => rfl
  | (n, v) :: r, m, h => by
    unfold bindC
    rw [bindC_out fun w hw => h w (List.mem_cons_of_mem _ hw)]
    split
    · rfl
    · have : x ≠ n := by rintro rfl; exact h v List.mem_cons_self
      simp [this]
theorem bindL_get {kindOf : Str → Option NameKind} {x : Str} {v : Value} : ∀ {P : List Str} {vs : List Value} {i : Nat} {m : Str → Option Value}, P.Nodup → P[i]? = some x → vs[i]? = some v → kindOf x = some .local →
    bindL kindOf (P.zip vs) m x = some v
  | [], _, _, _, _, h, _, _ => by simp at h
  | _ :: _, [], _, _, _, _, h, _ => by simp at h
  | p :: P, w :: vs, 0, m, nd, h1, h2, hk => by
    simp at h1 h2; subst h1; subst h2
    show bindL kindOf ((p, w) :: P.zip vs) m p = _
    unfold bindL
    rw [bindL_out fun v hv => (List.nodup_cons.mp nd).1 (List.of_mem_zip hv).1, if_pos hk]
    simp
  | p :: P, w :: vs, i + 1, m, nd, h1, h2, hk => by
    show bindL kindOf ((p, w) :: P.zip vs) m x = _
    unfold bindL
    exact bindL_get (i := i) (List.nodup_cons.mp nd).2 (by simpa using h1) (by simpa using h2) hk
theorem bindC_get {kindOf : Str → Option NameKind} {x : Str} {v : Value} : ∀ {P : List Str} {vs : List Value} {i : Nat} {m : Str → Option Value}, P.Nodup → P[i]? = some x → vs[i]? = some v → kindOf x ≠ some .local →
    bindC kindOf (P.zip vs) m x = some v
  | [], _, _, _, _, h, _, _ => by simp at h
  | _ :: _, [], _, _, _, _, h, _ => by simp at h
  | p :: P, w :: vs, 0, m, nd, h1, h2, hk => by
    simp at h1 h2; subst h1; subst h2
    show bindC kindOf ((p, w) :: P.zip vs) m p = _
    unfold bindC
    rw [bindC_out fun v hv => (List.nodup_cons.mp nd).1 (List.of_mem_zip hv).1, if_neg hk]
    simp
  | p :: P, w :: vs, i + 1, m, nd, h1, h2, hk => by
    show bindC kindOf ((p, w) :: P.zip vs) m x = _
    unfold bindC
    exact bindC_get (i := i) (List.nodup_cons.mp nd).2 (by simpa using h1) (by simpa using h2) hk
def start (N : List Str) (vs : List V) : St := vs.map some ++ List.replicate (N.length - vs.length) none
def cxOf (CX : CXT) (P : Program) (w : World) (K : PySem.W.Frag) (mg : Str → Option Value) (base : Heap) (N : List Str) (qual : Str) (scope : Scope) (f : Addr) (cd : Value) (A : Around) (outer : List Env) (s : Shared) (H : Hp) (E : XK) : Cx where
  prog := P
  w := w
  K := K
  mg := mg
  base := base
  A := A.deeper (envOfC qual scope s.heap.objs.size f cd)
  N := N
  s₀ := s
  H₀ := H
  env := envOfC qual scope s.heap.objs.size f cd
  outer := outer
  stack := envOfC qual scope s.heap.objs.size f cd :: outer
  ex := []
  calm := true
  fn := fun _ => true
  pn := []
  xe := fun e s' => wpAny (model P w) (A.deeper (envOfC qual scope s.heap.objs.size f cd)) (leaving (envOfC qual scope s.heap.objs.size f cd) e) (fun _ s'' => CX outer H s E e s'') (fun e' s'' => CX outer H s E e' s'') s'
theorem cell_has {sc : Scope} {n : Nat} {x : Str} (h : sc.names.lookup x = some .cell) : ∃ c, (cellsFrom n sc.names []).lookup x = some c := by
  have q := PySem.W.cellsFrom_some sc.names n [] (.inl h)
  exact Option.isSome_iff_exists.mp q
theorem inv_start {CX : CXT} {P : Program} {w : World} {K : PySem.W.Frag} {mg : Str → Option Value} {base : Heap} {N ps : List Str} {qual : Str} {scope : Scope} {f : Addr} {cd : Value} {A : Around} {outer : List Env} {s s1 : Shared} {H : Hp} {E : XK} {us : List Value} {vs : List V}
    (S : FnScope N ps scope) (hd : A.handled = none) (e0 : Env0 P w K mg base A outer s H) (hl : vs.length = ps.length) (r : Vals vs us)
    (x : InCallC s s.heap.objs.size (bindL (envOfC qual scope s.heap.objs.size f cd).kindOf (ps.zip us) fun _ => none) (cellsFrom (s.heap.objs.size + 1) scope.names []) (bindC (envOfC qual scope s.heap.objs.size f cd).kindOf (ps.zip us) fun _ => none) s1) :
    Inv (cxOf CX P w K mg base N qual scope f cd A outer s H E) [] (start N vs) H s1 := by
  have hpl : ps.length ≤ N.length := by have := congrArg List.length S.pre; rw [List.length_take] at this; omega
  obtain ⟨h1, tk, rfl, hk⟩ := x.done
  have noA : ∀ b : Addr, b ∉ (cxOf CX P w K mg base N qual scope f cd A outer s H E).ex := fun b z => absurd (show b ∈ ([] : List Addr) from z) (by simp)
  refine ⟨⟨e0.mod, S.kind, rfl, rfl, Nat.le_refl _, fun y z c h1 h2 => ?_, fun y hy => ?_, fun y c _ h => ?_, fun _ => hd, Around.frames_deeper e0.frames, .inr ⟨rfl, rfl⟩, fun b z => absurd z (noA b), e0.bs, e0.bsz, fun b _ _ => noA b, fun b z => absurd z (noA b), e0.funs, e0.frf⟩,
    rfl, e0.bare, Un.kept hk, ⟨_, x.toInCall.ns, fun i y v h1 h2 h3 => ?_⟩, fun y c h => ⟨_, x.cell y c h⟩, e0.hok.fresh (Nat.le_refl _), fun y c h => ?_, fun p hp => absurd (show p ∈ ([] : List (Addr × Obj)) from hp) (by simp), e0.hok.kept hk, ?_⟩
  · exact name_of_addr x.apart (PySem.mem_of_lookup h1) (PySem.mem_of_lookup h2)
  · have hy : scope.names.lookup y = some .cell ∨ scope.names.lookup y = some .free := hy
    rcases hy with hy | hy
    · exact cell_has hy
    · exact absurd rfl (S.nofree _ (PySem.mem_of_lookup hy))
  · exact Nat.le_of_lt (x.above y c (PySem.mem_of_lookup h))
  · have hi : i < vs.length := by
      unfold start at h2
      by_cases hi : i < vs.length
      · exact hi
      · rw [List.getElem?_append_right (by simpa using hi)] at h2
        rw [List.getElem?_replicate] at h2
        split at h2 <;> cases h2
    have ha : vs[i]? = some v := by
      unfold start at h2
      rw [List.getElem?_append_left (by simpa using hi), List.getElem?_map] at h2
      cases e : vs[i]? with
      | none => rw [e] at h2; cases h2
      | some a => rw [e] at h2; cases h2; rfl
    obtain ⟨u, hu, rv⟩ := r.get ha
    have hp : ps[i]? = some y := by
      rw [← S.pre, List.getElem?_take_of_lt (by omega)]; exact h1
    have ndP : ps.Nodup := by rw [← S.pre]; exact S.nd.sublist (List.take_sublist _ _)
    refine ⟨u, rv, ?_⟩
    rcases S.par y (List.mem_of_getElem? hp) with k | k
    · exact .inl ⟨k, bindL_get ndP hp hu k⟩
    · obtain ⟨c, e⟩ := cell_has (n := s.heap.objs.size + 1) k
      refine .inr ⟨.inl k, c, e, ?_⟩
      have q := x.cell y c e
      rw [bindC_get ndP hp hu (by show scope.names.lookup y ≠ _; rw [k]; decide)] at q
      exact q
  · exact e0.hok.fresh (Nat.le_of_lt (x.above y c (PySem.mem_of_lookup h)))
  · unfold start
    show _ = N.length
    rw [List.length_append, List.length_map, List.length_replicate]
    omega
theorem fn_of {CX : CXT} {P : Program} {w : World} {K : PySem.W.Frag} {mg : Str → Option Value} {base : Heap} {k : Nat} {f : Addr} {name qual : Str} {params : Arguments} {body : List Stmt} {scope : Scope} {dV kV doc pm cdv ct oc : Value} {an od : Option Addr}
    {osl : Array (Option Value)} {N ps : List Str} {sp : Sp} (lk : K.lookup f = some ⟨oc, od, .func (PySem.W.fnOf name qual params body scope dV kV doc pm an cdv ct), osl⟩) (hcd : PySem.W.codeIn K cdv qual = true) (S : FnScope N ps scope)
    (len : ∀ vs H Q E, sp vs H Q E → vs.length = ps.length)
    (hbody : ∀ (A : Around) (outer : List Env) (s : Shared) (H : Hp) (vs : List V) (Q : VK) (E : XK), Room k (A.deeper (envOfC qual scope s.heap.objs.size f cdv)) → sp vs H Q E →
      ∃ t, PSs (cxOf CX P w K mg base N qual scope f cdv A outer s H E) body t ∧ t { nx := fun _ H' => Q .non H', rt := Q } (start N vs) H) :
    FnOk P w K mg base CX (k + 1) f (PySem.W.fnOf name qual params body scope dV kV doc pm an cdv ct) ps sp := by
  refine ⟨len, fun A outer s H args us vs Q E hr e0 hb r hsp => ?_⟩
  have hl := len _ _ _ _ hsp
  have KX : K.In s.heap := e0.mod.kin.keeps fun b o e => (e0.bs b o e).1
  have lim : s.heap.NoLimit := e0.mod.nolimit.keeps fun b o e => (e0.bs b o e).1
  have hkind : ∀ y ∈ ps.zip us, scope.names.lookup y.1 = some .local ∨ (scope.names.lookup y.1 = some .cell ∧ ((cellsFrom (s.heap.objs.size + 1) scope.names []).lookup y.1).isSome = true) := fun ⟨n, v⟩ hy => by
    rcases S.par n (List.of_mem_zip hy).1 with q | q
    · exact .inl q
    · exact .inr ⟨q, PySem.W.cellsFrom_some _ _ _ (.inl q)⟩
  refine codeAny_call_function hr.depth (KX _ _ lk) rfl S.co S.gen rfl (PySem.W.codeRec_of KX hcd) (hb _ _ _ _ ?_)
  refine wpAny_newFunctionEnv_cells S.kind hkind fun env he s1 x => ?_
  subst he
  refine ⟨lim.keeps x.toInCall.keep, codeAny_func ?_⟩
  obtain ⟨t, ht, hq⟩ := hbody A outer s H vs Q E (hr.deeper _) hsp
  have I : Inv (cxOf CX P w K mg base N qual scope f cdv A outer s H E) [] (start N vs) H s1 := inv_start S hr.hd e0 hl r x
  refine wpAny_mono (ht [] s1 (start N vs) H _ I hq) (fun fl s' hs => ?_) fun e s' hs => hs
  have fin : ∀ {σ' : St} {H' : Hp} {v : V} {u : Value}, Inv (cxOf CX P w K mg base N qual scope f cdv A outer s H E) [] σ' H' s' → RelV v u → Q v H' → CE outer P w H s Q u s' :=
    fun {σ' H' v u} J rv q => ⟨v, H', J.os, J.bare, J.base, J.hok, rv, q⟩
  cases fl with
  | ret u =>
    obtain ⟨v, σ', H', J, rv, q⟩ := hs
    exact fin J rv q
  | next =>
    obtain ⟨σ', H', J, q⟩ := hs
    exact fin (v := V.non) (u := Value.none) J rfl q
  | brk =>
    obtain ⟨_, _, _, q⟩ := hs
    exact False.elim q
  | cont =>
    obtain ⟨_, _, _, q⟩ := hs
    exact False.elim q
end L2
namespace L2
open PySem PySem.Spec PyProof.Rows
section
variable {X : Cx} {x : Str} {p pos : Pos} {e : Expr} {es : List Expr} {t : TA} {id T : String} {r : List V → Hp → VK → Prop}
def tCB (r : List V → Hp → VK → Prop) (t : TA) : TE := fun σ H Q => t σ H fun vs H1 => r vs H1 Q
theorem pe_callB (hc : CallR X (.builtin id) r) (hg : Gl X x) (hm : X.mg x = none) (hv : bootBuiltins x = some (.builtin id)) (ha : PA X (e :: es) t) (hn : x ≠ "__name__" := by decide) (hdb : (x == ("__debug__" : Str)) = false := by decide)
    (he : starEach (e :: es) X.env = (false, eval e X.env) :: starEach es X.env := by rfl) (hpl : (backTo pos (starEach es X.env)).any (·.1) = false := by rfl) : PE X (.Call (.Name x p) (e :: es) [] pos) (tCB r t) := by
  intro pins s σ H Q I h
  refine wpAny_Call_Name_kw (ld_blt I hg hm hv ?_ hn hdb)
  exact PyProof.Rows.callWith_builtin1 (thn (ha pos pins s σ H _ I h) fun us s1 ⟨vs, H1, I1, r1, q1⟩ => hc pins s1 σ H1 vs us Q I1 r1 q1) he hpl
theorem pe_callTy (hc : CallR X (.type T) r) (hg : Gl X x) (hm : X.mg x = none) (hv : bootBuiltins x = some (.type T)) (ha : PA X (e :: es) t) (hn : x ≠ "__name__" := by decide) (hdb : (x == ("__debug__" : Str)) = false := by decide)
    (he : starEach (e :: es) X.env = (false, eval e X.env) :: starEach es X.env := by rfl) (hpl : (backTo pos (starEach es X.env)).any (·.1) = false := by rfl) : PE X (.Call (.Name x p) (e :: es) [] pos) (tCB r t) := by
  intro pins s σ H Q I h
  refine wpAny_Call_Name_kw (ld_blt I hg hm hv ?_ hn hdb)
  exact PyProof.Rows.callWith_type1 (thn (ha pos pins s σ H _ I h) fun us s1 ⟨vs, H1, I1, r1, q1⟩ => hc pins s1 σ H1 vs us Q I1 r1 q1) he hpl
end
end L2
namespace HT
open PySem PyProof.Rows
section
open PySem.SeqAt
open PySem.AutoSeq1 (wpAny_loadPart')
open PySem.MeetsSeq PySem.MeetsSeq2 PySem.MeetsSeq3
end
section
variable {prog : Program} {w : World} {A : Around} {E : Value → Shared → Prop} {s : Shared}
def sIx (n d : Nat) : Option Int → Nat
  | none => d
  | some v => if v < 0 then (v + (n : Int)).toNat else min v.toNat n
theorem sIx_none (n d : Nat) : sIx n d none = d := rfl
theorem sIx_nat (n d k : Nat) : sIx n d (some (k : Int)) = min k n := by
  show (if (k : Int) < 0 then ((k : Int) + (n : Int)).toNat else min (k : Int).toNat n) = min k n
  rw [if_neg (by omega), Int.toNat_natCast]
end
end HT
namespace L2
open PySem PySem.Spec PyProof.Rows
abbrev TO := St → Hp → (Option Int → Hp → Prop) → Prop
def PO (X : Cx) (e : Option Expr) (t : TO) : Prop :=
  ∀ (pins : List (Addr × Obj)) (s : Shared) (σ : St) (H : Hp) (Q : Option Int → Hp → Prop), Inv X pins σ H s → t σ H Q →
    wpAny (model X.prog X.w) X.A (evalPart e X.env) (fun u s' => ∃ o H', Inv X pins σ H' s' ∧ IsPart u o ∧ Q o H') X.xe s
def tNoPart : TO := fun _ H Q => Q none H
def tPart (t : TE) : TO := fun σ H Q => t σ H fun x H1 => ∃ i, x = .int i ∧ Q (some i) H1
section
variable {X : Cx} {e : Expr} {te : TE} {lo hi : Option Expr} {tl th : TO} {pos p2 : Pos}
theorem po_none : PO X none tNoPart := by
  intro pins s σ H Q I h
  rw [evalPart_none]
  exact wpAny_pure ⟨none, H, I, .none, h⟩
theorem po_some (h : PE X e te) : PO X (some e) (tPart te) := by
  intro pins s σ H Q I hw
  rw [evalPart_some]
  refine thn (h pins s σ H _ I hw) fun u s1 ⟨x, H1, I1, r1, q1⟩ => ?_
  obtain ⟨i, rfl, q⟩ := q1
  obtain ⟨t, rfl⟩ := r1
  exact ⟨some i, H1, I1, .int i t, q⟩
def SlR (X : Cx) (r : V → Option Int → Option Int → Hp → VK → Prop) : Prop :=
  ∀ (pins : List (Addr × Obj)) (s : Shared) (σ : St) (H : Hp) (x : V) (v vl vu : Value) (lo hi : Option Int) (sl : Addr) (Q : VK), Inv X pins σ H s → RelV x v → s.heap.IsSliceOf sl vl vu .none → IsPart vl lo → IsPart vu hi → r x lo hi H Q →
    ∃ T id, typeLookup (.type T) "__getitem__" = pure (some (.builtin id)) ∧ s.TypeIs v T ∧ wpAny (model X.prog X.w) X.A (getItem v (.ref sl)) (EP X pins σ Q) X.xe s
def tSl (r : V → Option Int → Option Int → Hp → VK → Prop) (te : TE) (tl th : TO) : TE := fun σ H Q => te σ H fun x H1 => tl σ H1 fun l H2 => th σ H2 fun u H3 => r x l u H3 Q
theorem pe_slice {r : V → Option Int → Option Int → Hp → VK → Prop} (hr : SlR X r) (he : PE X e te) (hl : PO X lo tl) (hu : PO X hi th) : PE X (.Subscript e (.Slice lo hi none p2) pos) (tSl r te tl th) := by
  intro pins s σ H Q I h
  refine Subscript_ (thn (he pins s σ H _ I h) fun v s1 ⟨x, H1, I1, r1, q1⟩ => ?_)
  refine wpAny_Slice (thn (hl pins s1 σ H1 _ I1 q1) fun vl s2 ⟨l, H2, I2, pl, q2⟩ => thn (hu pins s2 σ H2 _ I2 q2) fun vu s3 ⟨u, H3, I3, pu, q3⟩ => ?_)
  rw [evalPart_none]
  refine wpAny_pure ?_
  have I4 : Inv X pins σ H3 { s3 with heap := s3.heap.push { cls := .type "slice", data := .fields #[vl, vu, .none] } } := I3.kept (t' := s3.toks) fun b ob q => Heap.get?_push_of_some _ q
  obtain ⟨T, id, hT, ht, hg⟩ := hr pins { s3 with heap := s3.heap.push { cls := .type "slice", data := .fields #[vl, vu, .none] } } σ H3 x v vl vu l u s3.heap.objs.size Q I4 r1 (Heap.IsSliceOf.new ..) pl pu q3
  show wpAny (model X.prog X.w) X.A (subscriptTail e (.Slice lo hi none p2) v (.ref s3.heap.objs.size)) (EP X pins σ Q) X.xe { s3 with heap := s3.heap.push { cls := .type "slice", data := .fields #[vl, vu, .none] } }
  exact tail_any (ops := [.ref s3.heap.objs.size, v]) ht hT hg (by with_unfolding_all rfl)
def cutV (xs : List V) (lo hi : Option Int) : List V := (xs.drop (HT.sIx xs.length 0 lo)).take (HT.sIx xs.length xs.length hi - HT.sIx xs.length 0 lo)
theorem cutV_length (xs : List V) (lo hi : Option Int) : (cutV xs lo hi).length ≤ xs.length := by
  unfold cutV
  rw [List.length_take, List.length_drop]
  omega
end
end L2
namespace L2
open PySem PySem.Spec PyProof.Rows
def ixN (n : Nat) (i : Int) : Option Nat := if 0 ≤ i then (if i < n then some i.toNat else none) else if -(n : Int) ≤ i then some (i + n).toNat else none
def atI {α : Type} (xs : List α) (i : Int) : Option α := (ixN xs.length i).bind fun j => xs[j]?
theorem ixN_seq {n : Nat} {i : Int} {j : Nat} (h : ixN n i = some j) : seqIndex? i n = some j ∧ j < n ∧ -(n : Int) ≤ i ∧ i < n := by
  unfold ixN at h
  by_cases h0 : 0 ≤ i
  · rw [if_pos h0] at h
    by_cases h1 : i < n
    · rw [if_pos h1] at h
      have e : i.toNat = j := Option.some.inj h
      exact ⟨by rw [seqIndex_of h0 h1, e], by omega, by omega, h1⟩
    · rw [if_neg h1] at h; cases h
  · rw [if_neg h0] at h
    by_cases h1 : -(n : Int) ≤ i
    · rw [if_pos h1] at h
      have e : (i + n).toNat = j := Option.some.inj h
      exact ⟨by rw [seqIndex_neg (by omega) h1, e], by omega, h1, by omega⟩
    · rw [if_neg h1] at h; cases h
theorem atI_get {α : Type} {xs : List α} {i : Int} {v : α} (h : atI xs i = some v) : ∃ j, seqIndex? i xs.length = some j ∧ xs[j]? = some v ∧ j < xs.length ∧ -(xs.length : Int) ≤ i ∧ i < xs.length := by
  unfold atI at h
  cases e : ixN xs.length i with
  | none => rw [e] at h; cases h
  | some j =>
    rw [e] at h
    obtain ⟨h1, h2, h3, h4⟩ := ixN_seq e
    exact ⟨j, h1, h, h2, h3, h4⟩
theorem atI_nat {α : Type} {xs : List α} {j : Nat} {v : α} (h : xs[j]? = some v) : atI xs (j : Int) = some v := by
  have hj : j < xs.length := (List.getElem?_eq_some_iff.mp h).1
  have e : ixN xs.length (j : Int) = some j := by
    unfold ixN
    rw [if_pos (by omega), if_pos (by omega)]; simp
  unfold atI; rw [e]; exact h
def PlainIx (b : Expr) : Prop := ∀ o i, subscripted b false o i = operate [o, i] (getItem o i)
def IxR (X : Cx) (r : R2) : Prop :=
  ∀ (value slice : Expr) (pins : List (Addr × Obj)) (s : Shared) (σ : St) (H : Hp) (x y : V) (v u : Value) (Q : VK), Inv X pins σ H s → RelV x v → RelV y u → r x y H Q →
    subscripted slice false v u = operate [v, u] (getItem v u) → wpAny (model X.prog X.w) X.A (subscriptTail value slice v u) (EP X pins σ Q) X.xe s
def MtR (X : Cx) (id : String) (r : V → List V → Hp → VK → Prop) : Prop :=
  ∀ (pins : List (Addr × Obj)) (s : Shared) (σ : St) (H : Hp) (x : V) (xs : List V) (v : Value) (us : List Value) (Q : VK), Inv X pins σ H s → RelV x v → Vals xs us → r x xs H Q →
    wpAny (model X.prog X.w) X.A (call (.builtin id) (v :: us)) (EP X pins σ Q) X.xe s
section
variable {X : Cx} {a b : Expr} {ta tb : TE} {pos : Pos}
theorem pe_ix {r : R2} (hr : IxR X r) (ha : PE X a ta) (hb : PE X b tb) (hs : PlainIx b) : PE X (.Subscript a b pos) (tOp r ta tb) := by
  intro pins s σ H Q I h
  exact Subscript_ (binT ha hb I h fun v u s2 x y H2 I2 rx ry q => hr a b pins s2 σ H2 x y v u Q I2 rx ry q (hs _ _))
def rIxL (K : PySem.W.Frag) : R2 := fun x y H Q => ∃ p xs i v, x = .ref p ∧ y = .int i ∧ SqL K H p xs ∧ atI xs i = some v ∧ Q v H
def rIxS : R2 := fun x y H Q => ∃ z i c, x = .str z ∧ y = .int i ∧ z.length ≤ sizeLine ∧ atI z.cps.toList i = some c ∧ Q (.str ⟨#[c]⟩) H
theorem ix_list : IxR X (rIxL X.K) := by
  intro value slice pins s σ H x y v u Q I rx ry h hs
  obtain ⟨p, xs, i, z, rfl, rfl, hq, he, q⟩ := h
  cases rx
  obtain ⟨t, rfl⟩ := ry
  obtain ⟨its, r, pl, hz⟩ := I.list hq
  obtain ⟨j, h1, h2, h3, h4, h5⟩ := atI_get he
  obtain ⟨w, ew, rw'⟩ := r.get h2
  have hl := r.length
  have hn := line63
  have fin : EP X pins σ Q w s := ⟨z, H, I, rw', q⟩
  by_cases h0 : 0 ≤ i
  · have hj : i.toNat = j := by
      rw [seqIndex_of h0 h5] at h1
      exact Option.some.inj h1
    exact item_listR pl.isList h0 (by omega) (by rw [hj]; simpa using ew) fin hs
  · have hj : (i + (its.toArray.size : Int)).toNat = j := by
      rw [seqIndex_neg (by omega) h4] at h1
      rw [List.size_toArray, ← hl]
      exact Option.some.inj h1
    exact subscriptTail_builtinR (x := w) pl.isList.typeIs slot_list_getitem.lookup
      (wpAny_getItem_list_neg (Q := fun r s' => r = w ∧ EP X pins σ Q r s') pl.isList (by omega) (by rw [List.size_toArray] <;> omega) (by omega) (by rw [hj]; simpa using ew) ⟨rfl, fin⟩) hs
theorem ix_str : IxR X rIxS := by
  intro value slice pins s σ H x y v u Q I rx ry h hs
  obtain ⟨z, i, c, rfl, rfl, hz, he, q⟩ := h
  obtain ⟨t, rfl⟩ := rx
  obtain ⟨t', rfl⟩ := ry
  obtain ⟨j, h1, h2, h3, h4, h5⟩ := atI_get he
  have hl : z.cps.toList.length = z.length := by simp [Str.length]
  rw [hl] at h1 h4 h5
  have hn := line63
  exact tail_any (typeIs_str s z t) slot_str_getitem.lookup (getItem_str (c := c) (by
    have e1 : decide (i < -(2 ^ 63 : Int)) = false := decide_eq_false (by omega)
    have e2 : decide (i ≥ 2 ^ 63) = false := decide_eq_false (by omega)
    rw [e1, e2, Bool.or_false]) (by rw [h1]; simpa using h2) ⟨.str ⟨#[c]⟩, H, I.tok _, ⟨_, rfl⟩, q⟩) hs
theorem slice_bounds (lo hi : Option Int) (n : Nat) : (sliceBounds lo hi none n).1 = ((HT.sIx n 0 lo : Nat) : Int) ∧ (sliceBounds lo hi none n).2.1 = ((HT.sIx n n hi : Nat) : Int) ∧ (sliceBounds lo hi none n).2.2 = 1 := by
  refine ⟨?_, ?_, rfl⟩
  · cases lo with
    | none => simp [sliceBounds, HT.sIx]
    | some i =>
      simp only [sliceBounds, HT.sIx, Option.getD_none, show (1 : Int) > 0 by decide, if_true]
      by_cases h : i < 0
      · simp only [h, if_true] <;> omega
      · simp only [h, if_false] <;> omega
  · cases hi with
    | none => simp [sliceBounds, HT.sIx]
    | some i =>
      simp only [sliceBounds, HT.sIx, Option.getD_none, show (1 : Int) > 0 by decide, if_true]
      by_cases h : i < 0
      · simp only [h, if_true] <;> omega
      · simp only [h, if_false] <;> omega
theorem slicePick_cut (its : List Value) (lo hi : Option Int) : slicePick its.toArray lo hi none = ((its.drop (HT.sIx its.length 0 lo)).take (HT.sIx its.length its.length hi - HT.sIx its.length 0 lo)).toArray := by
  obtain ⟨h1, h2, h3⟩ := slice_bounds lo hi its.toArray.size
  unfold slicePick
  rw [h1, h2, h3]
  simp only [sliceRange_one, pick_run, List.size_toArray] <;> rfl
def rSlL (K : PySem.W.Frag) : V → Option Int → Option Int → Hp → VK → Prop := fun x lo hi H Q => ∃ a xs, x = .ref a ∧ SqL K H a xs ∧ ∀ p, H p = none → Q (.ref p) (upd H p (.lst (cutV xs lo hi)))
theorem sl_list : SlR X (rSlL X.K) := by
  intro pins s σ H x v vl vu lo hi sl Q I rx hs pl pu h
  obtain ⟨a, xs, rfl, hx, q⟩ := h
  cases rx
  obtain ⟨its, r, ht, hz⟩ := I.list hx
  have hlen := r.length
  refine ⟨"list", _, slot_list_getitem.lookup, ht.isList.typeIs, ?_⟩
  refine wpAny_getItem_list_slice ht.isList hs pl pu .none (by simp) ?_ (by rw [List.size_toArray] <;> omega)
  rw [slicePick_cut, ← hlen]
  refine ⟨.ref s.heap.objs.size, _, I.laid (t' := s.toks) (o := .lst (cutV xs lo hi)) (fun b ob q => Heap.get?_push_of_some _ q) (Nat.le_refl _) ?_, rfl, q _ (I.hok.fresh (Nat.le_refl _))⟩
  exact ⟨Nat.le_trans (cutV_length xs lo hi) hz, _, 0, (r.drop (HT.sIx xs.length 0 lo)).take (HT.sIx xs.length xs.length hi - HT.sIx xs.length 0 lo), Heap.get?_push_size _ rfl⟩
theorem call_len_seq : CallR X (.builtin "len") (fun xs H Q => ∃ p ys, xs = [.ref p] ∧ (SqL X.K H p ys ∨ SqT X.K H p ys) ∧ Q (.int ys.length) H) := by
  intro pins s σ H xs us Q I r h
  obtain ⟨p, ys, rfl, hq, q⟩ := h
  obtain ⟨u, rfl, rx⟩ := vals1 r
  cases rx
  have hn := line63
  rcases hq with hq | hq
  · obtain ⟨its, r', pl, hz⟩ := I.list hq
    have hlen := r'.length
    exact Calls.call_len_list pl.isList (by simp only [List.size_toArray] <;> omega) ⟨.int ys.length, H, I.tok _, ⟨s.toks + 1, by rw [List.size_toArray, hlen]⟩, q⟩
  · obtain ⟨its, r', pl, hz⟩ := I.tuple hq
    have hlen := r'.length
    exact len_tuple pl (by simp only [List.size_toArray] <;> omega) ⟨.int ys.length, H, I.tok _, ⟨s.toks + 1, by rw [List.size_toArray, hlen]⟩, q⟩
theorem call_len_str : CallR X (.builtin "len") (fun xs H Q => ∃ z, xs = [.str z] ∧ z.length ≤ sizeLine ∧ Q (.int z.length) H) := by
  intro pins s σ H xs us Q I r h
  obtain ⟨z, rfl, hz, q⟩ := h
  obtain ⟨u, rfl, t, rfl⟩ := vals1 r
  have hn := line63
  exact len_str (by omega) ⟨.int z.length, H, I.tok _, ⟨_, rfl⟩, q⟩
theorem call_list_of : CallR X (.type "list") (fun xs H Q => ∃ p ys, xs = [.ref p] ∧ (SqL X.K H p ys ∨ SqT X.K H p ys) ∧ ∀ l, H l = none → Q (.ref l) (upd H l (.lst ys))) := by
  intro pins s σ H xs us Q I r h
  obtain ⟨p, ys, rfl, hq, q⟩ := h
  obtain ⟨u, rfl, rx⟩ := vals1 r
  cases rx
  have fin : ∀ (its : List Value), Vals ys its → ys.length ≤ sizeLine → ∀ (h' : Heap) (c' : Nat), (∀ b o', s.heap.get? b = some o' → h'.get? b = some o') →
      h'.get? s.heap.objs.size = some { cls := .type "list", dict := none, data := .seq its.toArray c', slots := #[] } → EP X pins σ Q (.ref s.heap.objs.size) { s with heap := h' } := fun its r' hz h' c' kp e =>
    ⟨.ref s.heap.objs.size, _, I.laid (t' := s.toks) kp (Nat.le_refl _) (show ObjOk X.prog X.w _ h' _ (.lst ys) from ⟨hz, its, c', r', e⟩), rfl, q _ (I.hok.fresh (Nat.le_refl _))⟩
  rcases hq with hq | hq
  · obtain ⟨its, r', pl, hz⟩ := I.list hq
    have hlen := r'.length
    obtain ⟨o, ho, hc, n, hd⟩ := pl.isList
    exact call_list_seq p (.inl rfl) ho hc hd (fun h' c' kp e => fin its r' hz h' c' kp e) (by simp only [List.size_toArray] <;> omega)
  · obtain ⟨its, r', pl, hz⟩ := I.tuple hq
    have hlen := r'.length
    obtain ⟨o, ho, hc, n, hd⟩ := pl
    exact call_list_seq p (.inr rfl) ho hc hd (fun h' c' kp e => fin its r' hz h' c' kp e) (by simp only [List.size_toArray] <;> omega)
def tyV (K : PySem.W.Frag) (T : String) (x : V) (H : Hp) : Prop := match x with
  | .str _ => T = "str"
  | .int _ => T = "int"
  | .ref p => (T = "list" ∧ ∃ xs, SqL K H p xs) ∨ (T = "tuple" ∧ ∃ o, K.lookup p = some o ∧ o.cls = .type "tuple" ∧ o.dict = none) ∨
      (T = "dict" ∧ ((∃ kvs, H p = some (.dK kvs)) ∨ ∃ kvs, H p = some (.dT kvs))) ∨ (T = "set" ∧ ∃ S n, H p = some (.set S n))
  | _ => False
theorem tyV_is {pins : List (Addr × Obj)} {σ : St} {H : Hp} {s : Shared} {T : String} {x : V} {v : Value} (I : Inv X pins σ H s) (r : RelV x v) (ty : tyV X.K T x H) :
    s.TypeIs v T ∧ ∀ a, v = .ref a → ∃ ob, s.heap.get? a = some ob ∧ ob.dict = none := by
  cases x with
  | str z =>
    obtain ⟨t, rfl⟩ := r
    cases (show T = "str" from ty)
    exact ⟨typeIs_str s z t, fun _ e => nomatch e⟩
  | int i =>
    obtain ⟨t, rfl⟩ := r
    cases (show T = "int" from ty)
    exact ⟨typeIs_int s i t, fun _ e => nomatch e⟩
  | ref p =>
    cases r
    rcases ty with ⟨rfl, xs, hq⟩ | ⟨rfl, o, hk, hc, hd⟩ | ⟨rfl, hk⟩ | ⟨rfl, S, n, hk⟩
    · obtain ⟨its, _, pl, _⟩ := I.list hq
      refine ⟨pl.isList.typeIs, fun a e => ?_⟩
      cases e
      obtain ⟨o, n, e, c, hd, _⟩ := pl
      exact ⟨o, e, hd⟩
    · refine ⟨⟨o, I.kIn p o hk, hc⟩, fun a e => ?_⟩
      cases e
      exact ⟨o, I.kIn _ o hk, hd⟩
    · have z : ∃ o, s.heap.get? p = some o ∧ o.ExactDict := by
        rcases hk with ⟨kvs, hk⟩ | ⟨kvs, hk⟩
        · obtain ⟨_, _, _, _, o, _, _, e, ex, _⟩ := I.hok p _ hk
          exact ⟨o, e, ex⟩
        · obtain ⟨_, _, _, _, o, _, _, e, ex, _⟩ := I.hok p _ hk
          exact ⟨o, e, ex⟩
      obtain ⟨o, e, ex⟩ := z
      refine ⟨⟨o, e, ex.1⟩, fun a e2 => ?_⟩
      cases e2
      exact ⟨o, e, ex.2.1⟩
    · obtain ⟨o, _, _, _, e, ex, _⟩ := I.hok p _ hk
      refine ⟨⟨o, e, ex.1⟩, fun a e2 => ?_⟩
      cases e2
      exact ⟨o, e, ex.2.1⟩
  | _ => exact False.elim ty
def tBM (K : PySem.W.Frag) (T : String) (r : V → List V → Hp → VK → Prop) (to : TE) (t : TA) : TE := fun σ H Q => to σ H fun x H1 => tyV K T x H1 ∧ t σ H1 fun xs H2 => r x xs H2 Q
variable {o e : Expr} {es : List Expr} {to : TE} {t : TA} {name : Str} {apos cpos : Pos} {T id : String} {r : V → List V → Hp → VK → Prop}
theorem pe_bm (pa : PlainAttrs T) (slot : Slot T name id) (hty : typeOf (.builtin id) = pure (.type "method_descriptor")) (hm : MtR X id r) (ho : PE X o to) (ha : PA X (e :: es) t)
    (hbase : attributeBase o name X.env (eval o X.env) = eval o X.env := by rfl)
    (hfew : ((backTo cpos (starEach (e :: es) X.env)).all (fun x => !x.1) && (backToKw cpos (keywordEach [] X.env)).all (fun x => x.1.isSome)
      && decide ((e :: es).length + ([] : List Keyword).length + (if ([] : List Keyword).isEmpty then 0 else 1) < 30)) = true := by rfl)
    (hline : (apos.endLine == cpos.line) = true := by rfl) (hs : starEach (e :: es) X.env = (false, eval e X.env) :: starEach es X.env := by rfl) (hplain : (backTo cpos (starEach es X.env)).any (·.1) = false := by rfl) :
    PE X (.Call (.Attribute o name apos) (e :: es) [] cpos) (tBM X.K T r to t) := by
  intro pins s σ H Q I h
  refine wpAny_Call_method_late hbase hfew hline rfl (thn (ho pins s σ H _ I h) fun v s1 ⟨x, H1, I1, r1, ty, q1⟩ => ?_)
  obtain ⟨h1, h2⟩ := tyV_is I1 r1 ty
  refine ⟨T, id, pa, slot, hty, h1, h2, ?_⟩
  have hA := ha cpos pins s1 σ H1 _ I1 q1
  rw [hs] at hA ⊢
  refine Calls.callWith_builtin (by show (false || (backTo cpos (starEach es X.env)).any (·.1)) = false; rw [hplain] <;> rfl) (Calls.evalArgs_plain ?_)
  exact thn hA fun us s2 ⟨vs, H2, I2, r2, q2⟩ => hm pins s2 σ H2 x vs v us Q I2 r1 r2 q2
end
end L2
namespace L2
open PySem PySem.Spec PyProof.Rows
def MtM (X : Cx) (id : String) (r : V → List V → Hp → VK → Prop) : Prop :=
  ∀ (pins : List (Addr × Obj)) (s : Shared) (σ : St) (H : Hp) (x : V) (xs : List V) (v : Value) (us : List Value) (Q : VK), Inv X pins σ H s → RelV x v → Vals xs us → r x xs H Q →
    wpAny (model X.prog X.w) X.A (call (.builtin id) (v :: us)) (EP X pins σ Q) X.xe s
theorem Vals.one : ∀ {x : V} {us : List Value}, Vals [x] us → ∃ u, us = [u] ∧ RelV x u
  | _, _, .cons r .nil => ⟨_, rfl, r⟩
theorem Vals.two : ∀ {x y : V} {us : List Value}, Vals [x, y] us → ∃ u v, us = [u, v] ∧ RelV x u ∧ RelV y v
  | _, _, _, .cons r (.cons q .nil) => ⟨_, _, rfl, r, q⟩
theorem Vals.rep {xs : List V} {us : List Value} (h : Vals xs us) : ∀ k : Nat, Vals (List.replicate k xs).flatten (List.replicate k us).flatten
  | 0 => .nil
  | k + 1 => by
    rw [List.replicate_succ, List.replicate_succ, List.flatten_cons, List.flatten_cons]
    exact Vals.append h (Vals.rep h k)
theorem foldl_rep (its : List Value) : ∀ (k : Nat) (acc : List Value),
    List.foldl (fun x1 x2 => x1 ++ x2) acc.toArray (List.replicate k its.toArray) = (acc ++ (List.replicate k its).flatten).toArray
  | 0, acc => by simp
  | k + 1, acc => by
    have e : acc.toArray ++ its.toArray = (acc ++ its).toArray := by simp
    have e2 : (acc ++ its) ++ (List.replicate k its).flatten = acc ++ (List.replicate (k + 1) its).flatten := by
      rw [List.replicate_succ, List.flatten_cons, List.append_assoc]
    rw [← e2, ← foldl_rep its k (acc ++ its), ← e, List.replicate_succ, List.foldl_cons]
section
variable {X : Cx} {pins : List (Addr × Obj)} {σ : St} {H : Hp} {s : Shared} {l b : Addr} {xs ys zs : List V}
theorem Inv.lset {its its' : List Value} {n : Nat} {f : Array Value → Array Value} {t' : Nat} (I : Inv X pins σ H s) (hH : H l = some (.lst xs))
    (e : s.heap.get? l = some { cls := .type "list", data := .seq its.toArray n }) (hf : f its.toArray = its'.toArray) (hv : Vals ys its') (hz : ys.length ≤ sizeLine) :
    Inv X pins σ (upd H l (.lst ys)) { s with heap := s.heap.update l (Obj.mapSeq f), toks := t' } := by
  have q := PySem.IsL.update e f
  rw [hf] at q
  refine I.write (x := l) (e := l) (by rw [hH]; exact trivial) (.inl rfl) (fun b' u hb hu => (Heap.get?_update_other s.heap (Obj.mapSeq f) (Ne.symm hb)).trans hu) ⟨_, q⟩ ?_
  exact ⟨hz, its', _, hv, q⟩
theorem Inv.lnew {its : List Value} {t' : Nat} (I : Inv X pins σ H s) (hv : Vals ys its) (hz : ys.length ≤ sizeLine) :
    Inv X pins σ (upd H s.heap.objs.size (.lst ys)) { s with heap := s.heap.push { cls := .type "list", data := .seq its.toArray }, toks := t' } :=
  I.laid (fun _ _ q => Heap.get?_push_of_some _ q) (Nat.le_refl _) ⟨hz, its, 0, hv, Heap.get?_push_size _ rfl⟩
theorem Inv.fresh (I : Inv X pins σ H s) : H s.heap.objs.size = none := I.hok.fresh (Nat.le_refl _)
theorem Inv.lstM (I : Inv X pins σ H s) (hH : H l = some (.lst xs)) : xs.length ≤ sizeLine ∧ ∃ (its : List Value) (n : Nat), Vals xs its ∧ xs.length = its.length ∧ s.heap.get? l = some { cls := .type "list", data := .seq its.toArray n } := by
  obtain ⟨z, its, n, r, e⟩ := I.hok l _ hH
  exact ⟨z, its, n, r, r.length, e⟩
theorem notLongL {n : Nat} (h : n ≤ sizeLine) : Builtin.List.listTooLong n = false := by
  unfold Builtin.List.listTooLong
  exact decide_eq_false (by omega)
end
section
variable {X : Cx}
def rAppend : V → List V → Hp → VK → Prop := fun x vs H Q => ∃ l xs y, x = .ref l ∧ vs = [y] ∧ H l = some (.lst xs) ∧ xs.length < sizeLine ∧ Q .non (upd H l (.lst (xs ++ [y])))
theorem mt_append : MtM X "list.append" rAppend := by
  intro pins s σ H x vs v us Q I rx rv h
  obtain ⟨l, xs, y, rfl, rfl, hH, hz, q⟩ := h
  cases rx
  obtain ⟨u, rfl, ru⟩ := rv.one
  obtain ⟨z, its, n, r, hl, e⟩ := I.lstM hH
  refine call_meets F.slot_list_append ⟨_, e, rfl⟩ F.entry_list_append (F.args_list_append_2 _ _) (PySem.list_append l its.toArray n u (by rw [List.size_toArray]; omega)) ⟨e, ?_⟩
  refine ⟨.non, _, I.lset (its' := its ++ [u]) hH e (by simp) (r.append (.cons ru .nil)) ?_, rfl, q⟩
  rw [List.length_append, List.length_singleton]
  omega
def rCat : R2 := fun x y H Q => ∃ l b xs zs, x = .ref l ∧ y = .ref b ∧ H l = some (.lst xs) ∧ H b = some (.lst zs) ∧ xs.length + zs.length ≤ sizeLine ∧ ∀ p, H p = none → Q (.ref p) (upd H p (.lst (xs ++ zs)))
theorem op_cat : OpR X (binaryOp .Add) rCat := by
  intro pins s σ H x y v u Q I rx ry h
  obtain ⟨l, b, xs, zs, rfl, rfl, hH, hB, hz, q⟩ := h
  cases rx
  cases ry
  obtain ⟨z, its, n, r, hl, e⟩ := I.lstM hH
  obtain ⟨z2, its2, n2, r2, hl2, e2⟩ := I.lstM hB
  refine PySem.P.add_list e e2 ?_ (by rw [List.size_toArray, List.size_toArray]; omega)
  have ea : its.toArray ++ its2.toArray = (its ++ its2).toArray := by simp
  rw [ea]
  exact ⟨.ref _, _, I.lnew (t' := s.toks) (r.append r2) (by rw [List.length_append]; omega), rfl, q _ I.fresh⟩
def rRep : R2 := fun x y H Q => ∃ l k xs, x = .ref l ∧ y = .int k ∧ H l = some (.lst xs) ∧ -(2 ^ 63) ≤ k ∧ k < 2 ^ 63 ∧ xs.length * k.toNat ≤ sizeLine ∧
  ∀ p, H p = none → Q (.ref p) (upd H p (.lst (List.replicate k.toNat xs).flatten))
theorem len_rep {α : Type} (xs : List α) (k : Nat) : (List.replicate k xs).flatten.length = k * xs.length := by
  induction k with
  | zero => simp
  | succ k ih => rw [List.replicate_succ, List.flatten_cons, List.length_append, ih, Nat.succ_mul, Nat.add_comm]
theorem op_rep : OpR X (binaryOp .Mult) rRep := by
  intro pins s σ H x y v u Q I rx ry h
  obtain ⟨l, k, xs, rfl, rfl, hH, h1, h2, hz, q⟩ := h
  cases rx
  obtain ⟨t, rfl⟩ := ry
  obtain ⟨z, its, n, r, hl, e⟩ := I.lstM hH
  have hlen : its.toArray.size * k.toNat ≤ sizeLine := by rw [List.size_toArray, ← hl]; exact hz
  have hcap : ¬ its.toArray.size * k.toNat > (2 ^ 63 - 1) / 8 := by
    have : (sizeLine : Nat) ≤ (2 ^ 63 - 1) / 8 := by decide
    omega
  have hfit : ¬ (!Builtin.List.listFitsIndex k) = true := by
    rw [fitsIndex_both h1 h2]
    exact Bool.false_ne_true
  have hlong : ¬ Builtin.List.listTooLong (its.toArray.size * k.toNat) = true := by
    rw [notLongL hlen]
    exact Bool.false_ne_true
  have hnew : List.foldl (fun x1 x2 => x1 ++ x2) #[] (List.replicate (if its.toArray.isEmpty = true then 0 else k.toNat) its.toArray) = (List.replicate k.toNat its).flatten.toArray := by
    have f0 : ∀ m : Nat, List.foldl (fun x1 x2 => x1 ++ x2) #[] (List.replicate m its.toArray) = (List.replicate m its).flatten.toArray := fun m => by
      have := foldl_rep its m []
      rw [List.nil_append] at this
      exact this
    rw [f0]
    cases its with
    | nil => simp
    | cons a r' => rw [if_neg (by simp)]
  refine wpAny_binaryOp_repeat_ref (T := "list") (U := "int") (by decide) ⟨_, e, rfl⟩ (fun s' => typeIs_int s' k t) noFill_list_mul F.fills_int_mul F.slot_int_rmul repeat_list F.slot_int_index.lookup
    (call_meets F.slot_int_rmul (typeIs_int s k t) F.entry_int_rmul (F.args_int_rmul_2 _ _) (int___rmul___int_list k t l its.toArray n)
      ⟨e, rfl, ⟨_, e, rfl⟩, call_meets F.slot_list_mul ⟨_, e, rfl⟩ F.entry_list_mul (F.args_list_mul_2 _ _) (AutoListH.list___mul___list_int_3 l its.toArray n k t hfit hcap hlong) ⟨e, ?_⟩⟩)
  rw [hnew]
  exact ⟨.ref _, _, I.lnew (t' := s.toks) (r.rep k.toNat) (by rw [len_rep, Nat.mul_comm]; exact hz), rfl, q _ I.fresh⟩
end
section
variable {prog : Program} {w : World} {A : Around} {E : Value → Shared → Prop} {s : Shared}
set_option maxRecDepth 100000 in
end
section
variable {X : Cx}
end
end L2
namespace Att
open PySem PySem.W PySem.Calls PyProof.Rows
theorem ints_of_wellAll {P : Params} {h : Heap} : ∀ (ns : List Int) (vs : List Value), WellAll P h vs (ns.map WData.int) → IntsAre vs ns := by
  intro ns
  induction ns with
  | nil =>
    intro vs w
    rw [List.map_nil] at w
    cases w
    exact .nil
  | cons n ns ih =>
    intro vs w
    rw [List.map_cons] at w
    cases w with
    | cons a b =>
      cases a
      exact .cons _ _ (ih _ b)
theorem script_of {l : OpenLaw} {n : Nat} (hn : l.most = some n) {P : Params} {h : Heap} {args : List WData} {vals : List Value}
    (hpre : l.row.toRowW.claim.pre args = true) (hwl : WellAll P h vals args) :
    ∃ a vs ns, vals = [Value.ref a] ∧ args = [WData.list (ns.map WData.int)] ∧ h.get? a = some { cls := .type "list", data := .seq vs.toArray } ∧ IntsAre vs ns ∧ ns.length ≤ n := by
  have hsh : WShape.hasAll [] args [.list .int] = true := (pre_splitW hpre).1
  have hc : l.pre.holds [] { args := args } = true := (pre_splitW hpre).2
  obtain ⟨d, r, rfl, h1, h2⟩ := hasAllW_cons hsh
  obtain rfl := hasAllW_nil h2
  obtain ⟨xs, rfl, h3⟩ := hasW_list h1
  obtain ⟨ns, rfl⟩ := items_int h3
  have hlen : ns.length ≤ n := by
    unfold OpenLaw.pre at hc
    have h4 : (WTm.not (.lt (.lit (.int (n : Int))) (.len (.arg 0)))).holds [] { args := [.list (ns.map .int)] } = true := by
      have h4 := (holds_andW hc).1
      rw [hn] at h4
      exact h4
    have h5 := condW_of h4 (w_not (w_lt w_lit (w_len_list (w_arg rfl))))
    rw [List.length_map] at h5
    refine Nat.le_of_not_lt fun q => ?_
    have q' : (n : Int) < ((ns.length : Nat) : Int) := by omega
    first
      | (rw [decide_eq_true q'] at h5; exact absurd h5 (by decide))
      | (simp at h5; omega)
  cases hwl with
  | cons w1 w2 =>
    cases w2
    cases w1 with
    | list ho hall => exact ⟨_, _, ns, rfl, rfl, ho, ints_of_wellAll ns _ hall, hlen⟩
theorem post_true (l : OpenLaw) (args : List WData) : l.row.toRowW.claim.post args (.bool true) args = true :=
  postW_of (r := l.row.toRowW) (X := (true == true))
    (show WShape.has [] (.bool true) .bool = true by first | rfl | decide | simp [WShape.has, WShape.arms, WShape.armsAll])
    (show (WTm.eq .res (.lit (.bool true))).value [] { args := args, res := some (.bool true), after := args } = some (.bool (true == true)) from w_eq_bool (w_res rfl) w_lit) rfl
theorem attach_call {l : OpenLaw} {n : Nat} {q : Program} {loose : List Str} {XP : (Str → Option Value) → Heap → Prop} {YP : World → Heap → Prop} {d : DefRec}
    (hn : l.most = some n) (hdf : d.params.defaults = [])
    (call : ∀ (w : World) (s₀ s₁ : Shared) (mg mb : Str → Option Value) (fa : Addr) (o : Obj) (pm cd doc : Value) (a : Addr) (vs : List Value) (ns : List Int),
      Ground q loose [] XP w s₀ mg mb s₁.heap → YP w s₁.heap →
      s₁.heap.get? fa = some o → o.data = .func (docDef d.name d.params d.body d.scope pm cd doc) → s₁.heap.CodeRec cd d.name → mg d.name = some (.ref fa) →
      s₁.heap.get? a = some { cls := .type "list", data := .seq vs.toArray } → IntsAre vs ns → ns.length ≤ n → s₁.gens = #[] →
      codeAny (model l.prog w) callerA (.call (.ref fa) ⟨[.ref a], []⟩) (fun r s' => r = .ok (.ret (.bool true)) ∧ OldK s₁.heap s'.heap ∧ s'.os = s₁.os ∧ AllBare s'.gens) s₁) :
    WalkO q loose XP YP l.row.toRowW d [] (fun f vs => PySem.call f vs) := by
  intro w s₀ s₁ mg mb G Y fa o pm cd doc dV kV ho hd hcd hD hmg hg args vals as hpre hlay hrd hwl hlo
  obtain rfl : dV = .none := Dflts.none hD hdf
  obtain rfl : kV = .none := Dflts.noKw hD
  obtain ⟨a, vs, ns, rfl, rfl, hobj, hints, hlen⟩ := script_of hn hpre hwl
  refine enter_call (codeAny_mono (call w s₀ s₁ mg mb fa o pm cd doc a vs ns G Y ho (fd_plain hd) hcd hmg hobj hints hlen hg) fun r s' hq => ?_)
  obtain ⟨rfl, h2, h3, h4⟩ := hq
  exact ⟨.inl ⟨.bool true, .bool true, [], rfl, fun _ => rfl, .bool true, post_true l _, fun _ => ⟨List.Pairwise.nil, fun _ hm => (nomatch hm)⟩⟩, h2, h3, h4⟩
section
variable {prog : Program} {w : World} {A : Around} {E : Value → Shared → Prop} {s : Shared} {K : Frag}
end
end Att
namespace L2
open PySem PySem.Spec PyProof.Rows
theorem vals_ints : ∀ {vs : List Value} {ns : List Int}, IntsAre vs ns → Vals (ns.map V.int) vs
  | _, _, .nil => .nil
  | _, _, .cons n t h => .cons ⟨t, rfl⟩ (vals_ints h)
def Only (H : Hp) : Prop := ∀ b, H b = none ∨ ∃ o xs, H b = some (.frz o (.lst xs))
theorem law_call {P : Program} {w : World} {K : PySem.W.Frag} {mg mb : Str → Option Value} {CX : CXT} {k : Nat} {fa a : Addr} {fd : FuncData} {x : Str} {sp : Sp} {s₁ : Shared} {vs : List Value} {ns : List Int}
    (KX : K.In s₁.heap) (hns : s₁.heap.Ns mainGlobals mg) (hb : s₁.heap.Ns builtinsNs mb) (hbb : ∀ x : Str, x ≠ "__name__" → mb x = bootBuiltins x) (hlim : s₁.heap.NoLimit) (hg : s₁.gens = #[])
    (ha : s₁.heap.get? a = some { cls := .type "list", data := .seq vs.toArray }) (hi : IntsAre vs ns) (hl : ns.length ≤ sizeLine) (hr : Room k callerA)
    (F : ∀ base : Heap, K.In base → base.Ns mainGlobals mg → FnOk P w K mg base CX k fa fd [x] sp) (hbind : ∀ (s : Shared) (u : Value), BindsTo s fd ⟨[u], []⟩ [(x, u)])
    (hsp : ∀ H : Hp, Only H → SqL K H a (ns.map V.int) → sp [.ref a] H (fun v _ => v = .bl true) fun _ _ _ => False)
    (hCX : ∀ H e s', CX [] H s₁ (fun _ _ _ => False) e s' → False) :
    codeAny (model P w) callerA (.call (.ref fa) ⟨[.ref a], []⟩) (fun r s' => r = .ok (.ret (.bool true)) ∧ OldK s₁.heap s'.heap ∧ s'.os = s₁.os ∧ AllBare s'.gens) s₁ := by
  have rv := vals_ints hi
  have lenV := hi.length
  have core : ∀ H : Hp, Only H → SqL K H a (ns.map V.int) → HOk P w H s₁.heap → (∀ b, H b ≠ none → b = a) → (H a ≠ none → K.lookup a = none) →
      codeAny (model P w) callerA (.call (.ref fa) ⟨[.ref a], []⟩) (fun r s' => r = .ok (.ret (.bool true)) ∧ OldK s₁.heap s'.heap ∧ s'.os = s₁.os ∧ AllBare s'.gens) s₁ := by
    intro H hO hS hok hA hK
    have base_of : ∀ {b : Addr} {o : Obj}, s₁.heap.get? b = some o → H b = none → (hidT s₁.heap H).get? b = some o := fun e n => hidT_get e n
    have noA : ∀ {b : Addr} {o : Obj} {es : Array DictEntry} {ep : Nat}, s₁.heap.get? b = some o → o.data = .dict es ep → H b = none := fun {b o es ep} e d => by
      cases q : H b with
      | none => rfl
      | some u =>
        have e' : b = a := hA b (by rw [q]; simp)
        subst e'
        rw [ha] at e; cases e
        have d' : Data.seq vs.toArray _ = Data.dict es ep := d
        cases d'
    have nsK : ∀ {b : Addr} {m : Str → Option Value}, s₁.heap.Ns b m → (hidT s₁.heap H).Ns b m := fun {b m} ⟨o, es, ep, e, d, r⟩ => ⟨o, es, ep, base_of e (noA e d), d, r⟩
    have hKb : K.In (hidT s₁.heap H) := fun b o e => base_of (KX b o e) (by
      cases q : H b with
      | none => rfl
      | some u =>
        have e' : b = a := hA b (by rw [q]; simp)
        subst e'
        rw [hK (by rw [q]; simp)] at e; cases e)
    have hM : Mod K mg (hidT s₁.heap H) := ⟨hKb, nsK hns, ⟨mb, nsK hb, hbb⟩, let ⟨mc, h1, h2⟩ := hlim; ⟨mc, nsK h1, h2⟩⟩
    have e0 : Env0 P w K mg (hidT s₁.heap H) callerA [] s₁ H := ⟨rfl, hM, fun b o e => of_hidT e, Nat.le_of_eq (hidT_size _ _), trivial, fun b hb => absurd (show b ∈ ([] : List Addr) from hb) (by simp), hok, .of_eq hg⟩
    refine codeAny_mono ((F _ hKb (nsK hns)).run callerA [] s₁ H ⟨[.ref a], []⟩ [.ref a] [.ref a] _ _ hr e0 (hbind s₁ (.ref a)) (.cons rfl .nil) (hsp H hO hS)) fun r s' h => ?_
    cases r with
    | error e => exact (hCX H e s' h).elim
    | ok fl =>
      cases fl with
      | next => exact False.elim h
      | brk => exact False.elim h
      | cont => exact False.elim h
      | ret u =>
        obtain ⟨v, H', os, bare, un, hok', r', q⟩ := h
        have q' : v = .bl true := q
        subst q'
        obtain rfl : u = Value.bool true := r'
        refine ⟨rfl, OldK.of_keep fun b o e => ?_, os, bare⟩
        cases q : H b with
        | none => exact un.keep b o e q (by intro z; exact absurd (show b ∈ ([] : List Addr) from z) (by simp)) (by simp)
        | some u =>
          rcases hO b with z | ⟨ob, xs, z⟩
          · rw [q] at z; cases z
          · have z2 := un.frzs b ob _ z
            obtain ⟨e1, _⟩ := hok b _ z
            obtain ⟨e2, _⟩ := hok' b _ z2
            rw [e] at e1; cases e1
            exact e2
  cases hk : K.lookup a with
  | some o =>
    have e := KX a o hk
    rw [ha] at e
    cases e
    refine core (fun _ => none) (fun _ => .inl rfl) (.inr ⟨_, vs.toArray, _, hk, rfl, rfl, rfl, by rw [List.size_toArray, lenV]; exact hl, by simpa using rv⟩) (fun b u z => by have z' : (none : Option HO) = some u := z; cases z') (fun b z => absurd rfl z) fun z => absurd rfl z
  | none =>
    refine core (fun b => if b = a then some (.frz { cls := .type "list", data := .seq vs.toArray } (.lst (ns.map V.int))) else none) (fun b => ?_) (.inl (.inr ⟨{ cls := .type "list", data := .seq vs.toArray }, if_pos rfl⟩)) (fun b u z => ?_) (fun b z => ?_) fun _ => hk
    · by_cases hb : b = a
      · exact .inr ⟨_, _, if_pos hb⟩
      · exact .inl (if_neg hb)
    · by_cases hb : b = a
      · have z' := (if_pos hb).symm.trans z
        cases z'
        subst hb
        exact ⟨ha, by rw [List.length_map]; exact hl, vs, _, rv, ha⟩
      · have z' := (if_neg hb).symm.trans z
        cases z'
    · by_cases hb : b = a
      · exact hb
      · exact absurd (if_neg hb) z
end L2
namespace L2
open PySem PySem.Spec PyProof.Rows
theorem walk_of {l : PySem.W.OpenLaw} {n k : Nat} {q : Program} {loose : List Str} {XP : (Str → Option Value) → Heap → Prop} {YP : World → Heap → Prop} {d : DefRec} {K : Params → PySem.W.Frag} {CX : World → CXT} {sp : World → Sp} {x : Str}
    (hn : l.most = some n) (hn2 : n ≤ sizeLine) (hdf : d.params.defaults = []) (hr : Room k callerA)
    (hY : ∀ (w : World) (h : Heap), YP w h → (K w.params).In h)
    (F : ∀ (w : World) (mg : Str → Option Value) (fa : Addr) (h : Heap), (K w.params).In h → h.Ns mainGlobals mg → mg d.name = some (.ref fa) →
      ∃ fd : FuncData, (∀ (s : Shared) (u : Value), BindsTo s fd ⟨[u], []⟩ [(x, u)]) ∧
        ∀ base : Heap, (K w.params).In base → base.Ns mainGlobals mg → FnOk l.prog w (K w.params) mg base (CX w) k fa fd [x] (sp w))
    (hsp : ∀ (w : World) (H : Hp) (a : Addr) (ns : List Int), ns.length ≤ n → Only H → SqL (K w.params) H a (ns.map V.int) → sp w [.ref a] H (fun v _ => v = .bl true) fun _ _ _ => False)
    (hCX : ∀ (w : World) (H : Hp) (s : Shared) (e : Value) (s' : Shared), CX w [] H s (fun _ _ _ => False) e s' → False) :
    PySem.W.WalkO q loose XP YP l.row.toRowW d [] (fun f vs => PySem.call f vs) := by
  refine Att.attach_call hn hdf fun w s₀ s₁ mg mb fa o pm cd doc a vs ns G Y ho hd hcd hmg hobj hints hlen hg => ?_
  have KX := hY w _ Y
  obtain ⟨fd, hb, hF⟩ := F w mg fa _ KX G.T.g hmg
  exact law_call KX G.T.g G.T.b G.T.builtins G.T.nolimit hg hobj hints (Nat.le_trans hlen hn2) hr hF hb (fun H hO hS => hsp w H a ns hlen hO hS) fun H e s' => hCX w H s₁ e s'
end L2
namespace L2
open PySem PySem.Spec PyProof.Rows
def defArgs (s : Stmt) : Arguments := match s with
  | .FunctionDef _ a _ _ _ _ _ _ _ _ => a
  | _ => { posonlyargs := [], args := [], vararg := none, kwonlyargs := [], kw_defaults := [], kwarg := none, defaults := [] }
def defBody (s : Stmt) : List Stmt := match s with
  | .FunctionDef _ _ b _ _ _ _ _ _ _ => b
  | _ => []
def defScope (s : Stmt) : Scope := match s with
  | .FunctionDef _ _ _ _ _ _ sc _ _ _ => sc
  | _ => { kind := .function, names := [], isGenerator := false, isCoroutine := false }
abbrev CX0 : CXT := fun _ _ _ _ _ _ => False
abbrev E0 : XK := fun _ _ _ => False
theorem pass0 {X : Cx} : Passes CX0 X E0 := fun _ _ _ _ _ _ _ h => h.elim
structure Fun (K : PySem.W.Frag) (x qual : Str) (st : Stmt) (f : Addr) (fd : FuncData) : Prop where
  ex : ∃ (oc : Value) (od : Option Addr) (kV doc pm : Value) (an : Option Addr) (cdv ct : Value) (osl : Array (Option Value)),
    fd = PySem.W.fnOf x qual (defArgs st) (defBody st) (defScope st) .none kV doc pm an cdv ct ∧ K.lookup f = some ⟨oc, od, .func fd, osl⟩ ∧ PySem.W.codeIn K cdv qual = true
  kp : PySem.W.keepIn K (.ref f) = true
section
variable {P : Program} {w : World} {K : PySem.W.Frag} {mg : Str → Option Value} {base : Heap}
theorem Fun.ok {x qual : Str} {st : Stmt} {f : Addr} {fd : FuncData} {N ps : List Str} {k : Nat} {sp : Sp} (F : Fun K x qual st f fd) (S : FnScope N ps (defScope st)) (len : ∀ vs H Q E, sp vs H Q E → vs.length = ps.length)
    (hbody : ∀ (cdv : Value) (A : Around) (outer : List Env) (s : Shared) (H : Hp) (vs : List V) (Q : VK) (E : XK), Room k (A.deeper (envOfC qual (defScope st) s.heap.objs.size f cdv)) → sp vs H Q E →
      ∃ t, PSs (cxOf CX0 P w K mg base N qual (defScope st) f cdv A outer s H E).nox (defBody st) t ∧ t { nx := fun _ H' => Q .non H', rt := Q } (start N vs) H) : FnOk P w K mg base CX0 (k + 1) f fd ps sp := by
  obtain ⟨oc, od, kV, doc, pm, an, cdv, ct, osl, rfl, lk, hcd⟩ := F.ex
  refine fn_of lk hcd S len fun A outer s H vs Q E hr hsp => ?_
  obtain ⟨t, h, q⟩ := hbody cdv A outer s H vs Q E hr hsp
  exact ⟨t, h.nox, q⟩
theorem Fun.binds {x qual : Str} {st : Stmt} {f : Addr} {fd : FuncData} {ps : List Str} (F : Fun K x qual st f fd)
    (h : ∀ (kV doc pm : Value) (an : Option Addr) (cdv ct : Value) (us : List Value), us.length = ps.length → bindArgs (PySem.W.fnOf x qual (defArgs st) (defBody st) (defScope st) .none kV doc pm an cdv ct) ⟨us, []⟩ = pure (ps.zip us)) : Binds K fd ps [] := by
  obtain ⟨oc, od, kV, doc, pm, an, cdv, ct, osl, rfl, lk, hcd⟩ := F.ex
  exact .all (h kV doc pm an cdv ct)
theorem fun_mk {x qual : Str} {st : Stmt} {f : Addr} {oc : Value} {od an : Option Addr} {osl : Array (Option Value)} {kV doc pm cdv ct : Value} (l : K.lookup f = some ⟨oc, od, .func (PySem.W.fnOf x qual (defArgs st) (defBody st) (defScope st) .none kV doc pm an cdv ct), osl⟩)
    (c : PySem.W.codeIn K cdv qual = true) (k : PySem.W.keepIn K (.ref f) = true) : Fun K x qual st f (PySem.W.fnOf x qual (defArgs st) (defBody st) (defScope st) .none kV doc pm an cdv ct) := ⟨⟨oc, od, kV, doc, pm, an, cdv, ct, osl, rfl, l, c⟩, k⟩
end
theorem small1000 {n : Nat} (h : n ≤ 1000) : n < sizeLine := Nat.lt_of_le_of_lt h (by decide)
section
variable {X : Cx}
end
theorem iteF {A B : Prop} (h : B) : if false = true then A else B := by
  rw [if_neg Bool.false_ne_true]
  exact h
theorem iteT {A B : Prop} (h : A) : if true = true then A else B := by
  rw [if_pos rfl]
  exact h
def Same (H H' : Hp) : Prop := ∀ b o, H b = some o → H' b = some o
theorem Same.refl (H : Hp) : Same H H := fun _ _ h => h
theorem Same.trans {H H1 H2 : Hp} (a : Same H H1) (b : Same H1 H2) : Same H H2 := fun c o h => b c o (a c o h)
theorem Same.free {H H' : Hp} (e : Same H H') {l : Addr} (h : H' l = Option.none) : H l = Option.none := by
  cases q : H l with
  | none => rfl
  | some o =>
    rw [e l o q] at h
    cases h
end L2
end
section
namespace L2
open PySem PySem.Spec PyProof.Rows
section
variable {κ : Type} [DecidableEq κ]
end
section
variable {P : Program} {w : World} {H : Hp} {h : Heap} {a : Addr}
end
section
variable {X : Cx} {pins : List (Addr × Obj)} {σ : St} {H : Hp} {s : Shared} {a : Addr} {y v : V} {u r : Value} {o : Option V} {A : Around} {E : Value → Shared → Prop}
end
section
variable {X : Cx} {pins : List (Addr × Obj)} {σ : St} {H : Hp} {s : Shared} {a : Addr} {kvs : List (Key × V)} {k : Key} {u : Value} {A : Around} {E : Value → Shared → Prop}
end
section
variable {X : Cx} {o i e value : Expr} {pos pos' tpos : Pos} {td ty tv : TE}
end
section
variable {X : Cx} {pos : Pos}
end
section
variable {X : Cx} {pins : List (Addr × Obj)} {σ : St} {H : Hp} {s : Shared} {a : Addr} {y d : V} {u r : Value} {o : Option V} {A : Around} {E : Value → Shared → Prop}
end
section
variable {X : Cx} {o e f : Expr} {apos cpos : Pos} {td ty tx : TE}
end
section
variable {X : Cx} {pins : List (Addr × Obj)} {σ : St} {H : Hp} {s : Shared} {a : Addr} {kvs : List (Key × V)} {A : Around} {E : Value → Shared → Prop}
end
section
variable {X : Cx} {pins : List (Addr × Obj)} {σ : St} {H : Hp} {s : Shared} {a : Addr} {y : V} {u : Value} {A : Around} {E : Value → Shared → Prop}
end
end L2
namespace L2
open PySem PySem.Spec PyProof.Rows
section
variable {X : Cx}
end
section
variable {κ : Type} [DecidableEq κ]
end
end L2
end
section
namespace L2
open PySem PySem.Spec PyProof.Rows
theorem big_ne {n c d : Nat} (h1 : n + 2 ≤ c) (h2 : d < n) : c ≠ d := by omega
theorem lt_ne1 {n b : Nat} (h : b < n) : b ≠ n + 1 := by omega
theorem big_ne0 {n c : Nat} (h : n + 2 ≤ c) : c ≠ n := by omega
theorem big_le {n c : Nat} (h : n + 2 ≤ c) : n ≤ c := by omega
theorem cellsFrom_app : ∀ (names : List (Str × NameKind)) (n : Nat) (acc : List (Str × Addr)), cellsFrom n names acc = cellsFrom n names [] ++ acc
  | [], n, acc => rfl
  | (x, k) :: r, n, acc => by
    unfold cellsFrom
    by_cases hk : (k == NameKind.cell) = true
    · rw [if_pos hk, if_pos hk, cellsFrom_app r (n + 1) ((x, n) :: acc), cellsFrom_app r (n + 1) [(x, n)], List.append_assoc]; rfl
    · rw [if_neg hk, if_neg hk]; exact cellsFrom_app r n acc
theorem cellsFrom_mem : ∀ (names : List (Str × NameKind)) (n : Nat) {x : Str} {c : Addr}, (x, c) ∈ cellsFrom n names [] → (x, NameKind.cell) ∈ names
  | [], _, _, _, h => by simp [cellsFrom] at h
  | (y, k) :: r, n, x, c, h => by
    unfold cellsFrom at h
    by_cases hk : (k == NameKind.cell) = true
    · rw [if_pos hk, cellsFrom_app] at h
      rcases List.mem_append.mp h with h | h
      · exact List.mem_cons_of_mem _ (cellsFrom_mem r (n + 1) h)
      · have e : (x, c) = (y, n) := by simpa using h
        cases e
        have : k = .cell := by simpa using hk
        subst this
        exact List.mem_cons_self
    · rw [if_neg hk] at h
      exact List.mem_cons_of_mem _ (cellsFrom_mem r n h)
theorem cellsFrom_has : ∀ (names : List (Str × NameKind)) (n : Nat) {x : Str}, (x, NameKind.cell) ∈ names → ∃ c, (x, c) ∈ cellsFrom n names []
  | [], _, _, h => nomatch h
  | (y, k) :: r, n, x, h => by
    unfold cellsFrom
    by_cases hk : (k == NameKind.cell) = true
    · rw [if_pos hk, cellsFrom_app]
      rcases List.mem_cons.mp h with e | h
      · cases e
        exact ⟨n, List.mem_append_right _ (by simp)⟩
      · obtain ⟨c, hc⟩ := cellsFrom_has r (n + 1) h
        exact ⟨c, List.mem_append_left _ hc⟩
    · rw [if_neg hk]
      rcases List.mem_cons.mp h with e | h
      · cases e
        exact absurd rfl hk
      · exact cellsFrom_has r n h
def clos (env : Env) : List (Str × NameKind) → List (Str × Addr) → List (Str × Addr)
  | [], acc => acc
  | (n, k) :: r, acc => clos env r (if k == .free then (n, (env.cells.lookup n).getD 0) :: acc else acc)
theorem clos_app (env : Env) : ∀ (names : List (Str × NameKind)) (acc : List (Str × Addr)), clos env names acc = clos env names [] ++ acc
  | [], acc => rfl
  | (x, k) :: r, acc => by
    unfold clos
    by_cases hk : (k == NameKind.free) = true
    · rw [if_pos hk, if_pos hk, clos_app env r (_ :: acc), clos_app env r [_], List.append_assoc]; rfl
    · rw [if_neg hk, if_neg hk]; exact clos_app env r acc
theorem clos_mem (env : Env) : ∀ (names : List (Str × NameKind)) {x : Str} {c : Addr}, (x, c) ∈ clos env names [] → (x, NameKind.free) ∈ names ∧ c = (env.cells.lookup x).getD 0
  | [], _, _, h => by simp [clos] at h
  | (y, k) :: r, x, c, h => by
    unfold clos at h
    by_cases hk : (k == NameKind.free) = true
    · rw [if_pos hk, clos_app] at h
      rcases List.mem_append.mp h with h | h
      · obtain ⟨h1, h2⟩ := clos_mem env r h
        exact ⟨List.mem_cons_of_mem _ h1, h2⟩
      · have e : (x, c) = (y, (env.cells.lookup y).getD 0) := by simpa using h
        cases e
        have : k = .free := by simpa using hk
        subst this
        exact ⟨List.mem_cons_self, rfl⟩
    · rw [if_neg hk] at h
      obtain ⟨h1, h2⟩ := clos_mem env r h
      exact ⟨List.mem_cons_of_mem _ h1, h2⟩
theorem clos_has (env : Env) : ∀ (names : List (Str × NameKind)) {x : Str}, (x, NameKind.free) ∈ names → (x, (env.cells.lookup x).getD 0) ∈ clos env names []
  | [], _, h => nomatch h
  | (y, k) :: r, x, h => by
    unfold clos
    by_cases hk : (k == NameKind.free) = true
    · rw [if_pos hk, clos_app]
      rcases List.mem_cons.mp h with e | h
      · cases e
        exact List.mem_append_right _ (by simp)
      · exact List.mem_append_left _ (clos_has env r h)
    · rw [if_neg hk]
      rcases List.mem_cons.mp h with e | h
      · cases e
        exact absurd rfl hk
      · exact clos_has env r h
theorem clos_for {env : Env} (f : Str × NameKind → List (Str × Addr) → Sem (ForInStep (List (Str × Addr))))
    (hf : ∀ n k cs, f (n, k) cs = if k == .free then (do let c ← cellOf env n; pure (.yield ((n, c) :: cs))) else pure (.yield cs)) :
    ∀ (names : List (Str × NameKind)) (acc : List (Str × Addr)), (∀ x ∈ names, x.2 = .free → ∃ c, env.cells.lookup x.1 = some c) → forIn names acc f = pure (clos env names acc)
  | [], acc, _ => by rw [List.forIn_nil]; rfl
  | (n, k) :: r, acc, h => by
    rw [List.forIn_cons, hf]
    unfold clos
    by_cases hk : (k == NameKind.free) = true
    · obtain ⟨c, hc⟩ := h (n, k) List.mem_cons_self (by simpa using hk)
      have hc' : env.cells.lookup n = some c := hc
      rw [if_pos hk, if_pos hk]
      have e : cellOf env n = pure c := by unfold cellOf; rw [hc']
      rw [e, hc', pure_bind, pure_bind]
      exact clos_for f hf r _ fun x hx => h x (List.mem_cons_of_mem _ hx)
    · rw [if_neg hk, if_neg hk, pure_bind]
      exact clos_for f hf r _ fun x hx => h x (List.mem_cons_of_mem _ hx)
theorem closureFor_eq {scope : Scope} {env : Env} (h : ∀ x ∈ scope.names, x.2 = .free → ∃ c, env.cells.lookup x.1 = some c) : closureFor scope env = pure (clos env scope.names []) := by
  simp only [closureFor]
  rw [clos_for _ (fun n k cs => by cases hk : k == NameKind.free <;> simp [hk]) scope.names [] h]
  rfl
theorem lookup_of {α : Type} {x : Str} {c : α} : ∀ {l : List (Str × α)}, (x, c) ∈ l → (∀ c', (x, c') ∈ l → c' = c) → l.lookup x = some c
  | [], h, _ => nomatch h
  | (y, d) :: r, h, u => by
    rw [List.lookup_cons]
    cases hb : x == y with
    | true =>
      have e : x = y := beq_iff_eq.mp hb
      subst e
      exact congrArg some (u d List.mem_cons_self)
    | false =>
      rcases List.mem_cons.mp h with e | h
      · cases e
        rw [beq_self_eq_true] at hb
        cases hb
      · exact lookup_of h fun c' hc' => u c' (List.mem_cons_of_mem _ hc')
theorem kinds_one {names : List (Str × NameKind)} (nd : (names.map (·.1)).Nodup) {x : Str} {k k' : NameKind} (h : (x, k) ∈ names) (h' : (x, k') ∈ names) : k = k' := by
  induction names with
  | nil => exact nomatch h
  | cons p r ih =>
    rw [List.map_cons, List.nodup_cons] at nd
    rcases List.mem_cons.mp h with e | h <;> rcases List.mem_cons.mp h' with e' | h'
    · rw [← e'] at e; exact congrArg Prod.snd e
    · exact absurd (List.mem_map.mpr ⟨_, h', by rw [← e]⟩) nd.1
    · exact absurd (List.mem_map.mpr ⟨_, h, by rw [← e']⟩) nd.1
    · exact ih nd.2 h h'
theorem relabel_lookup (scope : Scope) (env : Env) (x : Str) : (relabel scope env).names.lookup x =
    (scope.names.lookup x).map fun k => if (k == NameKind.free && env.scope.kind == .function && env.kindOf x == some .cell) = true then NameKind.cell else k := by
  show List.lookup x (scope.names.map fun (n, k) => if (k == NameKind.free && env.scope.kind == .function && env.kindOf n == some .cell) = true then (n, NameKind.cell) else (n, k)) = _
  induction scope.names with
  | nil => rfl
  | cons p r ih =>
    obtain ⟨n, k⟩ := p
    rw [List.map_cons]
    show List.lookup x ((if (k == NameKind.free && env.scope.kind == .function && env.kindOf n == some .cell) = true then (n, NameKind.cell) else (n, k)) :: _) = _
    cases hx : x == n with
    | true =>
      have e : x = n := beq_iff_eq.mp hx
      subst e
      by_cases hc : (k == NameKind.free && env.scope.kind == .function && env.kindOf x == some .cell) = true
      · rw [if_pos hc]
        simp only [List.lookup_cons, beq_self_eq_true]
        exact congrArg some (if_pos hc).symm
      · rw [if_neg hc]
        simp only [List.lookup_cons, beq_self_eq_true]
        exact congrArg some (if_neg hc).symm
    | false =>
      by_cases hc : (k == NameKind.free && env.scope.kind == .function && env.kindOf n == some .cell) = true
      · rw [if_pos hc]; simp only [List.lookup_cons, hx]; exact ih
      · rw [if_neg hc]; simp only [List.lookup_cons, hx]; exact ih
def compX (X : Cx) (scope : Scope) (C : Addr) (s2 : Shared) (H2 : Hp) (fp : List Addr) : Cx where
  prog := X.prog
  w := X.w
  K := X.K
  mg := X.mg
  base := X.base
  A := X.A
  N := X.N
  s₀ := s2
  H₀ := H2
  env := { scope := relabel scope X.env, locals := C, globals := X.env.globals, cells := cellsFrom (C + 1) scope.names (clos X.env scope.names []), qual := X.env.qual, func := none, code := X.env.code, frame := X.env.frame, builtins := X.env.builtins }
  outer := X.stack
  stack := X.stack
  ex := fp
  fn := fun x => decide (scope.names.lookup x = some .cell)
  calm := X.calm
  pn := []
  xe := fun _ _ => False
structure CompScope (X : Cx) (scope : Scope) (is : List Nat) : Prop where
  kind : scope.kind = .function
  nd : (scope.names.map (·.1)).Nodup
  fr : ∀ p ∈ scope.names, p.2 = .free → X.env.scope.names.lookup p.1 = some .cell ∨ X.env.scope.names.lookup p.1 = some .free
  own : ∀ p ∈ X.N.zipIdx, (scope.names.lookup p.1 = some .local ∨ scope.names.lookup p.1 = some .cell) → p.2 ∈ is
def blank : List Nat → St → St
  | [], σ => σ
  | i :: r, σ => blank r (σ.set i none)
theorem blank_length : ∀ (is : List Nat) (σ : St), (blank is σ).length = σ.length
  | [], _ => rfl
  | i :: r, σ => by unfold blank; rw [blank_length r, List.length_set]
theorem set_none_weak {σ : St} {j i : Nat} {v : V} (h : (σ.set j none)[i]? = some (some v)) : σ[i]? = some (some v) := by
  rw [List.getElem?_set] at h
  split at h
  · split at h
    · simp at h
    · cases h
  · exact h
theorem blank_weak : ∀ (is : List Nat) {σ : St} {i : Nat} {v : V}, (blank is σ)[i]? = some (some v) → σ[i]? = some (some v)
  | [], _, _, _, h => h
  | j :: r, σ, i, v, h => set_none_weak (blank_weak r h)
theorem blank_at : ∀ (is : List Nat) {σ : St} {i : Nat} {v : V}, i ∈ is → (blank is σ)[i]? ≠ some (some v)
  | [], _, _, _, h, _ => nomatch h
  | j :: r, σ, i, v, h, e => by
    rcases List.mem_cons.mp h with rfl | h
    · have := blank_weak r e
      rw [List.getElem?_set] at this
      simp at this
    · exact blank_at r h e
section
variable {X : Cx} {pins : List (Addr × Obj)} {σ : St} {H2 : Hp} {s2 : Shared} {scope : Scope} {is : List Nat} {fp : List Addr}
theorem CompScope.closed (S : CompScope X scope is) (ok : X.Ok) : ∀ x ∈ scope.names, x.2 = .free → ∃ c, X.env.cells.lookup x.1 = some c := fun x hx hf => ok.has x.1 (S.fr x hx hf)
abbrev accHeap (s2 : Shared) : Heap := s2.heap.push { cls := .type "list", data := .seq ([] : List Value).toArray }
abbrev blockHeap (s2 : Shared) (scope : Scope) : Heap := pushCells ((accHeap s2).push { cls := .type "dict", data := .dict #[] }) scope.names
theorem inv_comp (I : Inv X pins σ H2 s2) (S : CompScope X scope is) (hf : ∀ b ∈ fp, FpOk X pins H2 b) (ho : ∀ b ∈ fp, ∃ o, s2.heap.get? b = some o) :
    Inv (compX X scope (accHeap s2).objs.size s2 H2 fp) [] (blank is σ) (upd H2 s2.heap.objs.size (.lst [])) { s2 with heap := blockHeap s2 scope } := by
  have hC : (accHeap s2).objs.size = s2.heap.objs.size + 1 := Heap.size_push ..
  have hk : ∀ b u, s2.heap.get? b = some u → (blockHeap s2 scope).get? b = some u := fun b u e => pushCells_keeps _ _ b u (Heap.get?_push_of_some _ (Heap.get?_push_of_some _ e))
  have hD : (blockHeap s2 scope).get? s2.heap.objs.size = some { cls := .type "list", data := .seq ([] : List Value).toArray } :=
    pushCells_keeps _ _ _ _ (Heap.get?_push_of_some _ (Heap.get?_push_size _ rfl))
  have I3 : Inv X pins σ (upd H2 s2.heap.objs.size (.lst [])) { s2 with heap := blockHeap s2 scope } :=
    I.laid (t' := s2.toks) hk (Nat.le_refl _) ⟨Nat.zero_le _, [], 0, .nil, hD⟩
  have ck := cellsFrom_ok scope.names ((accHeap s2).push { cls := .type "dict", data := .dict #[] }) ((accHeap s2).objs.size + 1) [] ⟨fun _ _ hm => (nomatch hm), List.Pairwise.nil⟩ (Nat.le_of_eq (Heap.size_push ..).symm)
  rw [show ((accHeap s2).push { cls := .type "dict", data := .dict #[] }).objs.size = (accHeap s2).objs.size + 1 from Heap.size_push ..] at ck
  have hcl := S.closed I.ok
  have split : ∀ {x : Str} {c : Addr}, (x, c) ∈ cellsFrom ((accHeap s2).objs.size + 1) scope.names (clos X.env scope.names []) →
      ((x, c) ∈ cellsFrom ((accHeap s2).objs.size + 1) scope.names [] ∧ (x, NameKind.cell) ∈ scope.names) ∨ ((x, NameKind.free) ∈ scope.names ∧ X.env.cells.lookup x = some c) := fun {x c} h => by
    rw [cellsFrom_app] at h
    rcases List.mem_append.mp h with h | h
    · exact .inl ⟨h, cellsFrom_mem _ _ h⟩
    · obtain ⟨h1, h2⟩ := clos_mem _ _ h
      obtain ⟨c', hc'⟩ := hcl _ h1 rfl
      have hc'' : X.env.cells.lookup x = some c' := hc'
      rw [hc''] at h2
      cases h2
      exact .inr ⟨h1, hc''⟩
  have small : ∀ {x : Str} {c : Addr}, X.env.cells.lookup x = some c → c < s2.heap.objs.size := fun {x c} e => by obtain ⟨v, q⟩ := I.cell x c e; exact q.lt
  have big : ∀ {x : Str} {c : Addr}, (x, c) ∈ cellsFrom ((accHeap s2).objs.size + 1) scope.names [] → s2.heap.objs.size + 2 ≤ c := fun {x c} h => by
    have := (ck.empty x c h).2
    rw [hC] at this
    exact this
  have freeAt : ∀ {x : Str}, (x, NameKind.free) ∈ scope.names → ∀ {c}, X.env.cells.lookup x = some c → (cellsFrom ((accHeap s2).objs.size + 1) scope.names (clos X.env scope.names [])).lookup x = some c := fun {x} h {c} e => by
    refine lookup_of ?_ fun c' hc' => ?_
    · rw [cellsFrom_app]
      have := clos_has X.env scope.names h
      rw [e] at this
      exact List.mem_append_right _ this
    · rcases split hc' with ⟨_, q⟩ | ⟨_, q⟩
      · exact absurd (kinds_one S.nd h q) (by decide)
      · rw [e] at q; exact (Option.some.inj q).symm
  have ofKind : ∀ {x : Str} {k : NameKind}, (relabel scope X.env).names.lookup x = some k → (k = .local → (x, NameKind.local) ∈ scope.names) ∧ ((k = .cell ∨ k = .free) → (x, NameKind.cell) ∈ scope.names ∨ (x, NameKind.free) ∈ scope.names) := fun {x k} h => by
    rw [relabel_lookup] at h
    cases q : scope.names.lookup x with
    | none => rw [q] at h; cases h
    | some k0 =>
      rw [q] at h
      have hm := PySem.mem_of_lookup q
      have h' : (if (k0 == NameKind.free && X.env.scope.kind == .function && X.env.kindOf x == some .cell) = true then NameKind.cell else k0) = k := Option.some.inj h
      by_cases hc : (k0 == NameKind.free && X.env.scope.kind == .function && X.env.kindOf x == some .cell) = true
      · rw [if_pos hc] at h'
        have hk0 : k0 = .free := by
          rw [Bool.and_eq_true, Bool.and_eq_true] at hc
          simpa using hc.1.1
        subst hk0
        subst h'
        exact ⟨fun z => (nomatch z), fun _ => .inr hm⟩
      · rw [if_neg hc] at h'
        subst h'
        refine ⟨fun z => by rw [z] at hm; exact hm, fun z => ?_⟩
        rcases z with z | z
        · rw [z] at hm; exact .inl hm
        · rw [z] at hm; exact .inr hm
  have ownAt : ∀ {i : Nat} {x : Str} {k : NameKind}, X.N[i]? = some x → (x, k) ∈ scope.names → (k = .local ∨ k = .cell) → i ∈ is := fun {i x k} hN hm hkk => by
    refine S.own (x, i) ?_ ?_
    · rw [List.mem_zipIdx_iff_getElem?]; exact hN
    · have q : scope.names.lookup x = some k := lookup_of hm fun k' hk' => kinds_one S.nd hk' hm
      rcases hkk with z | z
      · subst z; exact .inl q
      · subst z; exact .inr q
  refine ⟨⟨I.ok.mod, S.kind, I.ok.glob, I.ok.blt, ?_, fun x y c h1 h2 => ?_, fun x hx => ?_, fun x c hx h => ?_, I.ok.hd, I.ok.frames, .inl rfl, fun b hb => ⟨?_, fun x c h => ?_⟩, I.bs, Nat.le_trans I.ok.bsz I.sz, fun b o e hb => ?_, fun b hb hx => ?_, I.stack, I.stkFree⟩,
    rfl, I.bare, Un.laid hk (Nat.le_refl _) I.fresh, ⟨fun _ => none, ?_, fun i x v h1 h2 h3 => ?_⟩, fun x c h => ?_, ?_, fun x c h => ?_, fun p hp => (nomatch hp), I3.hok, ?_⟩
  · show s2.heap.objs.size ≤ (accHeap s2).objs.size
    rw [hC]; exact Nat.le_succ _
  · -- inj
    have h1' := PySem.mem_of_lookup h1
    have h2' := PySem.mem_of_lookup h2
    rcases split h1' with ⟨a1, _⟩ | ⟨_, b1⟩ <;> rcases split h2' with ⟨a2, _⟩ | ⟨_, b2⟩
    · exact name_of_addr ck.apart a1 a2
    · exact absurd rfl (big_ne (big a1) (small b2))
    · exact absurd rfl (big_ne (big a2) (small b1))
    · exact I.ok.inj x y c b1 b2
  · -- has
    have hx' : (relabel scope X.env).names.lookup x = some .cell ∨ (relabel scope X.env).names.lookup x = some .free := hx
    have hh : (x, NameKind.cell) ∈ scope.names ∨ (x, NameKind.free) ∈ scope.names := by
      rcases hx' with q | q
      · exact (ofKind q).2 (.inl rfl)
      · exact (ofKind q).2 (.inr rfl)
    rcases hh with q | q
    · obtain ⟨c, hc⟩ := cellsFrom_has scope.names ((accHeap s2).objs.size + 1) q
      refine ⟨c, lookup_of (by show (x, c) ∈ cellsFrom _ _ _; rw [cellsFrom_app]; exact List.mem_append_left _ hc) fun c' hc' => ?_⟩
      rcases split hc' with ⟨a1, _⟩ | ⟨b1, _⟩
      · have hnd : ∀ {l : List (Str × NameKind)} {n : Nat} {c c' : Addr}, (l.map (·.1)).Nodup → (x, c) ∈ cellsFrom n l [] → (x, c') ∈ cellsFrom n l [] → c' = c := by
          intro l
          induction l with
          | nil => intro n c c' _ h _; exact (by simp [cellsFrom] at h)
          | cons p r ih =>
            intro n c c' nd h h'
            obtain ⟨y, k⟩ := p
            rw [List.map_cons, List.nodup_cons] at nd
            unfold cellsFrom at h h'
            by_cases hk : (k == NameKind.cell) = true
            · rw [if_pos hk, cellsFrom_app] at h h'
              rcases List.mem_append.mp h with g | g <;> rcases List.mem_append.mp h' with g' | g'
              · exact ih nd.2 g g'
              · have e : (x, c') = (y, n) := by simpa using g'
                have e1 : x = y := congrArg Prod.fst e
                exact absurd (List.mem_map.mpr ⟨_, cellsFrom_mem _ _ g, e1⟩) nd.1
              · have e : (x, c) = (y, n) := by simpa using g
                have e1 : x = y := congrArg Prod.fst e
                exact absurd (List.mem_map.mpr ⟨_, cellsFrom_mem _ _ g', e1⟩) nd.1
              · have e : (x, c) = (y, n) := by simpa using g
                have e' : (x, c') = (y, n) := by simpa using g'
                exact (congrArg Prod.snd e').trans (congrArg Prod.snd e).symm
            · rw [if_neg hk] at h h'
              exact ih nd.2 h h'
        exact hnd S.nd hc a1
      · exact absurd (kinds_one S.nd q b1) (by decide)
    · obtain ⟨c, hc⟩ := hcl _ q rfl
      exact ⟨c, freeAt q hc⟩
  · -- cab
    have hx' : scope.names.lookup x = some .cell := of_decide_eq_true hx
    rcases split (PySem.mem_of_lookup h) with ⟨a1, _⟩ | ⟨b1, _⟩
    · exact big_le (big a1)
    · exact absurd (kinds_one S.nd (PySem.mem_of_lookup hx') b1) (by decide)
  · -- exf
    obtain ⟨o, e⟩ := ho b hb
    show b ≠ (accHeap s2).objs.size
    rw [hC]; exact lt_ne1 (Heap.lt_size e)
  · obtain ⟨o, e⟩ := ho b hb
    have hlt := Heap.lt_size e
    rcases split (PySem.mem_of_lookup h) with ⟨a1, _⟩ | ⟨_, b1⟩
    · exact big_ne (big a1) hlt
    · exact (hf b hb).2.2.2.2.1 x c b1
  · -- noex
    rcases (hf b hb).2.2.2.1 with z | z
    · exact I.ok.noex b o e z
    · have h1 := Heap.lt_size e
      have h2 := I.ok.bsz
      exact absurd (Nat.lt_of_lt_of_le h1 (Nat.le_trans h2 z)) (Nat.lt_irrefl _)
  · -- exfs
    rcases List.mem_cons.mp (I.stkSub b hx) with e | e
    · exact (hf b hb).2.1 e
    · exact (hf b hb).2.2.1 e
  · -- the block's names
    show (blockHeap s2 scope).Ns (accHeap s2).objs.size fun _ => none
    exact (Heap.Ns.new (accHeap s2) (.type "dict")).keeps (pushCells_keeps _ _)
  · -- loc
    have hv := blank_weak is h2
    have nown : ∀ k, (k = .local ∨ k = .cell) → (x, k) ∉ scope.names := fun k hkk hm => blank_at is (ownAt h1 hm hkk) h2
    have h3' : (relabel scope X.env).names.lookup x = some .local ∨ (relabel scope X.env).names.lookup x = some .cell ∨ (relabel scope X.env).names.lookup x = some .free := h3
    have hfree : (x, NameKind.free) ∈ scope.names := by
      rcases h3' with q | q | q
      · exact absurd ((ofKind q).1 rfl) (nown _ (.inl rfl))
      · exact ((ofKind q).2 (.inl rfl)).resolve_left (nown _ (.inr rfl))
      · exact ((ofKind q).2 (.inr rfl)).resolve_left (nown _ (.inr rfl))
    have hkind := S.fr _ hfree rfl
    obtain ⟨m, _, hl⟩ := I.loc
    obtain ⟨u, r, l⟩ := hl i x v h1 hv (.inr hkind)
    refine ⟨u, r, .inr ⟨?_, ?_⟩⟩
    · rcases h3' with q | q
      · exact absurd ((ofKind q).1 rfl) (nown _ (.inl rfl))
      · exact q
    · rcases l with ⟨k, _⟩ | ⟨_, c, e, z⟩
      · have k' : X.env.scope.names.lookup x = some .local := k
        rcases hkind with q | q <;> (rw [k'] at q; cases q)
      · exact ⟨c, freeAt hfree e, z.keeps hk⟩
  · -- cell
    rcases split (PySem.mem_of_lookup h) with ⟨a1, _⟩ | ⟨_, b1⟩
    · exact ⟨none, (ck.empty x c a1).1⟩
    · obtain ⟨v, z⟩ := I.cell x c b1
      exact ⟨v, z.keeps hk⟩
  · show upd H2 s2.heap.objs.size (.lst []) (accHeap s2).objs.size = none
    rw [upd_ne (by rw [hC]; exact Nat.succ_ne_self _)]
    exact I.hok.fresh (by rw [hC]; exact Nat.le_succ _)
  · -- freeC
    show upd H2 s2.heap.objs.size (.lst []) c = none
    rcases split (PySem.mem_of_lookup h) with ⟨a1, _⟩ | ⟨_, b1⟩
    · rw [upd_ne (big_ne0 (big a1))]
      exact I.hok.fresh (big_le (big a1))
    · rw [upd_ne (Nat.ne_of_lt (small b1))]
      exact I.freeC x c b1
  · show (blank is σ).length = X.N.length
    rw [blank_length]; exact I.len
theorem comp_done {C : Addr} {pins' : List (Addr × Obj)} {σ' : St} {H' : Hp} {s' : Shared} (I : Inv X pins σ H2 s2) (hf : ∀ b ∈ fp, FpOk X pins H2 b) (J : Inv (compX X scope C s2 H2 fp) pins' σ' H' s') : Inv X pins σ H' s' :=
  I.call' J.os J.base J.hok J.bare fun b hb => let ⟨_, f1, _, f3, f4, f5⟩ := hf b hb; ⟨f3, f1, f4, f5⟩
end
theorem newEnv_comp {M : Model} {A : Around} {E : Value → Shared → Prop} {s : Shared} {scope : Scope} {g : Addr} {cl : List (Str × Addr)} {qual : Str} {env : Env} {Q : Env → Shared → Prop}
    (h : Q { scope := scope, locals := s.heap.objs.size, globals := g, cells := cellsFrom (s.heap.objs.size + 1) scope.names cl, qual := qual, func := none, code := env.code, frame := env.frame, builtins := env.builtins }
      { s with heap := pushCells (s.heap.push { cls := .type "dict", data := .dict #[] }) scope.names }) :
    wpAny M A (newFunctionEnv scope g cl [] qual none .none (some env)) Q E s := by
  simp only [newFunctionEnv, Option.isSome_some, if_true]
  refine wpAny_bind (wpAny_alloc ?_)
  refine wpAny_bind (wpAny_layCells _ (fun name kind cells => by cases hkc : kind == NameKind.cell <;> simp [hkc]) _ _ _ _ ?_)
  rw [show ({ s with heap := s.heap.push { cls := .type "dict", data := .dict #[] } } : Shared).heap.objs.size = s.heap.objs.size + 1 from Heap.size_push ..]
  refine wpAny_bind ?_
  rw [List.forIn_nil]
  exact wpAny_pure (wpAny_pure h)
def PIfs (X : Cx) (ifs : List Expr) (t : TT) : Prop :=
  ∀ (pins : List (Addr × Obj)) (s : Shared) (σ : St) (H : Hp) (Q : Bool → Hp → Prop), Inv X pins σ H s → t σ H Q →
    wpAny (model X.prog X.w) X.A (forIn ifs true fun c r => if r = true then do let ok ← isTrue c X.env (eval c X.env); pure (ForInStep.yield ok) else pure (ForInStep.yield r)) (TP X pins σ Q) X.xe s
def tYes : TT := fun _ H Q => Q true H
theorem pifs_nil {X : Cx} : PIfs X [] tYes := fun _ _ _ H _ I h => wpAny_tests_nil ⟨H, I, h⟩
theorem pifs_one {X : Cx} {c : Expr} {t : TT} (h : PT X c t) : PIfs X [c] t := fun pins s σ H Q I hw => wpAny_tests_one (h pins s σ H Q I hw)
theorem compLoop_own {prog : Program} {w : World} {A : Around} {R : Result → Shared → Prop} {s : Shared} {elt target iter : Expr} {ifs : List Expr} {scope : Scope} {pos : Pos} {it acc : Value} {env : Env} (I : Nat → Shared → Prop)
    (turn : ∀ n s, I n s → wpAny (model prog w) A (pyNext it) (fun r s₁ => match r with
      | none => R (.ok .next) s₁
      | some v => wpAny (model prog w) A (letOwnedTupleGo target it v) (fun _ s₀ => wpAny (model prog w) A (assign target env v) (fun _ s₂ =>
          wpAny (model prog w) A (forIn ifs true fun c r => if r = true then do let ok ← isTrue c env (eval c env); pure (ForInStep.yield ok) else pure (ForInStep.yield r)) (fun ok s₃ =>
            if ok = true then wpAny (model prog w) A (eval elt env) (fun x s₄ =>
              wpAny (model prog w) A (call (.builtin "list.append") [acc, x]) (fun _ s₅ => ∃ m, m < n ∧ I m s₅) (fun _ _ => False) s₄) (fun _ _ => False) s₃
            else ∃ m, m < n ∧ I m s₃) (fun _ _ => False) s₂) (fun _ _ => False) s₀) (fun _ _ => False) s₁) (fun _ _ => False) s)
    (n : Nat) (h : I n s) :
    codeAny (model prog w) A (.compLoop (.ListComp elt [⟨target, iter, ifs, 0⟩] scope pos) 0 it acc env) R s := by
  refine codeAny_loop rfl I (fun n s hI => ?_) n h
  show wpAny _ A ((compTurn (.ListComp elt [⟨target, iter, ifs, 0⟩] scope pos) 0 it acc env).onRaise (fun x => do noteFrame x env; theTreesLotGoes x)) _ _ s
  refine wpAny_noted ?_
  rw [compTurn_list]
  refine wpAny_bind (wpAny_standAt (wpAny_bind (wpAny_mono (turn n s hI) (fun r s₁ h₁ => ?_) fun _ _ h' => h'.elim)))
  cases r with
  | none => exact wpAny_pure h₁
  | some v =>
    refine wpAny_bind (wpAny_mono h₁ (fun _ s₀ h₀ => ?_) fun _ _ h' => h'.elim)
    refine wpAny_bind (wpAny_mono h₀ (fun _ s₂ h₂ => wpAny_bind (wpAny_mono h₂ (fun ok s₃ h₃ => ?_) fun _ _ h' => h'.elim)) fun _ _ h' => h'.elim)
    cases ok with
    | false => exact wpAny_pure ⟨rfl, h₃⟩
    | true =>
      exact wpAny_bind (wpAny_bind (wpAny_mono h₃ (fun x s₄ h₄ => wpAny_bind (wpAny_mono h₄ (fun _ s₅ h₅ => wpAny_pure (wpAny_pure ⟨rfl, h₅⟩)) fun _ _ h' => h'.elim)) fun _ _ h' => h'.elim))
def Wk (σ σ' : St) : Prop := σ'.length = σ.length ∧ ∀ (i : Nat) (v : V), σ[i]? = some (some v) → σ'[i]? = some (some v)
def tComp (wi : TI) (is : List Nat) (g : TG) (tt : TT) (te : TE) : TE := fun σ H Q => wi σ H fun J H1 => ∀ D, H1 D = none → ∃ W : Nat → Nat → Hp → Prop, (∃ m, W 0 m (upd H1 D (.lst []))) ∧ ∀ i m H, W i m H →
  (J.stop i H ∧ Q (.ref D) H) ∨ (J.go i H ∧ ∀ x H', J.yld i H x H' → g x (blank is σ) H' fun σ2 H2 => Wk (blank is σ) σ2 ∧ tt σ2 H2 fun k H3 =>
    if k = true then te σ2 H3 fun v H4 => ∃ vs, H4 D = some (.lst vs) ∧ vs.length < sizeLine ∧ ∃ m', m' < m ∧ W (i + 1) m' (upd H4 D (.lst (vs ++ [v]))) else ∃ m', m' < m ∧ W (i + 1) m' H3)
section
variable {X : Cx} {tg iter elt : Expr} {ifs : List Expr} {scope : Scope} {pos : Pos} {wi : TI} {is : List Nat} {g : TG} {tt : TT} {te : TE}
theorem comp_core {use : Option (Value → Sem Unit)} {Qr : Value → Shared → Prop} {cpos : Pos} (hc : X.calm = true) (S : CompScope X scope is) (hi : PI X tg iter wi)
    (hb : ∀ C s2 H2 fp, PG (compX X scope C s2 H2 fp) tg g ∧ PIfs (compX X scope C s2 H2 fp) ifs tt ∧ PE (compX X scope C s2 H2 fp) elt te)
    (hs : ∀ x, foldedSetIterable iter X.env x = pure x)
    {pins : List (Addr × Obj)} {s : Shared} {σ : St} {H : Hp} {Q : VK} (I : Inv X pins σ H s) (h : tComp wi is g tt te σ H Q)
    (fin : ∀ D C H' s', Inv X pins σ H' s' → (∃ m, s'.heap.Ns C m) → FpOk X pins H' C → Q (.ref D) H' → compPost (model X.prog X.w) X.A X.xe use Qr (.ref D) C (.ok .next) s') :
    wpAny (model X.prog X.w) X.A (comprehension (.ListComp elt [⟨tg, iter, ifs, 0⟩] scope pos) scope X.env cpos (newList []) false (eval iter X.env) use) Qr X.xe s := by
  have hnames : ∀ x ∈ scope.names, x.2 = .local → scope.names.lookup x.1 = some .local := fun x hx hl => by
    obtain ⟨n, k⟩ := x
    have hl' : k = .local := hl
    subst hl'
    exact lookup_of hx fun k' hk' => kinds_one S.nd hk' hx
  refine wpAny_comprehension_free (use := use) rfl hs (closureFor_eq (S.closed I.ok)) S.kind hnames (thn (hi pins s σ H _ I h) fun v s1 h1 => thn h1 fun itv s2 h2 => ?_)
  obtain ⟨it, fp, tn, J, H2, e, I2, T, st2, f2, R⟩ := h2
  subst e
  obtain ⟨W, ⟨m0, w0⟩, turn⟩ := R s2.heap.objs.size I2.fresh
  refine wpAny_newObj_type (newEnv_comp ?_)
  have hobj : ∀ b ∈ fp, ∃ o, s2.heap.get? b = some o := fun b hb => let ⟨o, e, _⟩ := T.obj 0 _ st2 b hb; ⟨o, e⟩
  have J0 := inv_comp (scope := scope) I2 S f2 hobj
  have hk : ∀ b u, s2.heap.get? b = some u → (blockHeap s2 scope).get? b = some u := fun b u e => pushCells_keeps _ _ b u (Heap.get?_push_of_some _ (Heap.get?_push_of_some _ e))
  have hC : (accHeap s2).objs.size = s2.heap.objs.size + 1 := Heap.size_push ..
  obtain ⟨hg, ht, he⟩ := hb (accHeap s2).objs.size s2 H2 fp
  have stat : ∀ {H' : Hp}, (∀ b ∈ fp, H' b = none) → ∀ b ∈ fp, FpOk (compX X scope (accHeap s2).objs.size s2 H2 fp) [] H' b := fun hn b hb =>
    ⟨hn b hb, (J0.ok.exf b hb).1, J0.ok.exfs b hb, .inl hb, (J0.ok.exf b hb).2, fun p hp => (nomatch hp)⟩
  have st4 : tn 0 (blockHeap s2 scope) := T.keep _ _ _ st2 fun b _ o e => hk b o e
  have fr4 : ∀ b ∈ fp, upd H2 s2.heap.objs.size (.lst []) b = none := fun b hb => by
    obtain ⟨o, e⟩ := hobj b hb
    rw [upd_ne (Nat.ne_of_lt (Heap.lt_size e))]
    exact (f2 b hb).1
  have loop : codeAny (model X.prog X.w) X.A (.compLoop (.ListComp elt [⟨tg, iter, ifs, 0⟩] scope pos) 0 (.ref it) (.ref s2.heap.objs.size) (compX X scope (accHeap s2).objs.size s2 H2 fp).env)
      (compPost (model X.prog X.w) X.A X.xe use Qr (.ref s2.heap.objs.size) (accHeap s2).objs.size) { s2 with heap := blockHeap s2 scope } := by
    refine compLoop_own (fun n s' => ∃ i H', Inv (compX X scope (accHeap s2).objs.size s2 H2 fp) [] (blank is σ) H' s' ∧ tn i s'.heap ∧ (∀ b ∈ fp, H' b = none) ∧ W i n H') ?_ m0 ⟨0, _, J0, st4, fr4, w0⟩
    rintro n s3 ⟨i, H3, I3, st3, fr3, w3⟩
    rcases turn i n H3 w3 with ⟨stop, qn⟩ | ⟨go, step⟩
    · refine thn (T.done (compX X scope (accHeap s2).objs.size s2 H2 fp) rfl rfl rfl hc i [] s3 _ H3 (fun _ _ => False) I3 (stat fr3) st3 stop) fun r s4 ⟨hr, I4⟩ => ?_
      subst hr
      obtain ⟨m, hn, _⟩ := I4.loc
      have hlt : ∀ {b : Addr} {o : Obj}, s2.heap.get? b = some o → b ≠ (accHeap s2).objs.size := fun e => by
        rw [hC]; exact lt_ne1 (Heap.lt_size e)
      refine fin s2.heap.objs.size (accHeap s2).objs.size H3 s4 (comp_done I2 f2 I4) ⟨m, hn⟩ ?_ qn
      refine ⟨I4.free, ?_, I2.nofs (by rw [hC]; exact Nat.le_succ _), .inr (Nat.le_trans I2.sz (by rw [hC]; exact Nat.le_succ _)), fun x c e z => ?_, fun p hp => ?_⟩
      · rw [hC]; exact (lt_ne1 I2.lt).symm
      · obtain ⟨v, q⟩ := I2.cell x c e
        rw [hC] at z
        exact lt_ne1 q.lt z
      · exact hlt (I2.pin p hp).1
    · refine thn (T.item (compX X scope (accHeap s2).objs.size s2 H2 fp) rfl rfl rfl hc i [] s3 _ H3 (fun _ _ => False) I3 (stat fr3) st3 go) fun r s4 ⟨u, hr, h4⟩ => ?_
      subst hr
      refine thn h4 fun _ s5 ⟨x, H5, I5, r5, y5, st5, fr5⟩ => ?_
      have I5' := I5.pinned (stat fr5) (T.obj _ _ st5)
      refine thn (hg _ s5 _ H5 x u _ I5' r5 (step x H5 y5)) fun _ s6 ⟨σ6, H6, I6, wk6, q6⟩ => ?_
      refine thn (ht _ s6 σ6 H6 _ I6 q6) fun ok s7 ⟨H7, I7, q7⟩ => ?_
      have again : ∀ {H8 : Hp} {s8 : Shared}, Inv (compX X scope (accHeap s2).objs.size s2 H2 fp) ([] ++ pinsAt fp s5.heap) σ6 H8 s8 → (∃ m', m' < n ∧ W (i + 1) m' H8) →
          ∃ m, m < n ∧ ∃ i H', Inv (compX X scope (accHeap s2).objs.size s2 H2 fp) [] (blank is σ) H' s8 ∧ tn i s8.heap ∧ (∀ b ∈ fp, H' b = none) ∧ W i m H' := fun {H8 s8} I8 hw => by
        obtain ⟨m', hm, w8⟩ := hw
        refine ⟨m', hm, i + 1, H8, I8.unpinned.weak wk6.1.symm wk6.2, T.keep _ _ _ st5 fun b hb o e => (I8.pin (b, o) (List.mem_append_right _ (List.mem_append_right _ (mem_pinsAt hb e)))).1, fun b hb => ?_, w8⟩
        obtain ⟨o, e, d⟩ := T.obj _ _ st5 b hb
        exact (I8.pin (b, o) (List.mem_append_right _ (List.mem_append_right _ (mem_pinsAt hb e)))).2.1
      cases ok with
      | false => exact again I7 q7
      | true =>
        refine thn (he _ s7 σ6 H7 _ I7 q7) fun y s8 ⟨v, H8, I8, r8, vs, e8, z8, q8⟩ => ?_
        refine thn (mt_append (X := compX X scope (accHeap s2).objs.size s2 H2 fp) _ s8 σ6 H8 (.ref s2.heap.objs.size) [v] (.ref s2.heap.objs.size) [y] (fun _ H9 => ∃ m', m' < n ∧ W (i + 1) m' H9) I8 rfl (.cons r8 .nil) ⟨_, vs, v, rfl, rfl, e8, z8, q8⟩) fun _ s9 ⟨_, H9, I9, _, q9⟩ => ?_
        exact again I9 q9
  exact codeAny_compStart_list loop (T.self _ 0 _ _ _ st4 loop)
theorem pe_lcomp (hc : X.calm = true) (S : CompScope X scope is) (hi : PI X tg iter wi)
    (hb : ∀ C s2 H2 fp, PG (compX X scope C s2 H2 fp) tg g ∧ PIfs (compX X scope C s2 H2 fp) ifs tt ∧ PE (compX X scope C s2 H2 fp) elt te)
    (hs : ∀ x, foldedSetIterable iter X.env x = pure x := by intro _; rfl) : PE X (.ListComp elt [⟨tg, iter, ifs, 0⟩] scope pos) (tComp wi is g tt te) := by
  intro pins s σ H Q I h
  rw [eval_ListComp]
  refine comp_core (use := none) (Qr := EP X pins σ Q) hc S hi hb hs I h fun D C H' s' I' ⟨m, hn⟩ f q => ?_
  exact ⟨m, hn, fun h' hsb => ⟨.ref D, H', I'.turned (t' := s'.toks) (fun b o hb e => hsb.extBut b o hb e) f.1 f.2.1 f.2.2.2.1 f.2.2.2.2.1 f.2.2.2.2.2, rfl, q⟩⟩
theorem ps_setComp {j : Nat} {y : Str} {py spos : Pos} (hc : X.calm = true) (S : CompScope X scope is) (hi : PI X tg iter wi)
    (hb : ∀ C s2 H2 fp, PG (compX X scope C s2 H2 fp) tg g ∧ PIfs (compX X scope C s2 H2 fp) ifs tt ∧ PE (compX X scope C s2 H2 fp) elt te)
    (hN : X.N.Nodup) (hj : X.N[j]? = some y) (hy : X.env.scope.names.lookup y = some .local)
    (hsw : swapsWith (.ListComp elt [⟨tg, iter, ifs, 0⟩] scope pos) (some (.Name y py)) spos.line X.env = pure true)
    (hs : ∀ x, foldedSetIterable iter X.env x = pure x := by intro _; rfl) :
    PS X (.Assign [.Name y py] (.ListComp elt [⟨tg, iter, ifs, 0⟩] scope pos) spos) (tAsg (tComp wi is g tt te) (gName j)) := by
  intro pins s σ H D I h
  rw [exec_Assign_Name_used _ _ _ _ hsw]
  refine wpAny_bind (wpAny_standAt (wpAny_bind ?_))
  show wpAny _ _ (do let _ ← comprehension (.ListComp elt [⟨tg, iter, ifs, 0⟩] scope pos) scope X.env _ (newList []) false (eval iter X.env) (some (assign (.Name y py) X.env))) _ _ s
  refine wpAny_bind (wpAny_mono (comp_core (use := some (assign (.Name y py) X.env)) (Qr := fun _ s' => SP X pins D .next s') hc S hi hb hs I h fun A C H' s' I' hn f q => ?_) (fun _ s' hq => wpAny_pure (wpAny_pure hq)) fun _ _ e => e)
  obtain ⟨m, hn⟩ := hn
  show wpAny _ _ (assign (.Name y py) X.env (.ref A)) _ _ _
  obtain ⟨oC, es, ep, hoC, hdC, hrest⟩ := id hn
  have I'' := I'.pinned (fp := [C]) (fun b hb => by
    have e : b = C := by simpa using hb
    subst e; exact f) (fun b hb => by
    have e : b = C := by simpa using hb
    subst e
    exact ⟨oC, hoC, fun v z => by rw [hdC] at z; cases z⟩)
  refine wpAny_assign_Name (store_ok I'' hN hj (.inl hy) (v := .ref A) rfl (fun s'' J => ?_) (.inr hy))
  have hC : s''.heap.get? C = some oC := (J.pin (C, oC) (List.mem_append_right _ (List.mem_append_right _ (mem_pinsAt (by simp) hoC)))).1
  refine ⟨m, ⟨oC, es, ep, hC, hdC, hrest⟩, fun h' hsb => ⟨_, H', J.unpinned.turned (t' := s''.toks) (fun b o hb e => hsb.extBut b o hb e) f.1 f.2.1 f.2.2.2.1 f.2.2.2.2.1 f.2.2.2.2.2, q⟩⟩
end
end L2
end
section
namespace L2
open PySem PySem.Spec PyProof.Rows
def scr (ns : List Int) : PyData := .dict [(.none, .list (ns.map PyData.int))]
theorem scr_inj {ns ms : List Int} (h : scr ns = scr ms) : ns = ms := by
  have h' : (ns.map PyData.int) = ms.map PyData.int := by
    injection h with h1
    injection h1 with h2 _
    injection h2 with _ h3
    injection h3
  induction ns generalizing ms with
  | nil => cases ms with
    | nil => rfl
    | cons _ _ => cases h'
  | cons n r ih => cases ms with
    | nil => cases h'
    | cons m r' =>
      rw [List.map_cons, List.map_cons] at h'
      injection h' with h1 h2
      injection h1 with h3
      subst h3
      rw [ih (by unfold scr; rw [h2]) h2]
def ScL (K : PySem.W.Frag) (H : Hp) (a : Addr) (xs : List V) : Prop :=
  (∃ o, H a = some (.frz o (.lst xs))) ∨
    ∃ (o : Obj) (its : Array Value) (n : Nat), K.lookup a = some o ∧ o.cls = .type "list" ∧ o.dict = none ∧ o.data = .seq its n ∧ its.size ≤ sizeLine ∧ Vals xs its.toList
theorem ScL.sq {K : PySem.W.Frag} {H : Hp} {a : Addr} {vs : List V} (h : ScL K H a vs) : SqL K H a vs := h.imp .inr id
def keyOf : PyData → Option Key
  | .int n => some (.inl n)
  | .str x => some (.inr x)
  | _ => none
def excD (C : Addr) : PyData := .dict [(.list [], .int (C : Nat))]
def xcP (a C : Addr) : Heap → Prop := fun h => ∃ oe, h.get? a = some oe ∧ oe.cls = .ref C
mutual
def Rep (K : PySem.W.Frag) (A : Addr → Prop) (H : Hp) : PyData → V → Prop
  | .none, v => v = .non
  | .bool b, v => v = .bl b
  | .int i, v => v = .int i
  | .str x, v => v = .str x
  | .list xs, v => ∃ a vs, v = .ref a ∧ ¬ A a ∧ H a = some (.lst vs) ∧ Reps K A H xs vs
  | .tuple xs, v => ∃ a vs, v = .ref a ∧ H a = some (.tup vs) ∧ Reps K A H xs vs
  | .dict kvs, v => (∃ a ns, v = .ref a ∧ PyData.dict kvs = scr ns ∧ ScL K H a (ns.map V.int)) ∨ (∃ a us o, v = .ref a ∧ H a = some (.frz o (.dK us)) ∧ RepsK K A H kvs us) ∨ (∃ a C o, v = .ref a ∧ PyData.dict kvs = excD C ∧ H a = some (.frz o (.ext (xcP a C))))
def Reps (K : PySem.W.Frag) (A : Addr → Prop) (H : Hp) : List PyData → List V → Prop
  | [], vs => vs = []
  | x :: xs, vs => ∃ v r, vs = v :: r ∧ Rep K A H x v ∧ Reps K A H xs r
def RepsK (K : PySem.W.Frag) (A : Addr → Prop) (H : Hp) : List (PyData × PyData) → List (Key × V) → Prop
  | [], us => us = []
  | p :: r, us => ∃ κ v us', us = (κ, v) :: us' ∧ keyOf p.1 = some κ ∧ RepP K A H p v ∧ RepsK K A H r us'
def RepP (K : PySem.W.Frag) (A : Addr → Prop) (H : Hp) : PyData × PyData → V → Prop
  | (_, x), v => Rep K A H x v
end
variable {K : PySem.W.Frag} {A A' : Addr → Prop} {H H' : Hp}
structure Kp (A A' : Addr → Prop) (H H' : Hp) : Prop where
  l : ∀ a vs, ¬ A a → H a = some (.lst vs) → ¬ A' a ∧ H' a = some (.lst vs)
  t : ∀ a vs, H a = some (.tup vs) → H' a = some (.tup vs)
  f : ∀ a o u, H a = some (.frz o u) → H' a = some (.frz o u)
mutual
theorem Rep.kp (k : Kp A A' H H') : ∀ (d : PyData) (v : V), Rep K A H d v → Rep K A' H' d v
  | .none, _, h => h
  | .bool _, _, h => h
  | .int _, _, h => h
  | .str _, _, h => h
  | .list xs, _, h => by
    obtain ⟨a, vs, h1, h2, h3, h4⟩ := h
    exact ⟨a, vs, h1, (k.l a vs h2 h3).1, (k.l a vs h2 h3).2, Reps.kp k xs vs h4⟩
  | .tuple xs, _, h => by
    obtain ⟨a, vs, h1, h3, h4⟩ := h
    exact ⟨a, vs, h1, k.t a vs h3, Reps.kp k xs vs h4⟩
  | .dict kvs, _, h => by
    rcases h with ⟨a, ns, h1, h2, h3⟩ | ⟨a, us, o, h1, h3, h4⟩ | ⟨a, C, o, h1, h2, h3⟩
    · exact .inl ⟨a, ns, h1, h2, h3.imp (fun ⟨o, z⟩ => ⟨o, k.f _ _ _ z⟩) id⟩
    · exact .inr (.inl ⟨a, us, o, h1, k.f _ _ _ h3, RepsK.kp k kvs us h4⟩)
    · exact .inr (.inr ⟨a, C, o, h1, h2, k.f _ _ _ h3⟩)
theorem Reps.kp (k : Kp A A' H H') : ∀ (ds : List PyData) (vs : List V), Reps K A H ds vs → Reps K A' H' ds vs
  | [], _, h => h
  | x :: xs, _, h => by
    obtain ⟨v, r, h1, h2, h3⟩ := h
    exact ⟨v, r, h1, Rep.kp k x v h2, Reps.kp k xs r h3⟩
theorem RepsK.kp (k : Kp A A' H H') : ∀ (ds : List (PyData × PyData)) (us : List (Key × V)), RepsK K A H ds us → RepsK K A' H' ds us
  | [], _, h => h
  | p :: r, _, h => by
    obtain ⟨κ, v, us', h1, h2, h3, h4⟩ := h
    exact ⟨κ, v, us', h1, h2, RepP.kp k p v h3, RepsK.kp k r us' h4⟩
theorem RepP.kp (k : Kp A A' H H') : ∀ (p : PyData × PyData) (v : V), RepP K A H p v → RepP K A' H' p v
  | (_, x), v, h => Rep.kp k x v h
end
theorem Kp.mono (e : Same H H') : Kp A A H H' := ⟨fun a _ h q => ⟨h, e a _ q⟩, fun a _ q => e a _ q, fun a _ _ q => e a _ q⟩
theorem Kp.avoid (e : ∀ a, A' a → A a) : Kp A A' H H := ⟨fun a _ h q => ⟨fun z => h (e a z), q⟩, fun a _ q => q, fun a _ _ q => q⟩
def MutO : HO → Prop
  | .lst _ => True
  | .dK _ => True
  | _ => False
theorem Kp.upd {a : Addr} {o u : HO} (hA : A a) (ha : H a = some u) (hm : MutO u) : Kp A A H (L2.upd H a o) :=
  ⟨fun b _ h q => ⟨h, by rw [upd_ne (fun z : b = a => h (z ▸ hA))]; exact q⟩,
    fun b _ q => by rw [upd_ne (fun z : b = a => by rw [z, ha] at q; cases q; exact hm)]; exact q, fun b _ _ q => by rw [upd_ne (fun z : b = a => by rw [z, ha] at q; cases q; exact hm)]; exact q⟩
theorem Kp.fresh {a : Addr} (hn : H a = none) : Kp A (fun b => A b ∨ b = a) H H :=
  ⟨fun b _ h q => ⟨fun z => z.elim h fun y => (by rw [y, hn] at q; cases q), q⟩, fun a _ q => q, fun a _ _ q => q⟩
theorem Rep.mono (e : Same H H') : ∀ (d : PyData) (v : V), Rep K A H d v → Rep K A H' d v := Rep.kp (.mono e)
theorem Reps.mono (e : Same H H') : ∀ (d : List PyData) (v : List V), Reps K A H d v → Reps K A H' d v := Reps.kp (.mono e)
theorem Rep.avoid (e : ∀ a, A' a → A a) : ∀ (d : PyData) (v : V), Rep K A H d v → Rep K A' H d v := Rep.kp (.avoid e)
theorem Reps.avoid (e : ∀ a, A' a → A a) : ∀ (d : List PyData) (v : List V), Reps K A H d v → Reps K A' H d v := Reps.kp (.avoid e)
theorem Rep.upd {a : Addr} {o u : HO} (hA : A a) (ha : H a = some u) (hm : MutO u := by trivial) : ∀ (d : PyData) (v : V), Rep K A H d v → Rep K A (L2.upd H a o) d v := Rep.kp (.upd hA ha hm)
theorem Reps.upd {a : Addr} {o u : HO} (hA : A a) (ha : H a = some u) (hm : MutO u := by trivial) : ∀ (d : List PyData) (v : List V), Reps K A H d v → Reps K A (L2.upd H a o) d v := Reps.kp (.upd hA ha hm)
theorem Rep.fresh {a : Addr} (hn : H a = none) : ∀ (d : PyData) (v : V), Rep K A H d v → Rep K (fun b => A b ∨ b = a) H d v := Rep.kp (.fresh hn)
theorem Reps.fresh {a : Addr} (hn : H a = none) : ∀ (d : List PyData) (v : List V), Reps K A H d v → Reps K (fun b => A b ∨ b = a) H d v := Reps.kp (.fresh hn)
theorem Rep.up {d : PyData} {v : V} (h : Rep K A H d v) (e : Same H H') : Rep K A H' d v := Rep.mono e d v h
theorem Reps.up {d : List PyData} {v : List V} (h : Reps K A H d v) (e : Same H H') : Reps K A H' d v := Reps.mono e d v h
theorem Rep.av {d : PyData} {v : V} (h : Rep K A H d v) (e : ∀ a, A' a → A a) : Rep K A' H d v := Rep.avoid e d v h
theorem Reps.av {d : List PyData} {v : List V} (h : Reps K A H d v) (e : ∀ a, A' a → A a) : Reps K A' H d v := Reps.avoid e d v h
theorem Reps.length : ∀ {ds : List PyData} {vs : List V}, Reps K A H ds vs → ds.length = vs.length
  | [], _, h => by cases h; rfl
  | x :: xs, _, h => by
    obtain ⟨v, r, rfl, h2, h3⟩ := h
    rw [List.length_cons, List.length_cons, Reps.length h3]
theorem Reps.get : ∀ {ds : List PyData} {vs : List V} {i : Nat} {v : V}, Reps K A H ds vs → vs[i]? = some v → ∃ d, ds[i]? = some d ∧ Rep K A H d v
  | [], _, _, _, h, e => by cases h; cases e
  | x :: xs, _, i, v, h, e => by
    obtain ⟨w, r, rfl, h2, h3⟩ := h
    cases i with
    | zero => cases e; exact ⟨x, rfl, h2⟩
    | succ i => exact Reps.get (i := i) h3 (by simpa using e)
theorem Reps.at : ∀ {ds : List PyData} {vs : List V} {i : Nat} {d : PyData}, Reps K A H ds vs → ds[i]? = some d → ∃ v, vs[i]? = some v ∧ Rep K A H d v
  | [], _, _, _, h, e => by cases e
  | x :: xs, _, i, d, h, e => by
    obtain ⟨w, r, rfl, h2, h3⟩ := h
    cases i with
    | zero => cases e; exact ⟨w, rfl, h2⟩
    | succ i => exact Reps.at (i := i) h3 (by simpa using e)
theorem Reps.append : ∀ {ds es : List PyData} {vs ws : List V}, Reps K A H ds vs → Reps K A H es ws → Reps K A H (ds ++ es) (vs ++ ws)
  | [], _, _, _, h, h' => by cases h; exact h'
  | x :: xs, _, _, _, h, h' => by
    obtain ⟨v, r, rfl, h2, h3⟩ := h
    exact ⟨v, _, rfl, h2, Reps.append h3 h'⟩
theorem Reps.one {d : PyData} {v : V} (h : Rep K A H d v) : Reps K A H [d] [v] := ⟨v, [], rfl, h, rfl⟩
theorem Reps.take : ∀ {ds : List PyData} {vs : List V} (n : Nat), Reps K A H ds vs → Reps K A H (ds.take n) (vs.take n)
  | [], _, n, h => by cases h; rw [List.take_nil, List.take_nil]; rfl
  | x :: xs, _, 0, h => rfl
  | x :: xs, _, n + 1, h => by
    obtain ⟨v, r, rfl, h2, h3⟩ := h
    exact ⟨v, _, rfl, h2, Reps.take n h3⟩
theorem Reps.drop : ∀ {ds : List PyData} {vs : List V} (n : Nat), Reps K A H ds vs → Reps K A H (ds.drop n) (vs.drop n)
  | [], _, n, h => by cases h; rw [List.drop_nil, List.drop_nil]; rfl
  | x :: xs, _, 0, h => h
  | x :: xs, _, n + 1, h => by
    obtain ⟨v, r, rfl, h2, h3⟩ := h
    exact Reps.drop n h3
def iD (ns : List Int) : List PyData := ns.map .int
theorem Reps.iD : ∀ (ns : List Int), Reps K A H (L2.iD ns) (ns.map V.int)
  | [] => rfl
  | n :: r => ⟨_, _, rfl, rfl, Reps.iD r⟩
section
variable {X : Cx} {pins : List (Addr × Obj)} {σ : St} {s : Shared}
mutual
theorem rep_reads (I : Inv X pins σ H s) : ∀ (d : PyData) (v : V) (u : Value), d.canLay0 = true → Rep X.K A H d v → RelV v u → ∃ as, Reads s.heap u d as
  | .none, _, _, _, h, r => by cases h; cases r; exact ⟨_, .none⟩
  | .bool _, _, _, _, h, r => by cases h; cases r; exact ⟨_, .bool _⟩
  | .int _, _, _, _, h, r => by cases h; obtain ⟨t, rfl⟩ := r; exact ⟨_, .int _ _⟩
  | .str _, _, _, _, h, r => by cases h; obtain ⟨t, rfl⟩ := r; exact ⟨_, .str _ _⟩
  | .list xs, _, _, c, h, r => by
    obtain ⟨a, vs, rfl, _, h3, h4⟩ := h
    cases r
    obtain ⟨its, rv, ⟨o, n, e, hc, hd, hs⟩, _⟩ := I.list (SqL.of h3)
    obtain ⟨as, q⟩ := reps_reads I xs vs its c h4 rv
    exact ⟨_, .list e hc hs (by simpa using q)⟩
  | .tuple xs, _, _, c, h, r => by
    obtain ⟨a, vs, rfl, h3, h4⟩ := h
    cases r
    obtain ⟨its, rv, ⟨o, e, hc, n, hs⟩, _⟩ := I.tuple (SqT.of h3)
    obtain ⟨as, q⟩ := reps_reads I xs vs its c h4 rv
    exact ⟨_, .tuple e hc hs (by simpa using q)⟩
  | .dict _, _, _, c, _, _ => nomatch c
theorem reps_reads (I : Inv X pins σ H s) : ∀ (ds : List PyData) (vs : List V) (us : List Value), PyData.canLayAll0 ds = true → Reps X.K A H ds vs → Vals vs us → ∃ as, ReadsAll s.heap us ds as
  | [], _, _, _, h, r => by cases h; cases r; exact ⟨_, .nil⟩
  | x :: xs, _, _, c, h, r => by
    have c' : x.canLay0 = true ∧ PyData.canLayAll0 xs = true := by simpa [PyData.canLayAll0] using c
    obtain ⟨v, w, rfl, h2, h3⟩ := h
    cases r with
    | cons r1 r2 =>
      obtain ⟨as, q⟩ := rep_reads I x v _ c'.1 h2 r1
      obtain ⟨bs, q'⟩ := reps_reads I xs w _ c'.2 h3 r2
      exact ⟨_, .cons q q'⟩
end
end
inductive OT where
  | sh (d : PyData)
  | l (xs : List OT)
  | t (xs : List OT)
  | d (kvs : List (PyData × OT))
inductive Cont where
  | l (xs : List PyData)
  | d (kvs : List (PyData × PyData))
  | n (t : OT)
inductive Ent where
  | no
  | sh (d : PyData)
  /-- a thing that no one else holds: it may be written; where it stands, if that is asked -/
  | own (oa : Option Addr) (c : Cont)
abbrev Ent.ow (xs : List PyData) : Ent := .own none (.l xs)
abbrev Dn := List Ent
mutual
def RepO (K : PySem.W.Frag) (A : Addr → Prop) (H : Hp) : OT → V → List Addr → Prop
  | .sh d, v, as => as = [] ∧ Rep K A H d v
  | .l xs, v, as => ∃ a vs bs, v = .ref a ∧ as = a :: bs ∧ H a = some (.lst vs) ∧ RepOs K A H xs vs bs
  | .t xs, v, as => ∃ a vs, v = .ref a ∧ H a = some (.tup vs) ∧ RepOs K A H xs vs as
  | .d kvs, v, as => ∃ a us bs, v = .ref a ∧ as = a :: bs ∧ H a = some (.dK us) ∧ RepOK K A H kvs us bs
def RepOs (K : PySem.W.Frag) (A : Addr → Prop) (H : Hp) : List OT → List V → List Addr → Prop
  | [], vs, as => vs = [] ∧ as = []
  | x :: xs, vs, as => ∃ v r bs cs, vs = v :: r ∧ as = bs ++ cs ∧ RepO K A H x v bs ∧ RepOs K A H xs r cs
def RepOK (K : PySem.W.Frag) (A : Addr → Prop) (H : Hp) : List (PyData × OT) → List (Key × V) → List Addr → Prop
  | [], us, as => us = [] ∧ as = []
  | p :: r, us, as => ∃ κ v us' bs cs, us = (κ, v) :: us' ∧ as = bs ++ cs ∧ keyOf p.1 = some κ ∧ RepOP K A H p v bs ∧ RepOK K A H r us' cs
def RepOP (K : PySem.W.Frag) (A : Addr → Prop) (H : Hp) : PyData × OT → V → List Addr → Prop
  | (_, x), v, as => RepO K A H x v as
end
mutual
theorem RepO.kp (k : Kp A A' H H') : ∀ (t : OT) (v : V) (as : List Addr), (∀ a ∈ as, ∀ o, H a = some o → H' a = some o) → RepO K A H t v as → RepO K A' H' t v as
  | .sh d, v, as, _, h => ⟨h.1, Rep.kp k d v h.2⟩
  | .l xs, _, _, q, h => by
    obtain ⟨a, vs, bs, h1, rfl, h3, h4⟩ := h
    exact ⟨a, vs, bs, h1, rfl, q a List.mem_cons_self _ h3, RepOs.kp k xs vs bs (fun b hb => q b (List.mem_cons_of_mem _ hb)) h4⟩
  | .t xs, _, _, q, h => by
    obtain ⟨a, vs, h1, h3, h4⟩ := h
    exact ⟨a, vs, h1, k.t a vs h3, RepOs.kp k xs vs _ q h4⟩
  | .d kvs, _, _, q, h => by
    obtain ⟨a, us, bs, h1, rfl, h3, h4⟩ := h
    exact ⟨a, us, bs, h1, rfl, q a List.mem_cons_self _ h3, RepOK.kp k kvs us bs (fun b hb => q b (List.mem_cons_of_mem _ hb)) h4⟩
theorem RepOs.kp (k : Kp A A' H H') : ∀ (ts : List OT) (vs : List V) (as : List Addr), (∀ a ∈ as, ∀ o, H a = some o → H' a = some o) → RepOs K A H ts vs as → RepOs K A' H' ts vs as
  | [], _, _, _, h => h
  | x :: xs, _, _, q, h => by
    obtain ⟨v, r, bs, cs, h1, rfl, h2, h3⟩ := h
    exact ⟨v, r, bs, cs, h1, rfl, RepO.kp k x v bs (fun a ha => q a (List.mem_append_left _ ha)) h2, RepOs.kp k xs r cs (fun a ha => q a (List.mem_append_right _ ha)) h3⟩
theorem RepOK.kp (k : Kp A A' H H') : ∀ (ts : List (PyData × OT)) (us : List (Key × V)) (as : List Addr), (∀ a ∈ as, ∀ o, H a = some o → H' a = some o) → RepOK K A H ts us as → RepOK K A' H' ts us as
  | [], _, _, _, h => h
  | p :: r, _, _, q, h => by
    obtain ⟨κ, v, us', bs, cs, h1, rfl, h2, h3, h4⟩ := h
    exact ⟨κ, v, us', bs, cs, h1, rfl, h2, RepOP.kp k p v bs (fun a ha => q a (List.mem_append_left _ ha)) h3, RepOK.kp k r us' cs (fun a ha => q a (List.mem_append_right _ ha)) h4⟩
theorem RepOP.kp (k : Kp A A' H H') : ∀ (p : PyData × OT) (v : V) (as : List Addr), (∀ a ∈ as, ∀ o, H a = some o → H' a = some o) → RepOP K A H p v as → RepOP K A' H' p v as
  | (_, x), v, as, q, h => RepO.kp k x v as q h
end
mutual
theorem RepO.muts : ∀ (t : OT) (v : V) (as : List Addr), RepO K A H t v as → ∀ a ∈ as, ∃ o, H a = some o ∧ MutO o
  | .sh d, v, as, h, a, ha => by rw [h.1] at ha; cases ha
  | .l xs, _, _, h, a, ha => by
    obtain ⟨b, vs, bs, h1, rfl, h3, h4⟩ := h
    rcases List.mem_cons.mp ha with rfl | ha
    · exact ⟨_, h3, trivial⟩
    · exact RepOs.muts xs vs bs h4 a ha
  | .t xs, _, _, h, a, ha => by
    obtain ⟨b, vs, h1, h3, h4⟩ := h
    exact RepOs.muts xs vs _ h4 a ha
  | .d kvs, _, _, h, a, ha => by
    obtain ⟨b, us, bs, h1, rfl, h3, h4⟩ := h
    rcases List.mem_cons.mp ha with rfl | ha
    · exact ⟨_, h3, trivial⟩
    · exact RepOK.muts kvs us bs h4 a ha
theorem RepOs.muts : ∀ (ts : List OT) (vs : List V) (as : List Addr), RepOs K A H ts vs as → ∀ a ∈ as, ∃ o, H a = some o ∧ MutO o
  | [], _, _, h, a, ha => by rw [h.2] at ha; cases ha
  | x :: xs, _, _, h, a, ha => by
    obtain ⟨v, r, bs, cs, h1, rfl, h2, h3⟩ := h
    rcases List.mem_append.mp ha with ha | ha
    · exact RepO.muts x v bs h2 a ha
    · exact RepOs.muts xs r cs h3 a ha
theorem RepOK.muts : ∀ (ts : List (PyData × OT)) (us : List (Key × V)) (as : List Addr), RepOK K A H ts us as → ∀ a ∈ as, ∃ o, H a = some o ∧ MutO o
  | [], _, _, h, a, ha => by rw [h.2] at ha; cases ha
  | p :: r, _, _, h, a, ha => by
    obtain ⟨κ, v, us', bs, cs, h1, rfl, h2, h3, h4⟩ := h
    rcases List.mem_append.mp ha with ha | ha
    · exact RepOP.muts p v bs h3 a ha
    · exact RepOK.muts r us' cs h4 a ha
theorem RepOP.muts : ∀ (p : PyData × OT) (v : V) (as : List Addr), RepOP K A H p v as → ∀ a ∈ as, ∃ o, H a = some o ∧ MutO o
  | (_, x), v, as, h, a, ha => RepO.muts x v as h a ha
end
mutual
def OT.dat : OT → Option PyData
  | .sh z => some z
  | .l xs => (OT.dats xs).map .list
  | .t xs => (OT.dats xs).map .tuple
  | .d _ => none
def OT.dats : List OT → Option (List PyData)
  | [] => some []
  | x :: xs => match OT.dat x, OT.dats xs with
    | some z, some zs => some (z :: zs)
    | _, _ => none
end
mutual
theorem RepO.rep : ∀ (t : OT) (d : PyData) (v : V) (as : List Addr), t.dat = some d → RepO K A H t v as → (∀ a ∈ as, ¬ A a) → Rep K A H d v
  | .sh _, d, v, as, e, h, _ => by cases e; exact h.2
  | .l xs, d, v, as, e, h, na => by
    rw [OT.dat] at e
    obtain ⟨ds, e1, rfl⟩ := Option.map_eq_some_iff.mp e
    obtain ⟨a, vs, bs, rfl, rfl, h3, h4⟩ := h
    exact ⟨a, vs, rfl, na a List.mem_cons_self, h3, RepOs.rep xs ds vs bs e1 h4 fun b hb => na b (List.mem_cons_of_mem _ hb)⟩
  | .t xs, d, v, as, e, h, na => by
    rw [OT.dat] at e
    obtain ⟨ds, e1, rfl⟩ := Option.map_eq_some_iff.mp e
    obtain ⟨a, vs, rfl, h3, h4⟩ := h
    exact ⟨a, vs, rfl, h3, RepOs.rep xs ds vs as e1 h4 na⟩
  | .d _, _, _, _, e, _, _ => by cases e
theorem RepOs.rep : ∀ (ts : List OT) (ds : List PyData) (vs : List V) (as : List Addr), OT.dats ts = some ds → RepOs K A H ts vs as → (∀ a ∈ as, ¬ A a) → Reps K A H ds vs
  | [], _, _, _, e, h, _ => by cases e; exact h.1
  | x :: xs, ds, vs, as, e, h, na => by
    obtain ⟨v, r, bs, cs, rfl, rfl, h2, h3⟩ := h
    rw [OT.dats] at e
    cases e1 : OT.dat x with
    | none => rw [e1] at e; cases e
    | some d =>
      cases e2 : OT.dats xs with
      | none => rw [e1, e2] at e; cases e
      | some es =>
        rw [e1, e2] at e
        cases e
        exact ⟨v, r, rfl, RepO.rep x d v bs e1 h2 fun a ha => na a (List.mem_append_left _ ha), RepOs.rep xs es r cs e2 h3 fun a ha => na a (List.mem_append_right _ ha)⟩
end
def Cont.dat : Cont → Option PyData
  | .l xs => some (.list xs)
  | .d _ => none
  | .n t => t.dat
def RepC (K : PySem.W.Frag) (A : Addr → Prop) (H : Hp) : Cont → V → List Addr → Prop
  | .l xs, v, as => ∃ a vs, v = .ref a ∧ as = [a] ∧ H a = some (.lst vs) ∧ Reps K A H xs vs
  | .d kvs, v, as => ∃ a us, v = .ref a ∧ as = [a] ∧ H a = some (.dK us) ∧ RepsK K A H kvs us
  | .n t, v, as => RepO K A H t v as
theorem RepC.muts {c : Cont} {v : V} {as : List Addr} (h : RepC K A H c v as) : ∀ a ∈ as, ∃ o, H a = some o ∧ MutO o := by
  intro b hb
  cases c with
  | l xs => obtain ⟨a, vs, _, rfl, h1, _⟩ := h; rw [List.mem_singleton.mp hb]; exact ⟨_, h1, trivial⟩
  | d kvs => obtain ⟨a, vs, _, rfl, h1, _⟩ := h; rw [List.mem_singleton.mp hb]; exact ⟨_, h1, trivial⟩
  | n t => exact RepO.muts t v as h b hb
theorem RepC.kp (k : Kp A A' H H') {c : Cont} {v : V} {as : List Addr} (q : ∀ a ∈ as, ∀ o, H a = some o → H' a = some o) (h : RepC K A H c v as) : RepC K A' H' c v as := by
  cases c with
  | l xs => obtain ⟨a, vs, e, rfl, h1, r⟩ := h; exact ⟨a, vs, e, rfl, q a List.mem_cons_self _ h1, Reps.kp k _ _ r⟩
  | d kvs => obtain ⟨a, vs, e, rfl, h1, r⟩ := h; exact ⟨a, vs, e, rfl, q a List.mem_cons_self _ h1, RepsK.kp k _ _ r⟩
  | n t => exact RepO.kp k t v as q h
theorem RepC.up {c : Cont} {v : V} {as : List Addr} (h : RepC K A H c v as) (e : Same H H') : RepC K A H' c v as := h.kp (.mono e) fun a _ o z => e a o z
theorem RepC.av {c : Cont} {v : V} {as : List Addr} (h : RepC K A H c v as) (e : ∀ a, A' a → A a) : RepC K A' H c v as := h.kp (.avoid e) fun _ _ _ z => z
theorem RepC.rep {c : Cont} {d : PyData} {v : V} {as : List Addr} (e : c.dat = some d) (h : RepC K A H c v as) (na : ∀ a ∈ as, ¬ A a) : Rep K A H d v := by
  cases c with
  | l xs => cases e; obtain ⟨a, vs, rfl, rfl, ha, r⟩ := h; exact ⟨a, vs, rfl, na a List.mem_cons_self, ha, r⟩
  | d kvs => cases e
  | n t => exact RepO.rep t d v as e h na
def Av (own : Nat → List Addr) (B : Addr → Prop) : Addr → Prop := fun a => B a ∨ ∃ i, a ∈ own i
structure EnvO (K : PySem.W.Frag) (Hb : Hp) (own : Nat → List Addr) (B : Addr → Prop) (H : Hp) (σ : St) (δ : Dn) : Prop where
  base : Same Hb H
  len : σ.length = δ.length
  bb : ∀ a, B a → Hb a ≠ none
  ofr : ∀ i a, a ∈ own i → Hb a = none
  oex : ∀ (i : Nat) (a : Addr), a ∈ own i → ∃ oa c, δ[i]? = some (Ent.own oa c)
  ond : ∀ i, (own i).Nodup
  inj : ∀ i j a, a ∈ own i → a ∈ own j → i = j
  sh : ∀ (i : Nat) (d : PyData), δ[i]? = some (Ent.sh d) → ∃ v, σ[i]? = some (some v) ∧ Rep K (Av own B) H d v
  ow : ∀ (i : Nat) (oa : Option Addr) (c : Cont), δ[i]? = some (Ent.own oa c) → ∃ v, σ[i]? = some (some v) ∧ (∀ b, oa = some b → v = .ref b) ∧ RepC K (Av own B) H c v (own i)
section
variable {Hb : Hp} {own : Nat → List Addr} {B : Addr → Prop} {σ : St} {δ : Dn}
theorem EnvO.owl (E : EnvO K Hb own B H σ δ) {i : Nat} {oa : Option Addr} {xs : List PyData} (h : δ[i]? = some (Ent.own oa (.l xs))) : ∃ a vs, a ∈ own i ∧ σ[i]? = some (some (.ref a)) ∧ H a = some (.lst vs) ∧ Reps K (Av own B) H xs vs := by
  obtain ⟨v, h1, _, a, vs, rfl, h2, h3, h4⟩ := E.ow i oa _ h
  exact ⟨a, vs, by rw [h2]; simp, h1, h3, h4⟩
theorem EnvO.mono (E : EnvO K Hb own B H σ δ) (e : Same H H') : EnvO K Hb own B H' σ δ :=
  ⟨E.base.trans e, E.len, E.bb, E.ofr, E.oex, E.ond, E.inj, fun i d h => let ⟨v, h1, h2⟩ := E.sh i d h; ⟨v, h1, h2.up e⟩,
    fun i oa c h => let ⟨v, h1, h2, h3⟩ := E.ow i oa c h; ⟨v, h1, h2, h3.up e⟩⟩
theorem EnvO.muts (E : EnvO K Hb own B H σ δ) : ∀ i a, a ∈ own i → ∃ o, H a = some o ∧ MutO o := fun i a h => by
  obtain ⟨oa, c, q⟩ := E.oex i a h
  obtain ⟨v, _, _, h4⟩ := E.ow i oa c q
  exact h4.muts a h
theorem EnvO.alive (E : EnvO K Hb own B H σ δ) {a : Addr} (h : Av own B a) : H a ≠ none := by
  intro z
  rcases h with h | ⟨i, h⟩
  · exact E.bb a h (E.base.free z)
  · obtain ⟨o, e, _⟩ := E.muts i a h
    rw [z] at e; cases e
theorem EnvO.new (E : EnvO K Hb own B H σ δ) {a : Addr} (h : H a = none) : ¬ Av own B a := fun z => E.alive z h
def unown (own : Nat → List Addr) (i : Nat) : Nat → List Addr := fun j => if j = i then [] else own j
theorem unown_some {own : Nat → List Addr} {i j : Nat} {a : Addr} (h : a ∈ unown own i j) : j ≠ i ∧ a ∈ own j := by
  unfold unown at h
  by_cases e : j = i
  · rw [if_pos e] at h; cases h
  · rw [if_neg e] at h; exact ⟨e, h⟩
theorem unown_ne {own : Nat → List Addr} {i j : Nat} (h : j ≠ i) : unown own i j = own j := if_neg h
theorem unown_nd {own : Nat → List Addr} (h : ∀ i, (own i).Nodup) (i : Nat) : ∀ j, (unown own i j).Nodup := fun j => by
  unfold unown
  split
  · exact List.nodup_nil
  · exact h j
theorem unown_av {own : Nat → List Addr} {B : Addr → Prop} {i : Nat} : ∀ a, Av (unown own i) B a → Av own B a := fun a h => by
  rcases h with h | ⟨j, h⟩
  · exact .inl h
  · exact .inr ⟨j, (unown_some h).2⟩
theorem EnvO.setSh (E : EnvO K Hb own B H σ δ) {i : Nat} {v : V} {d : PyData} (r : Rep K (Av own B) H d v) : EnvO K Hb (unown own i) B H (σ.set i (some v)) (δ.set i (.sh d)) := by
  refine ⟨E.base, by rw [List.length_set, List.length_set]; exact E.len, E.bb, fun j a h => E.ofr j a (unown_some h).2, fun j a h => ?_, unown_nd E.ond i, fun j k a h h' => E.inj j k a (unown_some h).2 (unown_some h').2, fun j e h => ?_, fun j oa c h => ?_⟩
  · obtain ⟨oa, c, q⟩ := E.oex j a (unown_some h).2
    exact ⟨oa, c, by rw [List.getElem?_set_ne (Ne.symm (unown_some h).1)]; exact q⟩
  · by_cases ji : j = i
    · subst ji
      by_cases hl : j < δ.length
      · rw [List.getElem?_set_self hl] at h
        cases h
        exact ⟨v, by rw [List.getElem?_set_self (by rw [E.len]; exact hl)], r.av unown_av⟩
      · rw [List.getElem?_eq_none (by rw [List.length_set]; omega)] at h
        cases h
    · rw [List.getElem?_set_ne (Ne.symm ji)] at h
      obtain ⟨w, h1, h2⟩ := E.sh j e h
      exact ⟨w, by rw [List.getElem?_set_ne (Ne.symm ji)]; exact h1, h2.av unown_av⟩
  · by_cases ji : j = i
    · subst ji
      by_cases hl : j < δ.length
      · rw [List.getElem?_set_self hl] at h
        cases h
      · rw [List.getElem?_eq_none (by rw [List.length_set]; omega)] at h
        cases h
    · rw [List.getElem?_set_ne (Ne.symm ji)] at h
      obtain ⟨v, h1, h2, h3⟩ := E.ow j oa c h
      exact ⟨v, by rw [List.getElem?_set_ne (Ne.symm ji)]; exact h1, h2, by rw [unown_ne ji]; exact h3.av unown_av⟩
def hold (own : Nat → List Addr) (i : Nat) (as : List Addr) : Nat → List Addr := fun j => if j = i then as else own j
theorem EnvO.setOwC {H0 : Hp} (E : EnvO K Hb own B H0 σ δ) (e : Same H0 H) {i : Nat} {v : V} {as : List Addr} {c : Cont} (hi : i < δ.length) (hn : ∀ a ∈ as, H0 a = none) (hnd : as.Nodup)
    (r : RepC K (fun b => Av own B b ∨ b ∈ as) H c v as) : EnvO K Hb (hold own i as) B H (σ.set i (some v)) (δ.set i (.own none c)) := by
  have av : ∀ b, Av (hold own i as) B b → Av own B b ∨ b ∈ as := fun b h => by
    rcases h with h | ⟨j, h⟩
    · exact .inl (.inl h)
    · unfold hold at h
      by_cases e : j = i
      · rw [if_pos e] at h; exact .inr h
      · rw [if_neg e] at h; exact .inl (.inr ⟨j, h⟩)
  have tk : ∀ j b, b ∈ hold own i as j → (j = i ∧ b ∈ as) ∨ (j ≠ i ∧ b ∈ own j) := fun j b h => by
    unfold hold at h
    by_cases e : j = i
    · rw [if_pos e] at h; exact .inl ⟨e, h⟩
    · rw [if_neg e] at h; exact .inr ⟨e, h⟩
  have nw : ∀ b ∈ as, ¬ Av own B b := fun b hb => E.new (hn b hb)
  have kf : Kp (Av own B) (fun b => Av own B b ∨ b ∈ as) H0 H0 := ⟨fun b _ h q => ⟨fun z => z.elim h fun y => (by rw [hn b y] at q; cases q), q⟩, fun a _ q => q, fun a _ _ q => q⟩
  refine ⟨E.base.trans e, by rw [List.length_set, List.length_set]; exact E.len, E.bb, fun j b h => ?_, fun j b h => ?_, fun j => ?_, fun j k b h h' => ?_, fun j d h => ?_, fun j oa' c' h => ?_⟩
  · rcases tk j b h with ⟨_, h⟩ | ⟨_, h⟩
    · exact E.base.free (hn b h)
    · exact E.ofr j b h
  · rcases tk j b h with ⟨rfl, _⟩ | ⟨ne, h⟩
    · exact ⟨none, c, by rw [List.getElem?_set_self hi]⟩
    · obtain ⟨oa, ys, q⟩ := E.oex j b h
      exact ⟨oa, ys, by rw [List.getElem?_set_ne (Ne.symm ne)]; exact q⟩
  · unfold hold
    split
    · exact hnd
    · exact E.ond j
  · rcases tk j b h with ⟨rfl, hb⟩ | ⟨ne, hj⟩
    · rcases tk k _ h' with ⟨rfl, _⟩ | ⟨ne', h'⟩
      · rfl
      · exact absurd (.inr ⟨k, h'⟩) (nw b hb)
    · rcases tk k _ h' with ⟨rfl, z⟩ | ⟨ne', h'⟩
      · exact absurd (.inr ⟨j, hj⟩) (nw b z)
      · exact E.inj j k b hj h'
  · by_cases ji : j = i
    · subst ji
      rw [List.getElem?_set_self hi] at h
      cases h
    · rw [List.getElem?_set_ne (Ne.symm ji)] at h
      obtain ⟨w, h1, h2⟩ := E.sh j d h
      exact ⟨w, by rw [List.getElem?_set_ne (Ne.symm ji)]; exact h1, ((Rep.kp kf _ _ h2).up e).av av⟩
  · by_cases ji : j = i
    · subst ji
      rw [List.getElem?_set_self hi] at h
      cases h
      exact ⟨v, by rw [List.getElem?_set_self (by rw [E.len]; exact hi)], fun _ z => (nomatch z), by unfold hold; rw [if_pos rfl]; exact r.av av⟩
    · rw [List.getElem?_set_ne (Ne.symm ji)] at h
      obtain ⟨w, h1, h2, h3⟩ := E.ow j oa' c' h
      exact ⟨w, by rw [List.getElem?_set_ne (Ne.symm ji)]; exact h1, h2, by unfold hold; rw [if_neg ji]; exact ((h3.kp kf fun _ _ _ z => z).up e).av av⟩
theorem EnvO.setOw {H0 : Hp} (E : EnvO K Hb own B H0 σ δ) (e : Same H0 H) {i : Nat} {a : Addr} {xs : List PyData} {vs : List V} (hi : i < δ.length) (hn : H0 a = none) (ha : H a = some (.lst vs))
    (r : Reps K (fun b => Av own B b ∨ b = a) H xs vs) : EnvO K Hb (hold own i [a]) B H (σ.set i (some (.ref a))) (δ.set i (.ow xs)) :=
  E.setOwC e (c := .l xs) hi (fun b hb => by rw [List.mem_singleton.mp hb]; exact hn) (by simp) ⟨a, vs, rfl, rfl, ha, r.av fun b h => h.imp id fun z => List.mem_singleton.mp z⟩
theorem EnvO.writeN (E : EnvO K Hb own B H σ δ) {i : Nat} {a : Addr} {oa : Option Addr} {c c' : Cont} {v : V} {o : HO} (hi : δ[i]? = some (.own oa c)) (hv : σ[i]? = some (some v)) (ho : a ∈ own i) (r : RepC K (Av own B) (L2.upd H a o) c' v (own i)) :
    EnvO K Hb own B (L2.upd H a o) σ (δ.set i (.own oa c')) := by
  obtain ⟨v', h1, h1', h4⟩ := E.ow i oa c hi
  rw [hv] at h1; cases h1
  have hA : Av own B a := .inr ⟨i, ho⟩
  obtain ⟨u, hu, hm⟩ := E.muts i a ho
  have hl : i < δ.length := (List.getElem?_eq_some_iff.mp hi).1
  have kp : Kp (Av own B) (Av own B) H (L2.upd H a o) := .upd hA hu hm
  refine ⟨fun b o q => ?_, by rw [List.length_set]; exact E.len, E.bb, E.ofr, fun j b h => ?_, E.ond, E.inj, fun j d h => ?_, fun j oa2 c2 h => ?_⟩
  · have ne : b ≠ a := fun z => by rw [z, E.ofr i a ho] at q; cases q
    rw [upd_ne ne]; exact E.base b o q
  · by_cases ji : j = i
    · subst ji; exact ⟨oa, c', by rw [List.getElem?_set_self hl]⟩
    · obtain ⟨oa2, c2, q⟩ := E.oex j b h
      exact ⟨oa2, c2, by rw [List.getElem?_set_ne (Ne.symm ji)]; exact q⟩
  · by_cases ji : j = i
    · subst ji
      rw [List.getElem?_set_self hl] at h
      cases h
    · rw [List.getElem?_set_ne (Ne.symm ji)] at h
      obtain ⟨w, k1, k2⟩ := E.sh j d h
      exact ⟨w, k1, Rep.kp kp d w k2⟩
  · by_cases ji : j = i
    · subst ji
      rw [List.getElem?_set_self hl] at h
      cases h
      exact ⟨v, hv, h1', r⟩
    · rw [List.getElem?_set_ne (Ne.symm ji)] at h
      obtain ⟨w, k1, k2, k4⟩ := E.ow j oa2 c2 h
      refine ⟨w, k1, k2, k4.kp kp fun b hb o q => ?_⟩
      have ne : b ≠ a := fun z => ji (E.inj j i a (z ▸ hb) ho)
      rw [upd_ne ne]; exact q
theorem EnvO.write (E : EnvO K Hb own B H σ δ) {i : Nat} {a : Addr} {oa : Option Addr} {xs ys : List PyData} {ws : List V} (hi : δ[i]? = some (.own oa (.l xs))) (ho : a ∈ own i) (r : Reps K (Av own B) H ys ws) :
    EnvO K Hb own B (L2.upd H a (.lst ws)) σ (δ.set i (.own oa (.l ys))) := by
  obtain ⟨v, h1, _, b, vs, rfl, h2, h3, h4⟩ := E.ow i oa _ hi
  have hb : a = b := by rw [h2] at ho; exact List.mem_singleton.mp ho
  subst hb
  exact E.writeN hi h1 ho ⟨a, ws, rfl, h2, upd_same, Reps.upd (A := Av own B) (.inr ⟨i, ho⟩) h3 trivial _ _ r⟩
theorem EnvO.forget (E : EnvO K Hb own B H σ δ) {i : Nat} : EnvO K Hb (unown own i) B H (σ.set i none) (δ.set i .no) := by
  refine ⟨E.base, by rw [List.length_set, List.length_set]; exact E.len, E.bb, fun j a h => E.ofr j a (unown_some h).2, fun j a h => ?_, unown_nd E.ond i, fun j k a h h' => E.inj j k a (unown_some h).2 (unown_some h').2, fun j e h => ?_, fun j oa c h => ?_⟩
  · obtain ⟨oa, xs, q⟩ := E.oex j a (unown_some h).2
    exact ⟨oa, xs, by rw [List.getElem?_set_ne (Ne.symm (unown_some h).1)]; exact q⟩
  · by_cases ji : j = i
    · subst ji
      by_cases hl : j < δ.length
      · rw [List.getElem?_set_self hl] at h; cases h
      · rw [List.getElem?_eq_none (by rw [List.length_set]; omega)] at h; cases h
    · rw [List.getElem?_set_ne (Ne.symm ji)] at h
      obtain ⟨w, h1, h2⟩ := E.sh j e h
      exact ⟨w, by rw [List.getElem?_set_ne (Ne.symm ji)]; exact h1, h2.av unown_av⟩
  · by_cases ji : j = i
    · subst ji
      by_cases hl : j < δ.length
      · rw [List.getElem?_set_self hl] at h; cases h
      · rw [List.getElem?_eq_none (by rw [List.length_set]; omega)] at h; cases h
    · rw [List.getElem?_set_ne (Ne.symm ji)] at h
      obtain ⟨v, h1, h2, h3⟩ := E.ow j oa c h
      exact ⟨v, by rw [List.getElem?_set_ne (Ne.symm ji)]; exact h1, h2, by rw [unown_ne ji]; exact h3.av unown_av⟩
noncomputable def keepB (own : Nat → List Addr) (H : Hp) : Hp := fun b => open Classical in if ∃ i, b ∈ own i then none else H b
theorem keepB_some {own : Nat → List Addr} {b : Addr} {o : HO} (h : keepB own H b = some o) : H b = some o ∧ ∀ i, b ∉ own i := by
  unfold keepB at h
  by_cases e : ∃ i, b ∈ own i
  · rw [if_pos e] at h; cases h
  · rw [if_neg e] at h; exact ⟨h, fun i z => e ⟨i, z⟩⟩
theorem keepB_of {own : Nat → List Addr} {b : Addr} {o : HO} (h : H b = some o) (n : ∀ i, b ∉ own i) : keepB own H b = some o := by
  unfold keepB
  rw [if_neg (fun ⟨i, z⟩ => n i z)]; exact h
theorem EnvO.rebase (E : EnvO K Hb own B H σ δ) : EnvO K (keepB own H) own B H σ δ := by
  refine ⟨fun b o h => (keepB_some h).1, E.len, fun a hB z => ?_, fun i a h => ?_, E.oex, E.ond, E.inj, E.sh, E.ow⟩
  · obtain ⟨o, q⟩ := Option.ne_none_iff_exists'.mp (E.bb a hB)
    have := keepB_of (own := own) (E.base a o q) fun i hi => by rw [E.ofr i a hi] at q; cases q
    rw [z] at this; cases this
  · unfold keepB
    rw [if_pos ⟨i, h⟩]
theorem EnvO.unbase {own' : Nat → List Addr} {σ' : St} {δ' : Dn} {H1 : Hp} (E : EnvO K Hb own B H σ δ) (E' : EnvO K (keepB own H) own' B H1 σ' δ') (hf : ∀ i a, a ∈ own' i → Hb a = none) : EnvO K Hb own' B H1 σ' δ' := by
  refine ⟨fun b o q => E'.base b o (keepB_of (E.base b o q) fun i hi => by rw [E.ofr i b hi] at q; cases q), E'.len, E.bb, hf, E'.oex, E'.ond, E'.inj, E'.sh, E'.ow⟩
theorem EnvO.unbase' {own' : Nat → List Addr} {σ' : St} {δ' : Dn} {H1 : Hp} (E : EnvO K Hb own B H σ δ) (E' : EnvO K (keepB own H) own' B H1 σ' δ') : EnvO K Hb own' B H1 σ' δ' :=
  E.unbase E' fun i a h => by
    have := E'.ofr i a h
    cases q : Hb a with
    | none => rfl
    | some o =>
      rw [keepB_of (E.base a o q) fun j hj => by rw [E.ofr j a hj] at q; cases q] at this
      cases this
end
end L2
end
section
namespace L2
open PySem PySem.Spec PyProof.Rows
def tD (K : PySem.W.Frag) (δ : Dn) (d : PyData) : TE := fun σ H Q => ∃ Hb own B, EnvO K Hb own B H σ δ ∧ ∀ v H', Same H H' → Rep K (Av own B) H' d v → Q v H'
def tF (K : PySem.W.Frag) (δ : Dn) (xs : List PyData) : TE := fun σ H Q => ∃ Hb own B, EnvO K Hb own B H σ δ ∧
  ∀ a vs H', Same H H' → H a = none → H' a = some (.lst vs) → Reps K (fun b => Av own B b ∨ b = a) H' xs vs → Q (.ref a) H'
def tT (K : PySem.W.Frag) (δ : Dn) (b : Bool) : TT := fun σ H Q => ∃ Hb own B, EnvO K Hb own B H σ δ ∧ ∀ H', Same H H' → Q b H'
def tL (K : PySem.W.Frag) (δ : Dn) (ds : List PyData) : TA := fun σ H Q => ∃ Hb own B, EnvO K Hb own B H σ δ ∧ ∀ vs H', Same H H' → Reps K (Av own B) H' ds vs → Q vs H'
def EvD (X : Cx) (δ : Dn) (e : Expr) (d : PyData) : Prop := PE X e (tD X.K δ d)
def EvF (X : Cx) (δ : Dn) (e : Expr) (xs : List PyData) : Prop := PE X e (tF X.K δ xs)
def EtD (X : Cx) (δ : Dn) (e : Expr) (b : Bool) : Prop := PT X e (tT X.K δ b)
def EwD (X : Cx) (δ : Dn) (e : Expr) (b : Bool) : Prop := PW X e (tT X.K δ b)
def EaD (X : Cx) (δ : Dn) (es : List Expr) (ds : List PyData) : Prop := PA X es (tL X.K δ ds)
section
variable {X : Cx} {δ : Dn} {a b c e : Expr} {d da db : PyData} {pos : Pos} {xs ys : List PyData}
theorem ev_of {t : TE} (h : PE X e t) (ht : ∀ Hb own B σ H Q, EnvO X.K Hb own B H σ δ → (∀ v H', Same H H' → Rep X.K (Av own B) H' d v → Q v H') → t σ H Q) : EvD X δ e d :=
  fun pins s σ H Q I ⟨Hb, own, B, E, q⟩ => h pins s σ H Q I (ht Hb own B σ H Q E q)
theorem ef_of {t : TE} (h : PE X e t) (ht : ∀ Hb own B σ H Q, EnvO X.K Hb own B H σ δ → (∀ a vs H', Same H H' → H a = none → H' a = some (.lst vs) → Reps X.K (fun b => Av own B b ∨ b = a) H' xs vs → Q (.ref a) H') → t σ H Q) : EvF X δ e xs :=
  fun pins s σ H Q I ⟨Hb, own, B, E, q⟩ => h pins s σ H Q I (ht Hb own B σ H Q E q)
theorem et_of {t : TT} {k : Bool} (h : PT X e t) (ht : ∀ Hb own B σ H Q, EnvO X.K Hb own B H σ δ → (∀ H', Same H H' → Q k H') → t σ H Q) : EtD X δ e k :=
  fun pins s σ H Q I ⟨Hb, own, B, E, q⟩ => h pins s σ H Q I (ht Hb own B σ H Q E q)
theorem ev_f (h : EvF X δ e xs) : EvD X δ e (.list xs) := ev_of h fun Hb own B σ H Q E q => ⟨Hb, own, B, E, fun a vs H' s1 hn ha r => q _ _ s1 ⟨a, vs, rfl, E.new hn, ha, r.av fun _ z => .inl z⟩⟩
theorem ev_eq {d' : PyData} (h : EvD X δ e d) (q : d = d') : EvD X δ e d' := q ▸ h
theorem ef_eq (h : EvF X δ e xs) (q : xs = ys) : EvF X δ e ys := q ▸ h
theorem et_eq {k k' : Bool} (h : EtD X δ e k) (q : k = k') : EtD X δ e k' := q ▸ h
theorem ev_var (i : Nat) {x : Str} (hδ : δ[i]? = some (.sh d)) (hN : X.N[i]? = some x := by rfl) (hv : Vis X.env.scope x := by first | exact Or.inl rfl | exact Or.inr (Or.inl rfl) | exact Or.inr (Or.inr rfl)) (hd : (x == ("__debug__" : Str)) = false := by decide)
    (hcd : (x == ("__classdict__" : Str)) = false := by decide) : EvD X δ (.Name x pos) d :=
  ev_of (pe_var hN hv hd hcd) fun Hb own B σ H Q E q => let ⟨v, h1, h2⟩ := E.sh i d hδ; ⟨v, h1, q v H (Same.refl H) h2⟩
theorem ev_int {i j} : EvD X δ (.Constant (.int i) j pos) (.int i) := ev_of pe_int fun Hb own B σ H Q E q => q _ H (Same.refl H) rfl
theorem ev_bl {k j} : EvD X δ (.Constant (.bool k) j pos) (.bool k) := ev_of pe_bl fun Hb own B σ H Q E q => q _ H (Same.refl H) rfl
theorem ev_non {j} : EvD X δ (.Constant .none j pos) .none := ev_of pe_non fun Hb own B σ H Q E q => q _ H (Same.refl H) rfl
theorem ev_str {x j} : EvD X δ (.Constant (.str x) j pos) (.str x) := ev_of pe_str fun Hb own B σ H Q E q => q _ H (Same.refl H) rfl
theorem ev_gint {x : Str} {u : Value} {i : Int} (hg : Gl X x) (hm : X.mg x = some u) (hu : ∃ t, u = .int i t) (hd : (x == ("__debug__" : Str)) = false := by decide) : EvD X δ (.Name x pos) (.int i) :=
  ev_of (pe_glob hg hm (v := .int i) hu hd) fun Hb own B σ H Q E q => q _ H (Same.refl H) rfl
theorem ev_bin {op : Operator} {r : R2} (ho : OpR X (binaryOp op) r) (ha : EvD X δ a da) (hb : EvD X δ b db)
    (hr : ∀ A x y H Q, Rep X.K A H da x → Rep X.K A H db y → (∀ v H', Same H H' → Rep X.K A H' d v → Q v H') → r x y H Q) : EvD X δ (.BinOp a op b pos) d :=
  ev_of (pe_op ho ha hb) fun Hb own B σ H Q E q => ⟨Hb, own, B, E, fun x H1 s1 rx => ⟨Hb, own, B, E.mono s1, fun y H2 s2 ry => hr _ x y H2 Q (rx.up s2) ry fun v H' s3 rv => q v H' ((s1.trans s2).trans s3) rv⟩⟩
theorem ev_i2 {op : Operator} {C : Int → Int → Prop} {g : Int → Int → Int} {i j : Int} (ho : OpR X (binaryOp op) (rI C fun i j => .int (g i j))) (ha : EvD X δ a (.int i)) (hb : EvD X δ b (.int j)) (hc : C i j) : EvD X δ (.BinOp a op b pos) (.int (g i j)) :=
  ev_bin ho ha hb fun A x y H Q rx ry q => ⟨i, j, rx, ry, hc, q _ H (Same.refl H) rfl⟩
theorem ev_i0 {op : Operator} {g : Int → Int → Int} {i j : Int} (ho : OpR X (binaryOp op) (rI0 fun i j => .int (g i j))) (ha : EvD X δ a (.int i)) (hb : EvD X δ b (.int j)) : EvD X δ (.BinOp a op b pos) (.int (g i j)) :=
  ev_bin ho ha hb fun A x y H Q rx ry q => ⟨i, j, rx, ry, q _ H (Same.refl H) rfl⟩
theorem ev_add {i j : Int} (ha : EvD X δ a (.int i)) (hb : EvD X δ b (.int j)) : EvD X δ (.BinOp a .Add b pos) (.int (i + j)) := ev_i0 op_add ha hb
theorem ev_sub {i j : Int} (ha : EvD X δ a (.int i)) (hb : EvD X δ b (.int j)) : EvD X δ (.BinOp a .Sub b pos) (.int (i - j)) := ev_i0 op_sub ha hb
theorem ev_mul {i j : Int} (ha : EvD X δ a (.int i)) (hb : EvD X δ b (.int j)) (hc : CMul i j) : EvD X δ (.BinOp a .Mult b pos) (.int (i * j)) := ev_i2 op_mul ha hb hc
theorem ev_mod {i j : Int} (ha : EvD X δ a (.int i)) (hb : EvD X δ b (.int j)) (hc : 0 < j) : EvD X δ (.BinOp a .Mod b pos) (.int (i % j)) := ev_i2 op_mod ha hb hc
theorem ev_fdiv {i j : Int} (ha : EvD X δ a (.int i)) (hb : EvD X δ b (.int j)) (hc : CDiv i j) : EvD X δ (.BinOp a .FloorDiv b pos) (.int (i / j)) := ev_i2 op_fdiv ha hb hc
theorem ev_cmp {op : CmpOp} {r : R2} (ho : OpR X (compareOp op) r) (ha : EvD X δ a da) (hb : EvD X δ b db) (hm : behindInMarks op b = false)
    (hr : ∀ A x y H Q, Rep X.K A H da x → Rep X.K A H db y → (∀ v H', Same H H' → Rep X.K A H' d v → Q v H') → r x y H Q) : EvD X δ (.Compare a [op] [b] pos) d :=
  ev_of (pe_cmpR ho ha hb hm) fun Hb own B σ H Q E q => ⟨Hb, own, B, E, fun x H1 s1 rx => ⟨Hb, own, B, E.mono s1, fun y H2 s2 ry => hr _ x y H2 Q (rx.up s2) ry fun v H' s3 rv => q v H' ((s1.trans s2).trans s3) rv⟩⟩
theorem et_cmp {op : CmpOp} {r : R2} {k : Bool} (ho : OpR X (compareOp op) r) (ha : EvD X δ a da) (hb : EvD X δ b db) (hm : behindInMarks op b = false)
    (hr : ∀ A x y H Q, Rep X.K A H da x → Rep X.K A H db y → (∀ v H', Same H H' → Rep X.K A H' (.bool k) v → Q v H') → r x y H Q) : EtD X δ (.Compare a [op] [b] pos) k :=
  et_of (pt_cmpR ho ha hb hm) fun Hb own B σ H Q E q => ⟨Hb, own, B, E, fun x H1 s1 rx => ⟨Hb, own, B, E.mono s1, fun y H2 s2 ry => hr _ x y H2 _ (rx.up s2) ry fun v H' s3 rv => ⟨k, rv, q H' ((s1.trans s2).trans s3)⟩⟩⟩
theorem cmp_i {g : Int → Int → Bool} {i j : Int} {A : Addr → Prop} {x y : V} {H : Hp} {Q : VK} (rx : Rep X.K A H (.int i) x) (ry : Rep X.K A H (.int j) y) (q : ∀ v H', Same H H' → Rep X.K A H' (.bool (g i j)) v → Q v H') : rI0 (fun i j => .bl (g i j)) x y H Q :=
  ⟨i, j, rx, ry, q _ H (Same.refl H) rfl⟩
theorem ev_lt {i j : Int} (ha : EvD X δ a (.int i)) (hb : EvD X δ b (.int j)) : EvD X δ (.Compare a [.Lt] [b] pos) (.bool (decide (i < j))) := ev_cmp op_lt ha hb (nomark _) fun _ _ _ _ _ rx ry q => cmp_i rx ry q
theorem et_lt {i j : Int} (ha : EvD X δ a (.int i)) (hb : EvD X δ b (.int j)) : EtD X δ (.Compare a [.Lt] [b] pos) (decide (i < j)) := et_cmp op_lt ha hb (nomark _) fun _ _ _ _ _ rx ry q => cmp_i rx ry q
theorem et_gt {i j : Int} (ha : EvD X δ a (.int i)) (hb : EvD X δ b (.int j)) : EtD X δ (.Compare a [.Gt] [b] pos) (decide (j < i)) := et_cmp op_gt ha hb (nomark _) fun _ _ _ _ _ rx ry q => cmp_i (g := fun i j => decide (j < i)) rx ry q
def rEqD (K : PySem.W.Frag) (u : Nat) (neg : Bool) : R2 := fun x y H Q => ∃ A da db, Rep K A H da x ∧ Rep K A H db y ∧ da.canLay0 = true ∧ db.canLay0 = true ∧ u + min da.depth db.depth < cLine ∧ Q (.bl (if neg then !PyData.eqv da db else PyData.eqv da db)) H
theorem op_eqD : OpR X (compareOp .Eq) (rEqD X.K X.A.units false) := by
  intro pins s σ H x y v u Q I rx ry h
  obtain ⟨A, da, db, h1, h2, c1, c2, hu, q⟩ := h
  obtain ⟨as, r1⟩ := rep_reads I da x v c1 h1 rx
  obtain ⟨bs, r2⟩ := rep_reads I db y u c2 h2 ry
  exact PySem.SeqAt.compareEq_reads r1 r2 c1 c2 hu (fin_bl I q rfl)
theorem et_val {k : Bool} (h : EvD X δ e (.bool k)) (he : ∀ whole, isTrue e X.env whole = (do let v ← whole; standAt e.pos; holding [v] (truthy v)) := by intro _; rfl) : EtD X δ e k :=
  et_of (pt_val h he) fun Hb own B σ H Q E q => ⟨Hb, own, B, E, fun v H' s1 r => ⟨k, r, q H' s1⟩⟩
theorem et_not {k : Bool} (h : EtD X δ e k) : EtD X δ (.UnaryOp .Not e pos) (!k) :=
  et_of (pt_not h) fun Hb own B σ H Q E q => ⟨Hb, own, B, E, fun H' s1 => q H' s1⟩
theorem et_w {k : Bool} (h : EwD X δ e k) : EtD X δ e k := fun pins s σ H Q I q => h _ pins s σ H Q I q
theorem ew_of {t : TT} {k : Bool} (h : PW X e t) (ht : ∀ Hb own B σ H Q, EnvO X.K Hb own B H σ δ → (∀ H', Same H H' → Q k H') → t σ H Q) : EwD X δ e k :=
  fun wh pins s σ H Q I ⟨Hb, own, B, E, q⟩ => h wh pins s σ H Q I (ht Hb own B σ H Q E q)
theorem ew_and1 {k : Bool} (h : EtD X δ a k) : EwD X δ (.BoolOp .And [a] pos) k := pw_and1 h
theorem ew_or1 {k : Bool} (h : EtD X δ a k) : EwD X δ (.BoolOp .Or [a] pos) k := pw_or1 h
theorem ew_and {k m : Bool} {rest : List Expr} (h : EtD X δ a k) (h2 : k = true → EwD X δ (.BoolOp .And (b :: rest) pos) m) : EwD X δ (.BoolOp .And (a :: b :: rest) pos) (k && m) := by
  cases k with
  | true => exact ew_of (pw_and h (h2 rfl)) fun Hb own B σ H Q E q => ⟨Hb, own, B, E, fun H' s1 => iteT (⟨Hb, own, B, E.mono s1, fun H2 s2 => q H2 (s1.trans s2)⟩)⟩
  | false =>
    refine ew_of (pw_and h (tB' := fun _ _ _ => False) fun _ _ _ _ _ _ _ z => z.elim) fun Hb own B σ H Q E q => ⟨Hb, own, B, E, fun H' s1 => iteF (q H' s1)⟩
theorem ew_or {k m : Bool} {rest : List Expr} (h : EtD X δ a k) (h2 : k = false → EwD X δ (.BoolOp .Or (b :: rest) pos) m) : EwD X δ (.BoolOp .Or (a :: b :: rest) pos) (k || m) := by
  cases k with
  | false => exact ew_of (pw_or h (h2 rfl)) fun Hb own B σ H Q E q => ⟨Hb, own, B, E, fun H' s1 => iteF (⟨Hb, own, B, E.mono s1, fun H2 s2 => q H2 (s1.trans s2)⟩)⟩
  | true =>
    refine ew_of (pw_or h (tB' := fun _ _ _ => False) fun _ _ _ _ _ _ _ z => z.elim) fun Hb own B σ H Q E q => ⟨Hb, own, B, E, fun H' s1 => iteT (q H' s1)⟩
theorem et_and {k m : Bool} (h : EtD X δ a k) (h2 : k = true → EtD X δ b m) : EtD X δ (.BoolOp .And [a, b] pos) (k && m) := et_w (ew_and h fun z => ew_and1 (h2 z))
theorem et_or {k m : Bool} (h : EtD X δ a k) (h2 : k = false → EtD X δ b m) : EtD X δ (.BoolOp .Or [a, b] pos) (k || m) := et_w (ew_or h fun z => ew_or1 (h2 z))
theorem et_or3 {k m n : Bool} (h : EtD X δ a k) (h2 : k = false → EtD X δ b m) (h3 : k = false → m = false → EtD X δ c n) : EtD X δ (.BoolOp .Or [a, b, c] pos) (k || (m || n)) :=
  et_w (ew_or h fun z => ew_or (h2 z) fun y => ew_or1 (h3 z y))
theorem ev_and {k m : Bool} {rest : List Expr} (h : EvD X δ a (.bool k)) (h2 : k = true → EvD X δ (.BoolOp .And (b :: rest) pos) (.bool m)) : EvD X δ (.BoolOp .And (a :: b :: rest) pos) (.bool (k && m)) := by
  cases k with
  | true => exact ev_of (pe_and h (h2 rfl)) fun Hb own B σ H Q E q => ⟨Hb, own, B, E, fun v H' s1 r => ⟨true, r, iteT (⟨Hb, own, B, E.mono s1, fun w H2 s2 r2 => q w H2 (s1.trans s2) r2⟩)⟩⟩
  | false => exact ev_of (pe_and h (tb := fun _ _ _ => False) fun _ _ _ _ _ _ z => z.elim) fun Hb own B σ H Q E q => ⟨Hb, own, B, E, fun v H' s1 r => ⟨false, r, iteF (q _ H' s1 rfl)⟩⟩
theorem ev_or {k m : Bool} {rest : List Expr} (h : EvD X δ a (.bool k)) (h2 : k = false → EvD X δ (.BoolOp .Or (b :: rest) pos) (.bool m)) : EvD X δ (.BoolOp .Or (a :: b :: rest) pos) (.bool (k || m)) := by
  cases k with
  | false => exact ev_of (pe_or h (h2 rfl)) fun Hb own B σ H Q E q => ⟨Hb, own, B, E, fun v H' s1 r => ⟨false, r, iteF (⟨Hb, own, B, E.mono s1, fun w H2 s2 r2 => q w H2 (s1.trans s2) r2⟩)⟩⟩
  | true => exact ev_of (pe_or h (tb := fun _ _ _ => False) fun _ _ _ _ _ _ z => z.elim) fun Hb own B σ H Q E q => ⟨Hb, own, B, E, fun v H' s1 r => ⟨true, r, iteT (q _ H' s1 rfl)⟩⟩
theorem ev_one {op} (h : EvD X δ a d) : EvD X δ (.BoolOp op [a] pos) d := pe_one h
theorem ev_not {k : Bool} (h : EvD X δ a (.bool k)) : EvD X δ (.UnaryOp .Not a pos) (.bool (!k)) :=
  ev_of (pe_not h) fun Hb own B σ H Q E q => ⟨Hb, own, B, E, fun v H' s1 r => ⟨k, r, q _ H' s1 rfl⟩⟩
theorem ea_nil : EaD X δ [] [] := fun pos pins s σ H Q I ⟨Hb, own, B, E, q⟩ => pa_nil pos pins s σ H Q I (q [] H (Same.refl H) rfl)
theorem ea_cons {es : List Expr} {ds : List PyData} (h : EvD X δ e d) (hr : EaD X δ es ds) (hs : starEach (e :: es) X.env = (false, eval e X.env) :: starEach es X.env := by rfl) : EaD X δ (e :: es) (d :: ds) :=
  fun pos pins s σ H Q I ⟨Hb, own, B, E, q⟩ => pa_cons h hr hs pos pins s σ H Q I ⟨Hb, own, B, E, fun v H1 s1 r1 => ⟨Hb, own, B, E.mono s1, fun vs H2 s2 r2 => q _ H2 (s1.trans s2) ⟨v, vs, rfl, r1.up s2, r2⟩⟩⟩
theorem ef_list {es : List Expr} {ds : List PyData} (h : EaD X δ es ds) (hl : ds.length ≤ 1000 := by exact Nat.le_of_ble_eq_true rfl) : EvF X δ (.List es pos) ds :=
  ef_of (pe_lst h) fun Hb own B σ H Q E q => ⟨Hb, own, B, E, fun vs H1 s1 r => ⟨by rw [← r.length]; exact Nat.le_of_lt (small1000 hl), fun p hp => by
    have e1 : Same H1 (upd H1 p (.lst vs)) := fun b u z => by rw [upd_ne (ne_of_none z hp)]; exact z
    exact q p vs _ (s1.trans e1) (s1.free hp) upd_same ((Reps.fresh hp _ _ r).up e1)⟩⟩
end
end L2
end
section
namespace L2
open PySem PySem.Spec PyProof.Rows
section
variable {X : Cx} {δ : Dn} {a b c e : Expr} {d da db : PyData} {pos : Pos} {xs ys : List PyData}
theorem op_neD : OpR X (compareOp .NotEq) (rEqD X.K X.A.units true) := by
  intro pins s σ H x y v u Q I rx ry h
  obtain ⟨A, da, db, h1, h2, c1, c2, hu, q⟩ := h
  obtain ⟨as, r1⟩ := rep_reads I da x v c1 h1 rx
  obtain ⟨bs, r2⟩ := rep_reads I db y u c2 h2 ry
  exact PySem.SeqAt.compareNe_reads r1 r2 c1 c2 hu (fin_bl I q rfl)
def rInD (K : PySem.W.Frag) (u : Nat) (neg : Bool) : R2 := fun x y H Q => ∃ A d xs, Rep K A H d x ∧ Rep K A H (.list xs) y ∧ d.canLay0 = true ∧ PyData.canLayAll0 xs = true ∧ u + 1 + min (PyData.depthAll xs) d.depth < cLine ∧
  Q (.bl (if neg then !xs.any fun y => PyData.eqv y d else xs.any fun y => PyData.eqv y d)) H
theorem op_inD : OpR X (compareOp .In) (rInD X.K X.A.units false) := by
  intro pins s σ H x y v u Q I rx ry h
  obtain ⟨A, d, xs, h1, h2, c1, c2, hu, q⟩ := h
  obtain ⟨as, r1⟩ := rep_reads I d x v c1 h1 rx
  obtain ⟨bs, r2⟩ := rep_reads I (.list xs) y u c2 h2 ry
  exact PySem.SeqAt.in_list_reads r2 r1 c2 c1 hu (fin_bl I q rfl)
theorem op_notInD : OpR X (compareOp .NotIn) (rInD X.K X.A.units true) := by
  intro pins s σ H x y v u Q I rx ry h
  obtain ⟨A, d, xs, h1, h2, c1, c2, hu, q⟩ := h
  obtain ⟨as, r1⟩ := rep_reads I d x v c1 h1 rx
  obtain ⟨bs, r2⟩ := rep_reads I (.list xs) y u c2 h2 ry
  exact PySem.SeqAt.notIn_list_reads r2 r1 c2 c1 hu (fin_bl I q rfl)
structure Sm (d : PyData) : Prop where
  lay : d.canLay0 = true
  dep : d.depth ≤ 20
theorem room20 {k : Nat} {A : Around} (hr : Room k A) {a b : Nat} (h : a ≤ 20) : A.units + min a b < cLine := by
  have := hr.units
  have := Nat.min_le_left a b
  omega
theorem room20' {k : Nat} {A : Around} (hr : Room k A) {a b : Nat} (h : b ≤ 20) : A.units + 1 + min a b < cLine := by
  have := hr.units
  have := Nat.min_le_right a b
  omega
variable {k : Nat}
theorem ev_eqD (hr : Room k X.A) (ha : EvD X δ a da) (hb : EvD X δ b db) (sa : Sm da) (sb : db.canLay0 = true) : EvD X δ (.Compare a [.Eq] [b] pos) (.bool (PyData.eqv da db)) :=
  ev_cmp op_eqD ha hb (nomark _) fun A x y H Q rx ry q => ⟨A, da, db, rx, ry, sa.lay, sb, room20 hr sa.dep, q _ H (Same.refl H) rfl⟩
theorem ev_neD (hr : Room k X.A) (ha : EvD X δ a da) (hb : EvD X δ b db) (sa : Sm da) (sb : db.canLay0 = true) : EvD X δ (.Compare a [.NotEq] [b] pos) (.bool (!PyData.eqv da db)) :=
  ev_cmp op_neD ha hb (nomark _) fun A x y H Q rx ry q => ⟨A, da, db, rx, ry, sa.lay, sb, room20 hr sa.dep, q _ H (Same.refl H) rfl⟩
theorem et_eqD (hr : Room k X.A) (ha : EvD X δ a da) (hb : EvD X δ b db) (sa : Sm da) (sb : db.canLay0 = true) : EtD X δ (.Compare a [.Eq] [b] pos) (PyData.eqv da db) :=
  et_cmp op_eqD ha hb (nomark _) fun A x y H Q rx ry q => ⟨A, da, db, rx, ry, sa.lay, sb, room20 hr sa.dep, q _ H (Same.refl H) rfl⟩
theorem et_neD (hr : Room k X.A) (ha : EvD X δ a da) (hb : EvD X δ b db) (sa : Sm da) (sb : db.canLay0 = true) : EtD X δ (.Compare a [.NotEq] [b] pos) (!PyData.eqv da db) :=
  et_cmp op_neD ha hb (nomark _) fun A x y H Q rx ry q => ⟨A, da, db, rx, ry, sa.lay, sb, room20 hr sa.dep, q _ H (Same.refl H) rfl⟩
theorem et_inD (hr : Room k X.A) (ha : EvD X δ a d) (hb : EvD X δ b (.list xs)) (sa : Sm d) (sb : PyData.canLayAll0 xs = true) (hm : behindInMarks .In b = false := by with_unfolding_all rfl) : EtD X δ (.Compare a [.In] [b] pos) (xs.any fun y => PyData.eqv y d) :=
  et_cmp op_inD ha hb hm fun A x y H Q rx ry q => ⟨A, d, xs, rx, ry, sa.lay, sb, room20' hr sa.dep, q _ H (Same.refl H) rfl⟩
theorem ev_notInD (hr : Room k X.A) (ha : EvD X δ a d) (hb : EvD X δ b (.list xs)) (sa : Sm d) (sb : PyData.canLayAll0 xs = true) (hm : behindInMarks .NotIn b = false := by with_unfolding_all rfl) : EvD X δ (.Compare a [.NotIn] [b] pos) (.bool (!xs.any fun y => PyData.eqv y d)) :=
  ev_cmp op_notInD ha hb hm fun A x y H Q rx ry q => ⟨A, d, xs, rx, ry, sa.lay, sb, room20' hr sa.dep, q _ H (Same.refl H) rfl⟩
def isN : PyData → Bool
  | .none => true
  | _ => false
theorem rep_isN {K : PySem.W.Frag} {A : Addr → Prop} {H : Hp} {d : PyData} {x : V} (h : Rep K A H d x) : decide (x = .non) = isN d := by
  cases d with
  | none => cases h; rfl
  | bool _ => cases h; rfl
  | int _ => cases h; rfl
  | str _ => cases h; rfl
  | list _ => obtain ⟨_, _, rfl, _⟩ := h; rfl
  | tuple _ => obtain ⟨_, _, rfl, _⟩ := h; rfl
  | dict _ => rcases h with ⟨_, _, rfl, _⟩ | ⟨_, _, _, rfl, _⟩ | ⟨_, _, _, rfl, _⟩ <;> rfl
theorem et_isN {j p'} (ha : EvD X δ a d) : EtD X δ (.Compare a [.Is] [.Constant .none j p'] pos) (isN d) :=
  et_of (pt_cmp (pc_isN ha)) fun Hb own B σ H Q E q => ⟨Hb, own, B, E, fun v H' s1 r => by show ∃ c, V.bl (decide (v = .non)) = .bl c ∧ Q c H'; rw [rep_isN r]; exact ⟨_, rfl, q H' s1⟩⟩
theorem atI_of {α : Type} {vs : List α} {i : Int} {v : α} (h0 : 0 ≤ i) (h : vs[i.toNat]? = some v) : atI vs i = some v := by
  have e : i = ((i.toNat : Nat) : Int) := by omega
  rw [e]; exact atI_nat h
theorem ev_ix {i : Int} (ha : EvD X δ a (.list xs)) (hb : EvD X δ b (.int i)) (h0 : 0 ≤ i) (hd : xs[i.toNat]? = some d) (hs : PlainIx b := by exact fun _ _ => rfl) : EvD X δ (.Subscript a b pos) d :=
  ev_of (pe_ix ix_list ha hb hs) fun Hb own B σ H Q E q => ⟨Hb, own, B, E, fun x H1 s1 rx => ⟨Hb, own, B, E.mono s1, fun y H2 s2 ry => by
    obtain ⟨p, vs, rfl, _, h3, h4⟩ := rx.up s2
    obtain ⟨v, hv, rv⟩ := h4.at hd
    exact ⟨p, vs, i, v, rfl, ry, SqL.of h3, atI_of h0 hv, q v H2 (s1.trans s2) rv⟩⟩⟩
theorem rep_scr {K : PySem.W.Frag} {A : Addr → Prop} {H : Hp} {ns : List Int} {x : V} (h : Rep K A H (scr ns) x) : ∃ p, x = .ref p ∧ SqL K H p (ns.map V.int) := by
  rcases h with ⟨p, ms, rfl, e, h3⟩ | ⟨a, us, _, _, _, κ, _, _, _, z, _⟩ | ⟨_, _, _, _, z, _⟩
  · have e' : ns = ms := scr_inj e
    subst e'
    exact ⟨p, rfl, h3.sq⟩
  · cases z
  · cases z
def EoD (X : Cx) (δ : Dn) (e : Option Expr) (o : Option Int) : Prop := PO X e (fun σ H Q => ∃ Hb own B, EnvO X.K Hb own B H σ δ ∧ ∀ H', Same H H' → Q o H')
theorem eo_none : EoD X δ none none := fun pins s σ H Q I ⟨Hb, own, B, E, q⟩ => po_none pins s σ H Q I (q H (Same.refl H))
theorem eo_some {i : Int} (h : EvD X δ e (.int i)) : EoD X δ (some e) (some i) := fun pins s σ H Q I ⟨Hb, own, B, E, q⟩ => po_some h pins s σ H Q I ⟨Hb, own, B, E, fun v H' s1 r => ⟨i, r, q H' s1⟩⟩
def cutL {α : Type} (xs : List α) (lo hi : Option Int) : List α := (xs.drop (HT.sIx xs.length 0 lo)).take (HT.sIx xs.length xs.length hi - HT.sIx xs.length 0 lo)
theorem reps_cut {K : PySem.W.Frag} {A : Addr → Prop} {H : Hp} {ds : List PyData} {vs : List V} (h : Reps K A H ds vs) (lo hi : Option Int) : Reps K A H (cutL ds lo hi) (cutV vs lo hi) := by
  unfold cutL cutV
  rw [h.length]
  exact (h.drop _).take _
theorem same_new {H : Hp} {p : Addr} (h : H p = none) (o : HO) : Same H (upd H p o) := fun b u q => by rw [upd_ne (ne_of_none q h)]; exact q
theorem ef_slice {lo hi : Option Expr} {l u : Option Int} {p2 : Pos} (ha : EvD X δ a (.list xs)) (hl : EoD X δ lo l) (hu : EoD X δ hi u) : EvF X δ (.Subscript a (.Slice lo hi none p2) pos) (cutL xs l u) :=
  ef_of (pe_slice sl_list ha hl hu) fun Hb own B σ H Q E q => ⟨Hb, own, B, E, fun x H1 s1 rx => ⟨Hb, own, B, E.mono s1, fun H2 s2 => ⟨Hb, own, B, E.mono (s1.trans s2), fun H3 s3 => by
    obtain ⟨p, vs, rfl, _, h3, h4⟩ := (rx.up s2).up s3
    refine ⟨p, vs, rfl, SqL.of h3, fun r hr => ?_⟩
    have e1 := same_new hr (.lst (cutV vs l u))
    exact q r _ _ (((s1.trans s2).trans s3).trans e1) (((s1.trans s2).trans s3).free hr) upd_same ((Reps.fresh hr _ _ (reps_cut h4 l u)).up e1)⟩⟩⟩
theorem ef_sliceS {lo hi : Option Expr} {l u : Option Int} {p2 : Pos} {ns : List Int} (ha : EvD X δ a (scr ns)) (hl : EoD X δ lo l) (hu : EoD X δ hi u) : EvF X δ (.Subscript a (.Slice lo hi none p2) pos) (iD (cutL ns l u)) :=
  ef_of (pe_slice sl_list ha hl hu) fun Hb own B σ H Q E q => ⟨Hb, own, B, E, fun x H1 s1 rx => ⟨Hb, own, B, E.mono s1, fun H2 s2 => ⟨Hb, own, B, E.mono (s1.trans s2), fun H3 s3 => by
    obtain ⟨p, rfl, h3⟩ := rep_scr ((rx.up s2).up s3)
    refine ⟨p, _, rfl, h3, fun r hr => ?_⟩
    have e1 := same_new hr (.lst (cutV (ns.map V.int) l u))
    have e2 : cutV (ns.map V.int) l u = (cutL ns l u).map V.int := by
      unfold cutV cutL
      rw [List.length_map, List.map_take, List.map_drop]
    refine q r _ _ (((s1.trans s2).trans s3).trans e1) (((s1.trans s2).trans s3).free hr) upd_same ?_
    rw [e2]
    exact Reps.iD _⟩⟩⟩
theorem ef_cat (ha : EvD X δ a (.list xs)) (hb : EvD X δ b (.list ys)) (hl : xs.length + ys.length ≤ 1000) : EvF X δ (.BinOp a .Add b pos) (xs ++ ys) :=
  ef_of (pe_op op_cat ha hb) fun Hb own B σ H Q E q => ⟨Hb, own, B, E, fun x H1 s1 rx => ⟨Hb, own, B, E.mono s1, fun y H2 s2 ry => by
    obtain ⟨p, vs, rfl, _, h3, h4⟩ := rx.up s2
    obtain ⟨p', vs', rfl, _, h3', h4'⟩ := ry
    refine ⟨p, p', vs, vs', rfl, rfl, h3, h3', by rw [← h4.length, ← h4'.length]; exact Nat.le_of_lt (small1000 hl), fun r hr => ?_⟩
    have e1 := same_new hr (.lst (vs ++ vs'))
    exact q r _ _ ((s1.trans s2).trans e1) ((s1.trans s2).free hr) upd_same ((Reps.fresh hr _ _ (h4.append h4')).up e1)⟩⟩
theorem ev_callB {id : String} {x : Str} {p : Pos} {es : List Expr} {ds : List PyData} {r : List V → Hp → VK → Prop} (hc : CallR X (.builtin id) r) (hg : Gl X x) (hm : X.mg x = none) (hv : bootBuiltins x = some (.builtin id)) (ha : EaD X δ (e :: es) ds)
    (hr : ∀ A vs H Q, Reps X.K A H ds vs → (∀ v H', Same H H' → Rep X.K A H' d v → Q v H') → r vs H Q) (hn : x ≠ "__name__" := by decide) (hdb : (x == ("__debug__" : Str)) = false := by decide)
    (he : starEach (e :: es) X.env = (false, eval e X.env) :: starEach es X.env := by rfl) (hpl : (backTo pos (starEach es X.env)).any (·.1) = false := by rfl) : EvD X δ (.Call (.Name x p) (e :: es) [] pos) d :=
  ev_of (pe_callB hc hg hm hv ha hn hdb he hpl) fun Hb own B σ H Q E q => ⟨Hb, own, B, E, fun vs H1 s1 rv => hr _ vs H1 Q rv fun v H' s2 r2 => q v H' (s1.trans s2) r2⟩
theorem ev_len {p : Pos} (hg : Gl X "len") (hm : X.mg "len" = none) (ha : EvD X δ e (.list xs)) (he : starEach [e] X.env = [(false, eval e X.env)] := by rfl) : EvD X δ (.Call (.Name "len" p) [e] [] pos) (.int xs.length) :=
  ev_callB call_len_seq hg hm PySem.boot_len (ea_cons ha ea_nil (by rw [he]; rfl)) (fun A vs H Q rv q => by
    obtain ⟨v, r, rfl, ⟨a, us, rfl, _, h3, h4⟩, e2⟩ := rv
    cases e2
    exact ⟨a, us, rfl, .inl (SqL.of h3), q _ H (Same.refl H) (by rw [← h4.length]; rfl)⟩) (he := by rw [he]; rfl)
theorem ef_listOf {p : Pos} (hg : Gl X "list") (hm : X.mg "list" = none) (ha : EvD X δ e (.list xs)) (he : starEach [e] X.env = [(false, eval e X.env)] := by rfl) : EvF X δ (.Call (.Name "list" p) [e] [] pos) xs :=
  ef_of (pe_callTy call_list_of hg hm (by first | exact PySem.boot_list | rfl) (ea_cons ha ea_nil (by rw [he]; rfl)) (he := by rw [he]; rfl)) fun Hb own B σ H Q E q => ⟨Hb, own, B, E, fun vs H1 s1 rv => by
    obtain ⟨v, r, rfl, ⟨a, us, rfl, _, h3, h4⟩, e2⟩ := rv
    cases e2
    refine ⟨a, us, rfl, .inl (SqL.of h3), fun l hl => ?_⟩
    have e1 := same_new hl (.lst us)
    exact q l _ _ (s1.trans e1) (s1.free hl) upd_same ((Reps.fresh hl _ _ h4).up e1)⟩
theorem bl_at {bs : List Bool} {its : List Value} (r : Vals (bs.map V.bl) its) {i : Nat} {v : Value} (h : its[i]? = some v) : v = .bool (bs.getD i false) := by
  induction bs generalizing its i with
  | nil => cases r; cases h
  | cons b bs ih =>
    cases r with
    | cons r1 r2 =>
      cases i with
      | zero => cases h; exact r1
      | succ i => exact ih r2 (by simpa using h)
theorem range_all {bs : List Bool} : ((List.range bs.length).all fun i => bs.getD i false) = bs.all id := by
  rw [Bool.eq_iff_iff, List.all_eq_true, List.all_eq_true]
  constructor
  · intro h x hx
    obtain ⟨i, hi, rfl⟩ := List.mem_iff_getElem.mp hx
    have := h i (List.mem_range.mpr hi)
    rw [List.getD_eq_getElem?_getD, List.getElem?_eq_getElem hi] at this
    exact this
  · intro h i hi
    have hi : i < bs.length := List.mem_range.mp hi
    rw [List.getD_eq_getElem?_getD, List.getElem?_eq_getElem hi]
    exact h _ (List.getElem_mem hi)
theorem walk_bools {pins : List (Addr × Obj)} {σ : St} {H : Hp} {s : Shared} {p : Addr} {bs : List Bool} (I : Inv X pins σ H s) (hc : X.calm = true) (hp : SqL X.K H p (bs.map V.bl)) {Q : Value → Shared → Prop} {E : Value → Shared → Prop} {R : Nat → (Nat → Bool) → Bool}
    (hQ : ∀ h' tk, (∀ b o, s.heap.get? b = some o → h'.get? b = some o) → Q (.bool (R bs.length fun i => bs.getD i false)) { s with heap := h', toks := tk }) :
    wpAny (model X.prog X.w) X.A.in1 (pyIter (.ref p)) (fun it s₂ => ∃ I fp wr n P St tr, it = .ref I ∧ Walks X.prog X.w X.A.in1 I fp wr n P St ∧ St 0 s₂.heap ∧ TruthOf X.prog X.w X.A.in1 P tr ∧
      ∀ h' tk, (∀ b o, b ∉ wr → s₂.heap.get? b = some o → h'.get? b = some o) → Q (.bool (R n tr)) { s₂ with heap := h', toks := tk }) E s := by
  obtain ⟨its, rv, pl, _⟩ := I.list hp
  have hl := rv.length
  rw [List.length_map] at hl
  refine wpAny_pyIter_list pl.isList ?_
  obtain ⟨o, n, ho, _⟩ := id pl
  have hlt := Heap.lt_size ho
  refine ⟨s.heap.objs.size, _, _, its.toArray.size, _, _, fun i => bs.getD i false, rfl, Walks.list (by first | exact I.ok.hd hc | (show X.A.handled = none; exact I.ok.hd hc)) s.heap.objs.size p (Nat.ne_of_lt hlt) its.toArray, ⟨⟨_, Heap.get?_push_size _ rfl, rfl, rfl⟩, pl.isList.push _⟩, fun i v s Q E hv hq => ?_, fun h' tk hk => ?_⟩
  · have hv' : its[i]? = some v := by simpa using hv
    rw [bl_at rv hv']
    exact wpAny_truthy_bool hq
  · have e : its.toArray.size = bs.length := by simp [hl]
    rw [e]
    exact hQ h' tk fun b o e => hk b o (fun z => by
      have : b = s.heap.objs.size := by simpa using z
      exact absurd (Heap.lt_size e) (by rw [this]; exact Nat.lt_irrefl _)) (Heap.get?_push_of_some _ e)
theorem call_allB (hc : X.calm = true) : CallR X (.builtin "all") (fun xs H Q => ∃ (p : Addr) (bs : List Bool), xs = [.ref p] ∧ SqL X.K H p (bs.map V.bl) ∧ Q (.bl (bs.all id)) H) := by
  intro pins s σ H xs us Q I rv h
  obtain ⟨p, bs, rfl, hp, q⟩ := h
  obtain ⟨u, rfl, ru⟩ := rv.one
  cases ru
  refine PySem.call_all_walk (walk_bools (R := fun n tr => (List.range n).all tr) I hc hp fun h' tk hk => ?_)
  rw [range_all]
  exact ⟨.bl _, H, I.kept hk, rfl, q⟩
def bD (bs : List Bool) : List PyData := bs.map .bool
theorem Reps.bD_eq {K : PySem.W.Frag} {A : Addr → Prop} {H : Hp} : ∀ {bs : List Bool} {vs : List V}, Reps K A H (bD bs) vs → vs = bs.map V.bl
  | [], _, h => h
  | n :: r, _, h => by
    obtain ⟨v, s, rfl, h2, h3⟩ := h
    rw [Reps.bD_eq h3, h2]; rfl
theorem ev_all {p : Pos} {bs : List Bool} (hc : X.calm = true) (hg : Gl X "all") (hm : X.mg "all" = none) (ha : EvD X δ e (.list (bD bs))) (he : starEach [e] X.env = [(false, eval e X.env)] := by rfl) : EvD X δ (.Call (.Name "all" p) [e] [] pos) (.bool (bs.all id)) :=
  ev_callB (call_allB hc) hg hm (by rfl) (ea_cons ha ea_nil (by rw [he]; rfl)) (fun A vs H Q rv q => by
    obtain ⟨v, r, rfl, ⟨a, us, rfl, _, h3, h4⟩, e2⟩ := rv
    cases e2
    rw [h4.bD_eq] at h3
    exact ⟨a, bs, rfl, SqL.of h3, q _ H (Same.refl H) rfl⟩) (he := by rw [he]; rfl)
end
end L2
end
section
namespace L2
open PySem PySem.Spec PyProof.Rows
structure Walk (K : PySem.W.Frag) (A : Addr → Prop) (J : It) (Hk : Hp) (ds : List PyData) : Prop where
  go : ∀ (i : Nat) (H : Hp), Same Hk H → i < ds.length → J.go i H
  yld : ∀ (i : Nat) (H : Hp) (x : V) (H' : Hp), Same Hk H → i < ds.length → J.yld i H x H' → H' = H ∧ ∃ d, ds[i]? = some d ∧ Rep K A Hk d x
  stop : ∀ (i : Nat) (H : Hp), Same Hk H → ds.length ≤ i → J.stop i H
theorem Kp.keep {own : Nat → List Addr} {B : Addr → Prop} {H : Hp} (ho : ∀ i a, a ∈ own i → ∃ o, H a = some o ∧ MutO o) : Kp (Av own B) (Av own B) H (keepB own H) :=
  ⟨fun a _ h q => ⟨h, keepB_of q fun i hi => h (.inr ⟨i, hi⟩)⟩,
    fun a _ q => keepB_of q fun i hi => by obtain ⟨o, z, m⟩ := ho i a hi; rw [q] at z; cases z; exact m,
    fun a _ _ q => keepB_of q fun i hi => by obtain ⟨o, z, m⟩ := ho i a hi; rw [q] at z; cases z; exact m⟩
theorem Reps.keep {K : PySem.W.Frag} {own : Nat → List Addr} {B : Addr → Prop} {H : Hp} (ho : ∀ i a, a ∈ own i → ∃ o, H a = some o ∧ MutO o) (ds : List PyData) (vs : List V) (h : Reps K (Av own B) H ds vs) : Reps K (Av own B) (keepB own H) ds vs := Reps.kp (.keep ho) ds vs h
theorem EnvO.lists {K : PySem.W.Frag} {Hb : Hp} {own : Nat → List Addr} {B : Addr → Prop} {H : Hp} {σ : St} {δ : Dn} (E : EnvO K Hb own B H σ δ) : ∀ i a, a ∈ own i → ∃ o, H a = some o ∧ MutO o := E.muts
def tI (K : PySem.W.Frag) (δ : Dn) (ds : List PyData) : TI := fun σ H R => ∃ Hb own B, EnvO K Hb own B H σ δ ∧ ∀ J H1, Same H H1 → Walk K (Av own B) J (keepB own H1) ds → R J H1
def EiD (X : Cx) (δ : Dn) (tg iter : Expr) (ds : List PyData) : Prop := PI X tg iter (tI X.K δ ds)
section
variable {X : Cx} {δ : Dn} {a b c e tg : Expr} {d da db : PyData} {pos : Pos} {xs ys : List PyData}
theorem ei_list (h : EvD X δ e (.list xs)) : EiD X δ tg e xs := fun pins s σ H R I ⟨Hb, own, B, E, q⟩ => pi_list h pins s σ H R I ⟨Hb, own, B, E, fun v H1 s1 r => by
  obtain ⟨p, vs, rfl, h2, h3, h4⟩ := r
  have kp : keepB own H1 p = some (.lst vs) := keepB_of h3 fun i hi => h2 (.inr ⟨i, hi⟩)
  have rk := Reps.keep (E.mono s1).lists _ _ h4
  have hl := h4.length
  refine ⟨p, rfl, ⟨vs, SqL.of h3⟩, q _ H1 s1 ⟨fun i H s hi => ?_, fun i H x H' s hi hy => ?_, fun i H s hi => ⟨vs, SqL.of (s _ _ kp), by omega⟩⟩⟩
  · exact ⟨vs, vs[i]'(by omega), SqL.of (s _ _ kp), List.getElem?_eq_getElem _⟩
  · obtain ⟨rfl, hy⟩ := hy
    have hx := hy vs (SqL.of (s _ _ kp))
    obtain ⟨d, hd, rd⟩ := rk.get hx
    exact ⟨rfl, d, hd, rd⟩⟩
def rgD (lo : Int) (n : Nat) : List PyData := (List.range n).map fun (i : Nat) => .int (lo + i)
theorem walk_rng {K : PySem.W.Frag} {A : Addr → Prop} {Hk : Hp} (lo : Int) (n : Nat) : Walk K A (Itr lo n) Hk (rgD lo n) := by
  have hl : (rgD lo n).length = n := by simp [rgD]
  refine ⟨fun i H s hi => by rw [hl] at hi; exact hi, fun i H x H' s hi hy => ?_, fun i H s hi => by rw [hl] at hi; exact hi⟩
  obtain ⟨rfl, rfl⟩ := hy
  rw [hl] at hi
  exact ⟨rfl, .int (lo + i), by simp [rgD, hi], rfl⟩
theorem ei_range1 {p : Pos} {n : Int} (hg : Gl X "range") (hm : X.mg "range" = none) (ha : EvD X δ a (.int n)) (h1 : -(2 ^ 62) ≤ n) (h2 : n < 2 ^ 62) (hs : starEach [a] X.env = [(false, eval a X.env)] := by rfl) : EiD X δ tg (.Call (.Name "range" p) [a] [] pos) (rgD 0 n.toNat) :=
  fun pins s σ H R I ⟨Hb, own, B, E, q⟩ => pi_range1 hg hm (ea_cons ha ea_nil (by rw [hs]; rfl)) hs pins s σ H R I ⟨Hb, own, B, E, fun vs H1 s1 r => by
    obtain ⟨v, r', rfl, h3, e2⟩ := r
    cases e2; cases h3
    exact ⟨n, rfl, h1, h2, q _ H1 s1 (walk_rng 0 n.toNat)⟩⟩
theorem EnvO.guard {K : PySem.W.Frag} {Hb : Hp} {own : Nat → List Addr} {B : Addr → Prop} {H H' : Hp} {σ : St} {δ : Dn} (E : EnvO K Hb own B H σ δ) {D : Addr} {vs : List V} (hn : H D = none) (e : Same H H') (hD : H' D = some (.lst vs)) :
    EnvO K (keepB own H') own (fun b => B b ∨ b = D) H' σ δ := by
  have hno : ∀ i, D ∉ own i := fun i hi => E.new hn (.inr ⟨i, hi⟩)
  have av : ∀ a, Av own (fun b => B b ∨ b = D) a → Av own B a ∨ a = D := fun a h => by
    rcases h with (h | h) | h
    · exact .inl (.inl h)
    · exact .inr h
    · exact .inl (.inr h)
  have E' := (E.mono e).rebase
  refine ⟨E'.base, E'.len, fun a h => ?_, E'.ofr, E'.oex, E'.ond, E'.inj, fun i d h => ?_, fun i oa c h => ?_⟩
  · rcases h with h | h
    · exact E'.bb a h
    · rw [h, keepB_of hD hno]; exact fun z => by cases z
  · obtain ⟨v, h1, h2⟩ := E.sh i d h
    exact ⟨v, h1, ((Rep.fresh hn _ _ h2).up e).av av⟩
  · obtain ⟨v, h1, h2, h4⟩ := E.ow i oa c h
    exact ⟨v, h1, h2, ((h4.kp (.fresh hn) fun _ _ _ z => z).up e).av av⟩
def EfD (X : Cx) (δ : Dn) (ifs : List Expr) (k : Bool) : Prop := PIfs X ifs (tT X.K δ k)
theorem efs_nil : EfD X δ [] true := fun pins s σ H Q I ⟨Hb, own, B, E, q⟩ => pifs_nil pins s σ H Q I (q H (Same.refl H))
theorem efs_one {k : Bool} (h : EtD X δ c k) : EfD X δ [c] k := fun pins s σ H Q I q => pifs_one h pins s σ H Q I q
theorem filter_take {α : Type} {p : α → Bool} {ds : List α} {i : Nat} {d : α} (h : ds[i]? = some d) : (ds.take (i + 1)).filter p = (ds.take i).filter p ++ (if p d then [d] else []) := by
  rw [List.take_add_one, h, List.filter_append]
  cases hp : p d <;> simp [hp]
theorem wk_blank {σ : St} {i : Nat} {v : V} : Wk (σ.set i none) ((σ.set i none).set i (some v)) := by
  refine ⟨by rw [List.length_set], fun j w h => ?_⟩
  by_cases ji : j = i
  · subst ji
    rw [List.getElem?_set] at h
    split at h
    · split at h
      · simp at h
      · cases h
    · exact absurd rfl (by assumption)
  · rw [List.getElem?_set_ne (Ne.symm ji)]; exact h
def tTs {α : Type} (K : PySem.W.Frag) (δ : Dn) (i : Nat) (emb : α → PyData) (ts : List α) (p : α → Bool) : TT := fun σ H Q => ∃ t, t ∈ ts ∧ tT K ((δ.set i .no).set i (.sh (emb t))) (p t) σ H Q
def tEs {α : Type} (K : PySem.W.Frag) (δ : Dn) (i : Nat) (emb : α → PyData) (ts : List α) (p : α → Bool) (f : α → PyData) : TE := fun σ H Q => ∃ t, t ∈ ts ∧ p t = true ∧ tD K ((δ.set i .no).set i (.sh (emb t))) (f t) σ H Q
theorem tcomp_of {K : PySem.W.Frag} {Hb : Hp} {own : Nat → List Addr} {B : Addr → Prop} {σ : St} {H : Hp} {Q : VK} {i : Nat} {α : Type} {emb : α → PyData} {ts : List α} {p : α → Bool} {f : α → PyData} (hz : ts.length ≤ 1000) (hno : ∀ oa c, δ[i]? ≠ some (.own oa c)) (E : EnvO K Hb own B H σ δ)
    (q : ∀ a vs H', Same H H' → H a = none → H' a = some (.lst vs) → Reps K (fun b => Av own B b ∨ b = a) H' ((ts.filter p).map f) vs → Q (.ref a) H') : tComp (tI K δ (ts.map emb)) [i] (gName i) (tTs K δ i emb ts p) (tEs K δ i emb ts p f) σ H Q := by
  have hdl : (ts.map emb).length = ts.length := List.length_map _
  refine ⟨Hb, own, B, E, fun J H1 s1 w D hD => ?_⟩
  have E1 := E.mono s1
  have ho : own i = [] := List.eq_nil_iff_forall_not_mem.mpr fun a z => by
    obtain ⟨oa, ys, hj⟩ := E.oex i a z
    exact absurd hj (hno oa ys)
  have hu : unown own i = own := by
    funext j
    unfold unown
    by_cases ji : j = i
    · rw [if_pos ji, ji, ho]
    · rw [if_neg ji]
  refine ⟨fun n m H' => m = ts.length - n ∧ n ≤ ts.length ∧ Same H1 H' ∧ ∃ vs, H' D = some (.lst vs) ∧ Reps K (fun b => Av own B b ∨ b = D) H' (((ts.take n).filter p).map f) vs,
    ⟨ts.length, rfl, Nat.zero_le _, same_new hD _, [], upd_same, rfl⟩, ?_⟩
  rintro n m H2 ⟨rfl, hn, s2, vs, e2, r2⟩
  have sk : Same (keepB own H1) H2 := fun b o z => s2 b o (keepB_some z).1
  by_cases hlt : n < ts.length
  · refine .inr ⟨w.go n H2 sk (by rw [hdl]; exact hlt), fun x H' hy => ?_⟩
    obtain ⟨eH, d, hd, rd⟩ := w.yld n H2 x H' sk (by rw [hdl]; exact hlt) hy
    subst H'
    obtain ⟨t, ht, rfl⟩ : ∃ t, ts[n]? = some t ∧ d = emb t := by
      rw [List.getElem?_map] at hd
      cases z : ts[n]? with
      | none => rw [z] at hd; cases hd
      | some t => rw [z] at hd; cases hd; exact ⟨t, rfl, rfl⟩
    have hm : t ∈ ts := List.mem_of_getElem? ht
    have G := E1.guard hD s2 e2
    have av : ∀ a, Av own (fun b => B b ∨ b = D) a → Av own B a ∨ a = D := fun a h => by
      rcases h with (h | h) | h
      · exact .inl (.inl h)
      · exact .inr h
      · exact .inl (.inr h)
    have va : ∀ a, Av own B a ∨ a = D → Av own (fun b => B b ∨ b = D) a := fun a h => by
      rcases h with (h | h) | h
      · exact .inl (.inl h)
      · exact .inr h
      · exact .inl (.inr h)
    have rdG : Rep K (Av own fun b => B b ∨ b = D) H2 (emb t) x := by
      have hk : keepB own H1 D = none := by
        cases z : keepB own H1 D with
        | none => rfl
        | some o => rw [(keepB_some z).1] at hD; cases hD
      exact ((Rep.fresh hk _ _ rd).up sk).av av
    have F := (G.forget (i := i)).setSh (i := i) (v := x) (d := emb t) (rdG.av unown_av)
    rw [hu, hu] at F
    refine ⟨wk_blank, t, hm, _, _, _, F, fun H3 s3 => ?_⟩
    have F3 := F.mono s3
    cases hp : p t with
    | true =>
      refine iteT ⟨t, hm, hp, _, _, _, F3, fun v H4 s4 rv => ?_⟩
      have e4 : H4 D = some (.lst vs) := s4 _ _ (s3 _ _ e2)
      have hvl : vs.length < sizeLine := by
        have h1 := r2.length
        rw [List.length_map] at h1
        have h2 := List.length_filter_le p (ts.take n)
        rw [List.length_take] at h2
        exact small1000 (by omega)
      refine ⟨vs, e4, hvl, ts.length - (n + 1), by omega, rfl, hlt, ?_, vs ++ [v], upd_same, ?_⟩
      · intro b o z
        rw [upd_ne (ne_of_none z hD)]
        exact s4 _ _ (s3 _ _ (s2 _ _ z))
      · rw [filter_take ht, hp, List.map_append]
        have hAD : (fun b => Av own B b ∨ b = D) D := .inr rfl
        refine Reps.upd hAD e4 trivial _ _ ((r2.up (s3.trans s4)).append ?_)
        refine Reps.one (rv.av fun a h => ?_)
        exact va a h
    | false =>
      refine iteF ⟨ts.length - (n + 1), by omega, rfl, hlt, s2.trans s3, vs, s3 _ _ e2, ?_⟩
      rw [filter_take ht, hp]
      simpa using r2.up s3
  · have en : n = ts.length := by omega
    subst en
    refine .inl ⟨w.stop _ H2 sk (Nat.le_of_eq hdl), ?_⟩
    rw [List.take_length] at r2
    exact q D vs H2 (s1.trans s2) (s1.free hD) e2 r2
section
variable {iter elt : Expr} {ifs : List Expr} {scope : Scope} {x : Str} {px : Pos} {α : Type}
theorem ef_comp (i : Nat) (emb : α → PyData) (ts : List α) (p : α → Bool) (f : α → PyData) (hc : X.calm = true) (S : CompScope X scope [i]) (hN : X.N.Nodup) (hi : EiD X δ (.Name x px) iter (ts.map emb)) (hz : ts.length ≤ 1000)
    (ht : ∀ C s2 H2 fp t, t ∈ ts → EfD (compX X scope C s2 H2 fp) ((δ.set i .no).set i (.sh (emb t))) ifs (p t))
    (he : ∀ C s2 H2 fp t, t ∈ ts → p t = true → EvD (compX X scope C s2 H2 fp) ((δ.set i .no).set i (.sh (emb t))) elt (f t))
    (hno : ∀ oa c, δ[i]? ≠ some (.own oa c) := by intro _ _ z; cases z)
    (hx : X.N[i]? = some x := by rfl) (hl : Loc (relabel scope X.env) x := by first | exact Or.inl rfl | exact Or.inr rfl)
    (hf : decide (scope.names.lookup x = some .cell) = true ∨ (relabel scope X.env).names.lookup x = some .local := by first | exact Or.inr rfl | exact Or.inl rfl)
    (hs : ∀ x, foldedSetIterable iter X.env x = pure x := by intro _; rfl) : EvF X δ (.ListComp elt [⟨.Name x px, iter, ifs, 0⟩] scope pos) ((ts.filter p).map f) :=
  ef_of (pe_lcomp (is := [i]) (g := gName i) (tt := tTs X.K δ i emb ts p) (te := tEs X.K δ i emb ts p f) hc S hi (fun C s2 H2 fp => ⟨pg_name (X := compX X scope C s2 H2 fp) hN hx hl hf,
    fun pins s σ H Q I ⟨t, h, q⟩ => ht C s2 H2 fp t h pins s σ H Q I q, fun pins s σ H Q I ⟨t, h, hp, q⟩ => he C s2 H2 fp t h hp pins s σ H Q I q⟩) hs) fun Hb own B σ H Q E q => tcomp_of hz hno E q
end
theorem EnvO.share {K : PySem.W.Frag} {Hb : Hp} {own : Nat → List Addr} {B : Addr → Prop} {H : Hp} {σ : St} (E : EnvO K Hb own B H σ δ) {i : Nat} {oa : Option Addr} {c : Cont} {d : PyData} (hδ : δ[i]? = some (.own oa c)) (hd : c.dat = some d := by rfl) : EnvO K Hb (unown own i) B H σ (δ.set i (.sh d)) := by
  obtain ⟨v, h2, _, h4⟩ := E.ow i oa _ hδ
  have na : ∀ a ∈ own i, ¬ Av (unown own i) B a := fun a h1 z => by
    rcases z with z | ⟨j, z⟩
    · exact E.bb a z (E.ofr i a h1)
    · exact (unown_some z).1 (E.inj j i a (unown_some z).2 h1)
  refine ⟨E.base, by rw [List.length_set]; exact E.len, E.bb, fun j a h => E.ofr j a (unown_some h).2, fun j a h => ?_, unown_nd E.ond i, fun j k a h h' => E.inj j k a (unown_some h).2 (unown_some h').2, fun j e h => ?_, fun j oa2 c2 h => ?_⟩
  · obtain ⟨oa2, ys, q⟩ := E.oex j a (unown_some h).2
    exact ⟨oa2, ys, by rw [List.getElem?_set_ne (Ne.symm (unown_some h).1)]; exact q⟩
  · by_cases ji : j = i
    · subst ji
      rw [List.getElem?_set_self (List.getElem?_eq_some_iff.mp hδ).1] at h
      cases h
      exact ⟨v, h2, (h4.av unown_av).rep hd na⟩
    · rw [List.getElem?_set_ne (Ne.symm ji)] at h
      obtain ⟨w, k1, k2⟩ := E.sh j e h
      exact ⟨w, k1, k2.av unown_av⟩
  · by_cases ji : j = i
    · subst ji
      rw [List.getElem?_set_self (List.getElem?_eq_some_iff.mp hδ).1] at h
      cases h
    · rw [List.getElem?_set_ne (Ne.symm ji)] at h
      obtain ⟨w, k1, k2, k4⟩ := E.ow j oa2 c2 h
      exact ⟨w, k1, k2, by rw [unown_ne ji]; exact k4.av unown_av⟩
def scalD : PyData → Bool
  | .none => true
  | .bool _ => true
  | .int _ => true
  | .str _ => true
  | _ => false
theorem rep_scal {K : PySem.W.Frag} {A A' : Addr → Prop} {H : Hp} {d : PyData} {v : V} (hs : scalD d = true) (h : Rep K A H d v) : Rep K A' H d v := by
  cases d <;> first | exact h | cases hs
theorem reps_scal {K : PySem.W.Frag} {A A' : Addr → Prop} {H : Hp} : ∀ {ds : List PyData} {vs : List V}, ds.all scalD = true → Reps K A H ds vs → Reps K A' H ds vs
  | [], _, _, h => h
  | x :: xs, _, hs, h => by
    rw [List.all_cons, Bool.and_eq_true] at hs
    obtain ⟨v, r, h1, h2, h3⟩ := h
    exact ⟨v, r, h1, rep_scal hs.1 h2, reps_scal hs.2 h3⟩
theorem ev_share (i : Nat) {oa : Option Addr} (hδ : δ[i]? = some (.own oa (.l xs))) (h : EvD X (δ.set i (.sh (.list xs))) e d) (hs : scalD d = true := by rfl) : EvD X δ e d :=
  ev_of h fun Hb own B σ H Q E q => ⟨Hb, _, B, E.share hδ, fun v H' s1 r => q v H' s1 (rep_scal hs r)⟩
theorem et_share (i : Nat) {k : Bool} {oa : Option Addr} (hδ : δ[i]? = some (.own oa (.l xs))) (h : EtD X (δ.set i (.sh (.list xs))) e k) : EtD X δ e k :=
  et_of h fun Hb own B σ H Q E q => ⟨Hb, _, B, E.share hδ, q⟩
theorem ef_share (i : Nat) {oa : Option Addr} (hδ : δ[i]? = some (.own oa (.l xs))) (h : EvF X (δ.set i (.sh (.list xs))) e ys) (hs : ys.all scalD = true) : EvF X δ e ys :=
  ef_of h fun Hb own B σ H Q E q => ⟨Hb, _, B, E.share hδ, fun a vs H' s1 hn ha r => q a vs H' s1 hn ha (reps_scal hs r)⟩
theorem ev_shareN (i : Nat) {oa : Option Addr} {t : OT} {f : PyData} (hδ : δ[i]? = some (.own oa (.n t))) (hd : t.dat = some f) (h : EvD X (δ.set i (.sh f)) e d) (hs : scalD d = true := by rfl) : EvD X δ e d :=
  ev_of h fun Hb own B σ H Q E q => ⟨Hb, _, B, E.share hδ hd, fun v H' s1 r => q v H' s1 (rep_scal hs r)⟩
theorem et_shareN (i : Nat) {k : Bool} {oa : Option Addr} {t : OT} {f : PyData} (hδ : δ[i]? = some (.own oa (.n t))) (hd : t.dat = some f) (h : EtD X (δ.set i (.sh f)) e k) : EtD X δ e k :=
  et_of h fun Hb own B σ H Q E q => ⟨Hb, _, B, E.share hδ hd, q⟩
theorem ef_shareN (i : Nat) {oa : Option Addr} {t : OT} {f : PyData} (hδ : δ[i]? = some (.own oa (.n t))) (hd : t.dat = some f) (h : EvF X (δ.set i (.sh f)) e ys) (hs : ys.all scalD = true) : EvF X δ e ys :=
  ef_of h fun Hb own B σ H Q E q => ⟨Hb, _, B, E.share hδ hd, fun a vs H' s1 hn ha r => q a vs H' s1 hn ha (reps_scal hs r)⟩
end
end L2
end
section
namespace L2
open PySem PySem.Spec PyProof.Rows
inductive Out where
  | nx (δ : Dn)
  | rt (d : PyData)
  /-- a new list is handed back -/
  | rf (xs : List PyData)
  /-- handed back, what is owned still known -/
  | rw (δ : Dn) (d : PyData)
  /-- a new thing with parts of its own is handed back -/
  | rn (t : OT)
  | bk (δ : Dn)
  | ct (δ : Dn)
def Post (K : PySem.W.Frag) (Hb : Hp) (B : Addr → Prop) (D : Ends) : Out → Prop
  | .nx δ => ∀ own σ H, EnvO K Hb own B H σ δ → D.nx σ H
  | .bk δ => ∀ own σ H, EnvO K Hb own B H σ δ → D.bk σ H
  | .ct δ => ∀ own σ H, EnvO K Hb own B H σ δ → D.ct σ H
  | .rt d => ∀ v H, Same Hb H → Rep K B H d v → D.rt v H
  | .rf xs => ∀ a vs H, Same Hb H → Hb a = none → H a = some (.lst vs) → Reps K (fun b => B b ∨ b = a) H xs vs → D.rt (.ref a) H
  | .rw δ d => ∀ own σ H v, EnvO K Hb own B H σ δ → Rep K (Av own B) H d v → D.rt v H
  | .rn t => ∀ v as H, Same Hb H → (∀ a ∈ as, Hb a = none) → as.Nodup → RepO K (fun b => B b ∨ b ∈ as) H t v as → D.rt v H
def tS (K : PySem.W.Frag) (δ : Dn) (o : Out) : TS := fun D σ H => ∃ Hb own B, EnvO K Hb own B H σ δ ∧ Post K Hb B D o
def SR (X : Cx) (δ : Dn) (st : List Stmt) (o : Out) : Prop := PSs X st (tS X.K δ o)
def S1 (X : Cx) (δ : Dn) (st : Stmt) (o : Out) : Prop := PS X st (tS X.K δ o)
theorem Post.rebase {K : PySem.W.Frag} {Hb : Hp} {own : Nat → List Addr} {B : Addr → Prop} {H : Hp} {σ : St} {δ : Dn} {D : Ends} {o : Out} (E : EnvO K Hb own B H σ δ) (P : Post K Hb B D o) : Post K (keepB own H) B D o := by
  have sb : Same Hb (keepB own H) := fun b u q => keepB_of (E.base b u q) fun i hi => by rw [E.ofr i b hi] at q; cases q
  cases o with
  | nx δ' => exact fun own' σ' H' E' => P own' σ' H' (E.unbase' E')
  | bk δ' => exact fun own' σ' H' E' => P own' σ' H' (E.unbase' E')
  | ct δ' => exact fun own' σ' H' E' => P own' σ' H' (E.unbase' E')
  | rt d => exact fun v H' s r => P v H' (sb.trans s) r
  | rf xs => exact fun a vs H' s hn ha r => P a vs H' (sb.trans s) (sb.free hn) ha r
  | rw δ' d => exact fun own' σ' H' v E' r => P own' σ' H' v (E.unbase' E') r
  | rn t => exact fun v as H' s hn nd r => P v as H' (sb.trans s) (fun a ha => sb.free (hn a ha)) nd r
section
variable {X : Cx} {δ δ1 : Dn} {a b c e tg : Expr} {d da db : PyData} {pos : Pos} {xs ys : List PyData} {st : Stmt} {rest body els : List Stmt} {o : Out} {x y : Str} {i j : Nat}
theorem sr_nil : SR X δ [] (.nx δ) := fun pins s σ H D I ⟨Hb, own, B, E, P⟩ => pss_nil pins s σ H D I (P own σ H E)
theorem sr_cons (h1 : S1 X δ st (.nx δ1)) (h2 : SR X δ1 rest o) : SR X δ (st :: rest) o :=
  fun pins s σ H D I ⟨Hb, own, B, E, P⟩ => pss_cons h1 h2 pins s σ H D I ⟨Hb, own, B, E, fun own' σ' H' E' => ⟨Hb, own', B, E', P⟩⟩
theorem sr_one (h1 : S1 X δ st o) : SR X δ [st] o := pss_one h1
theorem sr_rt (h1 : S1 X δ st (.rt d)) : SR X δ (st :: rest) (.rt d) := fun pins s σ H D I ⟨Hb, own, B, E, P⟩ => pss_cons h1 (pss_never (sts := rest)) pins s σ H D I ⟨Hb, own, B, E, P⟩
theorem sr_rf (h1 : S1 X δ st (.rf xs)) : SR X δ (st :: rest) (.rf xs) := fun pins s σ H D I ⟨Hb, own, B, E, P⟩ => pss_cons h1 (pss_never (sts := rest)) pins s σ H D I ⟨Hb, own, B, E, P⟩
theorem sr_eq {o' : Out} (h : SR X δ body o) (q : o = o') : SR X δ body o' := q ▸ h
theorem s1_eq {o' : Out} (h : S1 X δ st o) (q : o = o') : S1 X δ st o' := q ▸ h
theorem s1_if {k : Bool} (hc : EtD X δ c k) (h1 : k = true → SR X δ body o) (h2 : k = false → SR X δ els o) : S1 X δ (.If c body els pos) o := by
  cases k with
  | true => exact fun pins s σ H D I ⟨Hb, own, B, E, P⟩ => ps_if hc (h1 rfl) (pss_never (sts := els)) pins s σ H D I ⟨Hb, own, B, E, fun H' s1 => iteT ⟨Hb, own, B, E.mono s1, P⟩⟩
  | false => exact fun pins s σ H D I ⟨Hb, own, B, E, P⟩ => ps_if hc (pss_never (sts := body)) (h2 rfl) pins s σ H D I ⟨Hb, own, B, E, fun H' s1 => iteF ⟨Hb, own, B, E.mono s1, P⟩⟩
theorem sr_if_out {k : Bool} (hc : EtD X δ c k) (h1 : k = true → SR X δ body o) (h2 : k = false → SR X δ rest o) (hn : ∀ δ', o ≠ .nx δ' := by intro _ z; cases z) : SR X δ (.If c body [] pos :: rest) o := by
  cases k with
  | true =>
    intro pins s σ H D I ⟨Hb, own, B, E, P⟩
    refine pss_cons (s1_if (els := []) hc (fun _ => h1 rfl) (fun z => nomatch z)) (pss_never (sts := rest)) pins s σ H D I ⟨Hb, own, B, E, ?_⟩
    cases o with
    | nx δ' => exact absurd rfl (hn δ')
    | _ => exact P
  | false => exact sr_cons (s1_if (els := []) hc (fun z => nomatch z) fun _ => sr_nil) (h2 rfl)
theorem s1_set (i : Nat) {px : Pos} (hN : X.N.Nodup) (he : EvD X δ e d) (hi : X.N[i]? = some x := by rfl) (hx : Loc X.env.scope x := by first | exact Or.inl rfl | exact Or.inr rfl) (hs : swapsWith e (some (.Name x px)) pos.line X.env = pure false := by rfl) (hf : X.fn x = true ∨ X.env.scope.names.lookup x = some .local := by first | exact .inl rfl | exact .inr rfl | assumption) :
    S1 X δ (.Assign [.Name x px] e pos) (.nx (δ.set i (.sh d))) :=
  fun pins s σ H D I ⟨Hb, own, B, E, P⟩ => ps_set hN hi hx he hs hf pins s σ H D I ⟨Hb, own, B, E, fun v H' s1 r => P _ _ _ ((E.mono s1).setSh r)⟩
theorem s1_setF (i : Nat) {px : Pos} (hN : X.N.Nodup) (he : EvF X δ e xs) (hl : i < δ.length := by exact Nat.le_of_ble_eq_true rfl) (hi : X.N[i]? = some x := by rfl) (hx : Loc X.env.scope x := by first | exact Or.inl rfl | exact Or.inr rfl) (hs : swapsWith e (some (.Name x px)) pos.line X.env = pure false := by rfl) (hf : X.fn x = true ∨ X.env.scope.names.lookup x = some .local := by first | exact .inl rfl | exact .inr rfl | assumption) :
    S1 X δ (.Assign [.Name x px] e pos) (.nx (δ.set i (.ow xs))) :=
  fun pins s σ H D I ⟨Hb, own, B, E, P⟩ => ps_set hN hi hx he hs hf pins s σ H D I ⟨Hb, own, B, E, fun a vs H' s1 hn ha r => P _ _ _ (E.setOw s1 hl hn ha r)⟩
theorem s1_setC {α : Type} (j i : Nat) (emb : α → PyData) (ts : List α) (p : α → Bool) (f : α → PyData) {iter elt : Expr} {ifs : List Expr} {scope : Scope} {px py cpos : Pos} (hc : X.calm = true) (S : CompScope X scope [i]) (hN : X.N.Nodup) (hi : EiD X δ (.Name x px) iter (ts.map emb)) (hz : ts.length ≤ 1000)
    (ht : ∀ C s2 H2 fp t, t ∈ ts → EfD (compX X scope C s2 H2 fp) ((δ.set i .no).set i (.sh (emb t))) ifs (p t))
    (he : ∀ C s2 H2 fp t, t ∈ ts → p t = true → EvD (compX X scope C s2 H2 fp) ((δ.set i .no).set i (.sh (emb t))) elt (f t))
    (hno : ∀ oa c, δ[i]? ≠ some (.own oa c) := by intro _ _ z; cases z) (hjl : j < δ.length := by exact Nat.le_of_ble_eq_true rfl)
    (hx : X.N[i]? = some x := by rfl) (hl : Loc (relabel scope X.env) x := by first | exact Or.inl rfl | exact Or.inr rfl)
    (hf : decide (scope.names.lookup x = some .cell) = true ∨ (relabel scope X.env).names.lookup x = some .local := by first | exact Or.inr rfl | exact Or.inl rfl)
    (hj : X.N[j]? = some y := by rfl) (hy : X.env.scope.names.lookup y = some .local := by rfl)
    (hsw : swapsWith (.ListComp elt [⟨.Name x px, iter, ifs, 0⟩] scope cpos) (some (.Name y py)) pos.line X.env = pure true := by rfl)
    (hs : ∀ x, foldedSetIterable iter X.env x = pure x := by intro _; rfl) : S1 X δ (.Assign [.Name y py] (.ListComp elt [⟨.Name x px, iter, ifs, 0⟩] scope cpos) pos) (.nx (δ.set j (.ow ((ts.filter p).map f)))) :=
  fun pins s σ H D I ⟨Hb, own, B, E, P⟩ => ps_setComp (is := [i]) (g := gName i) (tt := tTs X.K δ i emb ts p) (te := tEs X.K δ i emb ts p f) hc S hi (fun C s2 H2 fp => ⟨pg_name (X := compX X scope C s2 H2 fp) hN hx hl hf,
    fun pins s σ H Q I ⟨t, h, q⟩ => ht C s2 H2 fp t h pins s σ H Q I q, fun pins s σ H Q I ⟨t, h, hp, q⟩ => he C s2 H2 fp t h hp pins s σ H Q I q⟩) hN hj hy hsw hs pins s σ H D I
    (tcomp_of hz hno E fun a vs H' s1 hn ha r => P _ _ _ (E.setOw s1 hjl hn ha r))
theorem s1_ret (he : EvD X δ e d) : S1 X δ (.Return (some e) pos) (.rt d) :=
  fun pins s σ H D I ⟨Hb, own, B, E, P⟩ => ps_ret he pins s σ H D I ⟨Hb, own, B, E, fun v H' s1 r => P v H' (E.base.trans s1) (r.av fun _ h => .inl h)⟩
theorem sr_rn {t : OT} (h1 : S1 X δ st (.rn t)) : SR X δ (st :: rest) (.rn t) := fun pins s σ H D I ⟨Hb, own, B, E, P⟩ => pss_cons h1 (pss_never (sts := rest)) pins s σ H D I ⟨Hb, own, B, E, P⟩
theorem s1_retO (i : Nat) {px : Pos} {oa : Option Addr} (hδ : δ[i]? = some (.own oa (.l xs))) (hN : X.N[i]? = some x := by rfl) (hv : Vis X.env.scope x := by first | exact Or.inl rfl | exact Or.inr (Or.inl rfl) | exact Or.inr (Or.inr rfl)) (hd : (x == ("__debug__" : Str)) = false := by decide)
    (hcd : (x == ("__classdict__" : Str)) = false := by decide) : S1 X δ (.Return (some (.Name x px)) pos) (.rf xs) :=
  fun pins s σ H D I ⟨Hb, own, B, E, P⟩ => ps_ret (pe_var hN hv hd hcd) pins s σ H D I (by
    obtain ⟨a, vs, h1, h2, h3, h4⟩ := E.owl hδ
    exact ⟨_, h2, P a vs H E.base (E.ofr i a h1) h3 (h4.av fun b h => h.elim (fun z => .inl z) fun z => .inr ⟨i, by rw [z]; exact h1⟩)⟩)
theorem sr_share (i : Nat) {oa : Option Addr} (hδ : δ[i]? = some (.own oa (.l xs))) (h : SR X (δ.set i (.sh (.list xs))) body o) : SR X δ body o := fun pins s σ H D I ⟨Hb, own, B, E, P⟩ => h pins s σ H D I ⟨Hb, _, B, E.share hδ, P⟩
theorem s1_append (i : Nat) {px apos cpos : Pos} {oa : Option Addr} (hδ : δ[i]? = some (.own oa (.l xs))) (he : EvD X δ e d) (hz : xs.length < 1000) (hN : X.N[i]? = some x := by rfl) (hv : Vis X.env.scope x := by first | exact Or.inl rfl | exact Or.inr (Or.inl rfl) | exact Or.inr (Or.inr rfl)) (hd : (x == ("__debug__" : Str)) = false := by decide)
    (hcd : (x == ("__classdict__" : Str)) = false := by decide) (hst : starEach [e] X.env = [(false, eval e X.env)] := by rfl)
    (hb : ∀ {te : TE} {t : TA}, PE X (.Name x px) te → PA X [e] t → PE X (.Call (.Attribute (.Name x px) "append" apos) [e] [] cpos) (tBM X.K "list" rAppend te t) := by exact fun h1 h2 => pe_bm PySem.F.plainAttrs_list PySem.F.slot_list_append PySem.F.type_list_append mt_append h1 h2)
    (hsw : swapsWith (.Call (.Attribute (.Name x px) "append" apos) [e] [] cpos) none pos.line X.env = pure false := by rfl) :
    S1 X δ (.Expr (.Call (.Attribute (.Name x px) "append" apos) [e] [] cpos) pos) (.nx (δ.set i (.own oa (.l (xs ++ [d]))))) :=
  fun pins s σ H D I ⟨Hb, own, B, E, P⟩ => ps_expr (hb (pe_var hN hv hd hcd) (ea_cons he ea_nil (by rw [hst]; rfl))) hsw pins s σ H D I (by
    obtain ⟨a, vs, h1, h2, h3, h4⟩ := E.owl hδ
    refine ⟨_, h2, .inl ⟨rfl, vs, SqL.of h3⟩, Hb, own, B, E, fun us H' s1 r => ?_⟩
    obtain ⟨v, r', rfl, rv, e2⟩ := r
    cases e2
    exact ⟨a, vs, v, rfl, rfl, s1 _ _ h3, by rw [← h4.length]; exact small1000 (Nat.le_of_lt hz), P _ _ _ ((E.mono s1).write hδ h1 ((h4.up s1).append (Reps.one rv)))⟩)
theorem Kp.young {A A' : Addr → Prop} {Hk : Hp} (av : ∀ a, A' a → A a ∨ Hk a = none) : Kp A A' Hk Hk :=
  ⟨fun a _ h q => ⟨fun z => (av a z).elim h fun y => (by rw [y] at q; cases q), q⟩, fun _ _ q => q, fun _ _ _ q => q⟩
theorem Rep.young {K : PySem.W.Frag} {A A' : Addr → Prop} {Hk H : Hp} {d : PyData} {v : V} (av : ∀ a, A' a → A a ∨ Hk a = none) (h : Rep K A Hk d v) (e : Same Hk H) : Rep K A' H d v := (Rep.kp (.young av) d v h).up e
theorem drop_cons {α : Type} {l : List α} {n : Nat} {d : α} (h : l[n]? = some d) : l.drop n = d :: l.drop (n + 1) := by
  obtain ⟨h1, rfl⟩ := List.getElem?_eq_some_iff.mp h
  exact List.drop_eq_getElem_cons h1
theorem sr_skip (hc : EtD X δ c false) (h : SR X δ rest o) : SR X δ (.If c body [] pos :: rest) o := sr_cons (s1_if (els := []) hc (fun z => nomatch z) fun _ => sr_nil) h
end
end L2
end
section
namespace L2
open PySem PySem.Spec PyProof.Rows
def spP (K : PySem.W.Frag) (R : List PyData → PyData → Prop) : Sp := fun vs H Q _ => ∃ B ds d, (∀ a, B a → H a ≠ none) ∧ Reps K B H ds vs ∧ R ds d ∧ ∀ v H', Same H H' → Rep K B H' d v → Q v H'
def spL (K : PySem.W.Frag) (R : List PyData → List PyData → Prop) : Sp := fun vs H Q _ => ∃ B ds xs, (∀ a, B a → H a ≠ none) ∧ Reps K B H ds vs ∧ R ds xs ∧
  ∀ a us H', Same H H' → H a = none → H' a = some (.lst us) → Reps K (fun b => B b ∨ b = a) H' xs us → Q (.ref a) H'
structure Fn (P : Program) (w : World) (K : PySem.W.Frag) (mg : Str → Option Value) (base : Heap) (name : Str) (k : Nat) (ps : List Str) (sp : Sp) : Prop where
  ex : ∃ f fd, FnOk P w K mg base CX0 k f fd ps sp ∧ mg name = some (.ref f) ∧ PySem.W.keepIn K (.ref f) = true ∧ Binds K fd ps []
section
variable {X : Cx} {δ : Dn} {e : Expr} {es : List Expr} {d : PyData} {ds xs : List PyData} {p pos : Pos} {name : Str} {k j : Nat} {ps : List Str}
theorem ev_call {R : List PyData → PyData → Prop} (G : Fn X.prog X.w X.K X.mg X.base name j ps (spP X.K R)) (hr : Room k X.A) (hjk : j ≤ k) (hg : Gl X name) (ha : EaD X δ (e :: es) ds) (hR : R ds d) (hdb : (name == ("__debug__" : Str)) = false := by decide)
    (he : starEach (e :: es) X.env = (false, eval e X.env) :: starEach es X.env := by rfl) (hpl : (backTo pos (starEach es X.env)).any (·.1) = false := by rfl) : EvD X δ (.Call (.Name name p) (e :: es) [] pos) d := by
  obtain ⟨f, fd, h1, h2, h3, h4⟩ := G.ex
  refine ev_of (pe_call h1 (hr.mono hjk) hg h2 h3 h4 .nil pass0 ha hdb he hpl) fun Hb own B σ H Q E q => ⟨Hb, own, B, E, fun vs H1 s1 rv => ?_⟩
  show spP X.K R (vs ++ []) H1 Q E0
  rw [List.append_nil]
  exact ⟨Av own B, ds, d, fun a z => (E.mono s1).alive z, rv, hR, fun v H' s2 r => q v H' (s1.trans s2) r⟩
theorem ef_call {R : List PyData → List PyData → Prop} (G : Fn X.prog X.w X.K X.mg X.base name j ps (spL X.K R)) (hr : Room k X.A) (hjk : j ≤ k) (hg : Gl X name) (ha : EaD X δ (e :: es) ds) (hR : R ds xs) (hdb : (name == ("__debug__" : Str)) = false := by decide)
    (he : starEach (e :: es) X.env = (false, eval e X.env) :: starEach es X.env := by rfl) (hpl : (backTo pos (starEach es X.env)).any (·.1) = false := by rfl) : EvF X δ (.Call (.Name name p) (e :: es) [] pos) xs := by
  obtain ⟨f, fd, h1, h2, h3, h4⟩ := G.ex
  refine ef_of (pe_call h1 (hr.mono hjk) hg h2 h3 h4 .nil pass0 ha hdb he hpl) fun Hb own B σ H Q E q => ⟨Hb, own, B, E, fun vs H1 s1 rv => ?_⟩
  show spL X.K R (vs ++ []) H1 Q E0
  rw [List.append_nil]
  exact ⟨Av own B, ds, xs, fun a z => (E.mono s1).alive z, rv, hR, fun a us H' s2 hn ha r => q a us H' (s1.trans s2) (s1.free hn) ha r⟩
end
def startD (N : List Str) (ds : List PyData) : Dn := ds.map .sh ++ List.replicate (N.length - ds.length) .no
theorem env_start {K : PySem.W.Frag} {H : Hp} {B : Addr → Prop} {N : List Str} {ds : List PyData} {vs : List V} (hB : ∀ a, B a → H a ≠ none) (r : Reps K B H ds vs) : EnvO K H (fun _ => []) B H (start N vs) (startD N ds) := by
  have hl := r.length
  have av : ∀ a, Av (fun _ => []) B a → B a := fun a h => h.elim id fun ⟨_, z⟩ => (nomatch z)
  refine ⟨Same.refl H, by simp [start, startD, hl], hB, fun _ _ z => (nomatch z), fun _ _ z => (nomatch z), fun _ => List.nodup_nil, fun _ _ _ z => (nomatch z), fun i d h => ?_, fun i oa c h => ?_⟩
  · unfold startD at h
    by_cases hi : i < ds.length
    · rw [List.getElem?_append_left (by simpa using hi), List.getElem?_map] at h
      cases q : ds[i]? with
      | none => rw [q] at h; cases h
      | some d' =>
        rw [q] at h
        cases h
        obtain ⟨v, hv, rv⟩ := r.at q
        refine ⟨v, ?_, rv.av av⟩
        unfold start
        rw [List.getElem?_append_left (by rw [List.length_map, ← hl]; exact hi), List.getElem?_map, hv]
        rfl
    · rw [List.getElem?_append_right (by simpa using hi), List.getElem?_replicate] at h
      split at h <;> cases h
  · unfold startD at h
    by_cases hi : i < ds.length
    · rw [List.getElem?_append_left (by simpa using hi), List.getElem?_map] at h
      cases q : ds[i]? with
      | none => rw [q] at h; cases h
      | some d' => rw [q] at h; cases h
    · rw [List.getElem?_append_right (by simpa using hi), List.getElem?_replicate] at h
      split at h <;> cases h
abbrev bx (P : Program) (w : World) (K : PySem.W.Frag) (mg : Str → Option Value) (base : Heap) (N : List Str) (qual : Str) (st : Stmt) (f : Addr) (cdv : Value) (A : Around) (outer : List Env) (s : Shared) (H : Hp) (E : XK) : Cx :=
  (cxOf CX0 P w K mg base N qual (defScope st) f cdv A outer s H E).nox
section
variable {P : Program} {w : World} {K : PySem.W.Frag} {mg : Str → Option Value} {base : Heap} {x qual : Str} {st : Stmt} {f : Addr} {fd : FuncData} {N ps : List Str} {k : Nat}
theorem fn_P {R : List PyData → PyData → Prop} (F : Fun K x qual st f fd) (S : FnScope N ps (defScope st)) (hm : mg x = some (.ref f)) (hb : Binds K fd ps []) (hl : ∀ ds d, R ds d → ds.length = ps.length)
    (body : ∀ cdv A outer s H E, Room k (bx P w K mg base N qual st f cdv A outer s H E).A → ∀ ds d, R ds d → SR (bx P w K mg base N qual st f cdv A outer s H E) (startD N ds) (defBody st) (.rt d) ∨ (SR (bx P w K mg base N qual st f cdv A outer s H E) (startD N ds) (defBody st) (.rf (match d with | .list xs => xs | _ => [])) ∧ ∃ xs, d = .list xs)) :
    Fn P w K mg base x (k + 1) ps (spP K R) := by
  refine ⟨f, fd, F.ok S (fun vs H Q E h => ?_) (fun cdv A outer s H vs Q E hr h => ?_), hm, F.kp, hb⟩
  · obtain ⟨B, ds, d, _, r, hR, _⟩ := h
    rw [← r.length]; exact hl ds d hR
  · obtain ⟨B, ds, d, hB, r, hR, q⟩ := h
    rcases body cdv A outer s H E hr ds d hR with h | ⟨h, xs, rfl⟩
    · exact ⟨_, h, H, _, B, env_start hB r, fun v H' s1 rv => q v H' s1 rv⟩
    · exact ⟨_, h, H, _, B, env_start hB r, fun a vs H' s1 hn ha rv => q _ H' s1 ⟨a, vs, rfl, fun z => hB a z hn, ha, rv.av fun _ z => .inl z⟩⟩
theorem fn_L {R : List PyData → List PyData → Prop} (F : Fun K x qual st f fd) (S : FnScope N ps (defScope st)) (hm : mg x = some (.ref f)) (hb : Binds K fd ps []) (hl : ∀ ds d, R ds d → ds.length = ps.length)
    (body : ∀ cdv A outer s H E, Room k (bx P w K mg base N qual st f cdv A outer s H E).A → ∀ ds xs, R ds xs → SR (bx P w K mg base N qual st f cdv A outer s H E) (startD N ds) (defBody st) (.rf xs)) :
    Fn P w K mg base x (k + 1) ps (spL K R) := by
  refine ⟨f, fd, F.ok S (fun vs H Q E h => ?_) (fun cdv A outer s H vs Q E hr h => ?_), hm, F.kp, hb⟩
  · obtain ⟨B, ds, d, _, r, hR, _⟩ := h
    rw [← r.length]; exact hl ds d hR
  · obtain ⟨B, ds, xs, hB, r, hR, q⟩ := h
    exact ⟨_, body cdv A outer s H E hr ds xs hR, H, _, B, env_start hB r, fun a vs H' s1 hn ha rv => q a vs H' s1 hn ha rv⟩
end
def spLaw (K : PySem.W.Frag) : Sp := fun vs H Q _ => ∃ (a : Addr) (ns : List Int), vs = [.ref a] ∧ ScL K H a (ns.map V.int) ∧ ns.length ≤ 63 ∧ ∀ H', Q (.bl true) H'
structure Blt (mg : Str → Option Value) : Prop where
  len : mg "len" = none
  list : mg "list" = none
  range : mg "range" = none
  any : mg "any" = none
  all : mg "all" = none
  isinstance : mg "isinstance" = none
  int : mg "int" = none
  bool : mg "bool" = none
  max : mg "max" = none
  min : mg "min" = none
  sorted : mg "sorted" = none
  tuple : mg "tuple" = none
  set : mg "set" = none
  enumerate : mg "enumerate" = none
  sum : mg "sum" = none
  str : mg "str" = none
  dict : mg "dict" = none
  ValueError : mg "ValueError" = none
end L2
end
section
namespace L2
open PySem PySem.Spec PyProof.Rows
def tyD : PyData → Value
  | .none => .type "NoneType"
  | .bool _ => .type "bool"
  | .int _ => .type "int"
  | .str _ => .type "str"
  | .list _ => .type "list"
  | .tuple _ => .type "tuple"
  | .dict _ => .type "list"
theorem rep_ty {K : PySem.W.Frag} {A : Addr → Prop} {H : Hp} {d : PyData} {v : V} (hd : d.canLay0 = true) (h : Rep K A H d v) : TyOf K H v (tyD d) := by
  cases d with
  | none => cases h; exact .non
  | bool _ => cases h; exact .bl _
  | int _ => cases h; exact .int _
  | str _ => cases h; exact .str _
  | list _ => obtain ⟨_, _, rfl, _, h, _⟩ := h; exact .lst h
  | tuple _ => obtain ⟨_, _, rfl, h, _⟩ := h; exact .tup h
  | dict _ => exact nomatch hd
section
variable {X : Cx} {δ : Dn} {a b c e tg : Expr} {d da db : PyData} {pos : Pos} {xs ys : List PyData} {k : Nat}
theorem call_isi : CallR X (.builtin "isinstance") (fun xs H Q => ∃ (x : V) (T : String) (t : Value) (k : Bool), xs = [x, .ty T] ∧ TyOf X.K H x t ∧ PySem.W.kitOne X.K t (.type T) = some k ∧ Q (.bl k) H) := by
  intro pins s σ H xs us Q I rv h
  obtain ⟨x, T, t, k, rfl, ty, e, q⟩ := h
  obtain ⟨u, v, rfl, ru, rv'⟩ := rv.two
  cases rv'
  exact isinst_ok I ru ty e fun tk => ⟨.bl k, H, I.tok tk, rfl, q⟩
theorem ev_isi {p p' : Pos} {T : Str} {T' : String} {k : Bool} (hg : Gl X "isinstance") (hm : X.mg "isinstance" = none) (ha : EvD X δ a d) (hd : d.canLay0 = true) (hgT : Gl X T) (hmT : X.mg T = none) (hvT : bootBuiltins T = some (.type T')) (hk : PySem.W.kitOne X.K (tyD d) (.type T') = some k)
    (hn : T ≠ "__name__" := by decide) (hdT : (T == ("__debug__" : Str)) = false := by decide) (hs : starEach [a, .Name T p'] X.env = [(false, eval a X.env), (false, eval (.Name T p') X.env)] := by rfl) (hs2 : starEach [.Name T p'] X.env = [(false, eval (.Name T p') X.env)] := by rfl) :
    EvD X δ (.Call (.Name "isinstance" p) [a, .Name T p'] [] pos) (.bool k) :=
  ev_of (pe_callB call_isi hg hm rfl (pa_cons ha (pa_cons (pe_bltn (v := .ty T') hgT hmT hvT rfl hn hdT) pa_nil (by rw [hs2]; rfl)) (by rw [hs, hs2])) (he := by rw [hs, hs2]) (hpl := by rw [hs2]; rfl)) fun Hb own B σ H Q E q =>
    ⟨Hb, own, B, E, fun v H' s1 r => ⟨v, T', tyD d, k, rfl, rep_ty hd r, hk, q _ H' s1 rfl⟩⟩
def rgI (lo : Int) (n : Nat) : List Int := (List.range n).map fun (i : Nat) => lo + i
theorem rgD_eq (lo : Int) (n : Nat) : rgD lo n = (rgI lo n).map .int := by simp [rgD, rgI]
theorem rgI_len (lo : Int) (n : Nat) : (rgI lo n).length = n := by simp [rgI]
theorem mem_rgI {lo : Int} {n : Nat} {i : Int} : i ∈ rgI lo n ↔ lo ≤ i ∧ i < lo + n := by
  simp only [rgI, List.mem_map, List.mem_range]
  constructor
  · rintro ⟨j, hj, rfl⟩; omega
  · rintro ⟨h1, h2⟩; exact ⟨(i - lo).toNat, by omega, by omega⟩
theorem sm_int (i : Int) : Sm (.int i) := ⟨rfl, by show 0 ≤ 20; decide⟩
theorem depAll {xs : List PyData} {n : Nat} (h : ∀ x ∈ xs, x.depth ≤ n) : PyData.depthAll xs ≤ n := by
  induction xs with
  | nil => exact Nat.zero_le _
  | cons x r ih =>
    rw [PyData.depthAll]
    exact Nat.max_le.mpr ⟨h x List.mem_cons_self, ih fun y hy => h y (List.mem_cons_of_mem _ hy)⟩
theorem eqv_int (i j : Int) : PyData.eqv (.int i) (.int j) = decide (i = j) := by
  show (i == j) = decide (i = j)
  by_cases h : i = j
  · subst h; simp
  · simp [h]
theorem iD_len (ns : List Int) : (iD ns).length = ns.length := List.length_map _
theorem iD_get {ns : List Int} {i : Nat} {n : Int} (h : ns[i]? = some n) : (iD ns)[i]? = some (.int n) := by unfold iD; rw [List.getElem?_map, h]; rfl
theorem et_eqI {i j : Int} (hr : Room k X.A) (ha : EvD X δ a (.int i)) (hb : EvD X δ b (.int j)) : EtD X δ (.Compare a [.Eq] [b] pos) (decide (i = j)) := et_eq (et_eqD hr ha hb (sm_int i) rfl) (eqv_int i j)
theorem et_neI {i j : Int} (hr : Room k X.A) (ha : EvD X δ a (.int i)) (hb : EvD X δ b (.int j)) : EtD X δ (.Compare a [.NotEq] [b] pos) (!decide (i = j)) := et_eq (et_neD hr ha hb (sm_int i) rfl) (congrArg not (eqv_int i j))
theorem ei_rangeI {p : Pos} {n : Int} (hg : Gl X "range") (hm : X.mg "range" = none) (ha : EvD X δ a (.int n)) (h1 : -(2 ^ 62) ≤ n) (h2 : n < 2 ^ 62) (hs : starEach [a] X.env = [(false, eval a X.env)] := by rfl) : EiD X δ tg (.Call (.Name "range" p) [a] [] pos) ((rgI 0 n.toNat).map .int) :=
  rgD_eq 0 n.toNat ▸ ei_range1 hg hm ha h1 h2 hs
end
end L2
namespace L2
open PySem PySem.Spec PyProof.Rows
def csOk (sc : Scope) (N : List Str) (scope : Scope) (is : List Nat) : Bool :=
  (scope.kind == .function) && decide (scope.names.map (·.1)).Nodup
    && scope.names.all (fun p => !(p.2 == .free) || (sc.names.lookup p.1 == some .cell) || (sc.names.lookup p.1 == some .free))
    && N.zipIdx.all fun p => !((scope.names.lookup p.1 == some .local) || (scope.names.lookup p.1 == some .cell)) || is.contains p.2
theorem cs_mk {X : Cx} {scope : Scope} {is : List Nat} (sc : Scope) (N : List Str) (hsc : X.env.scope = sc) (hN : X.N = N) (h : csOk sc N scope is = true) : CompScope X scope is := by
  unfold csOk at h
  rw [Bool.and_eq_true, Bool.and_eq_true, Bool.and_eq_true] at h
  obtain ⟨⟨⟨h1, h2⟩, h3⟩, h4⟩ := h
  refine ⟨by simpa using h1, of_decide_eq_true h2, fun p hp hf => ?_, fun p hp ho => ?_⟩
  · have := List.all_eq_true.mp h3 p hp
    rw [hsc]
    rw [hf] at this
    simpa using this
  · rw [hN] at hp
    have := List.all_eq_true.mp h4 p hp
    rcases ho with z | z
    · rw [z] at this; simpa using this
    · rw [z] at this; simpa using this
end L2
namespace L2
open PySem PySem.Spec PyProof.Rows
theorem ei_rangeN {X : Cx} {δ : Dn} {a tg : Expr} {p pos : Pos} {n : Nat} (hg : Gl X "range") (hm : X.mg "range" = none) (ha : EvD X δ a (.int n)) (h2 : n ≤ 1000) (hs : starEach [a] X.env = [(false, eval a X.env)] := by rfl) : EiD X δ tg (.Call (.Name "range" p) [a] [] pos) ((rgI 0 n).map .int) :=
  ei_rangeI (n := (n : Int)) hg hm ha (by omega) (by omega) hs
end L2
namespace L2
open PySem PySem.Spec PyProof.Rows
inductive Wkn : Dn → Dn → Prop where
  | nil : Wkn [] []
  | keep {e : Ent} {δ δ' : Dn} : Wkn δ δ' → Wkn (e :: δ) (e :: δ')
  | lose {e : Ent} {δ δ' : Dn} : Wkn δ δ' → Wkn (e :: δ) (.no :: δ')
  | share {oa : Option Addr} {xs : List PyData} {δ δ' : Dn} : Wkn δ δ' → Wkn (.own oa (.l xs) :: δ) (.sh (.list xs) :: δ')
  | shareN {oa : Option Addr} {c : Cont} {d : PyData} {δ δ' : Dn} (h : c.dat = some d) : Wkn δ δ' → Wkn (.own oa c :: δ) (.sh d :: δ')
  | hide {oa : Option Addr} {c : Cont} {δ δ' : Dn} : Wkn δ δ' → Wkn (.own oa c :: δ) (.own none c :: δ')
theorem Wkn.len {δ δ' : Dn} (w : Wkn δ δ') : δ'.length = δ.length := by induction w <;> simp_all
theorem Wkn.at {δ δ' : Dn} (w : Wkn δ δ') : ∀ (i : Nat) (e : Ent), δ'[i]? = some e → e = .no ∨ δ[i]? = some e ∨ (∃ oa c d, e = .sh d ∧ c.dat = some d ∧ δ[i]? = some (.own oa c)) ∨ ∃ oa c, e = .own none c ∧ δ[i]? = some (.own oa c) := by
  induction w with
  | nil => intro i e h; cases h
  | keep w ih =>
    intro i e h
    cases i with
    | zero => exact .inr (.inl h)
    | succ i => exact ih i e (by simpa using h)
  | lose w ih =>
    intro i e h
    cases i with
    | zero => cases h; exact .inl rfl
    | succ i => exact ih i e (by simpa using h)
  | share w ih =>
    intro i e h
    cases i with
    | zero => cases h; exact .inr (.inr (.inl ⟨_, _, _, rfl, rfl, rfl⟩))
    | succ i => exact ih i e (by simpa using h)
  | shareN hd w ih =>
    intro i e h
    cases i with
    | zero => cases h; exact .inr (.inr (.inl ⟨_, _, _, rfl, hd, rfl⟩))
    | succ i => exact ih i e (by simpa using h)
  | hide w ih =>
    intro i e h
    cases i with
    | zero => cases h; exact .inr (.inr (.inr ⟨_, _, rfl, rfl⟩))
    | succ i => exact ih i e (by simpa using h)
def ownAt (own : Nat → List Addr) (δ : Dn) : Nat → List Addr := fun i => match δ[i]? with
  | some (.own _ _) => own i
  | _ => []
theorem ownAt_some {own : Nat → List Addr} {δ : Dn} {i : Nat} {a : Addr} (h : a ∈ ownAt own δ i) : a ∈ own i ∧ ∃ oa c, δ[i]? = some (.own oa c) := by
  unfold ownAt at h
  split at h
  · rename_i oa c q; exact ⟨h, oa, c, q⟩
  · cases h
theorem EnvO.weaken {K : PySem.W.Frag} {Hb : Hp} {own : Nat → List Addr} {B : Addr → Prop} {H : Hp} {σ : St} {δ δ' : Dn} (E : EnvO K Hb own B H σ δ) (w : Wkn δ δ') : EnvO K Hb (ownAt own δ') B H σ δ' := by
  have av : ∀ a, Av (ownAt own δ') B a → Av own B a := fun a h => h.imp id fun ⟨i, z⟩ => ⟨i, (ownAt_some z).1⟩
  have nd : ∀ i, (ownAt own δ' i).Nodup := fun i => by
    unfold ownAt
    split
    · exact E.ond i
    · exact List.nodup_nil
  refine ⟨E.base, by rw [w.len]; exact E.len, E.bb, fun i a h => E.ofr i a (ownAt_some h).1, fun i a h => (ownAt_some h).2, nd, fun i j a h h' => E.inj i j a (ownAt_some h).1 (ownAt_some h').1, fun i d h => ?_, fun i oa c h => ?_⟩
  · rcases w.at i _ h with z | z | ⟨oa, c, d', z, hd, q⟩ | ⟨oa, c, z, q⟩
    · cases z
    · obtain ⟨v, h1, h2⟩ := E.sh i d z
      exact ⟨v, h1, h2.av av⟩
    · cases z
      obtain ⟨v, h2, _, h4⟩ := E.ow i oa _ q
      refine ⟨v, h2, (h4.av av).rep hd fun a h1 z => ?_⟩
      rcases z with z | ⟨j, z⟩
      · exact E.bb a z (E.ofr i a h1)
      · obtain ⟨z1, oa2, ys, z2⟩ := ownAt_some z
        have : j = i := E.inj j i a z1 h1
        subst this
        rw [h] at z2; cases z2
    · cases z
  · rcases w.at i _ h with z | z | ⟨_, _, _, z, _⟩ | ⟨oa2, c2, z, q⟩
    · cases z
    · obtain ⟨v, h1, h2, h4⟩ := E.ow i oa c z
      exact ⟨v, h1, h2, by unfold ownAt; rw [h]; exact h4.av av⟩
    · cases z
    · cases z
      obtain ⟨v, h1, h2, h4⟩ := E.ow i oa2 _ q
      exact ⟨v, h1, fun _ z => (nomatch z), by unfold ownAt; rw [h]; exact h4.av av⟩
section
variable {X : Cx} {δ δ1 δ2 : Dn} {st : Stmt} {body : List Stmt} {o : Out}
variable {iter elt e : Expr} {ifs : List Expr} {scope : Scope} {x y : Str} {px py pos cpos : Pos} {α : Type}
theorem ef_map (i : Nat) (emb : α → PyData) (ts : List α) (f : α → PyData) (hc : X.calm = true) (S : CompScope X scope [i]) (hN : X.N.Nodup) (hi : EiD X δ (.Name x px) iter (ts.map emb)) (hz : ts.length ≤ 1000)
    (he : ∀ C s2 H2 fp t, t ∈ ts → EvD (compX X scope C s2 H2 fp) ((δ.set i .no).set i (.sh (emb t))) elt (f t))
    (hno : ∀ oa c, δ[i]? ≠ some (.own oa c) := by intro _ _ z; cases z)
    (hx : X.N[i]? = some x := by rfl) (hl : Loc (relabel scope X.env) x := by first | exact Or.inl rfl | exact Or.inr rfl)
    (hf : decide (scope.names.lookup x = some .cell) = true ∨ (relabel scope X.env).names.lookup x = some .local := by first | exact Or.inr rfl | exact Or.inl rfl)
    (hs : ∀ x, foldedSetIterable iter X.env x = pure x := by intro _; rfl) : EvF X δ (.ListComp elt [⟨.Name x px, iter, [], 0⟩] scope pos) (ts.map f) := by
  have := ef_comp (pos := pos) (ifs := []) i emb ts (fun _ => true) f hc S hN hi hz (fun _ _ _ _ _ _ => efs_nil) (fun C s2 H2 fp t h _ => he C s2 H2 fp t h) hno hx hl hf hs
  rw [List.filter_eq_self.mpr (by intros; rfl)] at this
  exact this
theorem ei_ints {tg : Expr} {ns : List Int} (h : EvD X δ e (.list (iD ns))) : EiD X δ tg e (ns.map .int) := ei_list h
end
end L2
namespace L2
open PySem PySem.Spec PyProof.Rows
theorem fn_law {P : Program} {w : World} {K : PySem.W.Frag} {mg : Str → Option Value} {base : Heap} {x qual : Str} {st : Stmt} {f : Addr} {fd : FuncData} {N : List Str} {k : Nat} (F : Fun K x qual st f fd) (S : FnScope N ["script"] (defScope st))
    (body : ∀ cdv A outer s H E, Room k (bx P w K mg base N qual st f cdv A outer s H E).A → ∀ ns : List Int, ns.length ≤ 63 → SR (bx P w K mg base N qual st f cdv A outer s H E) (startD N [scr ns]) (defBody st) (.rt (.bool true))) :
    FnOk P w K mg base CX0 (k + 1) f fd ["script"] (spLaw K) := by
  refine F.ok S (fun vs H Q E h => ?_) (fun cdv A outer s H vs Q E hr h => ?_)
  · obtain ⟨a, ns, rfl, _⟩ := h; rfl
  · obtain ⟨a, ns, rfl, hS, hl, q⟩ := h
    refine ⟨_, body cdv A outer s H E hr ns hl, H, _, fun _ => False, env_start (fun _ z => z.elim) ⟨.ref a, [], rfl, .inl ⟨a, ns, rfl, rfl, hS⟩, rfl⟩, fun v H' s1 rv => ?_⟩
    cases rv
    exact q H'
theorem scl_of {K : PySem.W.Frag} {H : Hp} {a : Addr} {xs : List V} (hO : Only H) (h : SqL K H a xs) : ScL K H a xs := by
  rcases h with (h | ⟨o, h⟩) | h
  · rcases hO a with z | ⟨o, ys, z⟩
    · rw [z] at h; cases h
    · rw [z] at h; cases h
  · exact .inl ⟨o, h⟩
  · exact .inr h
theorem law_walk {l : PySem.W.OpenLaw} {k : Nat} {q : Program} {loose : List Str} {XP : (Str → Option Value) → Heap → Prop} {YP : World → Heap → Prop} {d : DefRec} {K : Params → PySem.W.Frag} (hn : l.most = some 63) (hdf : d.params.defaults = []) (hr : Room k callerA)
    (hY : ∀ (w : World) (h : Heap), YP w h → (K w.params).In h)
    (F : ∀ (w : World) (mg : Str → Option Value) (fa : Addr) (h : Heap), (K w.params).In h → h.Ns mainGlobals mg → mg d.name = some (.ref fa) →
      ∃ fd : FuncData, (∀ (s : Shared) (u : Value), BindsTo s fd ⟨[u], []⟩ [("script", u)]) ∧ ∀ base : Heap, (K w.params).In base → base.Ns mainGlobals mg → FnOk l.prog w (K w.params) mg base CX0 k fa fd ["script"] (spLaw (K w.params))) :
    PySem.W.WalkO q loose XP YP l.row.toRowW d [] (fun f vs => PySem.call f vs) :=
  L2.walk_of (n := 63) (k := k) (x := "script") (CX := fun _ => CX0) (sp := fun w => spLaw (K w.params)) hn (by decide) hdf hr hY F (fun _ _ a ns hl hO hS => ⟨a, ns, rfl, scl_of hO hS, hl, fun _ => rfl⟩) fun _ _ _ _ _ z => z
end L2
end
section
namespace L2
open PySem PySem.Spec PyProof.Rows
section
variable {X : Cx} {δ : Dn} {a b c e tg : Expr} {d da db : PyData} {pos : Pos} {xs ys : List PyData} {k : Nat}
def rInsert : V → List V → Hp → VK → Prop := fun x vs H Q => ∃ l xs i y, x = .ref l ∧ vs = [.int i, y] ∧ H l = some (.lst xs) ∧ 0 ≤ i ∧ i ≤ (xs.length : Int) ∧ xs.length < sizeLine ∧ Q .non (upd H l (.lst (xs.take i.toNat ++ y :: xs.drop i.toNat)))
theorem mt_insert : MtM X "list.insert" rInsert := by
  intro pins s σ H x vs v us Q I rx rv h
  obtain ⟨l, xs, i, y, rfl, rfl, hH, h0, h1, hz, q⟩ := h
  cases rx
  obtain ⟨u, u', rfl, ⟨t, rfl⟩, ru⟩ := rv.two
  obtain ⟨z, its, n, r, hl, e⟩ := I.lstM hH
  have hlt : (xs.length : Int) < 2 ^ 63 := by have := line63; omega
  have hfit : ¬ (!Builtin.List.listFitsIndex i) = true := by rw [fitsIndex_both (by omega) (by omega)]; decide
  refine call_meets F.slot_list_insert ⟨_, e, rfl⟩ F.entry_list_insert (F.args_list_insert_3 _ _ _) (AutoSeq1.list_insert_list_int_val_1 l its.toArray n i t u' hfit (by rw [List.size_toArray]; omega)) ⟨e, ?_⟩
  refine ⟨.non, _, I.lset (its' := its.take i.toNat ++ u' :: its.drop i.toNat) hH e ?_ ((r.take _).append (.cons ru (r.drop _))) ?_, rfl, q⟩
  · have hk : (if i < 0 then (i + (its.toArray.size : Int)).toNat else min i.toNat its.toArray.size) = i.toNat := by
      rw [if_neg (by omega), List.size_toArray]
      omega
    show (its.toArray.extract 0 (if i < 0 then (i + (its.toArray.size : Int)).toNat else min i.toNat its.toArray.size)).push u' ++ its.toArray.extract (if i < 0 then (i + (its.toArray.size : Int)).toNat else min i.toNat its.toArray.size) = _
    rw [hk]
    simp
    exact List.take_of_length_le (by rw [List.length_drop]; exact Nat.le_refl _)
  · rw [List.length_append, List.length_cons, List.length_take, List.length_drop]; omega
theorem s1_insert (i : Nat) {x : Str} {px apos cpos : Pos} {m : Int} {oa : Option Addr} (hδ : δ[i]? = some (.own oa (.l xs))) (ha : EvD X δ a (.int m)) (he : EvD X δ e d) (h0 : 0 ≤ m) (h1 : m ≤ xs.length) (hz : xs.length < 1000) (hN : X.N[i]? = some x := by rfl) (hv : Vis X.env.scope x := by first | exact Or.inl rfl | exact Or.inr (Or.inl rfl) | exact Or.inr (Or.inr rfl)) (hd : (x == ("__debug__" : Str)) = false := by decide)
    (hcd : (x == ("__classdict__" : Str)) = false := by decide) (hst : starEach [a, e] X.env = [(false, eval a X.env), (false, eval e X.env)] := by rfl) (hst2 : starEach [e] X.env = [(false, eval e X.env)] := by rfl)
    (hb : ∀ {te : TE} {t : TA}, PE X (.Name x px) te → PA X [a, e] t → PE X (.Call (.Attribute (.Name x px) "insert" apos) [a, e] [] cpos) (tBM X.K "list" rInsert te t) := by exact fun h1 h2 => pe_bm PySem.F.plainAttrs_list PySem.F.slot_list_insert PySem.F.type_list_insert mt_insert h1 h2)
    (hsw : swapsWith (.Call (.Attribute (.Name x px) "insert" apos) [a, e] [] cpos) none pos.line X.env = pure false := by rfl) :
    S1 X δ (.Expr (.Call (.Attribute (.Name x px) "insert" apos) [a, e] [] cpos) pos) (.nx (δ.set i (.own oa (.l (xs.take m.toNat ++ d :: xs.drop m.toNat))))) :=
  fun pins s σ H D I ⟨Hb, own, B, E, P⟩ => ps_expr (hb (pe_var hN hv hd hcd) (ea_cons ha (ea_cons he ea_nil (by rw [hst2]; rfl)) (by rw [hst, hst2]))) hsw pins s σ H D I (by
    obtain ⟨l, vs, h1', h2, h3, h4⟩ := E.owl hδ
    refine ⟨_, h2, .inl ⟨rfl, vs, SqL.of h3⟩, Hb, own, B, E, fun us H' s1 r => ?_⟩
    obtain ⟨v, r', rfl, rv, w, r'', rfl, rw', e2⟩ := r
    cases e2; cases rv
    have hl := h4.length
    exact ⟨l, vs, m, w, rfl, rfl, s1 _ _ h3, h0, by rw [← hl]; exact h1, by rw [← hl]; exact small1000 (Nat.le_of_lt hz), P _ _ _ ((E.mono s1).write hδ h1' (((h4.up s1).take _).append ⟨w, _, rfl, rw', (h4.up s1).drop _⟩))⟩)
end
end L2
namespace L2
open PySem PySem.Spec PyProof.Rows
end L2
end
section
namespace L2
open PySem PySem.Spec PyProof.Rows
section
variable {K : PySem.W.Frag} {A : Addr → Prop} {H : Hp}
end
section
variable {X : Cx} {pins : List (Addr × Obj)} {σ : St} {H : Hp} {s : Shared}
end
section
variable {X : Cx} {δ : Dn} {a b c e tg : Expr} {d da db : PyData} {pos : Pos} {xs ys : List PyData} {k : Nat} {kvs : List (PyData × PyData)} {x : Str} {κ : Key} {kd : PyData}
end
end L2
end
section
namespace L2
open PySem PySem.Spec PyProof.Rows
section
variable {X : Cx} {δ : Dn} {a b c e tg : Expr} {d da db : PyData} {pos : Pos} {xs ys : List PyData} {k : Nat} {x y : Str}
theorem ef_rep {n : Int} (ha : EvD X δ a (.list xs)) (hb : EvD X δ b (.int n)) (h0 : 0 ≤ n) (hz : xs.length * n.toNat ≤ 1000) (h1 : n ≤ 1000) : EvF X δ (.BinOp a .Mult b pos) (List.replicate n.toNat xs).flatten :=
  ef_of (pe_op op_rep ha hb) fun Hb own B σ H Q E q => ⟨Hb, own, B, E, fun x H1 s1 rx => ⟨Hb, own, B, E.mono s1, fun y H2 s2 ry => by
    obtain ⟨p, vs, rfl, _, h3, h4⟩ := rx.up s2
    cases ry
    refine ⟨p, n, vs, rfl, rfl, h3, by omega, by omega, by rw [← h4.length]; exact Nat.le_of_lt (small1000 hz), fun r hr => ?_⟩
    have e1 := same_new hr (.lst (List.replicate n.toNat vs).flatten)
    refine q r _ _ ((s1.trans s2).trans e1) ((s1.trans s2).free hr) upd_same ((Reps.fresh hr _ _ ?_).up e1)
    generalize n.toNat = m
    induction m with
    | zero => rfl
    | succ m ih => rw [List.replicate_succ, List.replicate_succ, List.flatten_cons, List.flatten_cons]; exact h4.append ih⟩⟩
inductive Res (S : Type) where
  | nx (s : S)
  | br (s : S)
  | out (o : Out)
def loopR {S α : Type} (F : α → S → Res S) : List α → S → Res S
  | [], s => .nx s
  | t :: r, s => match F t s with
    | .nx s' => loopR F r s'
    | .br s' => .br s'
    | .out o => .out o
def TurnOk {S : Type} (X : Cx) (emb : S → Dn) (δ : Dn) (body : List Stmt) : Res S → Prop
  | .nx s => ∃ δ', SR X δ body (.nx δ') ∧ Wkn δ' (emb s)
  | .br s => ∃ δ', SR X δ body (.bk δ') ∧ Wkn δ' (emb s)
  | .out o => SR X δ body o ∧ (∀ δ', o ≠ .nx δ') ∧ (∀ δ', o ≠ .bk δ') ∧ ∀ δ', o ≠ .ct δ'
def Res.fin {S : Type} (emb : S → Dn) : Res S → Out
  | .nx s => .nx (emb s)
  | .br s => .nx (emb s)
  | .out o => o
theorem s1_forR {S α : Type} {body : List Stmt} (i : Nat) (emb : S → Dn) (it : α → PyData) (ts : List α) (F : α → S → Res S) (J : Nat → S → Prop) {iter : Expr} {px : Pos} {s0 : S} (hp : PassesOwn (model X.prog X.w) X.A X.env X.xe) (hc : X.calm = true) (hN : X.N.Nodup) (hi : EiD X (emb s0) (.Name x px) iter (ts.map it)) (h0 : J 0 s0)
    (turn : ∀ (n : Nat) t s, ts[n]? = some t → J n s → TurnOk X emb ((emb s).set i (.sh (it t))) body (F t s)) (keep : ∀ (n : Nat) t s s', ts[n]? = some t → J n s → F t s = .nx s' → J (n + 1) s')
    (hx : X.N[i]? = some x := by rfl) (hl : Loc X.env.scope x := by first | exact Or.inl rfl | exact Or.inr rfl) (hf : X.fn x = true ∨ X.env.scope.names.lookup x = some .local := by first | exact .inl rfl | exact .inr rfl)
    (hs : ∀ x, foldedSetIterable iter X.env x = pure x := by intro _; rfl) : S1 X (emb s0) (.For (.Name x px) iter body [] pos) ((loopR F ts s0).fin emb) := by
  have hB : PSs X body (fun D σ H => ∃ (δ : Dn) (o : Out), SR X δ body o ∧ tS X.K δ o D σ H) := fun pins s σ H D I ⟨δ, o, h, q⟩ => h pins s σ H D I q
  intro pins s σ H D I ⟨Hb, own, B, E, P⟩
  refine ps_for hp hc hi (pg_name hN hx hl hf) hB hs pins s σ H D I ⟨Hb, own, B, E, fun Jt H1 s1 w => ?_⟩
  have E1 := E.mono s1
  have R1 := E1.rebase
  have P1 := Post.rebase E1 P
  have hdl : (ts.map it).length = ts.length := List.length_map _
  refine ⟨fun n m σ' H' => m = ts.length - n ∧ n ≤ ts.length ∧ ∃ own' s', EnvO X.K (keepB own H1) own' B H' σ' (emb s') ∧ J n s' ∧ loopR F (ts.drop n) s' = loopR F ts s0, ⟨ts.length, rfl, Nat.zero_le _, own, s0, R1, h0, rfl⟩, ?_⟩
  rintro n m σ2 H2 ⟨rfl, hn, own2, s2, E2, hJ, hO⟩
  by_cases hlt : n < ts.length
  · refine .inr ⟨w.go n H2 E2.base (by rw [hdl]; exact hlt), ?_⟩
    have ht0 : ts[n]? = some ts[n] := List.getElem?_eq_getElem hlt
    have hd0 : (ts.map it)[n]? = some (it ts[n]) := by rw [List.getElem?_map, ht0]; rfl
    rw [drop_cons ht0] at hO
    have T := turn n ts[n] s2 ht0 hJ
    refine ⟨fun σ' H' => ∃ own' s', EnvO X.K (keepB own H1) own' B H' σ' (emb s') ∧ F ts[n] s2 = .nx s', fun σ' H' ⟨own', s', E', hF⟩ => ⟨ts.length - (n + 1), by omega, rfl, hlt, own', s', E', keep _ _ _ _ ht0 hJ hF, ?ka⟩, fun v H' hy => ?kb⟩
    case ka =>
      rw [← hO]
      show _ = match F ts[n] s2 with
        | .nx s' => loopR F (ts.drop (n + 1)) s'
        | .br s' => .br s'
        | .out o => .out o
      rw [hF]
    case kb =>
      obtain ⟨eH, d, hd, rd⟩ := w.yld n H2 v H' E2.base (by rw [hdl]; exact hlt) hy
      rw [hd0] at hd
      cases hd
      subst H'
      have av : ∀ a, Av own2 B a → Av own B a ∨ keepB own H1 a = none := fun a h => by
        rcases h with h | ⟨j, h⟩
        · exact .inl (.inl h)
        · exact .inr (E2.ofr j a h)
      have rd2 : Rep X.K (Av own2 B) H2 (it ts[n]) v := Rep.young (Hk := keepB own H1) (fun a h => av a h) rd E2.base
      have ES := E2.setSh (i := i) rd2
      have hO' : loopR F ts s0 = match F ts[n] s2 with
        | .nx s' => loopR F (ts.drop (n + 1)) s'
        | .br s' => .br s'
        | .out o => .out o := hO.symm
      cases hF : F ts[n] s2 with
      | nx s' =>
        rw [hF] at T
        obtain ⟨δ', hS, hw⟩ := T
        exact ⟨_, _, hS, _, _, _, ES, fun own' σ' H' E' => ⟨_, s', E'.weaken hw, rfl⟩⟩
      | br s' =>
        rw [hF] at T hO'
        obtain ⟨δ', hS, hw⟩ := T
        rw [hO'] at P1
        exact ⟨_, _, hS, _, _, _, ES, fun own' σ' H' E' => P1 _ _ _ (E'.weaken hw)⟩
      | out o =>
        rw [hF] at T hO'
        obtain ⟨hS, z1, z2, z3⟩ := T
        rw [hO'] at P1
        refine ⟨_, _, hS, _, _, _, ES, ?_⟩
        cases o with
        | nx δ' => exact absurd rfl (z1 δ')
        | bk δ' => exact absurd rfl (z2 δ')
        | ct δ' => exact absurd rfl (z3 δ')
        | rt d => exact P1
        | rf ys => exact P1
        | rw δ' ys => exact P1
        | rn t => exact P1
  · have en : n = ts.length := by omega
    subst en
    rw [List.drop_length] at hO
    refine .inl ⟨w.stop _ H2 E2.base (Nat.le_of_eq hdl), ?_⟩
    rw [← hO] at P1
    exact P1 own2 σ2 H2 E2
theorem loopR_fold {S α : Type} (f : α → S → S) : ∀ (ts : List α) (s : S), loopR (fun t s => .nx (f t s)) ts s = .nx (ts.foldl (fun s t => f t s) s)
  | [], _ => rfl
  | t :: r, s => loopR_fold f r (f t s)
end
end L2
end
section
namespace L2
open PySem PySem.Spec PyProof.Rows
section
variable {K : PySem.W.Frag} {Hb : Hp} {own : Nat → List Addr} {B : Addr → Prop} {H H1 H2 : Hp} {σ : St} {δ : Dn}
end
section
variable {X : Cx} {δ : Dn} {a b c e : Expr} {es : List Expr} {d : PyData} {pos p : Pos} {xs : List PyData} {k j : Nat} {x : Str} {l : List AE}
variable {δ' δ1 δ2 : Dn} {o : Out} {body els : List Stmt}
end
section
variable {K : PySem.W.Frag} {Hb : Hp} {own : Nat → List Addr} {B : Addr → Prop} {H : Hp} {σ : St} {δ : Dn}
end
section
variable {P : Program} {w : World} {K : PySem.W.Frag} {mg : Str → Option Value} {base : Heap} {x qual : Str} {st : Stmt} {f : Addr} {fd : FuncData} {N ps : List Str} {k : Nat}
end
end L2
end
section
namespace L2
open PySem PySem.Spec PyProof.Rows
section
variable {X : Cx} {δ : Dn} {iter elt e : Expr} {ifs : List Expr} {scope : Scope} {x y : Str} {px py pt pos : Pos} {kt : Nat} {α : Type} {k : Nat}
end
end L2
end
section
namespace L2
open PySem PySem.Spec PyProof.Rows
def tX (K : PySem.W.Frag) (δ : Dn) (S : List Nat) (t : OT) : TE := fun σ H Q => ∃ Hb own B, EnvO K Hb own B H σ δ ∧ ∀ v as H', Same H H' → (∀ a ∈ as, H a = none ∨ ∃ i ∈ S, a ∈ own i) → as.Nodup → RepO K (fun b => Av own B b ∨ b ∈ as) H' t v as → Q v H'
def ExD (X : Cx) (δ : Dn) (e : Expr) (t : OT) (S : List Nat) : Prop := PE X e (tX X.K δ S t)
def tXs (K : PySem.W.Frag) (δ : Dn) (S : List Nat) (ts : List OT) : TA := fun σ H Q => ∃ Hb own B, EnvO K Hb own B H σ δ ∧ ∀ vs as H', Same H H' → (∀ a ∈ as, H a = none ∨ ∃ i ∈ S, a ∈ own i) → as.Nodup → RepOs K (fun b => Av own B b ∨ b ∈ as) H' ts vs as → Q vs H'
def ExA (X : Cx) (δ : Dn) (es : List Expr) (ts : List OT) (S : List Nat) : Prop := PA X es (tXs X.K δ S ts)
theorem EnvO.guardP {K : PySem.W.Frag} {Hb : Hp} {own : Nat → List Addr} {B : Addr → Prop} {H H' : Hp} {σ : St} {δ : Dn} (E : EnvO K Hb own B H σ δ) {D : Addr → Prop} (hn : ∀ a, D a → H a = none) (e : Same H H') (hD : ∀ a, D a → H' a ≠ none) :
    EnvO K (keepB own H') own (fun b => B b ∨ D b) H' σ δ := by
  have hno : ∀ a, D a → ∀ i, a ∉ own i := fun a ha i hi => E.new (hn a ha) (.inr ⟨i, hi⟩)
  have av : ∀ a, Av own (fun b => B b ∨ D b) a → Av own B a ∨ H a = none := fun a h => by
    rcases h with (h | h) | h
    · exact .inl (.inl h)
    · exact .inr (hn a h)
    · exact .inl (.inr h)
  have E' := (E.mono e).rebase
  refine ⟨E'.base, E'.len, fun a h => ?_, E'.ofr, E'.oex, E'.ond, E'.inj, fun i d h => ?_, fun i oa c h => ?_⟩
  · rcases h with h | h
    · exact E'.bb a h
    · obtain ⟨o, q⟩ := Option.ne_none_iff_exists'.mp (hD a h)
      rw [keepB_of q (hno a h)]; exact fun z => by cases z
  · obtain ⟨v, h1, h2⟩ := E.sh i d h
    exact ⟨v, h1, Rep.young av h2 e⟩
  · obtain ⟨v, h1, h2, h4⟩ := E.ow i oa c h
    exact ⟨v, h1, h2, (h4.kp (.young av) fun _ _ _ z => z).up e⟩
section
variable {X : Cx} {δ : Dn} {a b c e : Expr} {es : List Expr} {d : PyData} {pos p : Pos} {xs ys : List PyData} {k j : Nat} {x : Str} {t : OT} {ts : List OT} {S S' : List Nat}
theorem reps_sh {K : PySem.W.Frag} {A : Addr → Prop} {H : Hp} : ∀ {ds : List PyData} {vs : List V}, Reps K A H ds vs → RepOs K A H (ds.map .sh) vs []
  | [], _, h => ⟨h, rfl⟩
  | x :: xs, _, h => by
    obtain ⟨v, r, rfl, h2, h3⟩ := h
    exact ⟨v, r, [], [], rfl, rfl, ⟨rfl, h2⟩, reps_sh h3⟩
theorem ex_d (h : EvD X δ e d) : ExD X δ e (.sh d) [] := fun pins s σ H Q I ⟨Hb, own, B, E, q⟩ => h pins s σ H Q I ⟨Hb, own, B, E, fun v H' s1 r => q v [] H' s1 (fun a z => (nomatch z)) List.nodup_nil ⟨rfl, r.av fun b z => z.elim id fun y => (nomatch y)⟩⟩
theorem ex_f (h : EvF X δ e xs) : ExD X δ e (.l (xs.map .sh)) [] := fun pins s σ H Q I ⟨Hb, own, B, E, q⟩ => h pins s σ H Q I ⟨Hb, own, B, E, fun a vs H' s1 hn ha r => q (.ref a) [a] H' s1 (fun b z => .inl (by rw [List.mem_singleton.mp z]; exact hn)) (by simp) ⟨a, vs, [], rfl, rfl, ha, reps_sh (r.av fun b z => z.imp id fun y => List.mem_singleton.mp y)⟩⟩
theorem ex_own (i : Nat) {px : Pos} {oa : Option Addr} (hδ : δ[i]? = some (.own oa (.l xs))) (hN : X.N[i]? = some x := by rfl) (hv : Vis X.env.scope x := by first | exact Or.inl rfl | exact Or.inr (Or.inl rfl) | exact Or.inr (Or.inr rfl)) (hd : (x == ("__debug__" : Str)) = false := by decide)
    (hcd : (x == ("__classdict__" : Str)) = false := by decide) : ExD X δ (.Name x px) (.l (xs.map .sh)) [i] :=
  fun pins s σ H Q I ⟨Hb, own, B, E, q⟩ => pe_var hN hv hd hcd pins s σ H Q I (by
    obtain ⟨v, h1, _, a, vs, rfl, h2, h3, h4⟩ := E.ow i oa _ hδ
    refine ⟨_, h1, q _ [a] H (Same.refl H) (fun b z => .inr ⟨i, List.mem_singleton.mpr rfl, by rw [h2]; exact z⟩) (by simp) ⟨a, vs, [], rfl, rfl, h3, reps_sh (h4.av fun b z => z.elim id fun y => .inr ⟨i, by rw [h2]; exact y⟩)⟩⟩)
theorem exa_nil : ExA X δ [] [] [] := fun cpos pins s σ H Q I ⟨Hb, own, B, E, q⟩ => pa_nil cpos pins s σ H Q I (q [] [] H (Same.refl H) (fun a z => (nomatch z)) List.nodup_nil ⟨rfl, rfl⟩)
theorem exa_cons (he : ExD X δ e t S) (ht : ExA X δ es ts S') (hS : ∀ i ∈ S, i ∉ S' := by simp) (hs : starEach (e :: es) X.env = (false, eval e X.env) :: starEach es X.env := by rfl) : ExA X δ (e :: es) (t :: ts) (S ++ S') :=
  fun cpos pins s σ H Q I ⟨Hb, own, B, E, q⟩ => pa_cons he ht hs cpos pins s σ H Q I ⟨Hb, own, B, E, fun v as H1 s1 h1 nd1 r1 => by
    have E1 := E.guardP (D := fun b => b ∈ as ∧ H b = none) (fun a ha => ha.2) s1 fun a ha z => by
      obtain ⟨o, y, _⟩ := RepO.muts t v as r1 a ha.1
      rw [z] at y; cases y
    refine ⟨_, own, _, E1, fun vs bs H2 s2 h2 nd2 r2 => ?_⟩
    have al1 : ∀ a ∈ as, H1 a ≠ none := fun a ha z => by
      obtain ⟨o, y, _⟩ := RepO.muts t v as r1 a ha
      rw [z] at y; cases y
    have av1 : ∀ a ∈ as, Av own (fun b => B b ∨ (b ∈ as ∧ H b = none)) a := fun a ha => by
      rcases h1 a ha with z | ⟨i, _, z⟩
      · exact .inl (.inr ⟨ha, z⟩)
      · exact .inr ⟨i, z⟩
    have dj : ∀ a ∈ as, a ∉ bs := fun a ha hb => by
      rcases h2 a hb with z | ⟨i, hi, z⟩
      · exact al1 a ha z
      · rcases h1 a ha with y | ⟨i', hi', y⟩
        · exact E.alive (.inr ⟨i, z⟩) y
        · have := E.inj i i' a z y
          subst this
          exact hS i hi' hi
    refine q _ (as ++ bs) H2 (s1.trans s2) (fun a ha => ?_) (List.nodup_append.mpr ⟨nd1, nd2, fun a ha b hb z => dj a ha (z ▸ hb)⟩) ⟨v, vs, as, bs, rfl, rfl, ?_, ?_⟩
    · rcases List.mem_append.mp ha with ha | ha
      · rcases h1 a ha with z | ⟨i, hi, z⟩
        · exact .inl z
        · exact .inr ⟨i, List.mem_append_left _ hi, z⟩
      · rcases h2 a ha with z | ⟨i, hi, z⟩
        · exact .inl (s1.free z)
        · exact .inr ⟨i, List.mem_append_right _ hi, z⟩
    · refine RepO.kp (.mono s2) _ _ _ (fun a _ o z => s2 a o z) (RepO.kp (.young fun b h => ?_) _ _ _ (fun _ _ _ z => z) r1)
      rcases h with h | h
      · exact .inl (.inl h)
      · rcases List.mem_append.mp h with h | h
        · exact .inl (.inr h)
        · rcases h2 b h with z | ⟨i, _, z⟩
          · exact .inr z
          · exact .inl (.inl (.inr ⟨i, z⟩))
    · refine RepOs.kp (.avoid fun b h => ?_) _ _ _ (fun _ _ _ z => z) r2
      rcases h with h | h
      · exact .inl (h.imp .inl id)
      · rcases List.mem_append.mp h with h | h
        · exact .inl (av1 b h)
        · exact .inr h⟩
theorem repOs_len {K : PySem.W.Frag} {A : Addr → Prop} {H : Hp} : ∀ {ts : List OT} {vs : List V} {as : List Addr}, RepOs K A H ts vs as → ts.length = vs.length
  | [], _, _, h => by rw [h.1]; rfl
  | x :: xs, _, _, h => by
    obtain ⟨v, r, bs, cs, rfl, rfl, h2, h3⟩ := h
    rw [List.length_cons, List.length_cons, repOs_len h3]
theorem ex_list (h : ExA X δ es ts S) (hl : ts.length ≤ 1000 := by exact Nat.le_of_ble_eq_true rfl) : ExD X δ (.List es pos) (.l ts) S :=
  fun pins s σ H Q I ⟨Hb, own, B, E, q⟩ => pe_lst h pins s σ H Q I ⟨Hb, own, B, E, fun vs as H1 s1 h1 nd r => ⟨by rw [← repOs_len r]; exact Nat.le_of_lt (small1000 hl), fun p hp => by
    have e1 : Same H1 (upd H1 p (.lst vs)) := fun b u z => by rw [upd_ne (ne_of_none z hp)]; exact z
    have np : p ∉ as := fun z => by
      obtain ⟨o, y, _⟩ := RepOs.muts ts vs as r p z
      rw [hp] at y; cases y
    refine q _ (p :: as) _ (s1.trans e1) (fun a ha => ?_) (List.nodup_cons.mpr ⟨np, nd⟩) ⟨p, vs, as, rfl, rfl, upd_same, RepOs.kp (.mono e1) _ _ _ (fun a _ o z => e1 a o z) (RepOs.kp (.young fun b h => ?_) _ _ _ (fun _ _ _ z => z) r)⟩
    · rcases List.mem_cons.mp ha with rfl | ha
      · exact .inl (s1.free hp)
      · exact h1 a ha
    · rcases h with h | h
      · exact .inl (.inl h)
      · rcases List.mem_cons.mp h with rfl | h
        · exact .inr hp
        · exact .inl (.inr h)⟩⟩
theorem ex_eq {t' : OT} (h : ExD X δ e t S) (ht : t = t') (hS : S = S') : ExD X δ e t' S' := ht ▸ hS ▸ h
theorem s1_retX (he : ExD X δ e t S) : S1 X δ (.Return (some e) pos) (.rn t) :=
  fun pins s σ H D I ⟨Hb, own, B, E, P⟩ => ps_ret he pins s σ H D I ⟨Hb, own, B, E, fun v as H' s1 h1 nd r => P v as H' (E.base.trans s1) (fun a ha => (h1 a ha).elim (fun z => E.base.free z) fun ⟨i, _, z⟩ => E.ofr i a z) nd (RepO.kp (.avoid fun b h => h.imp .inl id) _ _ _ (fun _ _ _ z => z) r)⟩
theorem s1_setX (i : Nat) {px : Pos} (hN : X.N.Nodup) (he : ExD X δ e t []) (hl : i < δ.length := by exact Nat.le_of_ble_eq_true rfl) (hi : X.N[i]? = some x := by rfl) (hx : Loc X.env.scope x := by first | exact Or.inl rfl | exact Or.inr rfl) (hs : swapsWith e (some (.Name x px)) pos.line X.env = pure false := by rfl) (hf : X.fn x = true ∨ X.env.scope.names.lookup x = some .local := by first | exact .inl rfl | exact .inr rfl | assumption) :
    S1 X δ (.Assign [.Name x px] e pos) (.nx (δ.set i (.own none (.n t)))) :=
  fun pins s σ H D I ⟨Hb, own, B, E, P⟩ => ps_set hN hi hx he hs hf pins s σ H D I ⟨Hb, own, B, E, fun v as H' s1 h1 nd r => P _ _ _ (E.setOwC (c := .n t) s1 hl (fun a ha => (h1 a ha).elim id fun ⟨_, z, _⟩ => (nomatch z)) nd r)⟩
theorem ex_ev (he : ExD X δ e t []) (hd : t.dat = some d) : EvD X δ e d :=
  fun pins s σ H Q I ⟨Hb, own, B, E, q⟩ => he pins s σ H Q I ⟨Hb, own, B, E, fun v as H' s1 h1 nd r => q v H' s1 (RepO.rep t d v as hd (RepO.kp (.avoid fun b h => .inl h) _ _ _ (fun _ _ _ z => z) r) fun a ha => E.new ((h1 a ha).elim id fun ⟨_, z, _⟩ => (nomatch z)))⟩
def spN (K : PySem.W.Frag) (R : List PyData → OT → Prop) : Sp := fun vs H Q _ => ∃ B ds t, (∀ a, B a → H a ≠ none) ∧ Reps K B H ds vs ∧ R ds t ∧
  ∀ v as H', Same H H' → (∀ a ∈ as, H a = none) → as.Nodup → RepO K (fun b => B b ∨ b ∈ as) H' t v as → Q v H'
theorem ex_call {ds : List PyData} {ps : List Str} {name : Str} {R : List PyData → OT → Prop} (G : Fn X.prog X.w X.K X.mg X.base name j ps (spN X.K R)) (hr : Room k X.A) (hjk : j ≤ k) (hg : Gl X name) (ha : EaD X δ (e :: es) ds) (hR : R ds t) (hdb : (name == ("__debug__" : Str)) = false := by decide)
    (he : starEach (e :: es) X.env = (false, eval e X.env) :: starEach es X.env := by rfl) (hpl : (backTo pos (starEach es X.env)).any (·.1) = false := by rfl) : ExD X δ (.Call (.Name name p) (e :: es) [] pos) t [] := by
  obtain ⟨f, fd, h1, h2, h3, h4⟩ := G.ex
  intro pins s σ H Q I ⟨Hb, own, B, E, q⟩
  refine pe_call h1 (hr.mono hjk) hg h2 h3 h4 .nil pass0 ha hdb he hpl pins s σ H Q I ⟨Hb, own, B, E, fun vs H1 s1 rv => ?_⟩
  show spN X.K R (vs ++ []) H1 Q E0
  rw [List.append_nil]
  exact ⟨Av own B, ds, t, fun a z => (E.mono s1).alive z, rv, hR, fun v as H' s2 hn nd r => q v as H' (s1.trans s2) (fun a ha => .inl (s1.free (hn a ha))) nd r⟩
end
section
variable {P : Program} {w : World} {K : PySem.W.Frag} {mg : Str → Option Value} {base : Heap} {x qual : Str} {st : Stmt} {f : Addr} {fd : FuncData} {N ps : List Str} {k : Nat}
theorem fn_N {R : List PyData → OT → Prop} (F : Fun K x qual st f fd) (S : FnScope N ps (defScope st)) (hm : mg x = some (.ref f)) (hb : Binds K fd ps []) (hl : ∀ ds t, R ds t → ds.length = ps.length)
    (body : ∀ cdv A outer s H E, Room k (bx P w K mg base N qual st f cdv A outer s H E).A → ∀ ds t, R ds t → SR (bx P w K mg base N qual st f cdv A outer s H E) (startD N ds) (defBody st) (.rn t)) :
    Fn P w K mg base x (k + 1) ps (spN K R) := by
  refine ⟨f, fd, F.ok S (fun vs H Q E h => ?_) (fun cdv A outer s H vs Q E hr h => ?_), hm, F.kp, hb⟩
  · obtain ⟨B, ds, d, _, r, hR, _⟩ := h
    rw [← r.length]; exact hl ds d hR
  · obtain ⟨B, ds, t, hB, r, hR, q⟩ := h
    exact ⟨_, body cdv A outer s H E hr ds t hR, H, _, B, env_start hB r, fun v as H' s1 hn nd rv => q v as H' s1 hn nd rv⟩
end
section
variable {K : PySem.W.Frag} {A : Addr → Prop} {H : Hp}
theorem RepOs.put : ∀ {ts : List OT} {vs : List V} {as : List Addr} {k : Nat} {ys : List OT}, RepOs K A H ts vs as → as.Nodup → (∀ a ∈ as, A a) → ts[k]? = some (.l ys) →
    ∃ a us bs, vs[k]? = some (.ref a) ∧ a ∈ as ∧ H a = some (.lst us) ∧ RepOs K A H ys us bs ∧ (∀ b ∈ bs, b ∈ as) ∧ a ∉ bs ∧
      ∀ ys' us', RepOs K A (upd H a (.lst us')) ys' us' bs → RepOs K A (upd H a (.lst us')) (ts.set k (.l ys')) vs as
  | [], _, _, _, _, _, _, _, e => by cases e
  | t :: ts, _, _, 0, ys, h, nd, hA, e => by
    obtain ⟨v, r, bs, cs, rfl, rfl, h2, h3⟩ := h
    cases e
    obtain ⟨a, us, bs', rfl, rfl, h4, h5⟩ := h2
    have nd' := List.nodup_append.mp nd
    have nda := List.nodup_cons.mp nd'.1
    refine ⟨a, us, bs', rfl, List.mem_append_left _ List.mem_cons_self, h4, h5, fun b hb => List.mem_append_left _ (List.mem_cons_of_mem _ hb), nda.1, fun ys' us' r' => ⟨_, r, a :: bs', cs, rfl, rfl, ⟨a, us', bs', rfl, rfl, upd_same, r'⟩, ?_⟩⟩
    refine RepOs.kp (.upd (hA a (List.mem_append_left _ List.mem_cons_self)) h4 trivial) _ _ _ (fun b hb o z => ?_) h3
    rw [upd_ne fun y : b = a => nd'.2.2 a List.mem_cons_self b hb y.symm]; exact z
  | t :: ts, _, _, k + 1, ys, h, nd, hA, e => by
    obtain ⟨v, r, bs, cs, rfl, rfl, h2, h3⟩ := h
    have nd' := List.nodup_append.mp nd
    obtain ⟨a, us, ds, e1, e2, h4, h5, e3, e4, q⟩ := RepOs.put (k := k) (ys := ys) h3 nd'.2.1 (fun a ha => hA a (List.mem_append_right _ ha)) (by simpa using e)
    refine ⟨a, us, ds, by simpa using e1, List.mem_append_right _ e2, h4, h5, fun b hb => List.mem_append_right _ (e3 b hb), e4, fun ys' us' r' => ⟨v, r, bs, cs, rfl, rfl, ?_, q ys' us' r'⟩⟩
    refine RepO.kp (.upd (hA a (List.mem_append_right _ e2)) h4 trivial) _ _ _ (fun b hb o z => ?_) h2
    rw [upd_ne fun y : b = a => nd'.2.2 b hb a e2 y]; exact z
theorem RepOs.append : ∀ {ds es : List OT} {vs ws : List V} {as bs : List Addr}, RepOs K A H ds vs as → RepOs K A H es ws bs → RepOs K A H (ds ++ es) (vs ++ ws) (as ++ bs)
  | [], _, _, _, _, _, h, h' => by obtain ⟨rfl, rfl⟩ := h; exact h'
  | x :: xs, _, _, _, _, _, h, h' => by
    obtain ⟨v, r, bs, cs, rfl, rfl, h2, h3⟩ := h
    exact ⟨v, _, bs, _, rfl, List.append_assoc _ _ _, h2, RepOs.append h3 h'⟩
end
section
variable {X : Cx} {δ : Dn} {a b c e : Expr} {d : PyData} {pos : Pos} {x : Str} {ts ys : List OT} {n : Nat}
end
theorem dats_sh : ∀ (xs : List PyData), OT.dats (xs.map .sh) = some xs
  | [] => rfl
  | x :: r => by rw [List.map_cons, OT.dats, dats_sh r]; rfl
theorem dat_lsh (xs : List PyData) : (OT.l (xs.map .sh)).dat = some (.list xs) := by rw [OT.dat, dats_sh]; rfl
section
variable {X : Cx} {δ : Dn} {e : Expr} {t u : OT} {f : PyData} {d : PyData} {pos : Pos}
end
end L2
end
section
namespace L2
open PySem PySem.Spec PyProof.Rows
section
variable {X : Cx} {δ : Dn} {a b c e tg : Expr} {d da db : PyData} {pos : Pos} {xs ys : List PyData} {k : Nat} {x : Str}
end
section
variable {X : Cx} {e st : Expr} {te : TE} {lo hi : Option Expr} {tl th tt : TO} {pos p2 : Pos}
end
section
variable {X : Cx} {δ : Dn} {a b c e tg : Expr} {d da db : PyData} {pos : Pos} {xs ys : List PyData} {k : Nat} {x : Str}
end
end L2
end
section
namespace L2
open PySem PySem.Spec PyProof.Rows
section
variable {X : Cx} {δ δ1 : Dn} {a b c e : Expr} {d da db : PyData} {pos : Pos} {xs ys : List PyData} {i j : Int}
theorem ev_intB {k : Bool} {p : Pos} (hg : Gl X "int") (hm : X.mg "int" = none) (ha : EvD X δ a (.bool k)) (hs : starEach [a] X.env = [(false, eval a X.env)] := by rfl) : EvD X δ (.Call (.Name "int" p) [a] [] pos) (.int (if k then 1 else 0)) :=
  ev_of (pe_callTy call_int1 hg hm (by rfl) (ea_cons ha ea_nil (by rw [hs]; rfl)) (he := by rw [hs]; rfl)) fun Hb own B σ H Q E q => ⟨Hb, own, B, E, fun vs H1 s1 rv => by
    obtain ⟨v, r, rfl, rv1, e2⟩ := rv
    cases e2
    exact .inr ⟨k, by rw [show v = _ from rv1], q _ H1 s1 rfl⟩⟩
end
section
variable {P : Program} {w : World} {K : PySem.W.Frag} {mg : Str → Option Value} {base : Heap} {x qual : Str} {st : Stmt} {f : Addr} {fd : FuncData} {N ps : List Str} {k : Nat}
end
end L2
end
section
namespace L2
open PySem PySem.Spec PyProof.Rows
theorem ObjOk.is {P : Program} {w : World} {H : Hp} {h : Heap} {a : Addr} {o : HO} (x : ObjOk P w H h a o) : ∃ u, h.get? a = some u := by
  cases o with
  | lst xs => obtain ⟨_, _, _, _, e⟩ := x; exact ⟨_, e⟩
  | tup xs => obtain ⟨_, _, _, ob, e, _⟩ := x; exact ⟨ob, e⟩
  | dK kvs => obtain ⟨_, _, _, _, o, _, _, e, _⟩ := x; exact ⟨_, e⟩
  | dT kvs => obtain ⟨_, _, _, _, o, _, _, e, _⟩ := x; exact ⟨_, e⟩
  | set S n => obtain ⟨o, _, _, _, e, _⟩ := x; exact ⟨_, e⟩
  | ins C dx fs => obtain ⟨_, _, _, e, _⟩ := x; exact ⟨_, e⟩
  | own y => obtain ⟨_, e⟩ := x; exact ⟨_, e⟩
  | xd fs => obtain ⟨_, ⟨_, _, _, e, _⟩, _⟩ := x; exact ⟨_, e⟩
  | rng lo hi => obtain ⟨_, _, _, e⟩ := x; exact ⟨_, e⟩
  | frz ob u => obtain ⟨e, _⟩ := x; exact ⟨_, e⟩
  | tbl ps => exact ⟨_, x⟩
  | met f y => exact ⟨_, x⟩
  | ext φ => obtain ⟨_, ⟨_, e⟩, _⟩ := x; exact ⟨_, e⟩
theorem HOk.off {P : Program} {w : World} {H : Hp} {h : Heap} {a : Addr} (x : HOk P w H h) (n : h.get? a = none) : H a = none := by
  cases q : H a with
  | none => rfl
  | some o => obtain ⟨u, e⟩ := (x a o q).is; rw [n] at e; cases e
theorem Un.off {fs : List Addr} {H H' : Hp} {h h' : Heap} {a : Addr} (u : Un fs [] H H' h h') (n : h'.get? a = none) : h.get? a = none := by
  cases q : h.get? a with
  | none => rfl
  | some o => obtain ⟨o', e⟩ := u.there a o q (by simp); rw [n] at e; cases e
theorem Un.shrink {fs fs' ex : List Addr} {H H1 : Hp} {h h1 : Heap} (u : Un fs ex H H1 h h1) (hs : ∀ b o, h.get? b = some o → b ∈ fs → b ∈ fs') (hs' : ∀ b ∈ fs', b ∈ fs) : Un fs' ex H H1 h h1 :=
  ⟨fun b o q n hb hx => u.keep b o q n (fun z => hb (hs b o q z)) hx, fun b o q n hb hx => u.slot b o q n (hs' b hb) hx, u.free, u.there, u.tups, u.frzs, u.tbls⟩
theorem funs_move {h h' b b' : Heap} : ∀ {l : List Env}, h.FunFrames b l → (∀ L ∈ frs l, ∀ o, h.get? L = some o → (∀ vs, o.data ≠ .fields vs) → ∃ o', h'.get? L = some o' ∧ ∀ vs, o'.data ≠ .fields vs) → (∀ L ∈ frs l, b'.get? L = none) → h'.FunFrames b' l
  | [], _, _, _ => trivial
  | env :: r, ⟨hk, ⟨L, o, hf, hn, ho, hd⟩, hr⟩, k, kn => by
    have hL : L ∈ frs (env :: r) := by unfold frs; rw [List.filterMap_cons, hf]; exact List.mem_cons_self
    have hm : ∀ L' ∈ frs r, L' ∈ frs (env :: r) := fun L' h => by unfold frs; rw [List.filterMap_cons, hf]; exact List.mem_cons_of_mem _ h
    obtain ⟨o', h1, h2⟩ := k L hL o ho hd
    exact ⟨hk, ⟨L, o', hf, kn L hL, h1, h2⟩, funs_move hr (fun L' h => k L' (hm L' h)) fun L' h => kn L' (hm L' h)⟩
structure Fl (P : Program) (w : World) (fs : List Addr) (H H' : Hp) (s s' : Shared) (C e : Addr) (fl : Value) : Prop where
  os : s'.os = s.os
  bare : AllBare s'.gens
  un : Un fs [] H H' s.heap s'.heap
  hok : HOk P w H' s'.heap
  new : s.heap.get? e = none
  ne : H' e = none
  tr : ∃ oe vs a0 T oT ts, s'.heap.get? e = some oe ∧ (oe.cls = .ref C ∧ vs[0]? = some a0) ∧ oe.data = .fields vs ∧ vs[1]? = some (.ref T) ∧ T ≠ e ∧ s.heap.get? T = none ∧ H' T = none ∧ s'.heap.get? T = some oT ∧ oT.data = .fields ts ∧ ts[3]? = some fl
def CXx (P : Program) (w : World) : CXT := fun outer H s E x s' => ∃ e C H', x = .ref e ∧ Fl P w (frs outer) H H' s s' C e .none ∧ E (.ref C) none H'
section
variable {X : Cx} {pins : List (Addr × Obj)} {σ : St} {H H' : Hp} {s s' : Shared} {h h' : Heap} {C e T : Addr} {a0 fl : Value}
structure Mv (X : Cx) (H H' : Hp) (s : Shared) (h : Heap) : Prop where
  un : Un (frs X.stack) [] H H' s.heap h
  hok : HOk X.prog X.w H' h
theorem Mv.frames (M : Mv X H H' s h) (I : Inv X pins σ H s) {b' : Heap} (hb : ∀ L ∈ frs X.stack, b'.get? L = none) : h.FunFrames b' X.stack :=
  funs_move I.stack (fun L hL o ho hd => by
    obtain ⟨sl, q⟩ := M.un.slot L o ho (I.stkFree L hL) hL (by simp)
    exact ⟨_, q, hd⟩) hb
theorem Mv.free (M : Mv X H H' s h) (I : Inv X pins σ H s) : ∀ L ∈ frs X.stack, H' L = none := fun L hL => by
  obtain ⟨_, o, ho, _⟩ := I.stack.mem hL
  exact M.un.free L o ho (I.stkFree L hL) (by simp)
abbrev hidE (h : Heap) (e T : Addr) (l : List Env) : Heap := PySem.W.hideAll h (e :: T :: frs l)
theorem Mv.on (M : Mv X H H' s h) (I : Inv X pins σ H s) (he : s.heap.get? e = none) (hT : s.heap.get? T = none) (hne : H' e = none) (hnT : H' T = none) (hs : (hidE h e T X.stack).StaysIn h') (hu : h.UpToSlots h') : Mv X H H' s h' := by
  have kp : ∀ b o, s.heap.get? b = some o → b ∉ frs X.stack → ∀ o', h.get? b = some o' → h'.get? b = some o' := fun b o q hb o' q' => hs b o' (PySem.W.hideAll_get _ q' fun z => by
    rcases List.mem_cons.mp z with z | z
    · rw [z, he] at q; cases q
    · rcases List.mem_cons.mp z with z | z
      · rw [z, hT] at q; cases q
      · exact hb z)
  have sl : ∀ b o, s.heap.get? b = some o → b ∈ frs X.stack → ∃ sl, h'.get? b = some { o with slots := sl } := fun b o q hb => by
    obtain ⟨sl, q1⟩ := M.un.slot b o q (I.stkFree b hb) hb (by simp)
    obtain ⟨_, o2, ho2, hd⟩ := I.stack.mem hb
    rw [q] at ho2; cases ho2
    obtain ⟨sl', q2⟩ := hu b _ q1 hd
    exact ⟨sl', q2⟩
  refine ⟨⟨fun b o q n hb hx => kp b o q hb o (M.un.keep b o q n hb hx), fun b o q n hb hx => sl b o q hb, M.un.free, fun b o q hx => ?_, M.un.tups, M.un.frzs, M.un.tbls⟩, fun a o ha => (M.hok a o ha).stay (fun b u hb q => hs b u (PySem.W.hideAll_get _ q fun z => ?_)) (fun _ q => q) fun _ _ q => q⟩
  · by_cases hb : b ∈ frs X.stack
    · obtain ⟨sl', q2⟩ := sl b o q hb
      exact ⟨_, q2⟩
    · obtain ⟨o', q'⟩ := M.un.there b o q hx
      exact ⟨o', kp b o q hb o' q'⟩
  · have hn : H' b ≠ none := by
      rcases hb with rfl | hb
      · rw [ha]; exact fun z => nomatch z
      · rw [hb]; exact fun z => nomatch z
    rcases List.mem_cons.mp z with z | z
    · rw [z] at hn; exact hn hne
    · rcases List.mem_cons.mp z with z | z
      · rw [z] at hn; exact hn hnT
      · exact hn (M.free I b z)
theorem hidE_stays (h : Heap) (e T : Addr) (l : List Env) : (hidE h e T l).StaysIn h := fun b o q => PySem.W.of_hideAll _ q
theorem hidE_fr (h : Heap) (e T : Addr) (l : List Env) : ∀ L ∈ frs l, (hidE h e T l).get? L = none := fun L hL => PySem.W.hideAll_none _ (List.mem_cons_of_mem _ (List.mem_cons_of_mem _ hL))
theorem hidE_e (h : Heap) (e T : Addr) (l : List Env) : (hidE h e T l).get? e = none := PySem.W.hideAll_none _ List.mem_cons_self
theorem hidE_T (h : Heap) (e T : Addr) (l : List Env) : (hidE h e T l).get? T = none := PySem.W.hideAll_none _ (List.mem_cons_of_mem _ List.mem_cons_self)
theorem fl_of (M : Mv X H H' s h) (I : Inv X pins σ H s) (os : s'.os = s.os) (bare : AllBare s'.gens) (he : s.heap.get? e = none) (hT : s.heap.get? T = none) (hne : H' e = none) (hnT : H' T = none) (hs : (hidE h e T X.stack).StaysIn s'.heap) (hu : h.UpToSlots s'.heap)
    (hf : s'.heap.FunFrames (hidE h e T X.stack) X.stack) (ht : s'.heap.TracedAtW (hidE h e T X.stack) e (.ref C) a0 fl) : Fl X.prog X.w (frs X.stack) H H' s s' C e fl := by
  have M1 := M.on I he hT hne hnT hs hu
  obtain ⟨oe, vs, T', oT, ts, t1, t2, t3, t4, t5, t6, t7, t8, t9⟩ := ht
  have key : s.heap.get? T' = none ∧ H' T' = none := by
    by_cases hm : T' ∈ e :: T :: frs X.stack
    · rcases List.mem_cons.mp hm with z | z
      · exact absurd z t6
      · rcases List.mem_cons.mp z with z | z
        · rw [z]; exact ⟨hT, hnT⟩
        · obtain ⟨_, o, ho, hd⟩ := hf.mem z
          rw [t7] at ho; cases ho
          exact absurd t8 (hd ts)
    · have hn : h.get? T' = none := by
        cases q : h.get? T' with
        | none => rfl
        | some u => rw [PySem.W.hideAll_get _ q hm] at t5; cases t5
      exact ⟨M.un.off hn, M.hok.off hn⟩
  exact ⟨os, bare, M1.un, M1.hok, he, hne, oe, vs, a0, T', oT, ts, t1, t2, t3, t4, t6, key.1, key.2, t7, t8, t9⟩
theorem Fl.mv (F : Fl X.prog X.w (frs X.stack) H H' s s' C e fl) : Mv X H H' s s'.heap := ⟨F.un, F.hok⟩
theorem Fl.left (F : Fl X.prog X.w (frs X.stack) H H' s s' C e fl) (I : Inv X pins σ H s) (hst : X.stack = X.env :: X.outer) (hfr : X.env.frame = some X.env.locals) (hex : X.ex = []) : Fl X.prog X.w X.fs X.H₀ H' X.s₀ s' C e fl := by
  have hb : Un X.fs [] X.H₀ H X.s₀.heap s.heap := by have := I.base; rw [hex] at this; exact this
  have sub : ∀ b ∈ X.fs, b ∈ frs X.stack := fun b hb => by
    rw [hst]; unfold frs; rw [List.filterMap_cons, hfr]; exact List.mem_cons_of_mem _ hb
  have un : Un X.fs [] X.H₀ H' X.s₀.heap s'.heap := ((hb.mono sub fun _ z => z).trans F.un).shrink (fun b o q z => by
    rw [hst] at z
    unfold frs at z
    rw [List.filterMap_cons, hfr] at z
    rcases List.mem_cons.mp z with z | z
    · exact absurd (Heap.lt_size q) (by rw [z]; exact Nat.not_lt.mpr I.ok.above)
    · exact z) sub
  obtain ⟨oe, vs, a1, T', oT, ts, t1, t2, t3, t4, t6, n1, n2, t7, t8, t9⟩ := F.tr
  exact ⟨F.os.trans I.os, F.bare, un, F.hok, hb.off F.new, F.ne, oe, vs, a1, T', oT, ts, t1, t2, t3, t4, t6, hb.off n1, n2, t7, t8, t9⟩
def Xf (X : Cx) (H H' : Hp) (s s' : Shared) (C e : Addr) : Prop :=
  Fl X.prog X.w (frs X.stack) H H' s s' C e .none ∨ (H' = H ∧ ∃ h' vs, s' = { s with heap := h' } ∧ Heap.MadeExcOf s.heap h' e (.ref C) vs)
section
variable {M : Model} {A : Around} {E : Value → Shared → Prop} {Q : Unit → Shared → Prop}
theorem fl_leave (F : Xf X H H' s s' C e) (I : Inv X pins σ H s) (hst : X.stack = X.env :: X.outer) (hfr : X.env.frame = some X.env.locals) (hex : X.ex = []) (hA : A.frames = some X.stack)
    (q : ∀ s'', Fl X.prog X.w X.fs X.H₀ H' X.s₀ s'' C e .none → Q () s'') : wpAny M A (leaving X.env (.ref e)) Q E s' := by
  rcases F with F | ⟨rfl, h', vs, rfl, hx⟩
  · obtain ⟨oe, vs, a0, T, oT, ts, t1, t2, t3, t4, t6, n1, n2, t7, t8, t9⟩ := id F.tr
    refine wpAny_leaving_nextW (base := hidE s'.heap e T X.stack) (cls := .ref C) (a0 := a0) (by rw [← hst]; exact hA) (by rw [← hst]; exact F.mv.frames I (hidE_fr _ _ _ _)) hfr ⟨oe, vs, T, oT, ts, t1, t2, t3, t4, hidE_T _ _ _ _, t6, t7, t8, t9⟩ (hidE_stays _ _ _ _) (hidE_e _ _ _ _) fun h'' hL => ?_
    obtain ⟨k1, k2, k3, k4⟩ := hL
    exact q _ ((fl_of (s' := { s' with heap := h'' }) F.mv I F.os F.bare F.new n1 F.ne n2 k1 k4 (by rw [hst]; exact (by rw [hst] at k2; exact k2)) k3.at).left I hst hfr hex)
  · obtain ⟨t, h1, h2, h3⟩ := hx.there
    have M0 : Mv X H' H' s h' := ⟨Un.kept hx.keeps, I.hok.kept hx.keeps⟩
    have hne : H' e = none := I.hok.off hx.new
    refine wpAny_leaving_firstW (base := hidE h' e e X.stack) (a0 := .ref t) (by rw [← hst]; exact hA) (by rw [← hst]; exact M0.frames I (hidE_fr _ _ _ _)) hfr h1 (hidE_stays _ _ _ _) (hidE_e _ _ _ _) rfl rfl rfl fun h'' hL => ?_
    obtain ⟨k1, k2, k3, k4⟩ := hL
    exact q _ ((fl_of (s' := { s with heap := h'' }) M0 I rfl I.bare hx.new hx.new hne hne k1 k4 (by rw [hst]; exact (by rw [hst] at k2; exact k2)) k3.at).left I hst hfr hex)
theorem fl_note (F : Xf X H H' s s' C e) (I : Inv X pins σ H s) (hst : X.stack = X.env :: X.outer) (hfr : X.env.frame = some X.env.locals) (hA : A.frames = some X.stack)
    (q : ∀ s'', Fl X.prog X.w (frs X.stack) H H' s s'' C e (rawInt X.env.locals) → Q () s'') : wpAny M A (noteFrame (.ref e) X.env) Q E s' := by
  rcases F with F | ⟨rfl, h', vs, rfl, hx⟩
  · obtain ⟨oe, vs, a0, T, oT, ts, t1, t2, t3, t4, t6, n1, n2, t7, t8, t9⟩ := id F.tr
    refine wpAny_noteFrame_onW (base := hidE s'.heap e T X.stack) (cls := .ref C) (a0 := a0) (by rw [← hst]; exact hA) (by rw [← hst]; exact F.mv.frames I (hidE_fr _ _ _ _)) hfr ⟨oe, vs, T, oT, ts, t1, t2, t3, t4, hidE_T _ _ _ _, t6, t7, t8, t9⟩ (hidE_stays _ _ _ _) (hidE_e _ _ _ _) fun h'' hL => ?_
    obtain ⟨k1, k2, k3, k4⟩ := hL
    exact q _ (fl_of (s' := { s' with heap := h'' }) F.mv I F.os F.bare F.new n1 F.ne n2 k1 k4 (by rw [hst]; exact (by rw [hst] at k2; exact k2)) k3)
  · obtain ⟨t, h1, h2, h3⟩ := hx.there
    have M0 : Mv X H' H' s h' := ⟨Un.kept hx.keeps, I.hok.kept hx.keeps⟩
    have hne : H' e = none := I.hok.off hx.new
    unfold noteFrame
    simp only [hfr]
    refine wpAny_bind (wpAny_field h1 rfl rfl ?_)
    rw [if_neg (by show ¬ ((Value.none != Value.none) = true); decide)]
    refine wpAny_entryW (base := hidE h' e e X.stack) (a0 := .ref t) (by rw [← hst]; exact hA) (by rw [← hst]; exact M0.frames I (hidE_fr _ _ _ _)) hfr h1 (hidE_stays _ _ _ _) (hidE_e _ _ _ _) rfl (by show 1 < 6; decide) rfl fun h'' hL => ?_
    obtain ⟨k1, k2, k3, k4⟩ := hL
    exact q _ (fl_of (s' := { s with heap := h'' }) M0 I rfl I.bare hx.new hx.new hne hne k1 k4 (by rw [hst]; exact (by rw [hst] at k2; exact k2)) k3)
theorem fl_land (F : Fl X.prog X.w (frs X.stack) H H' s s' C e fl) (I : Inv X pins σ H s) (q : ∀ s'', Fl X.prog X.w (frs X.stack) H H' s s'' C e .none → Q () s'') : wpAny M A (setFlight (.ref e) none) Q E s' := by
  obtain ⟨oe, vs, a0, T, oT, ts, t1, t2, t3, t4, t6, n1, n2, t7, t8, t9⟩ := id F.tr
  refine wpAny_setFlight_noneW (base := hidE s'.heap e T X.stack) (l := X.stack) (cls := .ref C) (a0 := a0) (fl := fl) (hidE_stays _ _ _ _) (F.mv.frames I (hidE_fr _ _ _ _)) ⟨oe, vs, T, oT, ts, t1, t2, t3, t4, hidE_T _ _ _ _, t6, t7, t8, t9⟩ fun h'' k1 k2 k3 k4 => ?_
  exact q _ (fl_of (s' := { s' with heap := h'' }) F.mv I F.os F.bare F.new n1 F.ne n2 k1 (fun b o hb hn => ⟨o.slots, k4 b o hb hn⟩) k2 k3.at)
end
end
end L2
end
section
namespace L2
open PySem PySem.Spec PyProof.Rows
def ER (X : Cx) (δ : Dn) (e : Expr) (C : Addr) : Prop := ∀ (pins : List (Addr × Obj)) (s : Shared) (σ : St) (H Hb : Hp) (own : Nat → List Addr) (B : Addr → Prop), Inv X pins σ H s → EnvO X.K Hb own B H σ δ →
  (∀ s1 H1 s' H' x, Inv X pins σ H1 s1 → Same H H1 → Xf X H1 H' s1 s' C x → Same H1 H' → X.xe (.ref x) s') → ∀ Q, wpAny (model X.prog X.w) X.A (eval e X.env) Q X.xe s
def S1x (X : Cx) (δ : Dn) (st : Stmt) (C : Addr) (δ' : Dn) : Prop := ∀ (pins : List (Addr × Obj)) (s : Shared) (σ : St) (H Hb : Hp) (own : Nat → List Addr) (B : Addr → Prop), Inv X pins σ H s → EnvO X.K Hb own B H σ δ →
  (∀ s1 σ1 H1 own1 s' H' x, Inv X pins σ1 H1 s1 → EnvO X.K Hb own1 B H1 σ1 δ' → Xf X H1 H' s1 s' C x → Same H1 H' → X.xe (.ref x) s') → ∀ Q, wpAny (model X.prog X.w) X.A (exec st X.env) Q X.xe s
def SX (X : Cx) (δ : Dn) (sts : List Stmt) (C : Addr) (δ' : Dn) : Prop := ∀ (pins : List (Addr × Obj)) (s : Shared) (σ : St) (H Hb : Hp) (own : Nat → List Addr) (B : Addr → Prop), Inv X pins σ H s → EnvO X.K Hb own B H σ δ →
  (∀ s1 σ1 H1 own1 s' H' x, Inv X pins σ1 H1 s1 → EnvO X.K Hb own1 B H1 σ1 δ' → Xf X H1 H' s1 s' C x → Same H1 H' → X.xe (.ref x) s') → ∀ Q, wpAny (model X.prog X.w) X.A (execs sts X.env) Q X.xe s
section
variable {X : Cx} {δ δ1 δ' : Dn} {a b c e : Expr} {es : List Expr} {d da db : PyData} {ds xs : List PyData} {p pos : Pos} {st : Stmt} {rest body els : List Stmt} {C : Addr} {name x : Str} {j k : Nat} {ps : List Str}
theorem sx_here (h : S1x X δ st C δ') : SX X δ (st :: rest) C δ' := fun pins s σ H Hb own B I E k Q => wpAny_execs_cons (h pins s σ H Hb own B I E k _)
theorem sx_cons (h1 : S1 X δ st (.nx δ1)) (h2 : SX X δ1 rest C δ') : SX X δ (st :: rest) C δ' := fun pins s σ H Hb own B I E k Q =>
  wpAny_execs_cons (thn (h1 pins s σ H { nx := fun σ' H' => ∃ own', EnvO X.K Hb own' B H' σ' δ1, rt := fun _ _ => False } I ⟨Hb, own, B, E, fun own' σ' H' E' => ⟨own', E'⟩⟩) fun f s1 q => by
    cases f with
    | next => obtain ⟨σ', H', I', own', E'⟩ := q; exact h2 pins s1 σ' H' Hb own' B I' E' k Q
    | ret u => obtain ⟨v, σ', H', I', r, z⟩ := q; exact z.elim
    | brk => obtain ⟨_, _, _, z⟩ := q; exact z.elim
    | cont => obtain ⟨_, _, _, z⟩ := q; exact z.elim)
theorem x_set {px : Pos} (h : ER X δ e C) (hs : swapsWith e (some (.Name x px)) pos.line X.env = pure false := by rfl) : S1x X δ (.Assign [.Name x px] e pos) C δ := fun pins s σ H Hb own B I E k Q =>
  wpAny_Assign_Name (h pins s σ H Hb own B I E (fun s1 H1 s' H' x I1 sm F sm' => k s1 σ H1 own s' H' x I1 (E.mono sm) F sm') _) hs
theorem x_if {m : Bool} (hc : EtD X δ c m) (h1 : m = true → SX X δ body C δ') (h2 : m = false → SX X δ els C δ') : S1x X δ (.If c body els pos) C δ' := fun pins s σ H Hb own B I E k Q =>
  wpAny_If (thn (hc pins s σ H (fun d H1 => d = m ∧ Same H H1) I ⟨Hb, own, B, E, fun H' s1 => ⟨rfl, s1⟩⟩) fun d s1 ⟨H1, I1, hd, sm⟩ => by
    subst hd
    cases d with
    | true => exact h1 rfl pins s1 σ H1 Hb own B I1 (E.mono sm) k _
    | false => exact h2 rfl pins s1 σ H1 Hb own B I1 (E.mono sm) k _)
theorem x_raise {np cpos : Pos} {bm : List Value} {B newId initId : String} (O : OwnCls x C bm newId X.mg X.base) (FB : ExcBaseFacts B newId initId bm) (hc : X.calm = true) (hg : Gl X x) (ha : EaD X δ [e] [d]) (hdb : (x == ("__debug__" : Str)) = false := by decide)
    (he : starEach [e] X.env = (false, eval e X.env) :: starEach [] X.env := by rfl) (hpl : (backTo cpos (starEach [] X.env)).any (·.1) = false := by rfl) : S1x X δ (.Raise (some (.Call (.Name x np) [e] [] cpos)) none pos) C δ := by
  intro pins s σ H Hb own B' I E k Q
  obtain ⟨tl, N, nm, q, bs, hdct, sn, sub, ab, col, dd, k0, k1, k2, k3, k5, mN, hC, hN, hni, T⟩ := O.obj
  refine wpAny_Raise_call_subT (C := C) (nm := nm) (q := q) (N := N) (bs := bs) (bm := tl) (hdct := hdct) (sn := sn) (sub := sub) (ab := ab) (col := col) (dd := dd) (k0 := k0) (k1 := k1) (k2 := k2) (k3 := k3) (k5 := k5)
    FB (mN := mN) (T.hasType FB.hasBase) (I.ok.hd hc) (by rw [he]; show (false || (backTo cpos (starEach [] X.env)).any (·.1)) = false; rw [hpl]; rfl) hni (ld_glob I hg O.bound ⟨rfl, ?_⟩ hdb)
  have h := ha cpos pins s σ H (fun vs H1 => Same H H1 ∧ vs.length = 1) I ⟨Hb, own, B', E, fun vs H' s1 r => ⟨s1, by rw [← r.length]; rfl⟩⟩
  rw [he] at h ⊢
  refine Calls.evalArgs_plain (thn h fun us s2 ⟨vs, H1, I1, r, sm, hl⟩ => ?_)
  refine ⟨rfl, ?_, I1.bk _ _ hC, hN.keeps I1.bk, T.keeps I1.bk, fun h' e' mk => k s2 σ H1 own { s2 with heap := h' } H1 e' I1 (E.mono sm) (.inr ⟨rfl, h', us, rfl, mk⟩) (Same.refl _)⟩
  show us.length ≤ sizeLine
  rw [← r.length, hl]; decide
inductive Rs where
  | d (d : PyData)
  | l (xs : List PyData)
  | n (t : OT)
  | x (C : Addr)
def spX (K : PySem.W.Frag) (R : List PyData → Rs → Prop) : Sp := fun vs H Q E => ∃ B ds r, (∀ a, B a → H a ≠ none) ∧ Reps K B H ds vs ∧ R ds r ∧ (match r with
  | .d d => ∀ v H', Same H H' → Rep K B H' d v → Q v H'
  | .l xs => ∀ a us H', Same H H' → H a = none → H' a = some (.lst us) → Reps K (fun b => B b ∨ b = a) H' xs us → Q (.ref a) H'
  | .n t => ∀ v as H', Same H H' → (∀ a ∈ as, H a = none) → as.Nodup → RepO K (fun b => B b ∨ b ∈ as) H' t v as → Q v H'
  | .x C => ∀ H', Same H H' → E (.ref C) none H')
structure FnX (P : Program) (w : World) (K : PySem.W.Frag) (mg : Str → Option Value) (base : Heap) (name : Str) (k : Nat) (ps : List Str) (R : List PyData → Rs → Prop) : Prop where
  ex : ∃ f fd, FnOk P w K mg base (CXx P w) k f fd ps (spX K R) ∧ mg name = some (.ref f) ∧ PySem.W.keepIn K (.ref f) = true ∧ Binds K fd ps []
theorem passX : Passes (CXx X.prog X.w) X E0 := fun _ _ _ _ _ _ _ ⟨_, _, _, _, _, z⟩ => z.elim
section
variable {R : List PyData → Rs → Prop}
theorem ev_callX (G : FnX X.prog X.w X.K X.mg X.base name j ps R) (hr : Room k X.A) (hjk : j ≤ k) (hg : Gl X name) (ha : EaD X δ (e :: es) ds) (hR : R ds (.d d)) (hdb : (name == ("__debug__" : Str)) = false := by decide)
    (he : starEach (e :: es) X.env = (false, eval e X.env) :: starEach es X.env := by rfl) (hpl : (backTo pos (starEach es X.env)).any (·.1) = false := by rfl) : EvD X δ (.Call (.Name name p) (e :: es) [] pos) d := by
  obtain ⟨f, fd, h1, h2, h3, h4⟩ := G.ex
  refine ev_of (pe_call h1 (hr.mono hjk) hg h2 h3 h4 .nil passX ha hdb he hpl) fun Hb own B σ H Q E q => ⟨Hb, own, B, E, fun vs H1 s1 rv => ?_⟩
  show spX X.K R (vs ++ []) H1 Q E0
  rw [List.append_nil]
  exact ⟨Av own B, ds, .d d, fun a z => (E.mono s1).alive z, rv, hR, fun v H' s2 r => q v H' (s1.trans s2) r⟩
theorem ef_callX (G : FnX X.prog X.w X.K X.mg X.base name j ps R) (hr : Room k X.A) (hjk : j ≤ k) (hg : Gl X name) (ha : EaD X δ (e :: es) ds) (hR : R ds (.l xs)) (hdb : (name == ("__debug__" : Str)) = false := by decide)
    (he : starEach (e :: es) X.env = (false, eval e X.env) :: starEach es X.env := by rfl) (hpl : (backTo pos (starEach es X.env)).any (·.1) = false := by rfl) : EvF X δ (.Call (.Name name p) (e :: es) [] pos) xs := by
  obtain ⟨f, fd, h1, h2, h3, h4⟩ := G.ex
  refine ef_of (pe_call h1 (hr.mono hjk) hg h2 h3 h4 .nil passX ha hdb he hpl) fun Hb own B σ H Q E q => ⟨Hb, own, B, E, fun vs H1 s1 rv => ?_⟩
  show spX X.K R (vs ++ []) H1 Q E0
  rw [List.append_nil]
  exact ⟨Av own B, ds, .l xs, fun a z => (E.mono s1).alive z, rv, hR, fun a us H' s2 hn ha r => q a us H' (s1.trans s2) (s1.free hn) ha r⟩
theorem er_call (G : FnX X.prog X.w X.K X.mg X.base name j ps R) (hr : Room k X.A) (hjk : j ≤ k) (hg : Gl X name) (ha : EaD X δ (e :: es) ds) (hR : R ds (.x C)) (hdb : (name == ("__debug__" : Str)) = false := by decide)
    (he : starEach (e :: es) X.env = (false, eval e X.env) :: starEach es X.env := by rfl) (hpl : (backTo pos (starEach es X.env)).any (·.1) = false := by rfl) : ER X δ (.Call (.Name name p) (e :: es) [] pos) C := by
  obtain ⟨f, fd, F, h2, h3, h4⟩ := G.ex
  intro pins s σ H Hb own B I E k Q
  refine wpAny_Call_Name_kw (ld_glob I hg h2 ?_ hdb)
  refine PySem.W.callWith_K (h₀ := X.base) I.ok.mod.kin h3 (thn (ha pos pins s σ H (fun vs H1 => Same H H1 ∧ Reps X.K (Av own B) H1 ds vs) I ⟨Hb, own, B, E, fun vs H' s1 r => ⟨s1, r⟩⟩) fun us s1 ⟨vs, H1, I1, r, sm, rv⟩ => ⟨I1.kIn, ?_⟩) he hpl
  have hsp : spX X.K R (vs ++ []) H1 (fun _ _ => False) (fun cv _ H' => cv = .ref C ∧ Same H1 H') := by
    rw [List.append_nil]
    exact ⟨Av own B, ds, .x C, fun a z => (E.mono sm).alive z, rv, hR, fun H' s2 => ⟨rfl, s2⟩⟩
  have r2 : Vals (vs ++ []) (us ++ []) := r.append .nil
  have hl : (us ++ ([] : List Value)).length = ps.length := by rw [← r2.length]; exact F.len _ _ _ _ hsp
  refine wpAny_call (codeAny_mono (F.run X.A X.stack s1 H1 ⟨us, []⟩ (us ++ []) (vs ++ []) _ _ (hr.mono hjk) I1.env0 (h4 s1 us I1.kIn hl) r2 hsp) fun rr s' hq => ?_)
  cases rr with
  | error e' =>
    obtain ⟨x, C', H', rfl, fl, hC, sm2⟩ := hq
    cases hC
    exact k s1 H1 s' H' x I1 sm (.inl fl) sm2
  | ok fl =>
    cases fl with
    | ret u => obtain ⟨_, _, _, _, _, _, _, z⟩ := hq; exact z.elim
    | next => exact False.elim hq
    | brk => exact False.elim hq
    | cont => exact False.elim hq
end
end
abbrev bxX (P : Program) (w : World) (K : PySem.W.Frag) (mg : Str → Option Value) (base : Heap) (N : List Str) (qual : Str) (st : Stmt) (f : Addr) (cdv : Value) (A : Around) (outer : List Env) (s : Shared) (H : Hp) (E : XK) : Cx :=
  cxOf (CXx P w) P w K mg base N qual (defScope st) f cdv A outer s H E
def BodyX (X Y : Cx) (δ : Dn) (body : List Stmt) : Rs → Prop
  | .d d => SR X δ body (.rt d) ∨ (d = .none ∧ ∃ δ', SR X δ body (.nx δ')) ∨ ∃ xs, d = .list xs ∧ SR X δ body (.rf xs)
  | .l xs => SR X δ body (.rf xs)
  | .n t => SR X δ body (.rn t)
  | .x C => ∃ δ', SX Y δ body C δ'
section
variable {P : Program} {w : World} {K : PySem.W.Frag} {mg : Str → Option Value} {base : Heap} {x qual : Str} {st : Stmt} {f : Addr} {fd : FuncData} {N ps : List Str} {k : Nat}
theorem fn_X {R : List PyData → Rs → Prop} (F : Fun K x qual st f fd) (S : FnScope N ps (defScope st)) (hm : mg x = some (.ref f)) (hb : Binds K fd ps []) (hl : ∀ ds r, R ds r → ds.length = ps.length)
    (body : ∀ cdv A outer s H E, Room k (bx P w K mg base N qual st f cdv A outer s H E).A → ∀ ds r, R ds r → BodyX (bx P w K mg base N qual st f cdv A outer s H E) (bxX P w K mg base N qual st f cdv A outer s H E) (startD N ds) (defBody st) r) :
    FnX P w K mg base x (k + 1) ps R := by
  refine ⟨f, fd, ?_, hm, F.kp, hb⟩
  obtain ⟨oc, od, kV, doc, pm, an, cdv, ct, osl, rfl, lk, hcd⟩ := F.ex
  refine fn_of lk hcd S (fun vs H Q E h => ?_) fun A outer s H vs Q E hr h => ?_
  · obtain ⟨B, ds, r, _, rv, hR, _⟩ := h
    rw [← rv.length]; exact hl ds r hR
  · obtain ⟨B, ds, r, hB, rv, hR, q⟩ := h
    have hbd := body cdv A outer s H E hr ds r hR
    cases r with
    | d d =>
      rcases hbd with h | ⟨rfl, δ', h⟩ | ⟨xs, rfl, h⟩
      · exact ⟨_, PSs.nox h, H, _, B, env_start hB rv, fun v H' s1 r => q v H' s1 r⟩
      · exact ⟨_, PSs.nox h, H, _, B, env_start hB rv, fun own σ H' E' => q .non H' E'.base rfl⟩
      · exact ⟨_, PSs.nox h, H, _, B, env_start hB rv, fun a vs H' s1 hn ha r => q _ H' s1 ⟨a, vs, rfl, fun z => hB a z hn, ha, r.av fun _ z => .inl z⟩⟩
    | l xs => exact ⟨_, PSs.nox hbd, H, _, B, env_start hB rv, fun a vs H' s1 hn ha r => q a vs H' s1 hn ha r⟩
    | n t => exact ⟨_, PSs.nox hbd, H, _, B, env_start hB rv, fun v as H' s1 hn nd r => q v as H' s1 hn nd r⟩
    | x C =>
      obtain ⟨δ', h⟩ := hbd
      refine ⟨fun _ σ Hc => ∃ own B', EnvO K H own B' Hc σ (startD N ds), fun pins s2 σ H2 D I ⟨own, B', E'⟩ => ?_, _, B, env_start hB rv⟩
      refine h pins s2 σ H2 H own B' I E' (fun s1 σ1 H1 own1 s' H' y I1 E1 F1 sm => ?_) _
      exact fl_leave F1 I1 rfl rfl rfl I1.ok.frames fun s'' F2 => ⟨y, C, H', rfl, F2, q H' (E1.base.trans sm)⟩
end
end L2
end
section
namespace L2
open PySem PySem.Spec PyProof.Rows
section
variable {K : PySem.W.Frag} {Hb H : Hp} {own : Nat → List Addr} {B : Addr → Prop} {σ : St} {δ : Dn}
theorem EnvO.drop (E : EnvO K Hb own B H σ δ) (i : Nat) (v : Option V) : EnvO K Hb (unown own i) B H (σ.set i v) (δ.set i .no) := by
  refine ⟨E.base, by rw [List.length_set, List.length_set]; exact E.len, E.bb, fun j a h => E.ofr j a (unown_some h).2, fun j a h => ?_, unown_nd E.ond i, fun j k a h h' => E.inj j k a (unown_some h).2 (unown_some h').2, fun j e h => ?_, fun j oa c h => ?_⟩
  · obtain ⟨oa, c, q⟩ := E.oex j a (unown_some h).2
    exact ⟨oa, c, by rw [List.getElem?_set_ne (Ne.symm (unown_some h).1)]; exact q⟩
  · by_cases ji : j = i
    · subst ji
      by_cases hl : j < δ.length
      · rw [List.getElem?_set_self hl] at h; cases h
      · rw [List.getElem?_eq_none (by rw [List.length_set]; omega)] at h; cases h
    · rw [List.getElem?_set_ne (Ne.symm ji)] at h
      obtain ⟨u, h1, h2⟩ := E.sh j e h
      exact ⟨u, by rw [List.getElem?_set_ne (Ne.symm ji)]; exact h1, h2.av unown_av⟩
  · by_cases ji : j = i
    · subst ji
      by_cases hl : j < δ.length
      · rw [List.getElem?_set_self hl] at h; cases h
      · rw [List.getElem?_eq_none (by rw [List.length_set]; omega)] at h; cases h
    · rw [List.getElem?_set_ne (Ne.symm ji)] at h
      obtain ⟨u, h1, h2, h3⟩ := E.ow j oa c h
      exact ⟨u, by rw [List.getElem?_set_ne (Ne.symm ji)]; exact h1, h2, by rw [unown_ne ji]; exact h3.av unown_av⟩
end
abbrev Cx.inX (X : Cx) (e : Addr) (E : Value → Shared → Prop) : Cx := { X with A := X.A.mark (some (.ref e)), calm := false, xe := E }
section
variable {X : Cx} {pins : List (Addr × Obj)} {σ : St} {H H' : Hp} {s s' : Shared}
theorem Inv.inX (I : Inv X pins σ H s) (e : Addr) (E : Value → Shared → Prop) : Inv (X.inX e E) pins σ H s :=
  ⟨⟨I.ok.mod, I.ok.kind, I.ok.glob, I.ok.blt, I.ok.above, I.ok.inj, I.ok.has, I.ok.cab, fun z => (nomatch z), I.ok.frames, I.ok.stk, I.ok.exf, I.ok.bs, I.ok.bsz, I.ok.noex, I.ok.exfs, I.ok.funs, I.ok.frf⟩, I.os, I.bare, I.base, I.loc, I.cell, I.free, I.freeC, I.pin, I.hok, I.len⟩
theorem Inv.outX {e : Addr} {E : Value → Shared → Prop} (I : Inv (X.inX e E) pins σ H s) (hd : X.calm = true → X.A.handled = none) : Inv X pins σ H s :=
  ⟨⟨I.ok.mod, I.ok.kind, I.ok.glob, I.ok.blt, I.ok.above, I.ok.inj, I.ok.has, I.ok.cab, hd, I.ok.frames, I.ok.stk, I.ok.exf, I.ok.bs, I.ok.bsz, I.ok.noex, I.ok.exfs, I.ok.funs, I.ok.frf⟩, I.os, I.bare, I.base, I.loc, I.cell, I.free, I.freeC, I.pin, I.hok, I.len⟩
theorem Inv.unbound {i : Nat} {x : Str} {m : Str → Option Value} {v : Option Value} {h' : Heap} {t' : Nat} (I : Inv X pins σ H s) (hN : X.N.Nodup) (hi : X.N[i]? = some x) (hk : X.env.scope.names.lookup x = some .local) (hn : s.heap.Ns X.env.locals m) (hm : ∀ (j : Nat) (y : Str) (v : V), X.N[j]? = some y → σ[j]? = some (some v) → Vis X.env.scope y → ∃ u, RelV v u ∧ Look X.env s.heap m y u)
    (hn' : h'.Ns X.env.locals (fun y => if y = x then v else m y)) (hs : Heap.SameBut X.env.locals s.heap h') : Inv X pins (σ.set i none) H { s with heap := h', toks := t' } := by
  have cne := I.cne
  obtain ⟨oL, _, _, hoL, _⟩ := id hn
  refine ⟨I.ok, I.os, I.bare, ⟨fun b o e n hb hx => ?_, fun b o e n hb hx => ?_, I.base.free, fun b o e hx => ?_, I.base.tups, I.base.frzs, I.base.tbls⟩, ⟨_, hn', fun j y v' e1 e2 e3 => ?_⟩, fun y c e => ?_, I.free, I.freeC, fun p hp => ?_, fun b ob e => ?_, by simpa using I.len⟩
  · exact (hs.2 b (Nat.ne_of_lt (Nat.lt_of_lt_of_le (Heap.lt_size e) I.ok.above))).trans (I.base.keep b o e n hb hx)
  · obtain ⟨sl, e1⟩ := I.base.slot b o e n hb hx
    exact ⟨sl, (hs.2 b (Nat.ne_of_lt (Nat.lt_of_lt_of_le (Heap.lt_size e) I.ok.above))).trans e1⟩
  · obtain ⟨o', e1⟩ := I.base.there b o e hx
    exact ⟨o', (hs.2 b (Nat.ne_of_lt (Nat.lt_of_lt_of_le (Heap.lt_size e) I.ok.above))).trans e1⟩
  · by_cases hj : j = i
    · subst hj
      by_cases hl : j < σ.length
      · rw [List.getElem?_set_self hl] at e2; cases e2
      · rw [List.getElem?_eq_none (by rw [List.length_set]; omega)] at e2; cases e2
    · rw [List.getElem?_set_ne (Ne.symm hj)] at e2
      obtain ⟨u', r', q⟩ := hm j y v' e1 e2 e3
      refine ⟨u', r', ?_⟩
      rcases q with ⟨k, e⟩ | ⟨k, c, e, z⟩
      · refine .inl ⟨k, ?_⟩
        have : y ≠ x := fun e => hj (nodup_ix hN e1 (e ▸ hi))
        simp [this, e]
      · exact .inr ⟨k, c, e, z.sameBut hs (cne y c e)⟩
  · obtain ⟨w', z⟩ := I.cell y c e
    exact ⟨w', z.sameBut hs (cne y c e)⟩
  · obtain ⟨e, n, ne, nf, d⟩ := I.pin p hp
    exact ⟨(hs.2 p.1 ne).trans e, n, ne, nf, d⟩
  · refine (I.hok b ob e).stay (fun c w' hc q => (hs.2 c ?_).trans q) (fun _ q => q) fun _ _ q => q
    rintro rfl
    rcases hc with rfl | hc
    · rw [I.free] at e; cases e
    · rw [I.free] at hc; cases hc
theorem Fl.inv {C e : Addr} {fl : Value} (F : Fl X.prog X.w (frs X.stack) H H' s s' C e fl) (I : Inv X pins σ H s) : Inv X pins σ H' s' := I.call' (ch := []) F.os F.un F.hok F.bare (fun _ z => nomatch z)
theorem Fl.track {C e : Addr} {fl : Value} (F : Fl X.prog X.w (frs X.stack) H H' s s' C e fl) (I : Inv X pins σ H s) : ∃ oe, Inv X pins σ (upd H' e (.frz oe (.ext (xcP e C)))) s' := by
  obtain ⟨oe, vs, a0, T, oT, ts, t1, t2, _⟩ := F.tr
  have hu : Un (frs X.stack) [] H (upd H' e (.frz oe (.ext (xcP e C)))) s.heap s'.heap :=
    ⟨F.un.keep, F.un.slot, fun b o q n hx => by rw [upd_ne (fun z : b = e => by rw [z, F.new] at q; cases q)]; exact F.un.free b o q n hx, F.un.there,
      fun b xs q => by have := F.un.tups b xs q; rw [upd_ne (ne_of_none this F.ne)]; exact this, fun b o u q => by have := F.un.frzs b o u q; rw [upd_ne (ne_of_none this F.ne)]; exact this,
      fun b ps q => by obtain ⟨m, this⟩ := F.un.tbls b ps q; exact ⟨m, by rw [upd_ne (ne_of_none this F.ne)]; exact this⟩⟩
  refine ⟨oe, I.call' (ch := []) F.os hu (fun a o ha => ?_) F.bare (fun _ z => nomatch z)⟩
  by_cases hae : a = e
  · subst hae
    rw [upd_same] at ha
    cases ha
    exact ⟨t1, ⟨oe, t1, t2.1⟩, ⟨oe, t1⟩, fun h1 h2 ⟨o1, p1, p2⟩ k => ⟨o1, k o1 p1, p2⟩⟩
  · rw [upd_ne hae] at ha
    exact (F.hok a o ha).stay (fun _ _ _ q => q) (fun b q => by rw [upd_ne (ne_of_none q F.ne)]; exact q) fun b xs q => by rw [upd_ne (ne_of_none q F.ne)]; exact q
end
section
variable {X : Cx} {δ δ1 δ2 δ' : Dn} {body suite : List Stmt} {b₀ : Stmt} {h₀ : ExceptHandler} {hs : List ExceptHandler} {pos np hpos : Pos} {C D : Addr} {cx n : Str}
theorem s1_tryOk (h : SR X.nox δ body (.nx δ1)) : S1 X δ (.Try body (h₀ :: hs) [] [] pos) (.nx δ1) := fun pins s σ H Dn I ⟨Hb, own, B, E, P⟩ =>
  wpAny_Try_except (wpAny_mono (h pins s σ H { nx := fun σ' H' => ∃ own', EnvO X.K Hb own' B H' σ' δ1, rt := fun _ _ => False } (I.wish _) ⟨Hb, own, B, E, fun own' σ' H' E' => ⟨own', E'⟩⟩) (fun f s1 q => by
    cases f with
    | next => obtain ⟨σ', H', I', own', E'⟩ := q; exact wpAny_execs_nil ⟨σ', H', I'.unwish, P own' σ' H' E'⟩
    | ret u => obtain ⟨v, σ', H', I', r, z⟩ := q; exact z.elim
    | brk => obtain ⟨_, _, _, z⟩ := q; exact z.elim
    | cont => obtain ⟨_, _, _, z⟩ := q; exact z.elim) fun _ _ z => z.elim)
theorem s1_tryAs (i : Nat) (hbody : ∀ E, SX (X.wish E) δ body C δ') (hsuite : ∀ e E, SR (X.inX e E) (δ'.set i (.sh (excD C))) (b₀ :: suite) (.nx δ2)) (hex : PySem.W.exmOne X.K (.ref C) (.ref D) = some true) (hm : X.mg cx = some (.ref D)) (hg : Gl X cx) (hN : X.N.Nodup)
    (hi : X.N[i]? = some n := by rfl) (hk : X.env.scope.names.lookup n = some .local := by rfl) (hst : X.stack = X.env :: X.outer := by rfl) (hfr : X.env.frame = some X.env.locals := by rfl) (hdb : (cx == ("__debug__" : Str)) = false := by decide) :
    S1 X δ (.Try body [.ExceptHandler (some (.Name cx np)) (some n) (b₀ :: suite) hpos] [] [] pos) (.nx (δ2.set i .no)) := by
  intro pins s σ H Dn I ⟨Hb, own, B, E, P⟩
  refine wpAny_Try_except ?_
  refine hbody (fun e s₁ => wpAny (model X.prog X.w) X.A (noteFrame e X.env) (fun _ s₂ => wpAny (model X.prog X.w) X.A (setFlight e none) (fun _ s₃ => wpAny (model X.prog X.w) X.A (handleBy e X.env [.ExceptHandler (some (.Name cx np)) (some n) (b₀ :: suite) hpos]) (SP X pins Dn) X.xe s₃) X.xe s₂) X.xe s₁) pins s σ H Hb own B (I.wish _) E (fun s1 σ1 H1 own1 s' H' x I1 E1 F1 sm => ?_) _
  have I1' : Inv X pins σ1 H1 s1 := I1.unwish
  refine fl_note (X := X) F1 I1' hst hfr I1'.ok.frames fun s2 F2 => fl_land F2 I1' fun s3 F3 => ?_
  have I3 := F3.inv I1'
  refine wpAny_handleBy_cons (codeAny_handlers_test ?_) (by intro q; cases q)
  refine ld_glob (X := X.inX x X.xe) (I3.inX x _) hg hm ?_ hdb
  have LT : PySem.W.Looks (model X.prog X.w) s3.heap (typeOf (.ref x)) (.ref C) := by
    obtain ⟨oe, vs, a0, T, oT, ts, t1, t2, _⟩ := F3.tr
    exact t2.1 ▸ (PySem.W.Looks.ld t1).andThen .now
  refine (PySem.W.exm_one I3.kIn LT hex).here ?_
  refine codeAny_handlers_suite_as (fl_land F3 I1' fun s4 F4 => ?_)
  obtain ⟨oe, I4⟩ := F4.track I1'
  have hne : H' x = none := F4.ne
  have sm2 : Same H' (upd H' x (.frz oe (.ext (xcP x C)))) := fun b u q => by rw [upd_ne (ne_of_none q hne)]; exact q
  refine store_ok (X := X) I4 hN hi (.inl hk) (v := .ref x) rfl (fun s5 I5 => ?_) (.inr hk)
  have E5 := (E1.mono (sm.trans sm2)).setSh (i := i) (v := .ref x) (d := excD C) (.inr (.inr ⟨x, C, oe, rfl, rfl, upd_same⟩))
  refine wpAny_mono (hsuite x _ pins s5 _ _ { nx := fun σ' H' => ∃ own', EnvO X.K Hb own' B H' σ' δ2, rt := fun _ _ => False } (I5.inX x _) ⟨Hb, _, B, E5, fun own' σ' H' E' => ⟨own', E'⟩⟩) (fun f s6 q => ?_) fun _ _ z => z
  cases f with
  | next =>
    obtain ⟨σ', H'', I6, own', E6⟩ := q
    have I6' := I6.outX I.ok.hd
    obtain ⟨m, hn, hl⟩ := id I6'.loc
    refine wpAny_nameGoes_keeps (by exact hk) hn (by rw [I6'.ok.kind]; rfl) fun h' v hn' hs => ?_
    exact ⟨_, H'', I6'.unbound hN hi hk hn hl hn' hs, P _ _ _ (E6.drop i none)⟩
  | ret u => obtain ⟨v, σ', H', I', r, z⟩ := q; exact z.elim
  | brk => obtain ⟨_, _, _, z⟩ := q; exact z.elim
  | cont => obtain ⟨_, _, _, z⟩ := q; exact z.elim
end
end L2
end
section
namespace L2
open PySem PySem.Spec PyProof.Rows PySem.W PySem.Builtin PySem.Builtin.ObjectAttr PySem.Builtin.Getset_descriptor PySem.Calls
section
variable {prog : Program} {w : World} {A : Around} {E : Value → Shared → Prop} {s : Shared} {K : Frag} {x C : Addr} {ox : Obj}
structure XCls (K : Frag) (C : Addr) : Prop where
  ga : findIn K (.ref C) "__getattribute__" = some (some (.builtin "BaseException.__getattribute__"))
  gt : findIn K (.ref C) "__getattr__" = some none
  cl : findIn K (.ref C) "__class__" = some (some (.builtin "object.__class__"))
  sp : specialIn K (.builtin "object.__class__") "__get__" = some (some (.builtin "getset_descriptor.__get__"))
  tk : takesIn K (.builtin "object.__class__") = some true
  ob : mroIn K C (.type "object") = some true
  bx : mroIn K C (.type "BaseException") = some true
  hd : hasDictIn K C = true
theorem exc_get {tp : Value} {R : Result → Shared → Prop} {hh : Heap} {g : Array GenState} {d : Drawn} {t : Nat} {os : OsState} (X : K.In hh) (LT : Looks (model prog w) hh (typeOf (.ref x)) (.ref C)) (hm : mroIn K C (.type "object") = some true) (q : R (.ok (.ret (.ref C))) ⟨hh, g, d, t, os⟩) :
    codeAny (model prog w) A (.call (.builtin "getset_descriptor.__get__") ⟨[.builtin "object.__class__", .ref x, tp], []⟩) R ⟨hh, g, d, t, os⟩ := by
  have LM := looks_mroIn (M := model prog w) X hm
  refine codeAny_call_builtin (KF.slot_gs.plain) KF.entry_gs (KF.slot_gs.check _ _ _ _ _ _ _ _ KF.type_class (KF.args_gs _ _ _) ?_)
  unfold Builtin.«getset_descriptor.__get__» descrGet; rw [dga_obj]
  refine wpAny_bind (wpAny_pure ?_); unfold descrGetter descrCheckInstance descrNameAndClass isInstance
  simp only [KF.owner_class]; (repeat lk)
  refine ⟨Code.quiet_builtin _ (by decide +kernel), codeAny_builtin (KF.entry_class) ?_⟩; unfold Builtin.«object.__class__» shownTypeOf; (repeat lk)
  exact q
theorem exc_class {Q : Option Value → Shared → Prop} (X : K.In s.heap) (L0 : Looks (model prog w) s.heap (typeOf (.ref x)) (.ref C)) (hga : findIn K (.ref C) "__getattribute__" = some (some (.builtin "BaseException.__getattribute__"))) (hgt : findIn K (.ref C) "__getattr__" = some none) (hcl : findIn K (.ref C) "__class__" = some (some (.builtin "object.__class__"))) (hsp : specialIn K (.builtin "object.__class__") "__get__" = some (some (.builtin "getset_descriptor.__get__"))) (htk : takesIn K (.builtin "object.__class__") = some true)
    (hm : mroIn K C (.type "object") = some true) (hb : mroIn K C (.type "BaseException") = some true)
    (h : Q (some (.ref C)) { s with toks := s.toks + 1 }) : wpAny (model prog w) A (getAttr? (.ref x) "__class__") Q E s := by
  obtain ⟨hh, g, d, t, os⟩ := s
  have L1 := looks_findIn (M := model prog w) X hga
  have L2 := looks_findIn (M := model prog w) X hgt
  have L3 : Looks (model prog w) hh (Builtin.ObjectAttr.find (.ref x) (.ref C) "__class__") (.bind (.builtin "getset_descriptor.__get__") (.builtin "object.__class__")) :=
    (looks_findIn (M := model prog w) X hcl).andThen ((show Looks (model prog w) hh (Builtin.ObjectAttr.getOf (some (.builtin "object.__class__"))) _ from looks_specialIn X hsp).andThen ((show Looks (model prog w) hh (Builtin.ObjectAttr.dataDescriptor? (some (.builtin "object.__class__")) (some (.builtin "getset_descriptor.__get__"))) (some (.builtin "getset_descriptor.__get__", .builtin "object.__class__")) from (looks_takesIn X htk).andThen .now).andThen (Looks.tag .now)))
  have L4 := looks_mroIn (M := model prog w) X hb
  unfold getAttr? getAttrBy? getAttrBy
  refine wpAny_bind (wpAny_mkText (wpAny_bind (wpAny_attempt (wpAny_holding (wpAny_bind (L0.at (wpAny_bind (L1.at ?_))))))))
  dsimp only
  have e0 : (onTheHeap (Value.ref C) && Value.builtin "BaseException.__getattribute__" == Value.builtin "object.__getattribute__") = false := by
    rw [show onTheHeap (Value.ref C) = true from rfl]; decide +kernel
  rw [e0, if_neg Bool.false_ne_true]
  unfold getAttrByItsOwn hookBefore callGetattribute boundAndCalled
  rw [if_pos (show onTheHeap (.ref C) = true from rfl)]
  refine wpAny_bind (L2.at (wpAny_bind (wpAny_attempt (wpAny_holding ?_))))
  show wpAny _ _ (bindSpecial (.builtin "BaseException.__getattribute__") (.ref x) >>= _) _ _ _
  refine wpAny_bind (wpAny_of_eq (PySem.F.excAttr_ValueError.ga.bind _) ?_)
  show wpAny _ _ (call (.builtin "BaseException.__getattribute__") [.ref x, .str "__class__" t]) _ _ _
  refine wpAny_mono (Q := fun v s' => v = .ref C ∧ s' = ⟨hh, g, d, t + 1, os⟩) (E := fun _ _ => False) (wpAny_call (codeAny_call_builtin PySem.F.excAttr_ValueError.ga.plain PySem.F.entry_bexc_ga ?_)) (fun v s' hv => ?_) fun _ _ z => z.elim
  · have hk : builtinKind "BaseException.__getattribute__" = some .slot := by decide +kernel
    have hsplit : splitId "BaseException.__getattribute__" = some ("BaseException", "__getattribute__") := by decide +kernel
    have hb1 := PySem.F.args_bexc_ga (.ref x) (.str "__class__" t)
    have LI : Looks (model prog w) hh (isInstance (.ref x) (.type "BaseException")) true := L0.andThen L4
    simp only [checkBuiltinCall, hk, hsplit]
    refine wpAny_bind (LI.at ?_)
    rw [if_neg (by decide)]
    have key : wpAny (model prog w) A.in1 (Builtin.«object.__getattribute__» { pos := [Value.ref x, Value.str "__class__" t] }) (fun fin s' => fin = .done (.ret (.ref C)) ∧ s' = ⟨hh, g, d, t + 1, os⟩) (fun _ _ => False) ⟨hh, g, d, t + 1, os⟩ := by
      unfold Builtin.«object.__getattribute__»
      refine wpAny_bind (wpAny_pure (wpAny_bind (wpAny_pure (wpAny_bind (L0.at (wpAny_bind (L3.at ?_)))))))
      show wpAny _ _ (holding [Value.builtin "object.__class__"] (call (.builtin "getset_descriptor.__get__") [.builtin "object.__class__", .ref x, .ref C]) >>= ret) _ _ _
      refine wpAny_bind (wpAny_holding (wpAny_call (exc_get X L0 hm ?_)))
      exact wpAny_pure ⟨rfl, rfl⟩
    have fin : wpAny (model prog w) A.in1 (Builtin.«object.__getattribute__» { pos := [Value.ref x, Value.str "__class__" t] }) (fun fin s' => match fin with
          | Fin.done f => (match (Except.ok f : Result) with
            | Except.ok (Flow.ret v) => v = Value.ref C ∧ s' = { heap := hh, gens := g, drawn := d, toks := t + 1, os := os }
            | Except.ok a => False
            | Except.error e => False)
          | Fin.again c' => c'.quiet = true ∧ codeAny (model prog w) A c' (fun r s' => match r with
                  | Except.ok (Flow.ret v) => v = Value.ref C ∧ s' = { heap := hh, gens := g, drawn := d, toks := t + 1, os := os }
                  | Except.ok a => False
                  | Except.error e => False) s') (fun _ _ => False) ⟨hh, g, d, t + 1, os⟩ := thn key fun f s' ⟨h1, h2⟩ => by subst h1 h2; exact ⟨rfl, rfl⟩
    repeat (first | exact fin | wp_step)
  · obtain ⟨rfl, rfl⟩ := hv
    exact handed_on rfl (wpAny_pure h)
theorem kitx_exc (c : XCls K C) : KitX K (.ref x) (.ref C) (xcP x C) where
  ty := fun M h _ p => by obtain ⟨o, h1, h2⟩ := p; exact h2 ▸ (Looks.ld h1).andThen .now
  it := fun M h X _ => by
    obtain ⟨cd, hc, _⟩ := any_some c.hd
    unfold clsIn at hc; split at hc
    · rename_i ho; intro A' Q' E' s' k q; unfold isType loadHead; exact wpAny_bind (wpAny_loadPart (k _ _ (X _ _ ho)) (wpAny_pure q))
    · cases hc
  ne := fun h tp dd its n sl X htp => by
    obtain ⟨cd, hc, _⟩ := any_some c.hd
    refine Bool.eq_false_iff.mpr fun q => ?_
    have e : C = tp := Value.ref.inj (beq_iff_eq.mp q)
    subst e; unfold clsIn at hc; split at hc
    · rename_i ho; have z := (X _ _ ho).symm.trans htp; cases z
    · cases hc
  ca := fun {prog w A E Q s} X p k => exc_class X (by obtain ⟨o, h1, h2⟩ := p; exact h2 ▸ (Looks.ld h1).andThen .now) c.ga c.gt c.cl c.sp c.tk c.ob c.bx k
end
section
variable {X : Cx} {δ : Dn} {a : Expr} {es : List Expr} {p p' pos : Pos} {C D : Addr} {k : Bool} {x : Str}
theorem exc_at {pins : List (Addr × Obj)} {s : Shared} {σ : St} {H : Hp} {a C : Addr} {o : Obj} (I : Inv X pins σ H s) (h : H a = some (.frz o (.ext (xcP a C)))) : xcP a C s.heap := by
  obtain ⟨_, q, _⟩ := I.hok a _ h
  exact q
theorem call_isiX : CallR X (.builtin "isinstance") (fun xs H Q => ∃ (a C : Addr) (o : Obj) (y : V) (c : Value) (k : Bool), xs = [.ref a, y] ∧ H a = some (.frz o (.ext (xcP a C))) ∧ XCls X.K C ∧ (∀ u, RelV y u → u = c) ∧ kitOne X.K (.ref C) c = some k ∧ Q (.bl k) H) := by
  intro pins s σ H xs us Q I rv h
  obtain ⟨a, C, o, y, c, k, rfl, ha, hc, hy, hk, q⟩ := h
  obtain ⟨u, u', rfl, ru, ru'⟩ := rv.two
  cases ru
  have e := hy u' ru'
  subst e
  exact kia_one (kitx_exc hc) I.kIn (exc_at I ha) hk (by intro z; cases z) fun tk => ⟨.bl k, H, I.tok tk, rfl, q⟩
theorem rep_exc {K : PySem.W.Frag} {A : Addr → Prop} {H : Hp} {v : V} (h : Rep K A H (excD C) v) : ∃ a o, v = .ref a ∧ H a = some (.frz o (.ext (xcP a C))) := by
  rcases h with ⟨_, _, _, z, _⟩ | ⟨_, _, _, _, _, κ, _, _, _, z, _⟩ | ⟨a, C', o, h1, z, h3⟩
  · cases z
  · cases z
  · have hz : C = C' := Int.ofNat.inj (by simpa [excD] using z)
    subst hz
    exact ⟨a, o, h1, h3⟩
theorem ev_isiC (hg : Gl X "isinstance") (hm : X.mg "isinstance" = none) (ha : EvD X δ a (excD C)) (hc : XCls X.K C) (hgx : Gl X x) (hmx : X.mg x = some (.ref D)) (hk : kitOne X.K (.ref C) (.ref D) = some k) (hdb : (x == ("__debug__" : Str)) = false := by decide)
    (hs : starEach [a, .Name x p'] X.env = [(false, eval a X.env), (false, eval (.Name x p') X.env)] := by rfl) (hs2 : starEach [.Name x p'] X.env = [(false, eval (.Name x p') X.env)] := by rfl) : EvD X δ (.Call (.Name "isinstance" p) [a, .Name x p'] [] pos) (.bool k) :=
  ev_of (pe_callB call_isiX hg hm rfl (pa_cons ha (pa_cons (pe_glob (v := .ref D) hgx hmx rfl hdb) pa_nil (by rw [hs2]; rfl)) (by rw [hs, hs2])) (he := by rw [hs, hs2]) (hpl := by rw [hs2]; rfl)) fun Hb own B σ H Q E q => ⟨Hb, own, B, E, fun v H1 s1 r => by
    obtain ⟨b, o, rfl, h1⟩ := rep_exc r
    exact ⟨b, C, o, .ref D, .ref D, k, rfl, h1, hc, fun u z => z, hk, q _ H1 s1 rfl⟩⟩
theorem ev_isiV {T : String} (hg : Gl X "isinstance") (hm : X.mg "isinstance" = none) (ha : EvD X δ a (excD C)) (hc : XCls X.K C) (hgx : Gl X x) (hmx : X.mg x = none) (hvx : bootBuiltins x = some (.type T)) (hk : kitOne X.K (.ref C) (.type T) = some k) (hn : x ≠ "__name__" := by decide) (hdb : (x == ("__debug__" : Str)) = false := by decide)
    (hs : starEach [a, .Name x p'] X.env = [(false, eval a X.env), (false, eval (.Name x p') X.env)] := by rfl) (hs2 : starEach [.Name x p'] X.env = [(false, eval (.Name x p') X.env)] := by rfl) : EvD X δ (.Call (.Name "isinstance" p) [a, .Name x p'] [] pos) (.bool k) :=
  ev_of (pe_callB call_isiX hg hm rfl (pa_cons ha (pa_cons (pe_bltn (v := .ty T) hgx hmx hvx rfl hn hdb) pa_nil (by rw [hs2]; rfl)) (by rw [hs, hs2])) (he := by rw [hs, hs2]) (hpl := by rw [hs2]; rfl)) fun Hb own B σ H Q E q => ⟨Hb, own, B, E, fun v H1 s1 r => by
    obtain ⟨b, o, rfl, h1⟩ := rep_exc r
    exact ⟨b, C, o, .ty T, .type T, k, rfl, h1, hc, fun u z => z, hk, q _ H1 s1 rfl⟩⟩
end
end L2
end
section
namespace L2
open PySem PySem.Spec PyProof.Rows
section
variable {X : Cx} {δ δ1 : Dn} {a b c e ix : Expr} {d da db : PyData} {pos : Pos} {xs ys : List PyData} {x y : Str} {ts : List OT} {zs : List OT}
end
end L2
end
section
namespace L2
open PySem PySem.Spec PyProof.Rows
section
variable {X : Cx} {δ δ1 : Dn} {a b c e ix tg : Expr} {d da db : PyData} {pos : Pos} {xs ys : List PyData} {x y : Str} {ts : List OT}
end
end L2
end
section
namespace L2
open PySem PySem.Spec PyProof.Rows
section
variable {X : Cx} {δ : Dn} {a : Expr} {ta : TA} {p p' pos pos' : Pos}
end
end L2
end
section
namespace L3
open PySem
end L3
end
section
set_option autoImplicit false
namespace L3
open PySem
section
variable {prog : Program} {w : World} {A : Around} {E : Value → Shared → Prop} {s : Shared}
end
end L3
end
section
set_option autoImplicit false
namespace L3
open PySem
namespace F
end F
section
variable {prog : Program} {w : World} {A : Around} {E : Value → Shared → Prop} {s : Shared} {es : Array (Int × Value)} {ep : Nat} {t : SetTable} {a : Addr}
end
end L3
end
section
set_option autoImplicit false
namespace L3
open PySem
section
variable {prog : Program} {w : World} {A : Around} {E : Value → Shared → Prop} {s : Shared} {es : Array (Int × Value)} {ep : Nat} {t : SetTable} {a : Addr}
end
end L3
end
section
set_option autoImplicit false
namespace L3
open PySem
section
variable {prog : Program} {w : World} {A : Around} {E : Value → Shared → Prop} {s : Shared} {es : Array (Int × Value)} {ep : Nat} {t : SetTable} {a : Addr}
end
end L3
end
section
set_option autoImplicit false
namespace L3
open PySem PySem.Spec PyProof.Rows
section
variable {prog : Program} {w : World} {A : Around} {E : Value → Shared → Prop} {s : Shared} {a : Addr}
end
end L3
end
section
set_option autoImplicit false
namespace L3
open PySem PySem.Spec PyProof.Rows
section
variable {prog : Program} {w : World} {A : Around} {E : Value → Shared → Prop} {s : Shared} {a : Addr}
end
end L3
end
section
namespace L2
open PySem PySem.Spec PyProof.Rows L3
section
variable {X : Cx} {δ : Dn} {e : Expr} {pos : Pos}
end
end L2
end
section
set_option autoImplicit false
namespace L3
open PySem PySem.Spec PyProof.Rows
section
variable {prog : Program} {w : World} {A : Around} {E : Value → Shared → Prop} {s : Shared} {a : Addr}
end
end L3
end
section
namespace L2
open PySem PySem.Spec PyProof.Rows L3
section
variable {X : Cx} {δ : Dn} {a b c e tg : Expr} {d da db : PyData} {pos : Pos} {xs ys : List PyData} {k : Nat}
end
end L2
end
section
namespace L2
open PySem PySem.Spec PyProof.Rows L3
abbrev sD (ys : List Str) : List PyData := ys.map PyData.str
theorem split_new {prog : Program} {w : World} {A : Around} {E : Value → Shared → Prop} {s : Shared} {x y : Str} {t u : Tok} {Q : Value → Shared → Prop} (hy : (y.length == 0) = false) (hsz : x.length + 2 ≤ sizeLine)
    (h : ∀ (l : List (Str × Tok)) (k : Nat), l.map (·.1) = Txt.split x y → Q (.ref s.heap.objs.size) { s with heap := s.heap.push { cls := .type "list", data := .seq (strValues l).toArray }, toks := k }) : wpAny (model prog w) A (call (.builtin "str.split") [.str x t, .str y u]) Q E s := by
  have hn : (Builtin.Str.partsBetween x (Builtin.Str.occurrences x y 0 x.length (x.length + 1)) y.length).length ≤ sizeLine := by
    have e1 := StrLaws.occ_length_le x y 0 x.length (x.length + 1)
    rw [length_partsBetween]; omega
  have go := fun {S : PySem.Spec} (m : Meets (Builtin.«str.split» ⟨[.str x t, .str y u], []⟩) S) (q : S A (wants Q E) s) => call_meets (prog := prog) (w := w) F.slot_str_split (typeIs_str s x t) F.entry_str_split (F.args_str_split_2 _ _) m q
  cases h1 : (decide (x.length < y.length) || decide (Builtin.Str.strKind x < Builtin.Str.strKind y))
  · cases hf : (Builtin.Str.occurrences x y 0 x.length (x.length + 1)).isEmpty
    · refine go (meets_str_split_sep x y t u h1 hy hf (by omega) hn) ?_
      show wants Q E _ { s with toks := _, heap := s.heap.push { cls := .type "list", data := .seq (strsFrom s.toks (Builtin.Str.partsBetween x (Builtin.Str.occurrences x y 0 x.length (x.length + 1)) y.length)).toArray } }
      rw [strsFrom_eq]
      exact h (numbered s.toks _) _ ((numbered_texts _ _).trans ((if_neg (ne_true_of_eq_false h1)).trans (if_neg (ne_true_of_eq_false hf))).symm)
    · exact go (meets_str_split_not_found x y t u h1 hy hf) (h [(x, t)] s.toks ((if_neg (ne_true_of_eq_false h1)).trans (if_pos hf)).symm)
  · exact go (meets_str_split_cannot_occur x y t u h1) (h [(x, t)] s.toks (if_pos h1).symm)
theorem vals_strs : ∀ {ys : List Str} {us : List Value}, Vals (ys.map V.str) us → StrsAre us ys
  | [], _, h => by cases h; exact .nil
  | y :: ys, _, h => by
    cases h with
    | cons h1 h2 => obtain ⟨t, rfl⟩ := h1; exact .cons y t (vals_strs h2)
theorem strs_vals : ∀ (l : List (Str × Tok)), Vals ((l.map (·.1)).map V.str) (strValues l)
  | [] => .nil
  | p :: l => .cons ⟨p.2, rfl⟩ (strs_vals l)
theorem Reps.strs {K : PySem.W.Frag} {A : Addr → Prop} {H : Hp} : ∀ (ys : List Str), Reps K A H (sD ys) (ys.map V.str)
  | [] => rfl
  | y :: ys => ⟨.str y, _, rfl, rfl, Reps.strs ys⟩
theorem reps_tD {K : PySem.W.Frag} {A : Addr → Prop} {H : Hp} : ∀ {ys : List Str} {vs : List V}, Reps K A H (sD ys) vs → vs = ys.map V.str
  | [], _, h => h
  | y :: ys, _, h => by
    obtain ⟨v, r, rfl, h1, h2⟩ := h
    cases h1
    rw [reps_tD h2]; rfl
section
variable {X : Cx} {δ : Dn} {a b c e tg : Expr} {d da db : PyData} {pos : Pos} {xs ys : List PyData} {k : Nat}
theorem ev_catS {i j : Str} (ha : EvD X δ a (.str i)) (hb : EvD X δ b (.str j)) (hl : i.length + j.length ≤ 10000) : EvD X δ (.BinOp a .Add b pos) (.str (i ++ j)) :=
  ev_bin op_add_str ha hb fun A x y H Q rx ry q => ⟨i, j, rx, ry, Nat.le_trans hl (by rw [sizeLine_eq]; decide), q _ H (Same.refl H) rfl⟩
theorem ev_ixZ {i : Int} {z : Str} {c : Nat} (ha : EvD X δ a (.str z)) (hb : EvD X δ b (.int i)) (h0 : 0 ≤ i) (hz : z.length ≤ 10000) (hd : z.cps.toList[i.toNat]? = some c) (hs : PlainIx b := by exact fun _ _ => rfl) : EvD X δ (.Subscript a b pos) (.str ⟨#[c]⟩) :=
  ev_of (pe_ix ix_str ha hb hs) fun Hb own B σ H Q E q => ⟨Hb, own, B, E, fun x H1 s1 rx => ⟨Hb, own, B, E.mono s1, fun y H2 s2 ry => by
    cases rx; cases ry
    exact ⟨z, i, c, rfl, rfl, Nat.le_trans hz (by rw [sizeLine_eq]; decide), atI_of h0 hd, q _ H2 (s1.trans s2) rfl⟩⟩⟩
theorem ev_lenZ {p : Pos} {z : Str} (hg : Gl X "len") (hm : X.mg "len" = none) (ha : EvD X δ e (.str z)) (hz : z.length ≤ 10000) (he : starEach [e] X.env = [(false, eval e X.env)] := by rfl) : EvD X δ (.Call (.Name "len" p) [e] [] pos) (.int z.length) :=
  ev_callB call_len_str hg hm PySem.boot_len (ea_cons ha ea_nil (by rw [he]; rfl)) (fun A vs H Q rv q => by
    obtain ⟨v, r, rfl, h1, e2⟩ := rv
    cases e2; cases h1
    exact ⟨z, rfl, Nat.le_trans hz (by rw [sizeLine_eq]; decide), q _ H (Same.refl H) rfl⟩) (he := by rw [he]; rfl)
abbrev inS (i j : Str) : Bool := !(Builtin.Str.occurrences j i 0 j.length 1).isEmpty
theorem et_inS {i j : Str} (ha : EvD X δ a (.str i)) (hb : EvD X δ b (.str j)) (hm : behindInMarks .In b = false := by with_unfolding_all rfl) : EtD X δ (.Compare a [.In] [b] pos) (inS i j) :=
  et_cmp op_in_str ha hb hm fun A x y H Q rx ry q => ⟨i, j, rx, ry, q _ H (Same.refl H) rfl⟩
theorem ev_inS {i j : Str} (ha : EvD X δ a (.str i)) (hb : EvD X δ b (.str j)) (hm : behindInMarks .In b = false := by with_unfolding_all rfl) : EvD X δ (.Compare a [.In] [b] pos) (.bool (inS i j)) :=
  ev_cmp op_in_str ha hb hm fun A x y H Q rx ry q => ⟨i, j, rx, ry, q _ H (Same.refl H) rfl⟩
theorem et_notInS {i j : Str} (ha : EvD X δ a (.str i)) (hb : EvD X δ b (.str j)) (hm : behindInMarks .NotIn b = false := by with_unfolding_all rfl) : EtD X δ (.Compare a [.NotIn] [b] pos) (!inS i j) :=
  et_cmp op_notin_str ha hb hm fun A x y H Q rx ry q => ⟨i, j, rx, ry, q _ H (Same.refl H) rfl⟩
theorem ev_notInS {i j : Str} (ha : EvD X δ a (.str i)) (hb : EvD X δ b (.str j)) (hm : behindInMarks .NotIn b = false := by with_unfolding_all rfl) : EvD X δ (.Compare a [.NotIn] [b] pos) (.bool (!inS i j)) :=
  ev_cmp op_notin_str ha hb hm fun A x y H Q rx ry q => ⟨i, j, rx, ry, q _ H (Same.refl H) rfl⟩
theorem ev_callTyD {T : String} {x : Str} {p : Pos} {es : List Expr} {ds : List PyData} {r : List V → Hp → VK → Prop} (hc : CallR X (.type T) r) (hg : Gl X x) (hm : X.mg x = none) (hv : bootBuiltins x = some (.type T)) (ha : EaD X δ (e :: es) ds)
    (hr : ∀ A vs H Q, Reps X.K A H ds vs → (∀ v H', Same H H' → Rep X.K A H' d v → Q v H') → r vs H Q) (hn : x ≠ "__name__" := by decide) (hdb : (x == ("__debug__" : Str)) = false := by decide)
    (he : starEach (e :: es) X.env = (false, eval e X.env) :: starEach es X.env := by rfl) (hpl : (backTo pos (starEach es X.env)).any (·.1) = false := by rfl) : EvD X δ (.Call (.Name x p) (e :: es) [] pos) d :=
  ev_of (pe_callTy hc hg hm hv ha hn hdb he hpl) fun Hb own B σ H Q E q => ⟨Hb, own, B, E, fun vs H1 s1 rv => hr _ vs H1 Q rv fun v H' s2 r2 => q v H' (s1.trans s2) r2⟩
theorem ev_strI {p : Pos} {i : Int} (hg : Gl X "str") (hm : X.mg "str" = none) (ha : EvD X δ e (.int i)) (hz : i.natAbs.log2 < 1920) (hs : starEach [e] X.env = [(false, eval e X.env)] := by rfl) : EvD X δ (.Call (.Name "str" p) [e] [] pos) (.str (Str.ofString (toString i))) :=
  ev_callTyD call_str_int hg hm (by rfl) (ea_cons ha ea_nil (by rw [hs]; rfl)) (fun A vs H Q rv q => by
    obtain ⟨v, r, rfl, h1, e2⟩ := rv
    cases e2; cases h1
    exact ⟨i, rfl, hz, q _ H (Same.refl H) rfl⟩) (he := by rw [hs]; rfl)
theorem call_int_str : CallR X (.type "int") (fun xs H Q => ∃ (z : Str) (i : Int), xs = [.str z] ∧ PySem.intText? z = some i ∧ z.length ≤ 640 ∧ Q (.int i) H) := by
  intro pins s σ H xs us Q I r h
  obtain ⟨z, i, rfl, h1, h2, q⟩ := h
  obtain ⟨u, rfl, t, rfl⟩ := vals1 r
  exact PySem.W.KIN.call_text h1 h2 ⟨.int _, H, I.tok _, ⟨_, rfl⟩, q⟩
theorem ev_intZ {p : Pos} {z : Str} {i : Int} (hg : Gl X "int") (hm : X.mg "int" = none) (ha : EvD X δ e (.str z)) (h1 : PySem.intText? z = some i) (h2 : z.length ≤ 640) (hs : starEach [e] X.env = [(false, eval e X.env)] := by rfl) : EvD X δ (.Call (.Name "int" p) [e] [] pos) (.int i) :=
  ev_callTyD call_int_str hg hm (by rfl) (ea_cons ha ea_nil (by rw [hs]; rfl)) (fun A vs H Q rv q => by
    obtain ⟨v, r, rfl, h3, e2⟩ := rv
    cases e2; cases h3
    exact ⟨z, i, rfl, h1, h2, q _ H (Same.refl H) rfl⟩) (he := by rw [hs]; rfl)
theorem op_mul_str : OpR X (binaryOp .Mult) (fun x y H Q => ∃ z n, x = .str z ∧ y = .int n ∧ MulOk z n ∧ Q (.str (Txt.mul z n)) H) := by
  intro pins s σ H x y v u Q I rx ry h
  obtain ⟨z, n, rfl, rfl, hk, q⟩ := h
  obtain ⟨t, rfl⟩ := rx
  obtain ⟨t', rfl⟩ := ry
  exact SB.mul hk fun t' k => ⟨.str _, H, I.tok _, ⟨_, rfl⟩, q⟩
theorem ev_mulS {z : Str} {n : Int} (ha : EvD X δ a (.str z)) (hb : EvD X δ b (.int n)) (hk : MulOk z n) : EvD X δ (.BinOp a .Mult b pos) (.str (Txt.mul z n)) :=
  ev_bin op_mul_str ha hb fun A x y H Q rx ry q => ⟨z, n, rx, ry, hk, q _ H (Same.refl H) rfl⟩
def rSlS : V → Option Int → Option Int → Hp → VK → Prop := fun x lo hi H Q => ∃ z, x = .str z ∧ z.length ≤ sizeLine ∧ Q (.str (Txt.slice z lo hi)) H
theorem sl_str : SlR X rSlS := by
  intro pins s σ H x v vl vu lo hi sl Q I rx hs pl pu h
  obtain ⟨z, rfl, hz, q⟩ := h
  obtain ⟨t, rfl⟩ := rx
  refine ⟨"str", _, F.slot_str_getitem.lookup, typeIs_str _ _ _, ?_⟩
  have key : ∀ (l u : Option (Int × Tok)), l.map (·.1) = lo → u.map (·.1) = hi → s.heap.IsSlice sl l u none → wpAny (model X.prog X.w) X.A (getItem (.str z t) (.ref sl)) (EP X pins σ Q) X.xe s := fun l u h1 h2 h3 =>
    wpAny_getItem_str_slice (l := l) (u := u) (st := none) h3 rfl (post_val_or_str ⟨Nat.le_trans (Txt.slice_le z _ _) hz, fun t' k => ⟨.str _, H, I.tok _, ⟨_, rfl⟩, by subst h1 h2; exact q⟩⟩)
  cases pl with
  | none =>
    cases pu with
    | none => exact key none none rfl rfl hs
    | int j t => exact key none (some (j, t)) rfl rfl hs
  | int i t =>
    cases pu with
    | none => exact key (some (i, t)) none rfl rfl hs
    | int j t' => exact key (some (i, t)) (some (j, t')) rfl rfl hs
theorem ev_slS {lo hi : Option Expr} {l u : Option Int} {p2 : Pos} {z : Str} (ha : EvD X δ a (.str z)) (hl : EoD X δ lo l) (hu : EoD X δ hi u) (hz : z.length ≤ 10000) : EvD X δ (.Subscript a (.Slice lo hi none p2) pos) (.str (Txt.slice z l u)) :=
  ev_of (pe_slice sl_str ha hl hu) fun Hb own B σ H Q E q => ⟨Hb, own, B, E, fun x H1 s1 rx => ⟨Hb, own, B, E.mono s1, fun H2 s2 => ⟨Hb, own, B, E.mono (s1.trans s2), fun H3 s3 => by
    cases rx
    exact ⟨z, rfl, Nat.le_trans hz (by rw [sizeLine_eq]; decide), q _ H3 ((s1.trans s2).trans s3) rfl⟩⟩⟩⟩
def rJoin (K : PySem.W.Frag) : V → List V → Hp → VK → Prop := fun x vs H Q => ∃ (sep : Str) (p : Addr) (ys : List Str), x = .str sep ∧ vs = [.ref p] ∧ SqL K H p (ys.map V.str) ∧ sep.length ≤ 16 ∧ (ys.map (·.length)).sum + ys.length ≤ 1048576 ∧ Q (.str (Txt.join sep ys)) H
theorem mt_join : MtM X "str.join" (rJoin X.K) := by
  intro pins s σ H x vs v us Q I rx rv h
  obtain ⟨sep, p, ys, rfl, rfl, hp, h1, h2, q⟩ := h
  obtain ⟨t, rfl⟩ := rx
  obtain ⟨u, rfl, ru⟩ := rv.one
  cases ru
  obtain ⟨its, r, pl, _⟩ := I.list hp
  exact join_listW pl.isList (by simpa using vals_strs r) h1 h2 fun t' k => ⟨.str _, H, I.tok _, ⟨_, rfl⟩, q⟩
theorem ev_join {o : Expr} {apos cpos : Pos} {sep : Str} {ys : List Str} (ho : EvD X δ o (.str sep)) (he : EvD X δ e (.list (sD ys))) (h1 : sep.length ≤ 16) (h2 : (ys.map (·.length)).sum + ys.length ≤ 1048576) (hst : starEach [e] X.env = [(false, eval e X.env)] := by rfl)
    (hb : ∀ {te : TE} {t : TA}, PE X o te → PA X [e] t → PE X (.Call (.Attribute o "join" apos) [e] [] cpos) (tBM X.K "str" (rJoin X.K) te t) := by exact fun h1 h2 => pe_bm PySem.F.plainAttrs_str PySem.F.slot_str_join PySem.F.type_str_join mt_join h1 h2) :
    EvD X δ (.Call (.Attribute o "join" apos) [e] [] cpos) (.str (Txt.join sep ys)) :=
  ev_of (hb ho (ea_cons he ea_nil (by rw [hst]; rfl))) fun Hb own B σ H Q E q => ⟨Hb, own, B, E, fun x H1 s1 rx => by
    cases rx
    refine ⟨rfl, Hb, own, B, E.mono s1, fun vs H2 s2 rv => ?_⟩
    obtain ⟨v, r, rfl, ⟨a, us, rfl, _, h3, h4⟩, e2⟩ := rv
    cases e2
    rw [reps_tD h4] at h3
    exact ⟨sep, a, ys, rfl, rfl, SqL.of h3, h1, h2, q _ H2 (s1.trans s2) rfl⟩⟩
def rSplit : V → List V → Hp → VK → Prop := fun x vs H Q => ∃ (z sep : Str), x = .str z ∧ vs = [.str sep] ∧ (sep.length == 0) = false ∧ z.length ≤ 10000 ∧ ∀ l, H l = none → Q (.ref l) (upd H l (.lst ((Txt.split z sep).map V.str)))
theorem mt_split : MtM X "str.split" rSplit := by
  intro pins s σ H x vs v us Q I rx rv h
  obtain ⟨z, sep, rfl, rfl, h1, h2, q⟩ := h
  obtain ⟨t, rfl⟩ := rx
  obtain ⟨u, rfl, t', rfl⟩ := rv.one
  have hl := split_le z sep
  refine split_new h1 (by rw [sizeLine_eq]; omega) fun l k e => ?_
  have hv := strs_vals l
  rw [e] at hv
  refine ⟨.ref s.heap.objs.size, _, I.laid (o := .lst ((Txt.split z sep).map V.str)) (fun b o e => Heap.get?_push_of_some _ e) (Nat.le_refl _) ⟨?_, strValues l, 0, hv, Heap.get?_push_size _ rfl⟩, rfl, q _ I.fresh⟩
  rw [List.length_map, sizeLine_eq]; omega
theorem ef_split {o : Expr} {apos cpos : Pos} {z sep : Str} (ho : EvD X δ o (.str z)) (he : EvD X δ e (.str sep)) (h1 : (sep.length == 0) = false) (h2 : z.length ≤ 10000) (hst : starEach [e] X.env = [(false, eval e X.env)] := by rfl)
    (hb : ∀ {te : TE} {t : TA}, PE X o te → PA X [e] t → PE X (.Call (.Attribute o "split" apos) [e] [] cpos) (tBM X.K "str" rSplit te t) := by exact fun h1 h2 => pe_bm PySem.F.plainAttrs_str PySem.F.slot_str_split PySem.F.type_str_split mt_split h1 h2) :
    EvF X δ (.Call (.Attribute o "split" apos) [e] [] cpos) (sD (Txt.split z sep)) :=
  ef_of (hb ho (ea_cons he ea_nil (by rw [hst]; rfl))) fun Hb own B σ H Q E q => ⟨Hb, own, B, E, fun x H1 s1 rx => by
    cases rx
    refine ⟨rfl, Hb, own, B, E.mono s1, fun vs H2 s2 rv => ?_⟩
    obtain ⟨v, r, rfl, h3, e2⟩ := rv
    cases e2; cases h3
    refine ⟨z, sep, rfl, rfl, h1, h2, fun l hl => ?_⟩
    have e1 := same_new hl (.lst ((Txt.split z sep).map V.str))
    exact q l _ _ ((s1.trans s2).trans e1) ((s1.trans s2).free hl) upd_same (Reps.strs _)⟩
abbrev sg (c : Nat) : Str := ⟨#[c]⟩
def Itz (z : Str) : It := ⟨fun i _ => i < z.cps.size, fun i H x H' => H' = H ∧ ∃ c, z.cps[i]? = some c ∧ x = .str (sg c), fun i _ => z.cps.size ≤ i⟩
theorem turn_strT {P : Program} {w : World} {K : PySem.W.Frag} {tg : Expr} (z : Str) (t : Tok) (it : Addr) (ty : String) (hty : ["enumerate", "zip", "dict_itemiterator", "dict_reverseitemiterator", "odict_iterator", "itertools.zip_longest", "itertools.pairwise"].contains ty = false)
    (W : ∀ A : Around, A.handled = none → Walks P w A it [it] [it] z.cps.size (SignAt z) (fun i h => h.IsStrIter it ty z t i)) (self : ∀ (A : Around) (i : Nat) (s : Shared) (Q : Value → Shared → Prop) (E : Value → Shared → Prop), s.heap.IsStrIter it ty z t i → Q (.ref it) s → wpAny (model P w) A (pyIter (.ref it)) Q E s)
    (stop : ∀ (A : Around) (i : Nat) (s : Shared) (Q : Option Value → Shared → Prop) (E : Value → Shared → Prop), A.handled = none → s.heap.IsStrIter it ty z t i → z.cps[i]? = none → (∀ h', Heap.ExtBut it s.heap h' → Q none { s with heap := h' }) → wpAny (model P w) A (pyNext (.ref it)) Q E s) :
    Turn P w K tg (Itz z) [it] it (fun i h => h.IsStrIter it ty z t i) where
  mem := by simp
  obj := fun i h st b hb => by
    have e : b = it := by simpa using hb
    subst e
    obtain ⟨o, e, c, d⟩ := st
    exact ⟨o, e, fun v z => by rw [d] at z; cases z⟩
  keep := fun i h h' st k => let ⟨o, e, r⟩ := st; ⟨o, k it (by simp) o e, r⟩
  item := by
    intro X hP hw hK hc i pins s σ H E I hf st hg
    subst hP hw hK
    obtain ⟨f0, f1, f2, f3, f4, f5⟩ := hf it (by simp)
    refine (W X.A (I.ok.hd hc)).item i s _ _ hg st fun v h' tk hv st' kk => ?_
    obtain ⟨c, u, h1, rfl⟩ := hv
    have I1 : Inv X pins σ H { s with heap := h', toks := tk } := I.turned (fun b o hb e => kk b o (by simpa using hb) e) f0 f1 f3 f4 f5
    obtain ⟨o, e, c', d⟩ := id st'
    exact ⟨_, rfl, go_of (s := { s with heap := h', toks := tk }) e c' d hty ⟨.str (sg c), H, I1, ⟨u, rfl⟩, ⟨rfl, c, h1, rfl⟩, st', fun b hb => (hf b hb).1⟩⟩
  done := by
    intro X hP hw hK hc i pins s σ H E I hf st hg
    subst hP hw hK
    obtain ⟨f0, f1, f2, f3, f4, f5⟩ := hf it (by simp)
    exact stop X.A i s _ _ (I.ok.hd hc) st (Array.getElem?_eq_none hg) fun h' eb => ⟨rfl, I.turned (t' := s.toks) (fun b o hb e => eb b o hb e) f0 f1 f3 f4 f5⟩
  self := fun A i s Q E st h => self A i s Q E st h
def iStr (tl : TE) : TI := fun σ H R => tl σ H fun x H1 => ∃ z, x = .str z ∧ R (Itz z) H1
theorem pi_str {l : Expr} {tl : TE} (hl : PE X l tl) : PI X tg l (iStr tl) := by
  intro pins s σ H R I h
  refine thn (hl pins s σ H _ I h) fun v s1 ⟨x, H1, I1, r1, q1⟩ => ?_
  obtain ⟨z, rfl, q⟩ := q1
  obtain ⟨t, rfl⟩ := r1
  have fp : ∀ (o : Obj) (b : Addr), b ∈ [s1.heap.objs.size] → FpOk X pins H1 b := fun o b hb => by
    have e : b = s1.heap.objs.size := by simpa using hb
    subst e
    exact I1.fpOk (Nat.le_refl _) (I1.hok.fresh (Nat.le_refl _))
  cases ha : z.cps.all (· < 128)
  · refine wpAny_pyIter_wide ha ⟨s1.heap.objs.size, [s1.heap.objs.size], _, _, H1, rfl, I1.kept (t' := s1.toks) fun b o e => Heap.get?_push_of_some _ e, turn_strT z t _ "str_iterator" (by decide) (fun A hA => Walks.strWide hA _ z t) (fun A i s Q E st h => wpAny_pyIter_striter_wide st h) (fun A i s Q E hh st hx hQ => wpAny_pyNext_wide_end hh st hx hQ), ⟨_, Heap.get?_push_size _ rfl, rfl, rfl⟩, fp { cls := .none, data := .fields #[] }, q⟩
  · refine wpAny_pyIter_ascii ha ⟨s1.heap.objs.size, [s1.heap.objs.size], _, _, H1, rfl, I1.kept (t' := s1.toks) fun b o e => Heap.get?_push_of_some _ e, turn_strT z t _ "str_ascii_iterator" (by decide) (fun A hA => Walks.strAscii hA _ z t) (fun A i s Q E st h => wpAny_pyIter_striter_ascii st h) (fun A i s Q E hh st hx hQ => wpAny_pyNext_ascii_end hh st hx hQ), ⟨_, Heap.get?_push_size _ rfl, rfl, rfl⟩, fp { cls := .none, data := .fields #[] }, q⟩
abbrev sgD (z : Str) : List PyData := z.cps.toList.map fun c => .str (sg c)
theorem ei_str {z : Str} (h : EvD X δ e (.str z)) : EiD X δ tg e (sgD z) := fun pins s σ H R I ⟨Hb, own, B, E, q⟩ => pi_str h pins s σ H R I ⟨Hb, own, B, E, fun v H1 s1 r => by
  cases r
  refine ⟨z, rfl, q _ H1 s1 ⟨fun i H s hi => ?_, fun i H x H' s hi hy => ?_, fun i H s hi => ?_⟩⟩
  · show i < z.cps.size
    simpa [sgD] using hi
  · obtain ⟨rfl, c, hc, rfl⟩ := hy
    exact ⟨rfl, .str (sg c), by simp [sgD, hc], rfl⟩
  · show z.cps.size ≤ i
    simpa [sgD] using hi⟩
end
section
variable {X : Cx} {δ : Dn} {a b c e : Expr} {d : PyData} {pos : Pos} {x : Str} {ts ys : List OT} {n : Nat}
theorem s1_appendL (i k : Nat) {px p1 apos cpos : Pos} {oa : Option Addr} {ix : Expr} (hδ : δ[i]? = some (.own oa (.n (.l ts)))) (hk : ts[k]? = some (.l ys)) (hix : ∀ δ, EvD X δ ix (.int k)) (he : EvD X δ e d) (hz : ys.length < 1000) (hN : X.N[i]? = some x := by rfl) (hv : Vis X.env.scope x := by first | exact Or.inl rfl | exact Or.inr (Or.inl rfl) | exact Or.inr (Or.inr rfl)) (hd : (x == ("__debug__" : Str)) = false := by decide)
    (hcd : (x == ("__classdict__" : Str)) = false := by decide) (hst : starEach [e] X.env = [(false, eval e X.env)] := by rfl) (hpi : PlainIx ix := by exact fun _ _ => rfl)
    (hb : ∀ {te : TE} {t : TA}, PE X (.Subscript (.Name x px) ix p1) te → PA X [e] t → PE X (.Call (.Attribute (.Subscript (.Name x px) ix p1) "append" apos) [e] [] cpos) (tBM X.K "list" rAppend te t) := by exact fun h1 h2 => pe_bm PySem.F.plainAttrs_list PySem.F.slot_list_append PySem.F.type_list_append mt_append h1 h2)
    (hsw : swapsWith (.Call (.Attribute (.Subscript (.Name x px) ix p1) "append" apos) [e] [] cpos) none pos.line X.env = pure false := by rfl) :
    S1 X δ (.Expr (.Call (.Attribute (.Subscript (.Name x px) ix p1) "append" apos) [e] [] cpos) pos) (.nx (δ.set i (.own oa (.n (.l (ts.set k (.l (ys ++ [.sh d])))))))) :=
  fun pins s σ H D I ⟨Hb, own, B, E, P⟩ => ps_expr (hb (pe_ix ix_list (pe_var hN hv hd hcd) (hix δ) hpi) (ea_cons he ea_nil (by rw [hst]; rfl))) hsw pins s σ H D I (by
    obtain ⟨v, h1, h1', h2⟩ := E.ow i oa _ hδ
    refine ⟨v, h1, Hb, own, B, E, fun y H2 s2 ry => ?_⟩
    have E2 := E.mono s2
    obtain ⟨v', k1, _, k2⟩ := E2.ow i oa _ hδ
    rw [h1] at k1; cases k1
    obtain ⟨p, vs, cs, rfl, ke, k3, k4⟩ := k2
    have hnd := E.ond i
    rw [ke] at hnd
    have hin : ∀ a ∈ cs, Av own B a := fun a ha => .inr ⟨i, by rw [ke]; exact List.mem_cons_of_mem _ ha⟩
    obtain ⟨l, us, bs, m1, m2, m3, m4, _, m5, m6⟩ := RepOs.put k4 (List.nodup_cons.mp hnd).2 hin hk
    refine ⟨p, vs, (k : Int), .ref l, rfl, ry, SqL.of k3, atI_nat m1, .inl ⟨rfl, us, SqL.of m3⟩, Hb, own, B, E2, fun ws H3 s3 r => ?_⟩
    obtain ⟨u, r', rfl, ru, e2⟩ := r
    cases e2
    have E3 := E2.mono s3
    obtain ⟨v', n1, _, n2⟩ := E3.ow i oa _ hδ
    rw [h1] at n1; cases n1
    obtain ⟨p', vs', cs', pe, ne, n3, n4⟩ := n2
    cases pe
    rw [ke] at ne
    cases ne
    obtain ⟨l', us', bs', o1, o2, o3, o4, o5, o6, o7⟩ := RepOs.put n4 (List.nodup_cons.mp hnd).2 hin hk
    rw [s3 _ _ k3] at n3
    cases n3
    rw [m1] at o1
    cases o1
    have hlo : l ∈ own i := by rw [ke]; exact List.mem_cons_of_mem _ o2
    refine ⟨l, us', u, rfl, rfl, o3, by rw [← repOs_len o4]; exact small1000 (Nat.le_of_lt hz), P _ _ _ (E3.writeN (c' := .n (.l _)) hδ h1 hlo ⟨p, vs, cs, rfl, ke, ?_, o7 _ _ ?_⟩)⟩
    · have : p ≠ l := fun z => (List.nodup_cons.mp hnd).1 (by rw [z]; exact o2)
      rw [upd_ne this]; exact s3 _ _ k3
    · have hA : Av own B l := hin l o2
      have := RepOs.append (bs := []) (RepOs.kp (.upd (o := .lst (us' ++ [u])) hA o3 trivial) _ _ _ (fun b hb o z => by rw [upd_ne fun y : b = l => o6 (y ▸ hb)]; exact z) o4) (ds := ys) (es := [.sh d]) (ws := [u]) ⟨u, [], [], [], rfl, rfl, ⟨rfl, Rep.upd (A := Av own B) hA o3 trivial _ _ ru⟩, rfl, rfl⟩
      rw [List.append_nil] at this
      exact this)
end
end L2
end
section
namespace L2
open PySem PySem.Spec PyProof.Rows
section
variable {X : Cx} {δ : Dn} {c : Expr} {pos ip : Pos} {x : Str}
theorem s1_forTest {α : Type} {bd : List Stmt} (k i : Nat) {oa : Option Addr} {t : OT} {f : PyData} (hδ : δ[k]? = some (.own oa (.n t))) (hd : t.dat = some f) (it : α → PyData) (ts : List α) {iter : Expr} {px : Pos} (hp : PassesOwn (model X.prog X.w) X.A X.env X.xe) (hc : X.calm = true) (hN : X.N.Nodup) (hi : EiD X (δ.set k (.sh f)) (.Name x px) iter (ts.map it)) (hne : ts ≠ [])
    (htest : ∀ t ∈ ts, EtD X ((δ.set k (.sh f)).set i (.sh (it t))) c false)
    (hx : X.N[i]? = some x := by rfl) (hl : Loc X.env.scope x := by first | exact Or.inl rfl | exact Or.inr rfl) (hf : X.fn x = true ∨ X.env.scope.names.lookup x = some .local := by first | exact .inl rfl | exact .inr rfl)
    (hs : ∀ x, foldedSetIterable iter X.env x = pure x := by intro _; rfl) : S1 X δ (.For (.Name x px) iter [.If c bd [] ip] [] pos) (.nx (δ.set i .no)) := by
  have hT : PT X c (fun σ H Q => ∃ t, t ∈ ts ∧ tT X.K ((δ.set k (.sh f)).set i (.sh (it t))) false σ H Q) := fun pins s σ H Q I ⟨t, ht, q⟩ => htest t ht pins s σ H Q I q
  have hB := pss_cons (ps_if (pos := ip) hT (pss_never (sts := bd)) pss_nil) pss_nil
  intro pins s σ H D I ⟨Hb, own, B, E, P⟩
  have Es := E.share hδ hd
  refine ps_for hp hc hi (pg_name hN hx hl hf) hB hs pins s σ H D I ⟨Hb, _, B, Es, fun Jt H1 s1 w => ?_⟩
  have hdl : (ts.map it).length = ts.length := List.length_map _
  have R1 := (Es.mono s1).rebase
  refine ⟨fun n m σ' H' => m = ts.length - n ∧ n ≤ ts.length ∧ Same H1 H' ∧ ((n = 0 ∧ σ' = σ) ∨ ∃ v, σ' = σ.set i (some v)), ⟨ts.length, rfl, Nat.zero_le _, Same.refl _, .inl ⟨rfl, rfl⟩⟩, ?_⟩
  rintro n m σ2 H2 ⟨rfl, hn, s12, hσ⟩
  have b2 := R1.base.trans s12
  by_cases hlt : n < ts.length
  · refine .inr ⟨w.go n H2 b2 (by rw [hdl]; exact hlt), fun σ' H' => Same H1 H' ∧ ∃ v, σ' = σ.set i (some v), fun σ' H' ⟨h1, h2⟩ => ⟨ts.length - (n + 1), by omega, rfl, hlt, h1, .inr h2⟩, fun v H' hy => ?_⟩
    obtain ⟨rfl, d, hdd, rd⟩ := w.yld n H2 v H' b2 (by rw [hdl]; exact hlt) hy
    have ht0 : ts[n]? = some ts[n] := List.getElem?_eq_getElem hlt
    have hd0 : (ts.map it)[n]? = some (it ts[n]) := by rw [List.getElem?_map, ht0]; rfl
    rw [hd0] at hdd
    cases hdd
    have e2 : σ2.set i (some v) = σ.set i (some v) := by
      rcases hσ with ⟨_, rfl⟩ | ⟨u, rfl⟩
      · rfl
      · rw [List.set_set]
    show gName i v σ2 H' _
    unfold gName
    rw [e2]
    have ES := ((Es.mono s1).mono s12).setSh (i := i) (rd.up b2)
    exact ⟨ts[n], List.getElem_mem hlt, _, _, _, ES, fun H3 s3 => ⟨s12.trans s3, v, rfl⟩⟩
  · have en : n = ts.length := by omega
    subst en
    have hpos : 0 < ts.length := List.length_pos_iff.mpr hne
    refine .inl ⟨w.stop _ H2 b2 (Nat.le_of_eq hdl), ?_⟩
    rcases hσ with ⟨z, _⟩ | ⟨v, rfl⟩
    · omega
    · exact P _ _ _ (((E.mono s1).mono s12).drop i (some v))
end
end L2
end
section
namespace Kx
open PySem PySem.Spec PyProof.Rows L2
def top (i : Nat) : Stmt := PySem.Challenge.pw_furlough_k41_words_numbers_names.main.body.getD i (.Pass ⟨0, 0, 0, 0⟩)
abbrev s_read_words : Stmt := top 17
abbrev s_read_number : Stmt := top 18
abbrev s_read_name : Stmt := top 19
abbrev s_is_written_in : Stmt := top 20
abbrev s__law_nth : Stmt := top 22
abbrev s__law_spins : Stmt := top 23
abbrev s__law_signs : Stmt := top 24
abbrev s__law_word : Stmt := top 25
abbrev s__law_near : Stmt := top 26
abbrev sSpoilt : Stmt := top 27
abbrev s__law_refused : Stmt := top 28
abbrev s__law_told : Stmt := top 29
abbrev s__law_words_right : Stmt := top 30
abbrev s__law_number_right : Stmt := top 31
abbrev s__law_name_right : Stmt := top 32
abbrev sLaw : Stmt := top 33
end Kx
end
section
namespace Mt
end Mt
namespace Kx
open PySem PySem.Spec PyProof.Rows L2
def joinL : List (List Nat) → List Nat
  | [] => []
  | [p] => p
  | p :: q :: r => p ++ 32 :: joinL (q :: r)
structure GoodL (L : List Nat) : Prop where
  ne : L ≠ []
  hd : L[0]? ≠ some 32
  ls : L[L.length - 1]? ≠ some 32
  two : ∀ i : Nat, ¬ (L[i]? = some 32 ∧ L[i + 1]? = some 32)
theorem at_ne {p : List Nat} (h : 32 ∉ p) (i : Nat) : p[i]? ≠ some 32 := fun e => h (List.mem_of_getElem? e)
theorem good_cons {p M : List Nat} (h : 32 ∉ p) : GoodL (p ++ 32 :: M) ↔ p ≠ [] ∧ GoodL M := by
  have e1 : (p ++ 32 :: M)[p.length]? = some 32 := by rw [List.getElem?_append_right (Nat.le_refl _), Nat.sub_self]; rfl
  have e2 : ∀ i, (p ++ 32 :: M)[p.length + 1 + i]? = M[i]? := fun i => by
    rw [List.getElem?_append_right (by omega), show p.length + 1 + i - p.length = i + 1 by omega]; rfl
  have el : (p ++ 32 :: M).length = p.length + 1 + M.length := by simp; omega
  constructor
  · intro g
    have hp : p ≠ [] := fun z => by subst z; exact g.hd rfl
    have hM : M ≠ [] := fun z => by
      subst z
      apply g.ls
      rw [el]
      exact e1
    have hml : 0 < M.length := List.length_pos_iff.mpr hM
    refine ⟨hp, hM, fun z => g.two p.length ⟨e1, ?_⟩, fun z => g.ls ?_, fun i z => g.two (p.length + 1 + i) ⟨?_, ?_⟩⟩
    · have := e2 0
      rw [Nat.add_zero] at this
      rw [this]; exact z
    · rw [el, show p.length + 1 + M.length - 1 = p.length + 1 + (M.length - 1) by omega, e2]; exact z
    · rw [e2]; exact z.1
    · rw [show p.length + 1 + i + 1 = p.length + 1 + (i + 1) by omega, e2]; exact z.2
  · rintro ⟨hp, g⟩
    have hpl : 0 < p.length := List.length_pos_iff.mpr hp
    have hml : 0 < M.length := List.length_pos_iff.mpr g.ne
    refine ⟨by simp, ?_, ?_, fun i z => ?_⟩
    · rw [List.getElem?_append_left hpl]; exact at_ne h 0
    · rw [el, show p.length + 1 + M.length - 1 = p.length + 1 + (M.length - 1) by omega, e2]; exact g.ls
    · rcases Nat.lt_trichotomy i p.length with q | q | q
      · have := z.1
        rw [List.getElem?_append_left q] at this
        exact at_ne h i this
      · subst q
        have := z.2
        rw [show p.length + 1 = p.length + 1 + 0 by omega, e2] at this
        exact g.hd this
      · obtain ⟨j, rfl⟩ : ∃ j, i = p.length + 1 + j := ⟨i - (p.length + 1), by omega⟩
        refine g.two j ⟨by rw [← e2]; exact z.1, ?_⟩
        rw [← e2, show p.length + 1 + (j + 1) = p.length + 1 + j + 1 by omega]; exact z.2
theorem good_parts : ∀ (ps : List (List Nat)), ps ≠ [] → (∀ p ∈ ps, 32 ∉ p) → ((∀ p ∈ ps, p ≠ []) ↔ GoodL (joinL ps))
  | [], h, _ => absurd rfl h
  | [p], _, hb => by
    have h1 := hb p List.mem_cons_self
    constructor
    · exact fun h => ⟨h p List.mem_cons_self, at_ne h1 _, at_ne h1 _, fun i z => at_ne h1 i z.1⟩
    · intro g q hq
      rw [List.mem_singleton.mp hq]; exact g.ne
  | p :: q :: r, _, hb => by
    have ih := good_parts (q :: r) (by simp) fun x hx => hb x (List.mem_cons_of_mem _ hx)
    rw [show joinL (p :: q :: r) = p ++ 32 :: joinL (q :: r) from rfl, good_cons (hb p List.mem_cons_self), ← ih]
    constructor
    · exact fun h => ⟨h p List.mem_cons_self, fun x hx => h x (List.mem_cons_of_mem _ hx)⟩
    · rintro ⟨h1, h2⟩ x hx
      rcases List.mem_cons.mp hx with rfl | hx
      · exact h1
      · exact h2 x hx
abbrev bl : Str := Str.ofString " "
theorem bl_eq : bl = ⟨#[32]⟩ := by decide +kernel
theorem join_cps : ∀ (ps : List Str), (Str.join ⟨#[32]⟩ ps).cps.toList = joinL (ps.map fun p => p.cps.toList)
  | [] => rfl
  | [p] => rfl
  | p :: q :: r => by
    have ih := join_cps (q :: r)
    show ((p ++ ⟨#[32]⟩ ++ Str.join ⟨#[32]⟩ (q :: r)) : Str).cps.toList = _
    have e : ∀ a b : Str, (a ++ b).cps = a.cps ++ b.cps := fun a b => rfl
    rw [e, e, Array.toList_append, Array.toList_append, ih, List.append_assoc]
    rfl
theorem str_nil {x : Str} : x.cps.toList = [] ↔ x = Str.ofString "" := by
  constructor
  · intro h
    apply Str.ext'
    apply Array.toList_inj.mp
    rw [h]; decide +kernel
  · rintro rfl; decide +kernel
theorem split_pieces (x : Str) : (∀ p ∈ Txt.split x bl, 32 ∉ p.cps.toList) ∧ joinL ((Txt.split x bl).map fun p => p.cps.toList) = x.cps.toList := by
  rw [bl_eq]
  refine ⟨fun p hp => StrLaws.split_free x 32 p hp, ?_⟩
  rw [← join_cps, StrLaws.join_split]
theorem words_good (x : Str) : Str.ofString "" ∈ Txt.split x bl ↔ ¬ GoodL x.cps.toList := by
  obtain ⟨h1, h2⟩ := split_pieces x
  have hne : Txt.split x bl ≠ [] := fun z => by
    have := split_pos x bl
    rw [z] at this; simp at this
  have g := good_parts ((Txt.split x bl).map fun p => p.cps.toList) (by simpa using hne) (by
    intro p hp
    obtain ⟨y, hy, rfl⟩ := List.mem_map.mp hp
    exact h1 y hy)
  rw [h2] at g
  rw [← g]
  constructor
  · intro h z
    exact z _ (List.mem_map.mpr ⟨_, h, rfl⟩) (str_nil.mpr rfl)
  · intro h
    apply Classical.byContradiction
    intro hn
    apply h
    intro p hp
    obtain ⟨y, hy, rfl⟩ := List.mem_map.mp hp
    exact fun z => hn (by rw [← str_nil.mp z]; exact hy)
theorem two_in (x : Str) : inS (Str.ofString "  ") x = true ↔ ∃ i : Nat, x.cps.toList[i]? = some 32 ∧ x.cps.toList[i + 1]? = some 32 := by
  rw [show Str.ofString "  " = ⟨#[32, 32]⟩ by decide +kernel]
  show (!(Builtin.Str.occurrences x ⟨#[32, 32]⟩ 0 x.length 1).isEmpty) = true ↔ _
  rw [StrLaws.found_iff]
  constructor
  · rintro ⟨i, h1, h2⟩
    rw [StrLaws.subAt_eq] at h2
    have h3 : (x.cps.toList.drop i).take 2 = [32, 32] := by
      have h2' : ((x.cps.toList.drop i).take 2 == [32, 32]) = true := h2
      simpa using h2'
    refine ⟨i, ?_, ?_⟩
    · have : ((x.cps.toList.drop i).take 2)[0]? = some 32 := by rw [h3]; rfl
      rw [List.getElem?_take_of_lt (by decide), List.getElem?_drop] at this
      simpa using this
    · have : ((x.cps.toList.drop i).take 2)[1]? = some 32 := by rw [h3]; rfl
      rw [List.getElem?_take_of_lt (by decide), List.getElem?_drop] at this
      exact this
  · rintro ⟨i, h1, h2⟩
    obtain ⟨hl1, e1⟩ := List.getElem?_eq_some_iff.mp h1
    obtain ⟨hl, e2⟩ := List.getElem?_eq_some_iff.mp h2
    have hx : x.cps.toList.length = x.length := by simp [Str.length]
    refine ⟨i, by show i + 2 ≤ x.length; omega, ?_⟩
    rw [StrLaws.subAt_eq]
    show ((x.cps.toList.drop i).take 2 == [32, 32]) = true
    rw [List.drop_eq_getElem_cons hl1, List.take_succ_cons, List.drop_eq_getElem_cons hl, List.take_succ_cons, List.take_zero, e1, e2]
    rfl
theorem sign_in (c : Nat) (x : Str) : inS (sg c) x = decide (c ∈ x.cps.toList) := StrLaws.found_one x c
theorem num_text {x : Str} (h : NumText.AllDigits x.cps.toList) (h1 : x.cps.toList ≠ []) (h2 : x.length ≤ 640) (hc : x.length = 1 ∨ x.cps.toList[0]? ≠ some 48) :
    intText? x = some ((NumText.digitsVal x.cps.toList : Nat) : Int) ∧ Str.ofString (toString ((NumText.digitsVal x.cps.toList : Nat) : Int)) = x := by
  refine ⟨PySem.intText_digits h h1 (by omega), ?_⟩
  apply Str.ext'
  apply Array.toList_inj.mp
  rw [PySem.W.KIN.signs_num]
  have hl : x.cps.toList.length = x.length := by simp [Str.length]
  obtain ⟨c, r, e⟩ : ∃ c r, x.cps.toList = c :: r := by
    cases q : x.cps.toList with
    | nil => exact absurd q h1
    | cons c r => exact ⟨c, r, rfl⟩
  have hd := h c (by rw [e]; exact List.mem_cons_self)
  rw [NumText.toDigits_digitsVal (x.cps.toList.length - 1) x.cps.toList (by rw [e]; simp) h (by
    rcases hc with z | z
    · exact .inl (by omega)
    · refine .inr ⟨c, r, e, ?_⟩
      rw [e] at z
      have : c ≠ 48 := fun y => z (by rw [y]; rfl)
      omega), List.map_map]
  rw [show (Char.toNat ∘ Char.ofNat) = fun c => (Char.ofNat c).toNat from rfl]
  have : ∀ l : List Nat, NumText.AllDigits l → l.map (fun c => (Char.ofNat c).toNat) = l := by
    intro l
    induction l with
    | nil => intro _; rfl
    | cons a l ih =>
      intro hl
      rw [List.map_cons, ih fun c hc => hl c (List.mem_cons_of_mem _ hc)]
      have ha := hl a List.mem_cons_self
      have : ∀ k : Fin 10, (Char.ofNat (48 + k.val)).toNat = 48 + k.val := by decide
      have := this ⟨a - 48, by omega⟩
      simp only at this
      rw [show 48 + (a - 48) = a by omega] at this
      rw [this]
  exact this _ h
structure OkS (n : Nat) (z : Str) : Prop where
  ok : PyData.strOk z = true
  len : z.length ≤ n
theorem strOk_iff {z : Str} : PyData.strOk z = true ↔ ∀ c ∈ z.cps.toList, c < 1114112 := by
  unfold PyData.strOk
  rw [← Array.all_toList, List.all_eq_true]
  simp
theorem sm_str {z : Str} (h : PyData.strOk z = true) : Sm (.str z) := ⟨h, by show 0 ≤ 20; decide⟩
theorem lay_sD : ∀ {ys : List Str}, (∀ y ∈ ys, PyData.strOk y = true) → PyData.canLayAll0 (sD ys) = true
  | [], _ => rfl
  | y :: ys, h => by
    show (PyData.strOk y && PyData.canLayAll0 (sD ys)) = true
    rw [h y List.mem_cons_self, lay_sD fun x hx => h x (List.mem_cons_of_mem _ hx)]; rfl
theorem dep_sD (ys : List Str) : PyData.depthAll (sD ys) ≤ 0 := depAll fun x hx => by
  obtain ⟨o, _, rfl⟩ := List.mem_map.mp hx
  exact Nat.le_refl _
theorem sm_sD {ys : List Str} (h : ∀ y ∈ ys, PyData.strOk y = true) : Sm (.list (sD ys)) := ⟨lay_sD h, by
  show PyData.depthAll (sD ys) + 1 ≤ 20
  have := dep_sD ys
  omega⟩
theorem scal_sD (ys : List Str) : (sD ys).all scalD = true := by
  rw [List.all_eq_true]
  intro x hx
  obtain ⟨o, _, rfl⟩ := List.mem_map.mp hx
  rfl
theorem mem_joinL : ∀ (ps : List (List Nat)) (p : List Nat) (c : Nat), p ∈ ps → c ∈ p → c ∈ joinL ps
  | [q], p, c, h, hc => by rw [List.mem_singleton.mp h] at hc; exact hc
  | q :: r :: t, p, c, h, hc => by
    show c ∈ q ++ 32 :: joinL (r :: t)
    rcases List.mem_cons.mp h with rfl | h
    · exact List.mem_append_left _ hc
    · exact List.mem_append_right _ (List.mem_cons_of_mem _ (mem_joinL (r :: t) p c h hc))
theorem split_ok {n : Nat} {x : Str} (h : OkS n x) : ∀ p ∈ Txt.split x bl, PyData.strOk p = true := fun p hp => by
  rw [strOk_iff]
  intro c hc
  refine strOk_iff.mp h.ok c ?_
  rw [← (split_pieces x).2]
  exact mem_joinL _ _ c (List.mem_map.mpr ⟨p, hp, rfl⟩) hc
theorem any_str (ys : List Str) (y : Str) : ((sD ys).any fun x => PyData.eqv x (.str y)) = decide (y ∈ ys) := by
  rw [Bool.eq_iff_iff, List.any_eq_true, decide_eq_true_eq]
  constructor
  · rintro ⟨d, hd, he⟩
    obtain ⟨z, hz, rfl⟩ := List.mem_map.mp hd
    have : z = y := by
      have he' : (z == y) = true := he
      simpa using he'
    rw [← this]; exact hz
  · exact fun h => ⟨.str y, List.mem_map.mpr ⟨y, h, rfl⟩, by show (y == y) = true; simp⟩
end Kx
end
section
namespace Kx
open PySem PySem.Spec PyProof.Rows L2
abbrev OwnV (x : Str) (C : Addr) (mg : Str → Option Value) (base : Heap) : Prop := OwnCls x C [.type "ValueError", .type "Exception", .type "BaseException", .type "object"] "ValueError.__new__" mg base
theorem own_mk {K : PySem.W.Frag} {h : Heap} {mg : Str → Option Value} {x : Str} {C : Addr} (X : K.In h) (G : h.Ns mainGlobals mg) (e : PySem.W.nsIn K mainGlobals x = some (some (.ref C))) (q : PySem.W.excIn K C [.type "ValueError", .type "Exception", .type "BaseException", .type "object"] "ValueError.__new__" = true) : OwnV x C mg h := by
  refine ⟨PySem.W.mg_of X G e, ?_⟩; unfold PySem.W.excIn at q; split at q
  · rename_i dA cA sA lk; split at q
    · rename_i D tl z0 z1 z2 z3 nw z5 hmro hsl; simp only [Bool.and_eq_true, beq_iff_eq, Bool.not_eq_true'] at q; obtain ⟨⟨⟨⟨⟨rfl, rfl⟩, noDel⟩, tails⟩, okNs⟩, noIni⟩ := q
      obtain ⟨y1, y2, y3, y4, y5, y6, y7, y8, y9, y10, y11⟩ := cA; dsimp only at hmro noDel okNs noIni; subst hmro noDel
      have es : sA = #[z0, z1, z2, z3, some (.builtin "ValueError.__new__"), z5] := by obtain ⟨w⟩ := sA; simp only at hsl; rw [hsl]
      subst es; exact ⟨tl, y4, y1, y5, y2, y6, y7, y8, y9, y10, dA, z0, z1, z2, z3, z5, _, X _ _ lk, .of_isNs (PySem.W.isNs_of_in X okNs), PySem.W.nsMap_none_of_in X okNs noIni, PySem.W.tail_of_in X tails⟩
    · cases q
  · cases q
end Kx
end
section
namespace L2
open PySem PySem.Spec PyProof.Rows
theorem ev_gstr {X : Cx} {δ : Dn} {pos : Pos} {x : Str} {u : Value} {z : Str} (hg : Gl X x) (hm : X.mg x = some u) (hu : ∃ t, u = .str z t) (hd : (x == ("__debug__" : Str)) = false := by decide) : EvD X δ (.Name x pos) (.str z) :=
  ev_of (pe_glob hg hm (v := .str z) hu hd) fun Hb own B σ H Q E q => q _ H (Same.refl H) rfl
end L2
namespace Kx
open PySem PySem.Spec PyProof.Rows L2
abbrev fig : Str := Str.ofString "0123456789"
abbrev abc : Str := Str.ofString "abcdefghijklmnopqrstuvwxyz"
def writ (z g : Str) (m : Int) : Bool := decide (1 ≤ z.length ∧ (z.length : Int) ≤ m) && z.cps.toList.all fun c => decide (c ∈ g.cps.toList)
def RWr : List PyData → PyData → Prop := fun ds d => ∃ (z g : Str) (m : Int), ds = [.str z, .str g, .int m] ∧ z.length ≤ 1000 ∧ d = .bool (writ z g m)
def RWdX (cR : Addr) : List PyData → Rs → Prop := fun ds r => ∃ z : Str, ds = [.str z] ∧ OkS 990 z ∧ r = if Str.ofString "" ∈ Txt.split z bl then .x cR else .l (sD (Txt.split z bl))
def numOk (z : Str) : Bool := writ z fig 7 && !(decide (z.cps.toList[0]? = some 48) && decide (z ≠ Str.ofString "0"))
def RNuX (cR : Addr) : List PyData → Rs → Prop := fun ds r => ∃ z : Str, ds = [.str z] ∧ OkS 990 z ∧ r = if numOk z = true then .d (.int ((NumText.digitsVal z.cps.toList : Nat) : Int)) else .x cR
def RNmX (cR : Addr) : List PyData → Rs → Prop := fun ds r => ∃ z : Str, ds = [.str z] ∧ OkS 990 z ∧ r = if writ z abc 8 = true then .d (.str z) else .x cR
theorem cps_len (z : Str) : z.cps.toList.length = z.length := by simp [Str.length]
theorem fig_cps : fig.cps.toList = [48, 49, 50, 51, 52, 53, 54, 55, 56, 57] := by decide +kernel
theorem writ_digits {z : Str} {m : Int} (h : writ z fig m = true) : NumText.AllDigits z.cps.toList := fun c hc => by
  unfold writ at h
  rw [Bool.and_eq_true, List.all_eq_true] at h
  have := of_decide_eq_true (h.2 c hc)
  rw [fig_cps] at this
  simp only [List.mem_cons, List.not_mem_nil, or_false] at this
  omega
theorem writ_len {z g : Str} {m : Int} (h : writ z g m = true) : 1 ≤ z.length ∧ (z.length : Int) ≤ m := by
  unfold writ at h
  rw [Bool.and_eq_true] at h
  exact of_decide_eq_true h.1
theorem sg_zero (c : Nat) : PyData.eqv (.str (sg c)) (.str (Str.ofString "0")) = decide (c = 48) := by
  show (sg c == Str.ofString "0") = _
  rw [show Str.ofString "0" = sg 48 by decide +kernel, Bool.eq_iff_iff, beq_iff_eq, decide_eq_true_eq]
  constructor
  · intro h
    have : (sg c).cps.toList = (sg 48).cps.toList := by rw [h]
    simpa using this
  · rintro rfl; rfl
theorem str_eqv (a b : Str) : PyData.eqv (.str a) (.str b) = decide (a = b) := by
  show (a == b) = _
  by_cases h : a = b
  · subst h; simp
  · simp [h]
section
variable {P : Program} {w : World} {K : PySem.W.Frag} {mg : Str → Option Value} {base : Heap} {f : Addr} {fd : FuncData}
variable {cR : Addr}
abbrev nWr : List Str := ["word", "signs", "most", "sign"]
theorem scWr : FnScope nWr ["word", "signs", "most"] (defScope s_is_written_in) := ⟨rfl, rfl, rfl, by decide +kernel, rfl, by decide +kernel, by decide +kernel⟩
theorem ok_wr (hB : Blt mg) (F : Fun K "is_written_in" "is_written_in" s_is_written_in f fd) (hm : mg "is_written_in" = some (.ref f)) (hb : Binds K fd ["word", "signs", "most"] []) : Fn P w K mg base "is_written_in" 1 ["word", "signs", "most"] (spP K RWr) := by
  refine fn_P (k := 0) F scWr hm hb (by rintro _ _ ⟨a, b, c, rfl, _⟩; rfl) fun cdv A outer s H E hr ds d hR => .inl ?_
  obtain ⟨z, g, m, rfl, hz, rfl⟩ := hR
  have hl := cps_len z
  refine sr_if_out (k := decide ((z.length : Int) < 1) || decide (m < (z.length : Int))) (et_or (et_lt (ev_lenZ rfl hB.len (ev_var 0 rfl) (by omega)) ev_int) (fun _ => et_gt (ev_lenZ rfl hB.len (ev_var 0 rfl) (by omega)) (ev_var 2 rfl))) (fun h => ?_) (fun h => ?_)
  · refine sr_eq (sr_one (s1_ret ev_bl)) ?_
    rw [Bool.or_eq_true, decide_eq_true_eq, decide_eq_true_eq] at h
    unfold writ
    rw [decide_eq_false (by omega)]; rfl
  · rw [Bool.or_eq_false_iff, decide_eq_false_iff_not, decide_eq_false_iff_not] at h
    refine sr_eq (sr_one (s1_ret (ev_all rfl rfl hB.all (bs := z.cps.toList.map fun c => inS (sg c) g) (ev_eq (ev_f (ef_map 3 (fun c => PyData.str (sg c)) z.cps.toList (fun c => PyData.bool (inS (sg c) g)) rfl (cs_mk (defScope s_is_written_in) nWr rfl rfl (by decide +kernel)) scWr.nd (ei_str (ev_var 0 rfl)) (by omega) (fun C s2 H2 fp t ht => ev_inS (ev_var 3 rfl) (ev_var 1 rfl)))) (by unfold bD; rw [List.map_map]; rfl))))) ?_
    unfold writ
    rw [decide_eq_true (by omega), Bool.true_and, List.all_map]
    congr 2
    apply List.all_congr rfl
    intro c
    exact sign_in c g
abbrev nWd : List Str := ["row", "words"]
theorem scWd : FnScope nWd ["row"] (defScope s_read_words) := ⟨rfl, rfl, rfl, by decide +kernel, rfl, by decide +kernel, by decide +kernel⟩
theorem ok_wdX (hR : OwnV "NoRow" cR mg base) (F : Fun K "read_words" "read_words" s_read_words f fd) (hm : mg "read_words" = some (.ref f)) (hb : Binds K fd ["row"] []) : FnX P w K mg base "read_words" 1 ["row"] (RWdX cR) := by
  refine fn_X (k := 0) F scWd hm hb (by rintro _ _ ⟨a, rfl, _⟩; rfl) fun cdv A outer s H E hr ds r hRR => ?_
  obtain ⟨z, rfl, hz, rfl⟩ := hRR
  have hl := hz.len
  have hlay := lay_sD (split_ok hz)
  by_cases h : Str.ofString "" ∈ Txt.split z bl
  · rw [if_pos h]
    exact ⟨_, sx_cons (s1_setF 1 scWd.nd (ef_split (ev_var 0 rfl) ev_str rfl (by omega))) (sx_here (x_if (m := true) (et_share (xs := sD (Txt.split z bl)) 1 rfl (et_eq (et_inD hr ev_str (ev_var 1 rfl) (sm_str (by decide +kernel)) hlay) (by rw [any_str, decide_eq_true h]))) (fun _ => sx_here (x_raise hR PySem.F.excBase_ValueError rfl rfl (ea_cons ev_str ea_nil))) (fun z => nomatch z)))⟩
  · rw [if_neg h]
    refine sr_cons (s1_setF 1 scWd.nd (ef_split (ev_var 0 rfl) ev_str rfl (by omega))) ?_
    refine sr_skip (et_share (xs := sD (Txt.split z bl)) 1 rfl (et_eq (et_inD hr ev_str (ev_var 1 rfl) (sm_str (by decide +kernel)) hlay) (by rw [any_str, decide_eq_false h]))) ?_
    exact sr_rf (s1_retO 1 rfl)
abbrev nNu : List Str := ["word"]
theorem scNu : FnScope nNu ["word"] (defScope s_read_number) := ⟨rfl, rfl, rfl, by decide +kernel, rfl, by decide +kernel, by decide +kernel⟩
theorem ok_nuX (hB : Blt mg) (hF : ∃ t, mg "FIGURES" = some (.str fig t)) (hM : ∃ t, mg "MOST_FIGURES" = some (.int 7 t)) (hR : OwnV "NoRow" cR mg base) (GW : Fn P w K mg base "is_written_in" 1 ["word", "signs", "most"] (spP K RWr)) (F : Fun K "read_number" "read_number" s_read_number f fd) (hm : mg "read_number" = some (.ref f)) (hb : Binds K fd ["word"] []) : FnX P w K mg base "read_number" 2 ["word"] (RNuX cR) := by
  obtain ⟨tf, hF⟩ := hF
  obtain ⟨tm, hM⟩ := hM
  refine fn_X (k := 1) F scNu hm hb (by rintro _ _ ⟨a, rfl, _⟩; rfl) fun cdv A outer s H E hr ds r hRR => ?_
  obtain ⟨z, rfl, hz, rfl⟩ := hRR
  have hl := hz.len
  have hcl := cps_len z
  have hWr : RWr [.str z, .str fig, .int 7] (.bool (writ z fig 7)) := ⟨z, fig, 7, rfl, by omega, rfl⟩
  by_cases hw : writ z fig 7 = true
  · have hln := writ_len hw
    obtain ⟨c, hc⟩ : ∃ c, z.cps.toList[0]? = some c := ⟨z.cps.toList[0]'(by omega), List.getElem?_eq_getElem _⟩
    by_cases h0 : (decide (z.cps.toList[0]? = some 48) && decide (z ≠ Str.ofString "0")) = true
    · have hno : numOk z = false := by unfold numOk; rw [hw, h0]; rfl
      rw [hno, if_neg Bool.false_ne_true]
      rw [Bool.and_eq_true, decide_eq_true_eq, decide_eq_true_eq] at h0
      rw [h0.1] at hc
      cases hc
      exact ⟨_, sx_cons (s1_if (els := []) (k := false) (et_eq (et_not (et_val (ev_call GW hr (by decide) rfl (ea_cons (ev_var 0 rfl) (ea_cons (ev_gstr rfl hF ⟨tf, rfl⟩) (ea_cons (ev_gint rfl hM ⟨tm, rfl⟩) ea_nil))) hWr))) (by rw [hw]; rfl)) (fun y => nomatch y) (fun _ => sr_nil)) (sx_here (x_if (m := true) (et_eq (et_and (k := true) (m := true) (et_eq (et_eqD hr (ev_ixZ (c := 48) (ev_var 0 rfl) ev_int (by decide) (by omega) h0.1) ev_str (sm_str (by decide +kernel)) (by decide +kernel)) (by rw [sg_zero]; rfl)) (fun _ => et_eq (et_neD hr (ev_var 0 rfl) ev_str (sm_str hz.ok) (by decide +kernel)) (by rw [str_eqv, decide_eq_false h0.2]; rfl))) rfl) (fun _ => sx_here (x_raise hR PySem.F.excBase_ValueError rfl rfl (ea_cons ev_str ea_nil))) (fun y => nomatch y)))⟩
    · have h0' : (decide (z.cps.toList[0]? = some 48) && decide (z ≠ Str.ofString "0")) = false := by simpa using h0
      have hyes : numOk z = true := by unfold numOk; rw [hw, h0']; rfl
      rw [hyes, if_pos rfl]
      have hca : c < 1114112 := strOk_iff.mp hz.ok c (List.mem_of_getElem? hc)
      have hcan : z.length = 1 ∨ z.cps.toList[0]? ≠ some 48 := by
        rw [Bool.and_eq_false_iff, decide_eq_false_iff_not, decide_eq_false_iff_not] at h0'
        rcases h0' with q | q
        · exact .inr q
        · have : z = Str.ofString "0" := Decidable.not_not.mp q
          exact .inl (by rw [this]; decide +kernel)
      have hnt := num_text (writ_digits hw) (by intro q; rw [q] at hcl; simp at hcl; omega) (by omega) hcan
      refine .inl (sr_skip (et_eq (et_not (et_val (ev_call GW hr (by decide) rfl (ea_cons (ev_var 0 rfl) (ea_cons (ev_gstr rfl hF ⟨tf, rfl⟩) (ea_cons (ev_gint rfl hM ⟨tm, rfl⟩) ea_nil))) hWr))) (by rw [hw]; rfl)) ?_)
      refine sr_skip (et_eq (et_and (et_eq (et_eqD hr (ev_ixZ (c := c) (ev_var 0 rfl) ev_int (by decide) (by omega) hc) ev_str (sm_str (strOk_iff.mpr fun x hx => by have e : x = c := (by simpa using hx); rw [e]; exact hca)) (by decide +kernel)) (sg_zero c)) (fun _ => et_eq (et_neD hr (ev_var 0 rfl) ev_str (sm_str hz.ok) (by decide +kernel)) (congrArg not (str_eqv z _)))) ?_) ?_
      · rw [hc] at h0'
        rw [← h0']
        congr 1
        · rw [decide_eq_decide]; exact ⟨fun q => by rw [q], fun q => by cases q; rfl⟩
        · by_cases q : z = Str.ofString "0" <;> simp [q]
      · exact sr_one (s1_ret (ev_intZ rfl hB.int (ev_var 0 rfl) hnt.1 (by omega)))
  · have hw' : writ z fig 7 = false := by simpa using hw
    have hno : numOk z = false := by unfold numOk; rw [hw']; rfl
    rw [hno, if_neg Bool.false_ne_true]
    exact ⟨_, sx_here (x_if (m := true) (et_eq (et_not (et_val (ev_call GW hr (by decide) rfl (ea_cons (ev_var 0 rfl) (ea_cons (ev_gstr rfl hF ⟨tf, rfl⟩) (ea_cons (ev_gint rfl hM ⟨tm, rfl⟩) ea_nil))) hWr))) (by rw [hw']; rfl)) (fun _ => sx_here (x_raise hR PySem.F.excBase_ValueError rfl rfl (ea_cons ev_str ea_nil))) (fun y => nomatch y))⟩
theorem scNm : FnScope nNu ["word"] (defScope s_read_name) := ⟨rfl, rfl, rfl, by decide +kernel, rfl, by decide +kernel, by decide +kernel⟩
theorem ok_nmX (hF : ∃ t, mg "LETTERS" = some (.str abc t)) (hM : ∃ t, mg "MOST_LETTERS" = some (.int 8 t)) (hR : OwnV "NoRow" cR mg base) (GW : Fn P w K mg base "is_written_in" 1 ["word", "signs", "most"] (spP K RWr)) (F : Fun K "read_name" "read_name" s_read_name f fd) (hm : mg "read_name" = some (.ref f)) (hb : Binds K fd ["word"] []) : FnX P w K mg base "read_name" 2 ["word"] (RNmX cR) := by
  obtain ⟨tf, hF⟩ := hF
  obtain ⟨tm, hM⟩ := hM
  refine fn_X (k := 1) F scNm hm hb (by rintro _ _ ⟨a, rfl, _⟩; rfl) fun cdv A outer s H E hr ds r hRR => ?_
  obtain ⟨z, rfl, hz, rfl⟩ := hRR
  have hl := hz.len
  have hWr : RWr [.str z, .str abc, .int 8] (.bool (writ z abc 8)) := ⟨z, abc, 8, rfl, by omega, rfl⟩
  by_cases hw : writ z abc 8 = true
  · rw [if_pos hw]
    exact .inl (sr_skip (et_eq (et_not (et_val (ev_call GW hr (by decide) rfl (ea_cons (ev_var 0 rfl) (ea_cons (ev_gstr rfl hF ⟨tf, rfl⟩) (ea_cons (ev_gint rfl hM ⟨tm, rfl⟩) ea_nil))) hWr))) (by rw [hw]; rfl)) (sr_one (s1_ret (ev_var 0 rfl))))
  · rw [if_neg hw]
    have hw' : writ z abc 8 = false := by simpa using hw
    exact ⟨_, sx_here (x_if (m := true) (et_eq (et_not (et_val (ev_call GW hr (by decide) rfl (ea_cons (ev_var 0 rfl) (ea_cons (ev_gstr rfl hF ⟨tf, rfl⟩) (ea_cons (ev_gint rfl hM ⟨tm, rfl⟩) ea_nil))) hWr))) (by rw [hw']; rfl)) (fun _ => sx_here (x_raise hR PySem.F.excBase_ValueError rfl rfl (ea_cons ev_str ea_nil))) (fun y => nomatch y))⟩
end
end Kx
end
section
namespace Kx
open PySem PySem.Spec PyProof.Rows L2 Mt
theorem cut_take {α : Type} (xs : List α) (k : Nat) : cutL xs none (some (k : Int)) = xs.take k := by
  unfold cutL
  rw [HT.sIx_nat, HT.sIx_none, List.drop_zero, Nat.sub_zero]
  by_cases h : k ≤ xs.length
  · rw [Nat.min_eq_left h]
  · rw [Nat.min_eq_right (by omega), List.take_length, List.take_of_length_le (by omega)]
theorem iD_take (l : List Int) (k : Nat) : (iD l).take k = iD (l.take k) := by unfold iD; rw [List.map_take]
end Kx
end
section
namespace L2
open PySem PySem.Spec PyProof.Rows
theorem ev_call0 {X : Cx} {δ : Dn} {name : Str} {ps : List Str} {d : PyData} {p pos : Pos} {j k : Nat} {R : List PyData → PyData → Prop} (G : Fn X.prog X.w X.K X.mg X.base name j ps (spP X.K R)) (hr : Room k X.A) (hjk : j ≤ k) (hg : Gl X name) (hR : R [] d) (hdb : (name == ("__debug__" : Str)) = false := by decide) : EvD X δ (.Call (.Name name p) [] [] pos) d := by
  obtain ⟨f, fd, h1, h2, h3, h4⟩ := G.ex
  refine ev_of (pe_call0 h1 (hr.mono hjk) hg h2 h3 h4 .nil pass0 hdb) fun Hb own B σ H Q E q => ?_
  exact ⟨Av own B, [], d, fun a z => E.alive z, rfl, hR, fun v H' s2 r => q v H' s2 r⟩
end L2
namespace Kx
open PySem PySem.Spec PyProof.Rows L2
def ofCs (cs : List Nat) : Str := ⟨cs.toArray⟩
theorem ofCs_cps (cs : List Nat) : (ofCs cs).cps.toList = cs := by simp [ofCs]
theorem ofCs_len (cs : List Nat) : (ofCs cs).length = cs.length := by simp [ofCs, Str.length]
theorem join_sgs (cs : List Nat) : Txt.join (Str.ofString "") (cs.map sg) = ofCs cs := by
  show Builtin.Str.glued (Str.ofString "") (cs.map sg) = _
  rw [StrLaws.glued_eq_join]
  have : ∀ cs : List Nat, (Str.join (Str.ofString "") (cs.map sg)).cps.toList = cs := by
    intro cs
    induction cs with
    | nil => rfl
    | cons c r ih =>
      cases r with
      | nil => rfl
      | cons d r =>
        show ((sg c ++ Str.ofString "" ++ Str.join (Str.ofString "") ((d :: r).map sg)) : Str).cps.toList = _
        have e : ∀ a b : Str, (a ++ b).cps = a.cps ++ b.cps := fun a b => rfl
        rw [e, e, Array.toList_append, Array.toList_append, ih]
        have : (Str.ofString "").cps.toList = [] := by decide +kernel
        rw [this]; rfl
  apply Str.ext'
  apply Array.toList_inj.mp
  rw [this, ofCs_cps]
theorem sgs_weight (cs : List Nat) (h : cs.length ≤ 1000) : ((cs.map sg).map (·.length)).sum + (cs.map sg).length ≤ 1048576 := by
  have : ∀ cs : List Nat, ((cs.map sg).map (·.length)).sum = cs.length := by
    intro cs
    induction cs with
    | nil => rfl
    | cons c r ih =>
      rw [List.map_cons, List.map_cons, List.sum_cons, ih, List.length_cons]
      show 1 + r.length = _
      omega
  rw [this, List.length_map]; omega
theorem ok_ofCs {n : Nat} {cs : List Nat} (hl : cs.length ≤ n) (h : ∀ c ∈ cs, c < 1114112) : OkS n (ofCs cs) := ⟨strOk_iff.mpr (by rw [ofCs_cps]; exact h), by rw [ofCs_len]; exact hl⟩
def turnI (c k : Int) : Int := c % 800800759 + 3121 * k + 101
def spinI (c k : Int) : Int := turnI c k * (turnI c k + 17 * k) * turnI c k / 7 % 611000009
def spins (c : Int) (m : Nat) : List Int := (rgI 0 m).map (spinI c)
theorem spins_len (c : Int) (m : Nat) : (spins c m).length = m := by unfold spins; rw [List.length_map, rgI_len]
theorem spins_nn {c : Int} {m : Nat} {x : Int} (h : x ∈ spins c m) : 0 ≤ x := by
  obtain ⟨k, _, rfl⟩ := List.mem_map.mp h
  exact Int.emod_nonneg _ (by decide)
def RSpin : List PyData → List PyData → Prop := fun ds xs => ∃ (c : Int) (m : Nat), ds = [.int c, .int m] ∧ m ≤ 100 ∧ xs = iD (spins c m)
abbrev sgn : Str := Str.ofString "abcdefghijklmnopqrstuvwxyz0123456789ABCDEFGHIJKLMNOPQRSTUVWXYZ" ++ Str.ofString "!\"#$&'()*+,-./:;<=>?\x40[\\]^_`{|}~\t\n"
def RSgn : List PyData → PyData → Prop := fun ds d => ds = [] ∧ d = .str sgn
theorem sgn_len : sgn.length = 95 := by decide +kernel
theorem sgn_all : sgn.cps.toList.all (fun c => decide (c < 128)) = true := by decide +kernel
theorem sgn_at {i : Nat} (h : i < 95) : ∃ c, sgn.cps.toList[i]? = some c ∧ c < 1114112 := by
  have hl : sgn.cps.toList.length = 95 := by rw [cps_len, sgn_len]
  refine ⟨sgn.cps.toList[i]'(by omega), List.getElem?_eq_getElem _, ?_⟩
  have := List.all_eq_true.mp sgn_all _ (List.getElem_mem (show i < sgn.cps.toList.length by omega))
  have := of_decide_eq_true this
  omega
def sAt (i : Int) : Nat := sgn.cps.toList.getD i.toNat 0
theorem sAt_get {i : Int} (h0 : 0 ≤ i) (h1 : i < 95) : sgn.cps.toList[i.toNat]? = some (sAt i) ∧ sAt i < 1114112 := by
  obtain ⟨c, h2, h3⟩ := sgn_at (i := i.toNat) (by omega)
  unfold sAt
  rw [List.getD_eq_getElem?_getD, h2]
  exact ⟨rfl, h3⟩
def xAt (xs : List Int) (i : Nat) : Int := xs.getD i 0
def kindW (c : Int) : Int := [26, 36, 95].getD (xAt (spins c 13) 12 % 3).toNat 0
def wordCs (c : Int) : List Nat := ((spins c 13).take (1 + xAt (spins c 13) 12 / 3 % 12).toNat).map fun x => sAt (x % kindW c)
def wordOf (c : Int) : Str := ofCs (wordCs c)
def RWord : List PyData → PyData → Prop := fun ds d => ∃ c : Int, ds = [.int c] ∧ d = .str (wordOf c)
theorem kindW_rg (c : Int) : 0 < kindW c ∧ kindW c ≤ 95 := by
  unfold kindW
  have h0 := Int.emod_nonneg (xAt (spins c 13) 12) (show (3 : Int) ≠ 0 by decide)
  have h1 := Int.emod_lt_of_pos (xAt (spins c 13) 12) (show (0 : Int) < 3 by decide)
  generalize xAt (spins c 13) 12 % 3 = i at h0 h1
  have : i = 0 ∨ i = 1 ∨ i = 2 := by omega
  rcases this with rfl | rfl | rfl <;> decide
theorem spins_at {c : Int} {m i : Nat} (h : i < m) : (spins c m)[i]? = some (xAt (spins c m) i) ∧ 0 ≤ xAt (spins c m) i := by
  have hl := spins_len c m
  have e : (spins c m)[i]? = some ((spins c m)[i]'(by omega)) := List.getElem?_eq_getElem _
  unfold xAt
  rw [List.getD_eq_getElem?_getD, e]
  exact ⟨rfl, spins_nn (List.getElem_mem _)⟩
theorem word_ok (c : Int) : OkS 12 (wordOf c) := by
  have h0 := Int.emod_nonneg (xAt (spins c 13) 12 / 3) (show (12 : Int) ≠ 0 by decide)
  have h1 := Int.emod_lt_of_pos (xAt (spins c 13) 12 / 3) (show (0 : Int) < 12 by decide)
  refine ok_ofCs ?_ fun x hx => ?_
  · unfold wordCs
    rw [List.length_map, List.length_take]; omega
  · obtain ⟨y, hy, rfl⟩ := List.mem_map.mp hx
    have hk := kindW_rg c
    have h2 := Int.emod_nonneg y (show kindW c ≠ 0 by omega)
    have h3 := Int.emod_lt_of_pos y hk.1
    exact (sAt_get h2 (by omega)).2
def nearA (c : Int) (kd : Int) : List Nat :=
  let xs := spins (c + 3 + kd) 14
  let n := (xAt xs 10 % 11).toNat
  if kd = 1 then (List.replicate (if xAt xs 11 % 5 = 0 then 1 else 0) 48) ++ (xs.take n).map (fun x => 48 + (x % 10).toNat) else (xs.take n).map fun x => sAt (x % 26)
def nearCs (c : Int) (kd : Int) : List Nat :=
  let xs := spins (c + 3 + kd) 14
  let s := nearA c kd
  let at' := (xAt xs 12 % ((s.length : Int) + 1)).toNat
  if xAt xs 13 % 3 = 0 then s.take at' ++ ((sgn.cps.toList ++ [32]).getD (xAt xs 13 / 3 % 96).toNat 0) :: s.drop at' else s
def nearOf (c kd : Int) : Str := ofCs (nearCs c kd)
def RNear : List PyData → PyData → Prop := fun ds d => ∃ c kd : Int, ds = [.int c, .int kd] ∧ (kd = 0 ∨ kd = 1) ∧ d = .str (nearOf c kd)
theorem nearA_ok (c kd : Int) : (nearA c kd).length ≤ 11 ∧ ∀ x ∈ nearA c kd, x < 1114112 := by
  have h0 := Int.emod_nonneg (xAt (spins (c + 3 + kd) 14) 10) (show (11 : Int) ≠ 0 by decide)
  have h1 := Int.emod_lt_of_pos (xAt (spins (c + 3 + kd) 14) 10) (show (0 : Int) < 11 by decide)
  unfold nearA
  dsimp only
  split
  · refine ⟨?_, fun x hx => ?_⟩
    · rw [List.length_append, List.length_replicate, List.length_map, List.length_take]
      split <;> omega
    · rcases List.mem_append.mp hx with q | q
      · rw [List.eq_of_mem_replicate q]; decide
      · obtain ⟨y, _, rfl⟩ := List.mem_map.mp q
        have h2 := Int.emod_lt_of_pos y (show (0 : Int) < 10 by decide)
        omega
  · refine ⟨?_, fun x hx => ?_⟩
    · rw [List.length_map, List.length_take]; omega
    · obtain ⟨y, _, rfl⟩ := List.mem_map.mp hx
      have h2 := Int.emod_nonneg y (show (26 : Int) ≠ 0 by decide)
      have h3 := Int.emod_lt_of_pos y (show (0 : Int) < 26 by decide)
      exact (sAt_get h2 (by omega)).2
theorem sgb_at {i : Nat} (h : i < 96) : (sgn ++ Str.ofString " ").cps.toList[i]? = some ((sgn.cps.toList ++ [32]).getD i 0) ∧ (sgn.cps.toList ++ [32]).getD i 0 < 1114112 := by
  have e : (sgn ++ Str.ofString " ").cps.toList = sgn.cps.toList ++ [32] := by
    show (sgn.cps ++ (Str.ofString " ").cps).toList = _
    rw [Array.toList_append]
    congr 1
  have hl : (sgn.cps.toList ++ [32]).length = 96 := by rw [List.length_append, cps_len, sgn_len]; rfl
  rw [e, List.getD_eq_getElem?_getD, List.getElem?_eq_getElem (by omega)]
  refine ⟨rfl, ?_⟩
  show (sgn.cps.toList ++ [32])[i] < 1114112
  rcases List.mem_append.mp (List.getElem_mem (show i < (sgn.cps.toList ++ [32]).length by omega)) with q | q
  · have := of_decide_eq_true (List.all_eq_true.mp sgn_all _ q)
    omega
  · have := List.mem_singleton.mp q
    omega
theorem near_ok (c kd : Int) : OkS 12 (nearOf c kd) := by
  obtain ⟨h1, h2⟩ := nearA_ok c kd
  have g0 := Int.emod_nonneg (xAt (spins (c + 3 + kd) 14) 13 / 3) (show (96 : Int) ≠ 0 by decide)
  have g1 := Int.emod_lt_of_pos (xAt (spins (c + 3 + kd) 14) 13 / 3) (show (0 : Int) < 96 by decide)
  have hc := (sgb_at (i := (xAt (spins (c + 3 + kd) 14) 13 / 3 % 96).toNat) (by omega)).2
  refine ok_ofCs ?_ ?_
  · unfold nearCs
    dsimp only
    split
    · rw [List.length_append, List.length_cons, List.length_take, List.length_drop]; omega
    · omega
  · unfold nearCs
    dsimp only
    split
    · intro x hx
      rcases List.mem_append.mp hx with q | q
      · exact h2 x (List.mem_of_mem_take q)
      · rcases List.mem_cons.mp q with rfl | q
        · exact hc
        · exact h2 x (List.mem_of_mem_drop q)
    · exact h2
theorem dig_sg : ∀ k : Fin 10, Str.ofString (toString ((k.val : Nat) : Int)) = sg (48 + k.val) := by decide +kernel
section
variable {P : Program} {w : World} {K : PySem.W.Frag} {mg : Str → Option Value} {base : Heap} {f : Addr} {fd : FuncData}
abbrev nSpin : List Str := ["cell", "many", "spins", "k", "turn"]
theorem scSpin : FnScope nSpin ["cell", "many"] (defScope s__law_spins) := ⟨rfl, rfl, rfl, by decide +kernel, rfl, by decide +kernel, by decide +kernel⟩
theorem ok_spin (hB : Blt mg) (F : Fun K "_law_spins" "_law_spins" s__law_spins f fd) (hm : mg "_law_spins" = some (.ref f)) (hb : Binds K fd ["cell", "many"] []) : Fn P w K mg base "_law_spins" 1 ["cell", "many"] (spL K RSpin) := by
  refine fn_L (k := 0) F scSpin hm hb (by rintro _ _ ⟨a, b, rfl, _⟩; rfl) fun cdv A outer s H E hr ds d hR => ?_
  obtain ⟨c, m, rfl, hm', rfl⟩ := hR
  refine sr_cons (s1_setF 2 scSpin.nd (ef_list ea_nil)) ?_
  refine sr_cons (δ1 := [.sh (.int c), .sh (.int m), .ow (iD (spins c m)), .no, .no]) (s1_eq (s1_forR 3 (fun l : List Int => [.sh (.int c), .sh (.int m), .ow (iD l), .no, .no]) PyData.int (rgI 0 m) (fun k l => .nx (l ++ [spinI c k])) (fun i l => l.length ≤ i) (s0 := []) PassesOwn.never rfl scSpin.nd (ei_rangeN rfl hB.range (ev_var 1 rfl) (by omega)) (Nat.le_refl _) (fun i k l hi hJ => ?_) (fun i k l l' hi hJ he => ?_)) ?_) (sr_one (s1_retO 2 rfl))
  · have hk := mem_rgI.mp (List.mem_of_getElem? hi)
    have hil : i < m := by
      have := (List.getElem?_eq_some_iff.mp hi).1
      rwa [rgI_len] at this
    have t0 := Int.emod_nonneg c (show (800800759 : Int) ≠ 0 by decide)
    have t1 := Int.emod_lt_of_pos c (show (0 : Int) < 800800759 by decide)
    have tt : -(2 ^ 64) < turnI c k ∧ turnI c k < 2 ^ 64 := by unfold turnI; omega
    refine ⟨[.sh (.int c), .sh (.int m), .ow (iD (l ++ [spinI c k])), .sh (.int k), .sh (.int (turnI c k))], ?_, .keep (.keep (.keep (.lose (.lose .nil))))⟩
    refine sr_cons (s1_set 4 scSpin.nd (ev_eq (d' := .int (turnI c k)) (ev_add (ev_add (ev_mod (ev_var 0 rfl) ev_int (by decide)) (ev_mul ev_int (ev_var 3 rfl) (.inl (by decide)))) ev_int) rfl)) ?_
    refine sr_one (s1_eq (s1_append (d := .int (spinI c k)) 2 rfl (ev_eq (ev_mod (ev_fdiv (ev_mul (ev_mul (ev_var 4 rfl) (ev_add (ev_var 4 rfl) (ev_mul ev_int (ev_var 3 rfl) (.inl (by decide)))) (.inl tt)) (ev_var 4 rfl) (.inr tt)) ev_int ⟨by decide, by decide⟩) ev_int (by decide)) rfl) (by rw [iD_len]; omega)) ?_)
    unfold iD
    rw [List.map_append]; rfl
  · cases he
    rw [List.length_append, List.length_singleton]; omega
  · rw [loopR_fold]
    have : ∀ (l : List Int) (b : List Int), l.foldl (fun a k => a ++ [spinI c k]) b = b ++ l.map (spinI c) := by
      intro l
      induction l with
      | nil => intro b; simp
      | cons x l ih => intro b; rw [List.foldl_cons, ih, List.map_cons, List.append_assoc]; rfl
    rw [this]; rfl
abbrev nSgn : List Str := ["some"]
theorem scSgn : FnScope nSgn [] (defScope s__law_signs) := ⟨rfl, rfl, rfl, by decide +kernel, rfl, by decide +kernel, by decide +kernel⟩
theorem ok_sgn (F : Fun K "_law_signs" "_law_signs" s__law_signs f fd) (hm : mg "_law_signs" = some (.ref f)) (hb : Binds K fd [] []) : Fn P w K mg base "_law_signs" 1 [] (spP K RSgn) := by
  refine fn_P (k := 0) F scSgn hm hb (by rintro _ _ ⟨rfl, _⟩; rfl) fun cdv A outer s H E hr ds d hR => .inl ?_
  obtain ⟨rfl, rfl⟩ := hR
  refine sr_cons (s1_set 0 scSgn.nd ev_str) ?_
  exact sr_one (s1_ret (ev_catS (ev_var 0 rfl) ev_str (by decide +kernel)))
abbrev nWord : List Str := ["cell", "signs", "xs", "kind", "x"]
theorem scWord : FnScope nWord ["cell"] (defScope s__law_word) := ⟨rfl, rfl, rfl, by decide +kernel, rfl, by decide +kernel, by decide +kernel⟩
theorem ok_word (hB : Blt mg) (GS : Fn P w K mg base "_law_spins" 1 ["cell", "many"] (spL K RSpin)) (GN : Fn P w K mg base "_law_signs" 1 [] (spP K RSgn)) (F : Fun K "_law_word" "_law_word" s__law_word f fd) (hm : mg "_law_word" = some (.ref f)) (hb : Binds K fd ["cell"] []) : Fn P w K mg base "_law_word" 2 ["cell"] (spP K RWord) := by
  refine fn_P (k := 1) F scWord hm hb (by rintro _ _ ⟨c, rfl, _⟩; rfl) fun cdv A outer s H E hr ds d hR => .inl ?_
  obtain ⟨c, rfl, rfl⟩ := hR
  have hat := spins_at (c := c) (m := 13) (i := 12) (by decide)
  have a3 := Int.emod_nonneg (xAt (spins c 13) 12) (show (3 : Int) ≠ 0 by decide)
  have b3 := Int.emod_lt_of_pos (xAt (spins c 13) 12) (show (0 : Int) < 3 by decide)
  have a12 := Int.emod_nonneg (xAt (spins c 13) 12 / 3) (show (12 : Int) ≠ 0 by decide)
  have b12 := Int.emod_lt_of_pos (xAt (spins c 13) 12 / 3) (show (0 : Int) < 12 by decide)
  have hk := kindW_rg c
  have hlen := spins_len c 13
  refine sr_cons (s1_set 1 scWord.nd (ev_call0 GN hr (by decide) rfl ⟨rfl, rfl⟩)) ?_
  refine sr_cons (s1_set 2 scWord.nd (ev_f (ef_call GS hr (by decide) rfl (ea_cons (ev_var 0 rfl) (ea_cons (ev_int (i := 13)) ea_nil)) ⟨c, 13, rfl, by decide, rfl⟩))) ?_
  refine sr_cons (s1_set 3 scWord.nd (ev_ix (d := .int (kindW c)) (ev_f (ef_list (ea_cons ev_int (ea_cons ev_int (ea_cons (ev_lenZ rfl hB.len (ev_var 1 rfl) (by rw [sgn_len]; decide)) ea_nil))))) (ev_mod (ev_ix (ev_var 2 rfl) ev_int (by decide) (iD_get hat.1)) ev_int (by decide)) a3 ?_)) ?_
  · unfold kindW
    generalize xAt (spins c 13) 12 % 3 = i at a3 b3
    have : i = 0 ∨ i = 1 ∨ i = 2 := by omega
    rcases this with rfl | rfl | rfl
    · rfl
    · rfl
    · show some (PyData.int (sgn.length : Nat)) = _
      rw [sgn_len]; rfl
  have hcut : cutL (spins c 13) none (some (1 + xAt (spins c 13) 12 / 3 % 12)) = (spins c 13).take (1 + xAt (spins c 13) 12 / 3 % 12).toNat := by
    rw [show (1 + xAt (spins c 13) 12 / 3 % 12) = (((1 + xAt (spins c 13) 12 / 3 % 12).toNat : Nat) : Int) by omega, cut_take, Int.toNat_natCast]
  have hall : ∀ x : Int, x ∈ (spins c 13).take (1 + xAt (spins c 13) 12 / 3 % 12).toNat → 0 ≤ x % kindW c ∧ x % kindW c < 95 := fun x _ => ⟨Int.emod_nonneg x (by omega), by have := Int.emod_lt_of_pos x hk.1; omega⟩
  have htl : ((spins c 13).take (1 + xAt (spins c 13) 12 / 3 % 12).toNat).length ≤ 13 := by rw [List.length_take]; omega
  refine sr_eq (sr_one (s1_ret (ev_join (ys := (wordCs c).map sg) ev_str (ev_eq (d' := .list (sD ((wordCs c).map sg))) (ev_f (ef_map 4 PyData.int ((spins c 13).take (1 + xAt (spins c 13) 12 / 3 % 12).toNat) (fun x => PyData.str (sg (sAt (x % kindW c)))) rfl (cs_mk (defScope s__law_word) nWord rfl rfl (by decide +kernel)) scWord.nd (ei_ints (ev_eq (ev_f (ef_slice (ev_var 2 rfl) eo_none (eo_some (ev_add (ev_int (i := 1)) (ev_mod (ev_fdiv (ev_ix (ev_var 2 rfl) ev_int (by decide) (iD_get hat.1)) ev_int ⟨by decide, by decide⟩) ev_int (by decide)))))) (by rw [← hcut]; unfold cutL iD; rw [List.length_map, List.map_take, List.map_drop]))) (by omega) (fun C s2 H2 fp t ht => ev_ixZ (ev_var 1 rfl) (ev_mod (ev_var 4 rfl) (ev_var 3 rfl) hk.1) (hall t ht).1 (by rw [sgn_len]; decide) (sAt_get (hall t ht).1 (hall t ht).2).1))) (by unfold sD wordCs; rw [List.map_map, List.map_map]; rfl)) (by decide) (sgs_weight _ (by unfold wordCs; rw [List.length_map]; omega))))) ?_
  rw [join_sgs]; rfl
end
end Kx
end
section
namespace Kx
open PySem PySem.Spec PyProof.Rows L2
theorem mem_slice {z : Str} {l u : Option Int} {c : Nat} (h : c ∈ (Txt.slice z l u).cps.toList) : c ∈ z.cps.toList := by
  unfold Txt.slice at h
  split at h
  · exact h
  · have h' : c ∈ (Builtin.Str.strSliceIndices l u 1 z.length).filterMap (z.cps[·]?) := by simpa using h
    obtain ⟨i, _, hi⟩ := List.mem_filterMap.mp h'
    rw [← Array.getElem?_toList] at hi
    exact List.mem_of_getElem? hi
theorem OkS.slice {n : Nat} {z : Str} (h : OkS n z) (l u : Option Int) : OkS n (Txt.slice z l u) := ⟨strOk_iff.mpr fun c hc => strOk_iff.mp h.ok c (mem_slice hc), Nat.le_trans (Txt.slice_le z l u) h.len⟩
theorem app_cps (a b : Str) : (a ++ b).cps.toList = a.cps.toList ++ b.cps.toList := by
  show (a.cps ++ b.cps).toList = _
  rw [Array.toList_append]
theorem OkS.app {n m : Nat} {a b : Str} (h : OkS n a) (h' : OkS m b) : OkS (n + m) (a ++ b) := ⟨strOk_iff.mpr fun c hc => by
    rw [app_cps] at hc
    rcases List.mem_append.mp hc with q | q
    · exact strOk_iff.mp h.ok c q
    · exact strOk_iff.mp h'.ok c q, by rw [Str.length_append]; have := h.len; have := h'.len; omega⟩
theorem OkS.mono {n m : Nat} {a : Str} (h : OkS n a) (hm : n ≤ m) : OkS m a := ⟨h.ok, Nat.le_trans h.len hm⟩
theorem bl_ok : OkS 1 bl := ⟨by decide +kernel, by decide +kernel⟩
def spoiltAt (row : Str) (x : Int) : Int := x / 10 % ((row.length : Int) + 1)
def spoiltL (row : Str) (x : Int) : List Str := [Str.ofString "", row ++ bl, bl ++ row, Txt.slice row none (some (spoiltAt row x)) ++ bl ++ Txt.slice row (some (spoiltAt row x)) none, Txt.slice row none (some (spoiltAt row x)) ++ Txt.slice row (some (spoiltAt row x + 1)) none, row, row, row, row, row]
def spoiltOf (row : Str) (x : Int) : Str := (spoiltL row x).getD (x % 10).toNat (Str.ofString "")
theorem ten_at (row : Str) (x : Int) : (spoiltL row x)[(x % 10).toNat]? = some (spoiltOf row x) := by
  have h0 := Int.emod_nonneg x (show (10 : Int) ≠ 0 by decide)
  have h1 := Int.emod_lt_of_pos x (show (0 : Int) < 10 by decide)
  unfold spoiltOf
  rw [List.getD_eq_getElem?_getD, List.getElem?_eq_getElem (show (x % 10).toNat < (spoiltL row x).length by show (x % 10).toNat < 10; omega)]; rfl
theorem slice_ix (z : Str) (l u : Option Int) : (Txt.slice z l u).length ≤ (Builtin.Str.strSliceIndices l u 1 z.length).length := by
  unfold Txt.slice
  split
  · rename_i h
    have h' : (Builtin.Str.strSliceIndices l u 1 z.length).length = z.length := by simpa using h
    omega
  · show (((Builtin.Str.strSliceIndices l u 1 z.length).filterMap (z.cps[·]?)).toArray).size ≤ _
    rw [List.size_toArray]
    exact List.length_filterMap_le _ _
theorem slice_to {z : Str} {i : Int} (h0 : 0 ≤ i) (h1 : i ≤ z.length) : (Txt.slice z none (some i)).length ≤ i.toNat := by
  refine Nat.le_trans (slice_ix z _ _) ?_
  unfold Builtin.Str.strSliceIndices sliceRange
  simp only [show (1 : Int) > 0 by decide, if_true, List.length_map, List.length_range]
  repeat' split
  all_goals omega
theorem slice_from {z : Str} {i : Int} (h0 : 0 ≤ i) : (Txt.slice z (some i) none).length ≤ z.length - i.toNat := by
  refine Nat.le_trans (slice_ix z _ _) ?_
  unfold Builtin.Str.strSliceIndices sliceRange
  simp only [show (1 : Int) > 0 by decide, if_true, List.length_map, List.length_range]
  repeat' split
  all_goals omega
theorem OkS.cat {n : Nat} {a b : Str} (h : PyData.strOk a = true) (h' : PyData.strOk b = true) (hl : a.length + b.length ≤ n) : OkS n (a ++ b) := ⟨strOk_iff.mpr fun c hc => by
    rw [app_cps] at hc
    rcases List.mem_append.mp hc with q | q
    · exact strOk_iff.mp h c q
    · exact strOk_iff.mp h' c q, by rw [Str.length_append]; exact hl⟩
theorem spoilt_ok {n : Nat} {row : Str} (h : OkS n row) (x : Int) : OkS (n + 1) (spoiltOf row x) := by
  have hm : spoiltOf row x ∈ spoiltL row x := List.mem_of_getElem? (ten_at row x)
  have hl := h.len
  have a0 : 0 ≤ spoiltAt row x := Int.emod_nonneg _ (by omega)
  have a1 : spoiltAt row x < (row.length : Int) + 1 := Int.emod_lt_of_pos _ (by omega)
  have t1 := slice_to (z := row) a0 (by omega)
  have t2 := slice_from (z := row) a0
  have t3 := slice_from (z := row) (i := spoiltAt row x + 1) (by omega)
  have b1 : bl.length = 1 := by decide +kernel
  unfold spoiltL at hm
  have r : OkS (n + 1) row := h.mono (by omega)
  simp only [List.mem_cons, List.not_mem_nil, or_false] at hm
  rcases hm with e | e | e | e | e | e | e | e | e | e <;> rw [e]
  · exact ⟨by decide +kernel, by show (Str.ofString "").length ≤ _; rw [show (Str.ofString "").length = 0 by decide +kernel]; omega⟩
  · exact (h.app bl_ok).mono (by omega)
  · exact (bl_ok.app h).mono (by omega)
  · exact OkS.cat (OkS.cat (n := n + 1) (h.slice _ _).ok bl_ok.ok (by omega)).ok (h.slice _ _).ok (by rw [Str.length_append]; omega)
  · exact OkS.cat (h.slice _ _).ok (h.slice _ _).ok (by omega)
  all_goals exact r
def RSpoil : List PyData → PyData → Prop := fun ds d => ∃ (row : Str) (x : Int), ds = [.str row, .int x] ∧ OkS 900 row ∧ d = .str (spoiltOf row x)
section
variable {P : Program} {w : World} {K : PySem.W.Frag} {mg : Str → Option Value} {base : Heap} {f : Addr} {fd : FuncData}
abbrev nSpoil : List Str := ["row", "x", "at", "some"]
theorem scSpoil : FnScope nSpoil ["row", "x"] (defScope sSpoilt) := ⟨rfl, rfl, rfl, by decide +kernel, rfl, by decide +kernel, by decide +kernel⟩
theorem ok_spoil (hB : Blt mg) (F : Fun K "_law_spoilt" "_law_spoilt" sSpoilt f fd) (hm : mg "_law_spoilt" = some (.ref f)) (hb : Binds K fd ["row", "x"] []) : Fn P w K mg base "_law_spoilt" 1 ["row", "x"] (spP K RSpoil) := by
  refine fn_P (k := 0) F scSpoil hm hb (by rintro _ _ ⟨a, b, rfl, _⟩; rfl) fun cdv A outer s H E hr ds d hR => .inl ?_
  obtain ⟨row, x, rfl, hok, rfl⟩ := hR
  have hl := hok.len
  have b1 : bl.length = 1 := by decide +kernel
  have h10 := Int.emod_nonneg x (show (10 : Int) ≠ 0 by decide)
  have s1l := fun l u => (hok.slice l u).len
  refine sr_cons (s1_set 2 scSpoil.nd (ev_eq (d' := .int (spoiltAt row x)) (ev_mod (ev_fdiv (ev_var 1 rfl) ev_int ⟨by decide, by decide⟩) (ev_add (ev_lenZ rfl hB.len (ev_var 0 rfl) (by omega)) ev_int) (by omega)) rfl)) ?_
  refine sr_cons (s1_set 3 scSpoil.nd (ev_f (ef_list (ea_cons ev_str (ea_cons (ev_catS (ev_var 0 rfl) ev_str (by rw [b1]; omega)) (ea_cons (ev_catS ev_str (ev_var 0 rfl) (by rw [b1]; omega)) (ea_cons (ev_catS (ev_catS (ev_slS (ev_var 0 rfl) eo_none (eo_some (ev_var 2 rfl)) (by omega)) ev_str (by rw [b1]; have := s1l none (some (spoiltAt row x)); omega)) (ev_slS (ev_var 0 rfl) (eo_some (ev_var 2 rfl)) eo_none (by omega)) (by rw [Str.length_append, b1]; have := s1l none (some (spoiltAt row x)); have := s1l (some (spoiltAt row x)) none; omega)) (ea_cons (ev_catS (ev_slS (ev_var 0 rfl) eo_none (eo_some (ev_var 2 rfl)) (by omega)) (ev_slS (ev_var 0 rfl) (eo_some (ev_add (ev_var 2 rfl) ev_int)) eo_none (by omega)) (by have := s1l none (some (spoiltAt row x)); have := s1l (some (spoiltAt row x + 1)) none; omega)) ea_nil)))))))) ?_
  refine sr_one (s1_ret (ev_ix (ev_eq (d' := .list (sD (spoiltL row x))) (ev_f (ef_cat (ev_var 3 rfl) (ev_f (ef_rep (n := 5) (ev_f (ef_list (ea_cons (ev_var 0 rfl) ea_nil))) ev_int (by decide) (by show 1 * 5 ≤ 1000; decide) (by decide))) (by show 5 + 5 ≤ 1000; decide))) rfl) (ev_mod (ev_var 1 rfl) ev_int (by decide)) h10 ?_))
  unfold sD
  rw [List.getElem?_map, ten_at]; rfl
abbrev nNear : List Str := ["cell", "kind", "signs", "xs", "some", "at", "x"]
theorem scNear : FnScope nNear ["cell", "kind"] (defScope s__law_near) := ⟨rfl, rfl, rfl, by decide +kernel, rfl, by decide +kernel, by decide +kernel⟩
theorem ok_near (hB : Blt mg) (GS : Fn P w K mg base "_law_spins" 1 ["cell", "many"] (spL K RSpin)) (GN : Fn P w K mg base "_law_signs" 1 [] (spP K RSgn)) (F : Fun K "_law_near" "_law_near" s__law_near f fd) (hm : mg "_law_near" = some (.ref f)) (hb : Binds K fd ["cell", "kind"] []) : Fn P w K mg base "_law_near" 2 ["cell", "kind"] (spP K RNear) := by
  refine fn_P (k := 1) F scNear hm hb (by rintro _ _ ⟨a, b, rfl, _⟩; rfl) fun cdv A outer s H E hr ds d hR => .inl ?_
  obtain ⟨c, kd, rfl, hkd, rfl⟩ := hR
  have hlen := spins_len (c + 3 + kd) 14
  have at10 := spins_at (c := c + 3 + kd) (m := 14) (i := 10) (by decide)
  have at11 := spins_at (c := c + 3 + kd) (m := 14) (i := 11) (by decide)
  have at12 := spins_at (c := c + 3 + kd) (m := 14) (i := 12) (by decide)
  have at13 := spins_at (c := c + 3 + kd) (m := 14) (i := 13) (by decide)
  obtain ⟨hA1, hA2⟩ := nearA_ok c kd
  have hnA : nearA c kd = (let xs := spins (c + 3 + kd) 14; let n := (xAt xs 10 % 11).toNat; if kd = 1 then (List.replicate (if xAt xs 11 % 5 = 0 then 1 else 0) 48) ++ (xs.take n).map (fun x => 48 + (x % 10).toNat) else (xs.take n).map fun x => sAt (x % 26)) := rfl
  have hnC : nearCs c kd = (let xs := spins (c + 3 + kd) 14; let s := nearA c kd; let at' := (xAt xs 12 % ((s.length : Int) + 1)).toNat; if xAt xs 13 % 3 = 0 then s.take at' ++ ((sgn.cps.toList ++ [32]).getD (xAt xs 13 / 3 % 96).toNat 0) :: s.drop at' else s) := rfl
  have hno := near_ok c kd
  have hcl : (nearCs c kd).length ≤ 12 := by have := hno.len; unfold nearOf at this; rw [ofCs_len] at this; exact this
  dsimp only at hnA hnC
  refine sr_cons (s1_set 2 scNear.nd (ev_call0 GN hr (by decide) rfl ⟨rfl, rfl⟩)) ?_
  refine sr_cons (s1_set 3 scNear.nd (ev_f (ef_call GS hr (by decide) rfl (ea_cons (ev_add (ev_add (ev_var 0 rfl) (ev_int (i := 3))) (ev_var 1 rfl)) (ea_cons (ev_int (i := 14)) ea_nil)) ⟨c + 3 + kd, 14, rfl, by decide, rfl⟩))) ?_
  generalize spins (c + 3 + kd) 14 = xs at *
  have a11 := Int.emod_nonneg (xAt xs 10) (show (11 : Int) ≠ 0 by decide)
  have b11 := Int.emod_lt_of_pos (xAt xs 10) (show (0 : Int) < 11 by decide)
  have hcut : cutL (iD xs) none (some (xAt xs 10 % 11)) = iD (xs.take (xAt xs 10 % 11).toNat) := by
    rw [show xAt xs 10 % 11 = (((xAt xs 10 % 11).toNat : Nat) : Int) by omega, cut_take, Int.toNat_natCast, iD_take]
  have htl : (xs.take (xAt xs 10 % 11).toNat).length ≤ 14 := by rw [List.length_take]; omega
  generalize xs.take (xAt xs 10 % 11).toNat = ys at hcut htl hnA
  refine sr_cons (s1_setC 4 6 PyData.int ys (fun _ => true) (fun x => PyData.str (sg (sAt (x % 26)))) rfl (cs_mk (defScope s__law_near) nNear rfl rfl (by decide +kernel)) scNear.nd (ei_ints (ev_eq (ev_f (ef_slice (ev_var 3 rfl) eo_none (eo_some (ev_mod (ev_ix (ev_var 3 rfl) ev_int (by decide) (iD_get at10.1)) ev_int (by decide))))) (by rw [hcut]))) (by omega) (fun C s2 H2 fp t ht => efs_nil) (fun C s2 H2 fp t ht _ => ev_ixZ (ev_var 2 rfl) (ev_mod (ev_var 6 rfl) ev_int (by decide)) (Int.emod_nonneg t (by decide)) (by rw [sgn_len]; decide) (sAt_get (Int.emod_nonneg t (by decide)) (by have := Int.emod_lt_of_pos t (show (0 : Int) < 26 by decide); omega)).1)) ?_
  rw [List.filter_eq_self.mpr (fun _ _ => rfl)]
  refine sr_cons (δ1 := [.sh (.int c), .sh (.int kd), .sh (.str sgn), .sh (.list (iD xs)), .ow (sD ((nearA c kd).map sg)), .no, .no]) (s1_if (els := []) (k := decide (kd = 1)) (et_eqI hr (ev_var 1 rfl) ev_int) (fun h1 => ?_) (fun h1 => ?_)) ?_
  · have h1' : kd = 1 := of_decide_eq_true h1
    rw [if_pos h1'] at hnA
    refine sr_cons (s1_setC 4 6 PyData.int ys (fun _ => true) (fun x => PyData.str (sg (48 + (x % 10).toNat))) rfl (cs_mk (defScope s__law_near) nNear rfl rfl (by decide +kernel)) scNear.nd (ei_ints (ev_eq (ev_f (ef_slice (ev_var 3 rfl) eo_none (eo_some (ev_mod (ev_ix (ev_var 3 rfl) ev_int (by decide) (iD_get at10.1)) ev_int (by decide))))) (by rw [hcut]))) (by omega) (fun C s2 H2 fp t ht => efs_nil) (fun C s2 H2 fp t ht _ => ?_)) ?_
    · have m0 := Int.emod_nonneg t (show (10 : Int) ≠ 0 by decide)
      have m1 := Int.emod_lt_of_pos t (show (0 : Int) < 10 by decide)
      have hd := dig_sg ⟨(t % 10).toNat, by omega⟩
      simp only at hd
      refine ev_eq (ev_strI rfl hB.str (ev_mod (ev_var 6 rfl) ev_int (by decide)) ?_) ?_
      · have : (t % 10).natAbs < 2 ^ 4 := by omega
        have := Nat.log2_lt (n := (t % 10).natAbs) (k := 4)
        by_cases q : (t % 10).natAbs = 0
        · rw [q]; decide
        · have := (Nat.log2_lt q (k := 4)).mpr (by omega)
          omega
      · rw [← hd, show (((t % 10).toNat : Nat) : Int) = t % 10 by omega]
    rw [List.filter_eq_self.mpr (fun _ _ => rfl)]
    refine sr_one (s1_eq (s1_setF (xs := sD ((nearA c kd).map sg)) 4 scNear.nd (ef_share 4 rfl (ef_eq (ef_cat (ev_f (ef_rep (n := if decide (xAt xs 11 % 5 = 0) = true then 1 else 0) (ev_f (ef_list (ea_cons ev_str ea_nil))) (ev_intB rfl hB.int (ev_eq (ev_eqD hr (ev_mod (ev_ix (ev_var 3 rfl) ev_int (by decide) (iD_get at11.1)) ev_int (by decide)) ev_int (sm_int _) rfl) (congrArg PyData.bool (eqv_int _ _)))) (by split <;> decide) (by split <;> decide) (by split <;> decide))) (ev_var 4 rfl) ?_) ?_) (scal_sD _))) rfl)
    · rw [List.length_map]
      split <;> (simp; omega)
    · rw [hnA]
      by_cases q : xAt xs 11 % 5 = 0
      · rw [if_pos (decide_eq_true q), if_pos q]
        unfold sD
        rw [List.map_map, List.map_append, List.map_map]
        rfl
      · rw [if_neg (by simpa using q), if_neg q]
        unfold sD
        rw [List.map_map, List.map_append, List.map_map]
        rfl
  · have h1' : ¬ kd = 1 := of_decide_eq_false h1
    rw [if_neg h1'] at hnA
    refine sr_eq sr_nil ?_
    rw [hnA]
    unfold sD
    rw [List.map_map, List.map_map]; rfl
  have hAl : (sD ((nearA c kd).map sg)).length = (nearA c kd).length := by unfold sD; rw [List.length_map, List.length_map]
  have c0 := Int.emod_nonneg (xAt xs 12) (show ((nearA c kd).length : Int) + 1 ≠ 0 by omega)
  have c1 := Int.emod_lt_of_pos (xAt xs 12) (show (0 : Int) < ((nearA c kd).length : Int) + 1 by omega)
  refine sr_cons (s1_set 5 scNear.nd (ev_eq (d' := .int (xAt xs 12 % (((nearA c kd).length : Int) + 1))) (ev_mod (ev_ix (ev_var 3 rfl) ev_int (by decide) (iD_get at12.1)) (ev_add (ev_share 4 rfl (ev_len rfl hB.len (ev_var 4 rfl))) ev_int) (by rw [hAl]; omega)) (by rw [hAl]))) ?_
  have g0 := Int.emod_nonneg (xAt xs 13 / 3) (show (96 : Int) ≠ 0 by decide)
  have g1 := Int.emod_lt_of_pos (xAt xs 13 / 3) (show (0 : Int) < 96 by decide)
  have hsb := (sgb_at (i := (xAt xs 13 / 3 % 96).toNat) (by omega)).1
  have hsl : (sgn ++ Str.ofString " ").length = 96 := by rw [Str.length_append, sgn_len]; decide +kernel
  refine sr_cons (δ1 := [.sh (.int c), .sh (.int kd), .sh (.str sgn), .sh (.list (iD xs)), .ow (sD ((nearCs c kd).map sg)), .sh (.int (xAt xs 12 % (((nearA c kd).length : Int) + 1))), .no]) (s1_if (els := []) (k := decide (xAt xs 13 % 3 = 0)) (et_eqI hr (ev_mod (ev_ix (ev_var 3 rfl) ev_int (by decide) (iD_get at13.1)) ev_int (by decide)) ev_int) (fun h1 => ?_) (fun h1 => ?_)) ?_
  · rw [if_pos (of_decide_eq_true h1)] at hnC
    refine sr_one (s1_eq (s1_insert (d := .str (sg ((sgn.cps.toList ++ [32]).getD (xAt xs 13 / 3 % 96).toNat 0))) 4 rfl (ev_var 5 rfl) (ev_ixZ (i := xAt xs 13 / 3 % 96) (ev_catS (ev_var 2 rfl) ev_str (by rw [sgn_len]; decide +kernel)) (ev_eq (ev_mod (ev_fdiv (ev_ix (ev_var 3 rfl) ev_int (by decide) (iD_get at13.1)) ev_int ⟨by decide, by decide⟩) (ev_add (ev_lenZ rfl hB.len (ev_var 2 rfl) (by rw [sgn_len]; decide)) ev_int) (by rw [sgn_len]; decide)) (by rw [sgn_len]; rfl)) g0 (by rw [hsl]; decide) hsb) c0 (by rw [hAl]; omega) (by rw [hAl]; omega)) ?_)
    rw [hnC]
    unfold sD
    rw [List.map_append, List.map_cons, List.map_append, List.map_cons, List.map_take, List.map_drop, List.map_take, List.map_drop]
    rfl
  · rw [if_neg (of_decide_eq_false h1)] at hnC
    refine sr_eq sr_nil ?_
    rw [hnC]; rfl
  refine sr_eq (sr_one (s1_ret (ev_share 4 rfl (ev_join (ys := (nearCs c kd).map sg) ev_str (ev_var 4 rfl) (by decide) (sgs_weight _ (by omega)))))) ?_
  rw [join_sgs]; rfl
end
end Kx
end
section
namespace Kx
open PySem PySem.Spec PyProof.Rows L2
def two : OT := .l [.sh .none, .sh .none]
def toldT (way : Nat) (z : Str) : OT :=
  if way = 0 then (if Str.ofString "" ∈ Txt.split z bl then two else .l [.l ((sD (Txt.split z bl)).map .sh)])
  else if way = 1 then (if numOk z = true then .l [.sh (.int ((NumText.digitsVal z.cps.toList : Nat) : Int))] else two)
  else (if writ z abc 8 = true then .l [.sh (.str z)] else two)
def RTold : List PyData → OT → Prop := fun ds t => ∃ (way : Nat) (z : Str), ds = [.int way, .str z] ∧ way ≤ 2 ∧ OkS 990 z ∧ t = toldT way z
structure Cl41 (K : PySem.W.Frag) (mg : Str → Option Value) (cR cL c1 c2 c3 c4 c5 c6 c7 c8 c9 : Addr) : Prop where
  xc : L2.XCls K cR
  mL : mg "LeaveError" = some (.ref cL)
  ex : PySem.W.exmOne K (.ref cR) (.ref cL) = some true
  m1 : mg "Away" = some (.ref c1)
  m2 : mg "Full" = some (.ref c2)
  m3 : mg "NoAsk" = some (.ref c3)
  m4 : mg "NoDay" = some (.ref c4)
  m5 : mg "NoHand" = some (.ref c5)
  m6 : mg "NoHouse" = some (.ref c6)
  m7 : mg "NoPost" = some (.ref c7)
  m8 : mg "Short" = some (.ref c8)
  m9 : mg "Twice" = some (.ref c9)
  n1 : PySem.W.kitOne K (.ref cR) (.ref c1) = some false
  n2 : PySem.W.kitOne K (.ref cR) (.ref c2) = some false
  n3 : PySem.W.kitOne K (.ref cR) (.ref c3) = some false
  n4 : PySem.W.kitOne K (.ref cR) (.ref c4) = some false
  n5 : PySem.W.kitOne K (.ref cR) (.ref c5) = some false
  n6 : PySem.W.kitOne K (.ref cR) (.ref c6) = some false
  n7 : PySem.W.kitOne K (.ref cR) (.ref c7) = some false
  n8 : PySem.W.kitOne K (.ref cR) (.ref c8) = some false
  n9 : PySem.W.kitOne K (.ref cR) (.ref c9) = some false
  y1 : PySem.W.kitOne K (.ref cR) (.ref cR) = some true
  y2 : PySem.W.kitOne K (.ref cR) (.type "ValueError") = some true
def RRf (cR : Addr) : List PyData → PyData → Prop := fun ds d => ds = [excD cR] ∧ d = .bool true
section
variable {P : Program} {w : World} {K : PySem.W.Frag} {mg : Str → Option Value} {base : Heap} {f : Addr} {fd : FuncData}
variable {cR cL c1 c2 c3 c4 c5 c6 c7 c8 c9 : Addr}
abbrev nRf : List Str := ["caught", "others"]
theorem scRf : FnScope nRf ["caught"] (defScope s__law_refused) := ⟨rfl, rfl, rfl, by decide +kernel, rfl, by decide +kernel, by decide +kernel⟩
theorem ok_rf (hB : Blt mg) (hN : mg "NoRow" = some (.ref cR)) (hc : Cl41 K mg cR cL c1 c2 c3 c4 c5 c6 c7 c8 c9) (F : Fun K "_law_refused" "_law_refused" s__law_refused f fd) (hm : mg "_law_refused" = some (.ref f)) (hb : Binds K fd ["caught"] []) : Fn P w K mg base "_law_refused" 1 ["caught"] (spP K (RRf cR)) := by
  refine fn_P (k := 0) F scRf hm hb (by rintro _ _ ⟨rfl, _⟩; rfl) fun cdv A outer s H E hr ds d hR => .inl ?_
  obtain ⟨rfl, rfl⟩ := hR
  refine sr_cons (s1_set 1 scRf.nd (ev_f (ef_list (ea_cons (ev_isiC rfl hB.isinstance (ev_var 0 rfl) hc.xc rfl hc.m1 hc.n1) (ea_cons (ev_isiC rfl hB.isinstance (ev_var 0 rfl) hc.xc rfl hc.m2 hc.n2) (ea_cons (ev_isiC rfl hB.isinstance (ev_var 0 rfl) hc.xc rfl hc.m3 hc.n3) (ea_cons (ev_isiC rfl hB.isinstance (ev_var 0 rfl) hc.xc rfl hc.m4 hc.n4) ea_nil))))))) ?_
  refine sr_cons (s1_set 1 scRf.nd (ev_f (ef_cat (ev_var 1 rfl) (ev_f (ef_list (ea_cons (ev_isiC rfl hB.isinstance (ev_var 0 rfl) hc.xc rfl hc.m5 hc.n5) (ea_cons (ev_isiC rfl hB.isinstance (ev_var 0 rfl) hc.xc rfl hc.m6 hc.n6) (ea_cons (ev_isiC rfl hB.isinstance (ev_var 0 rfl) hc.xc rfl hc.m7 hc.n7) ea_nil))))) (by decide)))) ?_
  refine sr_cons (s1_set 1 scRf.nd (ev_f (ef_cat (ev_var 1 rfl) (ev_f (ef_list (ea_cons (ev_isiC rfl hB.isinstance (ev_var 0 rfl) hc.xc rfl hc.m8 hc.n8) (ea_cons (ev_isiC rfl hB.isinstance (ev_var 0 rfl) hc.xc rfl hc.m9 hc.n9) ea_nil)))) (by decide)))) ?_
  exact sr_eq (sr_one (s1_ret (ev_and (k := true) (m := true) (ev_isiC rfl hB.isinstance (ev_var 0 rfl) hc.xc rfl hN hc.y1) (fun _ => ev_and (k := true) (m := true) (ev_isiV (T := "ValueError") rfl hB.isinstance (ev_var 0 rfl) hc.xc rfl hB.ValueError (by decide +kernel) hc.y2) (fun _ => ev_one (ev_eq (ev_notInD hr ev_bl (ev_var 1 rfl) ⟨rfl, by show 0 ≤ 20; decide⟩ rfl) rfl)))))) rfl
abbrev nTl : List Str := ["way", "text", "caught", "found", "e"]
theorem scTl : FnScope nTl ["way", "text"] (defScope s__law_told) := ⟨rfl, rfl, rfl, by decide +kernel, rfl, by decide +kernel, by decide +kernel⟩
theorem ok_told (hB : Blt mg) (hc : Cl41 K mg cR cL c1 c2 c3 c4 c5 c6 c7 c8 c9) (GW : FnX P w K mg base "read_words" 1 ["row"] (RWdX cR)) (GN : FnX P w K mg base "read_number" 2 ["word"] (RNuX cR)) (GM : FnX P w K mg base "read_name" 2 ["word"] (RNmX cR)) (GR : Fn P w K mg base "_law_refused" 1 ["caught"] (spP K (RRf cR)))
    (F : Fun K "_law_told" "_law_told" s__law_told f fd) (hm : mg "_law_told" = some (.ref f)) (hb : Binds K fd ["way", "text"] []) : Fn P w K mg base "_law_told" 3 ["way", "text"] (spN K RTold) := by
  refine fn_N (k := 2) F scTl hm hb (by rintro _ _ ⟨a, b, rfl, _⟩; rfl) fun cdv A outer s H E hr ds t hR => ?_
  obtain ⟨way, z, rfl, hw, hz, rfl⟩ := hR
  refine sr_cons (s1_set 2 scTl.nd ev_non) ?_
  refine sr_cons (s1_set 3 scTl.nd ev_non) ?_
  have hbad : ∀ {rest : List Stmt}, SR (bx P w K mg base nTl "_law_told" s__law_told f cdv A outer s H E) [.sh (.int way), .sh (.str z), .sh (excD cR), .sh .none, .no] (defBody s__law_told |>.drop 3) (.rn two) := by
    intro rest
    refine sr_skip (et_eq (et_isN (ev_var 2 rfl)) rfl) ?_
    refine sr_rn (s1_retX (ex_eq (ex_f (ef_rep (n := 1) (ev_f (ef_rep (n := 2) (ev_f (ef_list (ea_cons (ev_var 3 rfl) ea_nil))) ev_int (by decide) (by decide) (by decide))) (ev_eq (ev_intB rfl hB.int (ev_call GR hr (by decide) rfl (ea_cons (ev_var 2 rfl) ea_nil) ⟨rfl, rfl⟩)) rfl) (by decide) (by decide) (by decide))) rfl rfl))
  unfold toldT
  by_cases h0 : way = 0
  · subst h0
    rw [if_pos rfl]
    by_cases h : Str.ofString "" ∈ Txt.split z bl
    · rw [if_pos h]
      refine sr_cons (s1_tryAs 4 (C := cR) (fun E' => sx_here (x_if (m := true) (et_eq (et_eqI hr (ev_var 0 rfl) ev_int) rfl) (fun _ => sx_here (x_set (er_call GW hr (by decide) rfl (ea_cons (ev_var 1 rfl) ea_nil) ⟨z, rfl, hz, by rw [if_pos h]⟩))) (fun y => nomatch y))) (fun e' E' => sr_one (s1_set 2 scTl.nd (ev_var 4 rfl))) hc.ex hc.mL rfl scTl.nd) ?_
      exact hbad (rest := [])
    · rw [if_neg h]
      refine sr_cons (s1_tryOk (sr_one (s1_if (k := true) (et_eq (et_eqI hr (ev_var 0 rfl) ev_int) rfl) (fun _ => sr_one (s1_setF 3 scTl.nd (ef_callX GW hr (by decide) rfl (ea_cons (ev_var 1 rfl) ea_nil) ⟨z, rfl, hz, by rw [if_neg h]⟩))) (fun y => nomatch y)))) ?_
      exact sr_if_out (k := true) (et_eq (et_isN (ev_var 2 rfl)) rfl) (fun _ => sr_rn (s1_retX (ex_list (exa_cons (ex_own 3 rfl) exa_nil)))) (fun y => nomatch y)
  · rw [if_neg h0]
    have k0 : decide ((way : Int) = 0) = false := decide_eq_false (by omega)
    by_cases h1 : way = 1
    · subst h1
      rw [if_pos rfl]
      by_cases h : numOk z = true
      · rw [if_pos h]
        refine sr_cons (s1_tryOk (sr_one (s1_if (k := false) (et_eq (et_eqI hr (ev_var 0 rfl) ev_int) rfl) (fun y => nomatch y) (fun _ => sr_one (s1_if (k := true) (et_eq (et_eqI hr (ev_var 0 rfl) ev_int) rfl) (fun _ => sr_one (s1_set 3 scTl.nd (ev_callX GN hr (by decide) rfl (ea_cons (ev_var 1 rfl) ea_nil) ⟨z, rfl, hz, by rw [if_pos h]⟩))) (fun y => nomatch y)))))) ?_
        exact sr_if_out (k := true) (et_eq (et_isN (ev_var 2 rfl)) rfl) (fun _ => sr_rn (s1_retX (ex_list (exa_cons (ex_d (ev_var 3 rfl)) exa_nil)))) (fun y => nomatch y)
      · rw [if_neg h]
        refine sr_cons (s1_tryAs 4 (C := cR) (fun E' => sx_here (x_if (m := false) (et_eq (et_eqI hr (ev_var 0 rfl) ev_int) rfl) (fun y => nomatch y) (fun _ => sx_here (x_if (m := true) (et_eq (et_eqI hr (ev_var 0 rfl) ev_int) rfl) (fun _ => sx_here (x_set (er_call GN hr (by decide) rfl (ea_cons (ev_var 1 rfl) ea_nil) ⟨z, rfl, hz, by rw [if_neg h]⟩))) (fun y => nomatch y))))) (fun e' E' => sr_one (s1_set 2 scTl.nd (ev_var 4 rfl))) hc.ex hc.mL rfl scTl.nd) ?_
        exact hbad (rest := [])
    · rw [if_neg h1]
      have h2 : way = 2 := by omega
      subst h2
      by_cases h : writ z abc 8 = true
      · rw [if_pos h]
        refine sr_cons (s1_tryOk (sr_one (s1_if (k := false) (et_eq (et_eqI hr (ev_var 0 rfl) ev_int) rfl) (fun y => nomatch y) (fun _ => sr_one (s1_if (k := false) (et_eq (et_eqI hr (ev_var 0 rfl) ev_int) rfl) (fun y => nomatch y) (fun _ => sr_one (s1_set 3 scTl.nd (ev_callX GM hr (by decide) rfl (ea_cons (ev_var 1 rfl) ea_nil) ⟨z, rfl, hz, by rw [if_pos h]⟩)))))))) ?_
        exact sr_if_out (k := true) (et_eq (et_isN (ev_var 2 rfl)) rfl) (fun _ => sr_rn (s1_retX (ex_list (exa_cons (ex_d (ev_var 3 rfl)) exa_nil)))) (fun y => nomatch y)
      · rw [if_neg h]
        refine sr_cons (s1_tryAs 4 (C := cR) (fun E' => sx_here (x_if (m := false) (et_eq (et_eqI hr (ev_var 0 rfl) ev_int) rfl) (fun y => nomatch y) (fun _ => sx_here (x_if (m := false) (et_eq (et_eqI hr (ev_var 0 rfl) ev_int) rfl) (fun y => nomatch y) (fun _ => sx_here (x_set (er_call GM hr (by decide) rfl (ea_cons (ev_var 1 rfl) ea_nil) ⟨z, rfl, hz, by rw [if_neg h]⟩))))))) (fun e' E' => sr_one (s1_set 2 scTl.nd (ev_var 4 rfl))) hc.ex hc.mL rfl scTl.nd) ?_
        exact hbad (rest := [])
end
end Kx
end
section
namespace Kx
open PySem PySem.Spec PyProof.Rows L2
theorem eqv_nil (xs : List PyData) : PyData.eqv (.list xs) (.list []) = xs.isEmpty := by cases xs <;> rfl
theorem slice_one {z : Str} (h : 1 ≤ z.length) : (Txt.slice z none (some 1)).cps.toList = [z.cps.toList.getD 0 0] := by
  have hl := cps_len z
  obtain ⟨c, r, e⟩ : ∃ c r, z.cps.toList = c :: r := by
    cases q : z.cps.toList with
    | nil => rw [q] at hl; simp at hl; omega
    | cons c r => exact ⟨c, r, rfl⟩
  have hi : Builtin.Str.strSliceIndices none (some 1) 1 z.length = [0] := by
    unfold Builtin.Str.strSliceIndices sliceRange
    have h1 : max (0 : Int) (min 1 (z.length : Int)) = 1 := by omega
    simp [h1]
  unfold Txt.slice
  rw [hi, e]
  split
  · rename_i h2
    have h3 : (1 : Nat) = z.length := by simpa using h2
    rw [e]
    have : r = [] := by
      rw [e] at hl
      simp at hl
      exact List.eq_nil_of_length_eq_zero (by omega)
    rw [this]; rfl
  · have : z.cps[0]? = some c := by rw [← Array.getElem?_toList, e]; rfl
    simp [this]
theorem first_zero {z : Str} (h : 1 ≤ z.length) : Txt.slice z none (some 1) = Str.ofString "0" ↔ z.cps.toList[0]? = some 48 := by
  have hs := slice_one h
  have hl := cps_len z
  have hg : z.cps.toList[0]? = some (z.cps.toList.getD 0 0) := by
    rw [List.getD_eq_getElem?_getD, List.getElem?_eq_getElem (show 0 < z.cps.toList.length by omega)]; rfl
  have h0 : (Str.ofString "0").cps.toList = [48] := by decide +kernel
  constructor
  · intro e
    rw [e, h0] at hs
    rw [hg, ← (List.cons.inj hs).1]
  · intro e
    rw [hg] at e
    have e' : z.cps.toList.getD 0 0 = 48 := by simpa using e
    rw [e'] at hs
    apply Str.ext'
    apply Array.toList_inj.mp
    rw [hs, h0]
theorem all_filter (l : List Nat) (p : Nat → Bool) : (l.filter fun c => !p c).isEmpty = l.all p := by
  rw [Bool.eq_iff_iff, List.isEmpty_iff, List.filter_eq_nil_iff, List.all_eq_true]
  constructor
  · intro h c hc
    have := h c hc
    simpa using this
  · intro h c hc
    rw [h c hc]; simp
theorem sgs_ok {z : Str} (h : PyData.strOk z = true) (p : Nat → Bool) : ∀ y ∈ (z.cps.toList.filter p).map sg, PyData.strOk y = true := fun y hy => by
  obtain ⟨c, hc, rfl⟩ := List.mem_map.mp hy
  refine strOk_iff.mpr fun d hd => ?_
  have : d = c := by simpa using hd
  rw [this]
  exact strOk_iff.mp h c (List.mem_filter.mp hc).1
def wd (z : Str) : Bool := decide (z ≠ Str.ofString "") && (decide (z.cps.toList[0]? ≠ some 32) && (decide (z.cps.toList[z.length - 1]? ≠ some 32) && !inS (Str.ofString "  ") z))
theorem wd_iff (z : Str) : wd z = true ↔ GoodL z.cps.toList := by
  unfold wd
  rw [Bool.and_eq_true, Bool.and_eq_true, Bool.and_eq_true, decide_eq_true_eq, decide_eq_true_eq, decide_eq_true_eq, Bool.not_eq_true']
  have h1 : (z ≠ Str.ofString "") ↔ z.cps.toList ≠ [] := not_congr str_nil.symm
  have h2 : inS (Str.ofString "  ") z = false ↔ ∀ i : Nat, ¬ (z.cps.toList[i]? = some 32 ∧ z.cps.toList[i + 1]? = some 32) := by
    rw [← Bool.not_eq_true, two_in]
    exact ⟨fun h i y => h ⟨i, y⟩, fun h ⟨i, y⟩ => h i y⟩
  rw [h1, h2, ← cps_len]
  exact ⟨fun ⟨a, b, c, d⟩ => ⟨a, b, c, d⟩, fun g => ⟨g.ne, g.hd, g.ls, g.two⟩⟩
theorem wd_split (z : Str) : Str.ofString "" ∈ Txt.split z bl ↔ wd z = false := by
  rw [words_good, ← wd_iff, Bool.not_eq_true]
theorem sg_blank (c : Nat) : PyData.eqv (.str (sg c)) (.str (Str.ofString " ")) = decide (c = 32) := by
  show (sg c == Str.ofString " ") = _
  rw [show Str.ofString " " = sg 32 by decide +kernel, Bool.eq_iff_iff, beq_iff_eq, decide_eq_true_eq]
  constructor
  · intro h
    have : (sg c).cps.toList = (sg 32).cps.toList := by rw [h]
    simpa using this
  · rintro rfl; rfl
theorem num_good (z : Str) : numOk z = (decide (0 < z.length) && (decide (z.length < 8) && (decide (z = Str.ofString "0") || !decide (z.cps.toList[0]? = some 48))) && (z.cps.toList.filter fun c => !decide (c ∈ fig.cps.toList)).isEmpty) := by
  unfold numOk writ
  rw [all_filter]
  have e1 : decide (1 ≤ z.length ∧ (z.length : Int) ≤ 7) = (decide (0 < z.length) && decide (z.length < 8)) := by
    rw [Bool.eq_iff_iff, Bool.and_eq_true, decide_eq_true_eq, decide_eq_true_eq, decide_eq_true_eq]; omega
  have e2 : decide (z ≠ Str.ofString "0") = !decide (z = Str.ofString "0") := by by_cases h : z = Str.ofString "0" <;> simp [h]
  rw [e1, e2]
  generalize decide (0 < z.length) = p1
  generalize decide (z.length < 8) = p2
  generalize decide (z = Str.ofString "0") = p3
  generalize decide (z.cps.toList[0]? = some 48) = p4
  generalize (z.cps.toList.all fun c => decide (c ∈ fig.cps.toList)) = p5
  cases p1 <;> cases p2 <;> cases p3 <;> cases p4 <;> cases p5 <;> rfl
theorem name_good (z : Str) : writ z abc 8 = (decide (0 < z.length) && decide (z.length < 9) && (z.cps.toList.filter fun c => !decide (c ∈ abc.cps.toList)).isEmpty) := by
  unfold writ
  rw [all_filter]
  have e1 : decide (1 ≤ z.length ∧ (z.length : Int) ≤ 8) = (decide (0 < z.length) && decide (z.length < 9)) := by
    rw [Bool.eq_iff_iff, Bool.and_eq_true, decide_eq_true_eq, decide_eq_true_eq, decide_eq_true_eq]; omega
  rw [e1]
def RRight : List PyData → PyData → Prop := fun ds d => ∃ z : Str, ds = [.str z] ∧ OkS 990 z ∧ d = .bool true
theorem two_dat : two.dat = some (.list [.none, .none]) := rfl
end Kx
end
section
namespace Kx
open PySem PySem.Spec PyProof.Rows L2
section
variable {P : Program} {w : World} {K : PySem.W.Frag} {mg : Str → Option Value} {base : Heap} {f : Addr} {fd : FuncData}
abbrev nWR : List Str := ["row", "good", "told", "word", "kept"]
theorem scWR : FnScope nWR ["row"] (defScope s__law_words_right) := ⟨rfl, rfl, rfl, by decide +kernel, rfl, by decide +kernel, by decide +kernel⟩
theorem ok_wR (hB : Blt mg) (GT : Fn P w K mg base "_law_told" 3 ["way", "text"] (spN K RTold)) (F : Fun K "_law_words_right" "_law_words_right" s__law_words_right f fd) (hm : mg "_law_words_right" = some (.ref f)) (hb : Binds K fd ["row"] []) : Fn P w K mg base "_law_words_right" 4 ["row"] (spP K RRight) := by
  refine fn_P (k := 3) F scWR hm hb (by rintro _ _ ⟨a, rfl, _⟩; rfl) fun cdv A outer s H E hr ds d hR => .inl ?_
  obtain ⟨z, rfl, hz, rfl⟩ := hR
  have hl := hz.len
  have hcl := cps_len z
  have hev : EvD (bx P w K mg base nWR "_law_words_right" s__law_words_right f cdv A outer s H E) [.sh (.str z), .no, .no, .no, .no] ((defBody s__law_words_right).headD (.Pass ⟨0, 0, 0, 0⟩) |> fun | .Assign _ e _ => e | _ => .Constant .none 0 ⟨0, 0, 0, 0⟩) (.bool (wd z)) := by
    refine ev_and (ev_eq (ev_neD hr (ev_var 0 rfl) ev_str (sm_str hz.ok) (by decide +kernel)) (congrArg PyData.bool (by rw [str_eqv]; by_cases q : z = Str.ofString "" <;> simp [q]))) (fun h1 => ?_)
    have hne : z.cps.toList ≠ [] := fun q => of_decide_eq_true h1 (str_nil.mp q)
    have hpos : 0 < z.cps.toList.length := List.length_pos_iff.mpr hne
    have g0 : z.cps.toList[0]? = some (z.cps.toList[0]'hpos) := List.getElem?_eq_getElem hpos
    have g1 : z.cps.toList[z.length - 1]? = some (z.cps.toList[z.length - 1]'(by omega)) := List.getElem?_eq_getElem (by omega)
    have okc : ∀ c : Nat, c ∈ z.cps.toList → PyData.strOk (sg c) = true := fun c hc => strOk_iff.mpr fun x hx => by
      have e : x = c := by simpa using hx
      rw [e]; exact strOk_iff.mp hz.ok c hc
    refine ev_and (ev_eq (ev_neD hr (ev_ixZ (ev_var 0 rfl) (ev_int (i := 0)) (by decide) (by omega) g0) ev_str (sm_str (okc _ (List.getElem_mem hpos))) (by decide +kernel)) (congrArg PyData.bool (by rw [sg_blank, g0]; by_cases q : z.cps.toList[0]'hpos = 32 <;> simp [q]))) (fun h2 => ?_)
    refine ev_and (ev_eq (ev_neD hr (ev_ixZ (i := (z.length : Int) - 1) (ev_var 0 rfl) (ev_sub (ev_lenZ rfl hB.len (ev_var 0 rfl) (by omega)) ev_int) (by omega) (by omega) (by rw [show ((z.length : Int) - 1).toNat = z.length - 1 by omega]; exact g1)) ev_str (sm_str (okc _ (List.getElem_mem _))) (by decide +kernel)) (congrArg PyData.bool (by rw [sg_blank, g1]; by_cases q : z.cps.toList[z.length - 1]'(by omega) = 32 <;> simp [q]))) (fun h3 => ?_)
    exact ev_one (ev_notInS ev_str (ev_var 0 rfl))
  refine sr_cons (s1_set 1 scWR.nd hev) ?_
  have hR0 : RTold [.int (0 : Nat), .str z] (toldT 0 z) := ⟨0, z, rfl, by decide, hz, rfl⟩
  cases hw : wd z with
  | false =>
    have ht : toldT 0 z = two := by unfold toldT; rw [if_pos rfl, if_pos ((wd_split z).mpr hw)]
    rw [ht] at hR0
    refine sr_cons (s1_setX 2 scWR.nd (ex_call GT hr (by decide) rfl (ea_cons ev_int (ea_cons (ev_var 0 rfl) ea_nil)) hR0)) ?_
    refine sr_if_out (k := true) (et_shareN 2 rfl two_dat (et_eq (et_or3 (k := true) (m := false) (n := false) (et_eq (et_not (k := false) (et_val (ev_var 1 rfl))) rfl) (fun y => nomatch y) (fun y => nomatch y)) rfl)) (fun _ => ?_) (fun y => nomatch y)
    exact sr_eq (sr_one (s1_ret (ev_and (k := true) (m := true) (ev_not (k := false) (ev_var 1 rfl)) (fun _ => ev_one (ev_shareN 2 rfl two_dat (ev_eq (ev_eqD hr (ev_len rfl hB.len (ev_var 2 rfl)) ev_int (sm_int _) rfl) rfl)))))) rfl
  | true =>
    have hns : Str.ofString "" ∉ Txt.split z bl := fun q => by rw [(wd_split z).mp q] at hw; cases hw
    have ht : toldT 0 z = .l [.l ((sD (Txt.split z bl)).map .sh)] := by unfold toldT; rw [if_pos rfl, if_neg hns]
    rw [ht] at hR0
    have hoks := split_ok hz
    have hfree := (split_pieces z).1
    have hwt := split_weight z bl (by decide +kernel)
    have hjn : Txt.join bl (Txt.split z bl) = z := by
      show Builtin.Str.glued bl (Txt.split z bl) = z
      rw [StrLaws.glued_eq_join, StrLaws.join_split]
    have hpos := split_pos z bl
    have hle := split_le z bl
    generalize Txt.split z bl = ws at *
    have hdat : (OT.l [.l ((sD ws).map .sh)]).dat = some (.list [.list (sD ws)]) := by
      show (OT.dats [.l ((sD ws).map .sh)]).map PyData.list = _
      rw [OT.dats, dat_lsh]; rfl
    have hlay1 : PyData.canLay0 (.list [.list (sD ws)]) = true := by
      show (PyData.canLayAll0 (sD ws) && true) = true
      rw [lay_sD hoks]; rfl
    have hsm1 : Sm (.list [.list (sD ws)]) := ⟨hlay1, by
      show max (PyData.depthAll (sD ws) + 1) 0 + 1 ≤ 20
      have := dep_sD ws
      omega⟩
    refine sr_cons (s1_setX 2 scWR.nd (ex_call GT hr (by decide) rfl (ea_cons ev_int (ea_cons (ev_var 0 rfl) ea_nil)) hR0)) ?_
    refine sr_skip (et_shareN 2 rfl hdat (et_eq (et_or3 (k := false) (m := false) (n := false) (et_eq (et_not (k := true) (et_val (ev_var 1 rfl))) rfl) (fun _ => et_eq (et_neI hr (ev_len rfl hB.len (ev_var 2 rfl)) ev_int) rfl) (fun _ _ => et_eq (et_not (k := true) (et_val (ev_isi (k := true) rfl hB.isinstance (ev_ix (ev_var 2 rfl) ev_int (by decide) rfl) (lay_sD hoks) rfl hB.list rfl rfl))) rfl)) rfl)) ?_
    refine sr_cons (s1_forTest 2 3 rfl hdat PyData.str ws PassesOwn.never rfl scWR.nd (ei_list (ev_ix (ev_var 2 rfl) ev_int (by decide) rfl)) (List.length_pos_iff.mp (by omega)) (fun y hy => ?_)) ?_
    · have hyne : y ≠ Str.ofString "" := fun q => hns (q ▸ hy)
      have hyf : inS bl y = false := by
        rw [bl_eq]
        show inS (sg 32) y = false
        rw [sign_in]
        exact decide_eq_false (hfree y hy)
      exact et_eq (et_or3 (k := false) (m := false) (n := false) (et_eq (et_not (k := true) (et_val (ev_isi (k := true) rfl hB.isinstance (ev_var 3 rfl) (hoks y hy) rfl hB.str rfl rfl))) rfl) (fun _ => et_eq (et_eqD hr (ev_var 3 rfl) ev_str (sm_str (hoks y hy)) (by decide +kernel)) (by rw [str_eqv, decide_eq_false hyne])) (fun _ _ => et_eq (et_inS ev_str (ev_var 3 rfl)) hyf)) rfl
    refine sr_cons (s1_set 4 scWR.nd (ev_f (ef_shareN 2 rfl hdat (ef_listOf rfl hB.list (ev_ix (ev_var 2 rfl) ev_int (by decide) rfl)) (scal_sD ws)))) ?_
    refine sr_cons (s1_appendL (ts := [.l ((sD ws).map .sh)]) (ys := (sD ws).map .sh) (d := .str (Str.ofString "open")) 2 0 rfl rfl (fun δ => ev_int) ev_str (by rw [List.length_map, List.length_map]; omega)) ?_
    refine sr_eq (sr_one (s1_ret (ev_and (k := true) (m := true) (ev_eq (ev_eqD hr (ev_join (ys := ws) ev_str (ev_var 4 rfl) (by decide +kernel) (by omega)) (ev_var 0 rfl) (sm_str (by rw [hjn]; exact hz.ok)) hz.ok) (by rw [hjn, str_eqv, decide_eq_true rfl])) (fun _ => ev_one (ev_eq (ev_eqD hr (ex_ev (ex_call GT hr (by decide) rfl (ea_cons ev_int (ea_cons (ev_var 0 rfl) ea_nil)) hR0) hdat) (ev_f (ef_list (ea_cons (ev_var 4 rfl) ea_nil))) hsm1 hlay1) (by rw [SeqAt.eqv_refl _ hlay1])))))) rfl
end
end Kx
end
section
namespace Kx
open PySem PySem.Spec PyProof.Rows L2
theorem log_small {n : Nat} (h : n < 2 ^ 1000) : n.log2 < 1920 := by
  by_cases q : n = 0
  · subst q; decide
  · exact Nat.lt_of_lt_of_le ((Nat.log2_lt q (k := 1000)).mpr h) (by decide)
theorem dig_lt : ∀ (l : List Nat) (a : Nat), (∀ c ∈ l, 48 ≤ c ∧ c ≤ 57) → l.foldl (fun a c => a * 10 + (c - 48)) a < (a + 1) * 10 ^ l.length
  | [], a, _ => by simp
  | c :: l, a, h => by
    have hc := h c List.mem_cons_self
    have ih := dig_lt l (a * 10 + (c - 48)) fun x hx => h x (List.mem_cons_of_mem _ hx)
    rw [List.foldl_cons, List.length_cons, Nat.pow_succ, Nat.mul_comm (10 ^ l.length) 10, ← Nat.mul_assoc]
    exact Nat.lt_of_lt_of_le ih (Nat.mul_le_mul_right _ (by omega))
def gdN (z : Str) : Bool := decide (0 < z.length) && (decide (z.length < 8) && (decide (z = Str.ofString "0") || !decide (z.cps.toList[0]? = some 48)))
section
variable {P : Program} {w : World} {K : PySem.W.Frag} {mg : Str → Option Value} {base : Heap} {f : Addr} {fd : FuncData}
abbrev nNR : List Str := ["word", "good", "told", "sign"]
theorem scNR : FnScope nNR ["word"] (defScope s__law_number_right) := ⟨rfl, rfl, rfl, by decide +kernel, rfl, by decide +kernel, by decide +kernel⟩
theorem ok_nR (hB : Blt mg) (GT : Fn P w K mg base "_law_told" 3 ["way", "text"] (spN K RTold)) (F : Fun K "_law_number_right" "_law_number_right" s__law_number_right f fd) (hm : mg "_law_number_right" = some (.ref f)) (hb : Binds K fd ["word"] []) : Fn P w K mg base "_law_number_right" 4 ["word"] (spP K RRight) := by
  refine fn_P (k := 3) F scNR hm hb (by rintro _ _ ⟨a, rfl, _⟩; rfl) fun cdv A outer s H E hr ds d hR => .inl ?_
  obtain ⟨z, rfl, hz, rfl⟩ := hR
  have hl := hz.len
  have hcl := cps_len z
  have hev : EvD (bx P w K mg base nNR "_law_number_right" s__law_number_right f cdv A outer s H E) [.sh (.str z), .no, .no, .no] ((defBody s__law_number_right).headD (.Pass ⟨0, 0, 0, 0⟩) |> fun | .Assign _ e _ => e | _ => .Constant .none 0 ⟨0, 0, 0, 0⟩) (.bool (gdN z)) := by
    unfold gdN
    refine ev_and (k := decide (0 < z.length)) (m := decide (z.length < 8) && (decide (z = Str.ofString "0") || !decide (z.cps.toList[0]? = some 48))) (ev_eq (ev_lt ev_int (ev_lenZ rfl hB.len (ev_var 0 rfl) (by omega))) (congrArg PyData.bool (decide_eq_decide.mpr (by omega)))) (fun h1 => ?_)
    refine ev_and (k := decide (z.length < 8)) (m := decide (z = Str.ofString "0") || !decide (z.cps.toList[0]? = some 48)) (ev_eq (ev_lt (ev_lenZ rfl hB.len (ev_var 0 rfl) (by omega)) ev_int) (congrArg PyData.bool (decide_eq_decide.mpr (by omega)))) (fun h2 => ev_one (ev_or (k := decide (z = Str.ofString "0")) (m := !decide (z.cps.toList[0]? = some 48)) (ev_eq (ev_eqD hr (ev_var 0 rfl) ev_str (sm_str hz.ok) (by decide +kernel)) (congrArg PyData.bool (str_eqv _ _))) (fun _ => ev_one (ev_eq (d' := .bool (!decide (z.cps.toList[0]? = some 48))) (ev_neD hr (ev_slS (ev_var 0 rfl) eo_none (eo_some ev_int) (by omega)) ev_str (sm_str (hz.slice _ _).ok) (by decide +kernel)) ?_))))
    have h1' : 0 < z.length := by simpa using h1
    rw [str_eqv]
    exact congrArg (fun b => PyData.bool (!b)) (decide_eq_decide.mpr (first_zero h1'))
  refine sr_cons (s1_set 1 scNR.nd hev) ?_
  have hng := num_good z
  refine sr_cons (s1_set 1 scNR.nd (ev_eq (d' := .bool (numOk z)) (ev_and (k := gdN z) (m := (z.cps.toList.filter fun c => !decide (c ∈ fig.cps.toList)).isEmpty) (ev_var 1 rfl) (fun h1 => ev_one (ev_eq (ev_eqD hr (ev_f (ef_comp 3 (fun c => PyData.str (sg c)) z.cps.toList (fun c => !decide (c ∈ fig.cps.toList)) (fun c => PyData.str (sg c)) rfl (cs_mk (defScope s__law_number_right) nNR rfl rfl (by decide +kernel)) scNR.nd (ei_str (ev_var 0 rfl)) (by omega) (fun C s2 H2 fp t ht => efs_one (et_eq (et_notInS (ev_var 3 rfl) ev_str) (congrArg Bool.not (sign_in _ _)))) (fun C s2 H2 fp t ht _ => ev_var 3 rfl))) (ev_f (ef_list ea_nil)) (by have := sm_sD (sgs_ok hz.ok (fun c => !decide (c ∈ fig.cps.toList))); unfold sD at this; rw [List.map_map] at this; exact this) rfl) (by rw [eqv_nil]; congr 1; rw [List.isEmpty_map])))) (by rw [hng]; rfl))) ?_
  have hR1 : RTold [.int (1 : Nat), .str z] (toldT 1 z) := ⟨1, z, rfl, by decide, hz, rfl⟩
  cases hw : numOk z with
  | false =>
    have ht : toldT 1 z = two := by unfold toldT; rw [if_neg (by decide), if_pos rfl, hw]; rfl
    rw [ht] at hR1
    refine sr_cons (s1_setX 2 scNR.nd (ex_call GT hr (by decide) rfl (ea_cons ev_int (ea_cons (ev_var 0 rfl) ea_nil)) hR1)) ?_
    refine sr_if_out (k := true) (et_shareN 2 rfl two_dat (et_eq (et_or (k := true) (m := false) (et_eq (et_not (k := false) (et_val (ev_var 1 rfl))) rfl) (fun y => nomatch y)) rfl)) (fun _ => ?_) (fun y => nomatch y)
    exact sr_eq (sr_one (s1_ret (ev_and (k := true) (m := true) (ev_not (k := false) (ev_var 1 rfl)) (fun _ => ev_one (ev_shareN 2 rfl two_dat (ev_eq (ev_eqD hr (ev_len rfl hB.len (ev_var 2 rfl)) ev_int (sm_int _) rfl) rfl)))))) rfl
  | true =>
    have ht : toldT 1 z = .l [.sh (.int ((NumText.digitsVal z.cps.toList : Nat) : Int))] := by unfold toldT; rw [if_neg (by decide), if_pos rfl, if_pos hw]
    rw [ht] at hR1
    have hwr : writ z fig 7 = true := by unfold numOk at hw; rw [Bool.and_eq_true] at hw; exact hw.1
    have had := writ_digits hwr
    have hwl := writ_len hwr
    have hz0 : z.length = 1 ∨ z.cps.toList[0]? ≠ some 48 := by
      unfold numOk at hw
      rw [Bool.and_eq_true, Bool.not_eq_true', Bool.and_eq_false_iff, decide_eq_false_iff_not, decide_eq_false_iff_not] at hw
      rcases hw.2 with q | q
      · exact .inr q
      · refine .inl ?_
        have : z = Str.ofString "0" := Classical.byContradiction q
        rw [this]; decide +kernel
    have hnt := (num_text had (fun q => by rw [q] at hcl; simp at hcl; omega) (by omega) hz0).2
    have hlt : NumText.digitsVal z.cps.toList < 2 ^ 1000 := by
      have := dig_lt z.cps.toList 0 had
      rw [hcl] at this
      refine Nat.lt_of_lt_of_le (show NumText.digitsVal z.cps.toList < _ from this) ?_
      have : 10 ^ z.length ≤ 10 ^ 7 := Nat.pow_le_pow_right (by decide) (by omega)
      have h10 : (10 : Nat) ^ 7 ≤ 2 ^ 1000 := by decide +kernel
      omega
    generalize NumText.digitsVal z.cps.toList = n at *
    have hdat : (OT.l [.sh (.int (n : Int))]).dat = some (.list [.int (n : Int)]) := rfl
    refine sr_cons (s1_setX 2 scNR.nd (ex_call GT hr (by decide) rfl (ea_cons ev_int (ea_cons (ev_var 0 rfl) ea_nil)) hR1)) ?_
    refine sr_skip (et_shareN 2 rfl hdat (et_eq (et_or (k := false) (m := false) (et_eq (et_not (k := true) (et_val (ev_var 1 rfl))) rfl) (fun _ => et_eq (et_neI hr (ev_len rfl hB.len (ev_var 2 rfl)) ev_int) rfl)) rfl)) ?_
    refine sr_eq (sr_one (s1_ret (ev_shareN 2 rfl hdat (ev_and (k := true) (m := true) (ev_isi (k := true) rfl hB.isinstance (ev_ix (ev_var 2 rfl) ev_int (by decide) rfl) rfl rfl hB.int rfl rfl) (fun _ => ev_and (k := true) (m := true) (ev_not (k := false) (ev_isi (k := false) rfl hB.isinstance (ev_ix (ev_var 2 rfl) ev_int (by decide) rfl) rfl rfl hB.bool rfl rfl)) (fun _ => ev_one (ev_eq (ev_eqD hr (ev_strI rfl hB.str (ev_ix (d := .int (n : Int)) (ev_var 2 rfl) ev_int (by decide) rfl) (log_small hlt)) (ev_var 0 rfl) (sm_str (by rw [hnt]; exact hz.ok)) hz.ok) (by rw [hnt, str_eqv, decide_eq_true rfl])))))))) rfl
abbrev nMR : List Str := ["word", "good", "told", "sign"]
theorem scMR : FnScope nMR ["word"] (defScope s__law_name_right) := ⟨rfl, rfl, rfl, by decide +kernel, rfl, by decide +kernel, by decide +kernel⟩
theorem ok_mR (hB : Blt mg) (GT : Fn P w K mg base "_law_told" 3 ["way", "text"] (spN K RTold)) (F : Fun K "_law_name_right" "_law_name_right" s__law_name_right f fd) (hm : mg "_law_name_right" = some (.ref f)) (hb : Binds K fd ["word"] []) : Fn P w K mg base "_law_name_right" 4 ["word"] (spP K RRight) := by
  refine fn_P (k := 3) F scMR hm hb (by rintro _ _ ⟨a, rfl, _⟩; rfl) fun cdv A outer s H E hr ds d hR => .inl ?_
  obtain ⟨z, rfl, hz, rfl⟩ := hR
  have hl := hz.len
  have hcl := cps_len z
  refine sr_cons (s1_set 1 scMR.nd (ev_and (k := decide (0 < z.length)) (m := decide (z.length < 9)) (ev_eq (ev_lt ev_int (ev_lenZ rfl hB.len (ev_var 0 rfl) (by omega))) (congrArg PyData.bool (decide_eq_decide.mpr (by omega)))) (fun h1 => ev_one (ev_eq (ev_lt (ev_lenZ rfl hB.len (ev_var 0 rfl) (by omega)) ev_int) (congrArg PyData.bool (decide_eq_decide.mpr (by omega))))))) ?_
  have hng := name_good z
  refine sr_cons (s1_set 1 scMR.nd (ev_eq (d' := .bool (writ z abc 8)) (ev_and (k := decide (0 < z.length) && decide (z.length < 9)) (m := (z.cps.toList.filter fun c => !decide (c ∈ abc.cps.toList)).isEmpty) (ev_var 1 rfl) (fun h1 => ev_one (ev_eq (ev_eqD hr (ev_f (ef_comp 3 (fun c => PyData.str (sg c)) z.cps.toList (fun c => !decide (c ∈ abc.cps.toList)) (fun c => PyData.str (sg c)) rfl (cs_mk (defScope s__law_name_right) nMR rfl rfl (by decide +kernel)) scMR.nd (ei_str (ev_var 0 rfl)) (by omega) (fun C s2 H2 fp t ht => efs_one (et_eq (et_notInS (ev_var 3 rfl) ev_str) (congrArg Bool.not (sign_in _ _)))) (fun C s2 H2 fp t ht _ => ev_var 3 rfl))) (ev_f (ef_list ea_nil)) (by have := sm_sD (sgs_ok hz.ok (fun c => !decide (c ∈ abc.cps.toList))); unfold sD at this; rw [List.map_map] at this; exact this) rfl) (by rw [eqv_nil]; congr 1; rw [List.isEmpty_map])))) (by rw [hng]))) ?_
  have hR1 : RTold [.int (2 : Nat), .str z] (toldT 2 z) := ⟨2, z, rfl, by decide, hz, rfl⟩
  cases hw : writ z abc 8 with
  | false =>
    have ht : toldT 2 z = two := by unfold toldT; rw [if_neg (by decide), if_neg (by decide), hw]; rfl
    rw [ht] at hR1
    refine sr_cons (s1_setX 2 scMR.nd (ex_call GT hr (by decide) rfl (ea_cons ev_int (ea_cons (ev_var 0 rfl) ea_nil)) hR1)) ?_
    refine sr_if_out (k := true) (et_shareN 2 rfl two_dat (et_eq (et_or (k := true) (m := false) (et_eq (et_not (k := false) (et_val (ev_var 1 rfl))) rfl) (fun y => nomatch y)) rfl)) (fun _ => ?_) (fun y => nomatch y)
    exact sr_eq (sr_one (s1_ret (ev_and (k := true) (m := true) (ev_not (k := false) (ev_var 1 rfl)) (fun _ => ev_one (ev_shareN 2 rfl two_dat (ev_eq (ev_eqD hr (ev_len rfl hB.len (ev_var 2 rfl)) ev_int (sm_int _) rfl) rfl)))))) rfl
  | true =>
    have ht : toldT 2 z = .l [.sh (.str z)] := by unfold toldT; rw [if_neg (by decide), if_neg (by decide), if_pos hw]
    rw [ht] at hR1
    have hdat : (OT.l [.sh (.str z)]).dat = some (.list [.str z]) := rfl
    refine sr_cons (s1_setX 2 scMR.nd (ex_call GT hr (by decide) rfl (ea_cons ev_int (ea_cons (ev_var 0 rfl) ea_nil)) hR1)) ?_
    refine sr_skip (et_shareN 2 rfl hdat (et_eq (et_or (k := false) (m := false) (et_eq (et_not (k := true) (et_val (ev_var 1 rfl))) rfl) (fun _ => et_eq (et_neI hr (ev_len rfl hB.len (ev_var 2 rfl)) ev_int) rfl)) rfl)) ?_
    refine sr_eq (sr_one (s1_ret (ev_shareN 2 rfl hdat (ev_and (k := true) (m := true) (ev_isi (k := true) rfl hB.isinstance (ev_ix (d := .str z) (ev_var 2 rfl) ev_int (by decide) rfl) hz.ok rfl hB.str rfl rfl) (fun _ => ev_one (ev_eq (ev_eqD hr (ev_ix (d := .str z) (ev_var 2 rfl) ev_int (by decide) rfl) (ev_var 0 rfl) (sm_str hz.ok) hz.ok) (by rw [str_eqv, decide_eq_true rfl]))))))) rfl
end
end Kx
end
section
namespace Kx
open PySem PySem.Spec PyProof.Rows L2
def nthOf (ns : List Int) (k : Nat) : Int := ns.getD k 0
def RNth : List PyData → PyData → Prop := fun ds d => ∃ (ns : List Int) (k : Nat), ds = [scr ns, .int k] ∧ d = .int (nthOf ns k)
theorem cut_two {α : Type} (xs : List α) (a b : Nat) : (cutL xs (some (a : Int)) (some (b : Int))).length ≤ b - a := by
  unfold cutL
  rw [List.length_take, List.length_drop, HT.sIx_nat, HT.sIx_nat]; omega
theorem cut_nth {α : Type} (xs : List α) (k : Nat) : cutL xs (some (k : Int)) (some ((k : Int) + 1)) = (xs.drop k).take 1 := by
  rw [show ((k : Int) + 1) = ((k + 1 : Nat) : Int) by omega]
  unfold cutL
  rw [HT.sIx_nat, HT.sIx_nat]
  by_cases h : k < xs.length
  · rw [Nat.min_eq_left (by omega), Nat.min_eq_left (by omega), show k + 1 - k = 1 by omega]
  · rw [Nat.min_eq_right (by omega), Nat.min_eq_right (by omega), List.drop_of_length_le (show xs.length ≤ k by omega), List.drop_of_length_le (Nat.le_refl _)]; simp
theorem glued_len : ∀ (ys : List Str) (n : Nat), (∀ y ∈ ys, y.length ≤ n) → (Str.join ⟨#[32]⟩ ys).length ≤ ys.length * (n + 1)
  | [], _, _ => by show (0 : Nat) ≤ _; omega
  | [y], n, h => by
    have := h y List.mem_cons_self
    show y.length ≤ 1 * (n + 1)
    omega
  | y :: q :: r, n, h => by
    have ih := glued_len (q :: r) n fun x hx => h x (List.mem_cons_of_mem _ hx)
    have := h y List.mem_cons_self
    show ((y ++ ⟨#[32]⟩ ++ Str.join ⟨#[32]⟩ (q :: r)) : Str).length ≤ _
    rw [Str.length_append, Str.length_append, show ((⟨#[32]⟩ : Str)).length = 1 from rfl]
    have e : (y :: q :: r).length * (n + 1) = (q :: r).length * (n + 1) + (n + 1) := by rw [List.length_cons, Nat.succ_mul]
    omega
theorem mem_joinL' : ∀ (ps : List (List Nat)) (c : Nat), c ∈ joinL ps → c = 32 ∨ ∃ p ∈ ps, c ∈ p
  | [], c, h => by cases h
  | [p], c, h => .inr ⟨p, List.mem_cons_self, h⟩
  | p :: q :: r, c, h => by
    have h' : c ∈ p ++ 32 :: joinL (q :: r) := h
    rcases List.mem_append.mp h' with z | z
    · exact .inr ⟨p, List.mem_cons_self, z⟩
    · rcases List.mem_cons.mp z with z | z
      · exact .inl z
      · rcases mem_joinL' (q :: r) c z with y | ⟨x, hx, hc⟩
        · exact .inl y
        · exact .inr ⟨x, List.mem_cons_of_mem _ hx, hc⟩
theorem join_ok {ys : List Str} {n m : Nat} (h : ∀ y ∈ ys, OkS n y) (hm : ys.length ≤ m) : OkS (m * (n + 1)) (Txt.join bl ys) := by
  have e : Txt.join bl ys = Str.join ⟨#[32]⟩ ys := by
    show Builtin.Str.glued bl ys = _
    rw [StrLaws.glued_eq_join, bl_eq]
  rw [e]
  refine ⟨strOk_iff.mpr fun c hc => ?_, Nat.le_trans (glued_len ys n fun y hy => (h y hy).len) (Nat.mul_le_mul_right _ hm)⟩
  rw [join_cps] at hc
  rcases mem_joinL' _ c hc with rfl | ⟨p, hp, hc⟩
  · decide
  · obtain ⟨y, hy, rfl⟩ := List.mem_map.mp hp
    exact strOk_iff.mp (h y hy).ok c hc
theorem sum_len {ys : List Str} {n : Nat} (h : ∀ y ∈ ys, y.length ≤ n) : (ys.map (·.length)).sum ≤ ys.length * n := by
  induction ys with
  | nil => simp
  | cons y ys ih =>
    have := ih fun x hx => h x (List.mem_cons_of_mem _ hx)
    have := h y List.mem_cons_self
    rw [List.map_cons, List.sum_cons, List.length_cons, Nat.succ_mul]; omega
theorem mul_small {x : Str} {n : Int} (h1 : x.length ≤ 100) (h2 : 0 ≤ n ∧ n ≤ 100) : MulOk x n := by
  refine ⟨by rw [Bool.or_eq_false_iff, decide_eq_false_iff_not, decide_eq_false_iff_not]; omega, fun h _ => ?_, fun _ _ => ?_⟩
  · have : (100 : Int) ≤ (2 ^ 63 - 1) / n := by
      rw [Int.le_ediv_iff_mul_le (by omega)]
      omega
    omega
  · have : x.length * n.toNat ≤ 100 * 100 := Nat.mul_le_mul h1 (by omega)
    unfold Builtin.Str.tooLong
    have e := sizeLine_eq
    simp only [decide_eq_false_iff_not, gt_iff_lt, Nat.not_lt]
    omega
def lastW : List Str := [Str.ofString "", Str.ofString "0", Txt.mul (Str.ofString "9") 7, Str.ofString "1" ++ Txt.mul (Str.ofString "0") 7, Txt.mul (Str.ofString "z") 8, Txt.mul (Str.ofString "z") 9]
theorem last_ok : ∀ y ∈ lastW, OkS 990 y := by
  have : ∀ y ∈ lastW, PyData.strOk y = true ∧ y.length ≤ 990 := by decide +kernel
  exact fun y hy => ⟨(this y hy).1, (this y hy).2⟩
section
variable {P : Program} {w : World} {K : PySem.W.Frag} {mg : Str → Option Value} {base : Heap} {f : Addr} {fd : FuncData}
abbrev nNth : List Str := ["script", "k", "cell"]
theorem scNth : FnScope nNth ["script", "k"] (defScope s__law_nth) := ⟨rfl, rfl, rfl, by decide +kernel, rfl, by decide +kernel, by decide +kernel⟩
theorem ok_nth (F : Fun K "_law_nth" "_law_nth" s__law_nth f fd) (hm : mg "_law_nth" = some (.ref f)) (hb : Binds K fd ["script", "k"] []) : Fn P w K mg base "_law_nth" 1 ["script", "k"] (spP K RNth) := by
  refine fn_P (k := 0) F scNth hm hb (by rintro _ _ ⟨ns, k, rfl, _⟩; rfl) fun cdv A outer s H E hr ds d hR => .inl ?_
  obtain ⟨ns, k, rfl, rfl⟩ := hR
  have hL : S1 (bx P w K mg base nNth "_law_nth" s__law_nth f cdv A outer s H E) [.sh (scr ns), .sh (.int k), .no] ((defBody s__law_nth).headD (.Pass ⟨0, 0, 0, 0⟩)) ((loopR (S := Unit) (fun (t : Int) _ => .out (.rt (.int t))) ((ns.drop k).take 1) ()).fin fun _ => [.sh (scr ns), .sh (.int k), .no]) :=
    s1_forR 2 (fun _ : Unit => [.sh (scr ns), .sh (.int k), .no]) PyData.int ((ns.drop k).take 1) (fun (t : Int) _ => .out (.rt (.int t))) (fun _ _ => True) PassesOwn.never rfl scNth.nd (ei_ints (ev_eq (ev_f (ef_sliceS (ev_var 0 rfl) (eo_some (ev_var 1 rfl)) (eo_some (ev_add (ev_var 1 rfl) ev_int)))) (by rw [cut_nth]))) trivial (fun i t s hi hJ => ⟨sr_one (s1_ret (ev_var 2 rfl)), (by intro _ z; cases z), (by intro _ z; cases z), (by intro _ z; cases z)⟩) (fun i t s s' hi hJ he => trivial)
  cases q : (ns.drop k).take 1 with
  | nil =>
    rw [q] at hL
    refine sr_cons hL (sr_eq (sr_one (s1_ret ev_int)) ?_)
    unfold nthOf
    have h : ns[k]? = none := by
      have : ((ns.drop k).take 1)[0]? = none := by rw [q]; rfl
      rw [List.getElem?_take_of_lt (by decide), List.getElem?_drop] at this
      simpa using this
    rw [List.getD_eq_getElem?_getD, h]; rfl
  | cons t r =>
    rw [q] at hL
    refine sr_eq (sr_rt (d := .int t) hL) ?_
    unfold nthOf
    have h : ns[k]? = some t := by
      have : ((ns.drop k).take 1)[0]? = some t := by rw [q]; rfl
      rw [List.getElem?_take_of_lt (by decide), List.getElem?_drop] at this
      simpa using this
    rw [List.getD_eq_getElem?_getD, h]; rfl
abbrev nLaw : List Str := ["script", "words", "row", "some", "word", "cell"]
theorem scLaw : FnScope nLaw ["script"] (defScope sLaw) := ⟨rfl, rfl, rfl, by decide +kernel, rfl, by decide +kernel, by decide +kernel⟩
theorem ok_law (hB : Blt mg) (GN : Fn P w K mg base "_law_nth" 1 ["script", "k"] (spP K RNth)) (GW : Fn P w K mg base "_law_word" 2 ["cell"] (spP K RWord)) (GE : Fn P w K mg base "_law_near" 2 ["cell", "kind"] (spP K RNear)) (GS : Fn P w K mg base "_law_spoilt" 1 ["row", "x"] (spP K RSpoil))
    (G1 : Fn P w K mg base "_law_words_right" 4 ["row"] (spP K RRight)) (G2 : Fn P w K mg base "_law_number_right" 4 ["word"] (spP K RRight)) (G3 : Fn P w K mg base "_law_name_right" 4 ["word"] (spP K RRight)) (F : Fun K "law" "law" sLaw f fd) : FnOk P w K mg base CX0 5 f fd ["script"] (spLaw K) := by
  refine fn_law (k := 4) F scLaw fun cdv A outer s H E hr ns h63 => ?_
  have hcl : (cutL ns (some 2) (some 63)).length ≤ 61 := cut_two ns 2 63
  generalize hcs : cutL ns (some 2) (some 63) = cs at hcl
  refine sr_cons (s1_setC 1 5 PyData.int cs (fun _ => true) (fun c => PyData.str (wordOf c)) rfl (cs_mk (defScope sLaw) nLaw rfl rfl (by decide +kernel)) scLaw.nd (ei_ints (ev_eq (ev_f (ef_sliceS (ev_var 0 rfl) (eo_some ev_int) (eo_some ev_int))) (by rw [hcs]))) (by omega) (fun C s2 H2 fp t ht => efs_nil) (fun C s2 H2 fp t ht _ => ev_call GW hr (by decide) rfl (ea_cons (ev_var 5 rfl) ea_nil) ⟨t, rfl, rfl⟩)) ?_
  rw [List.filter_eq_self.mpr (fun _ _ => rfl), show cs.map (fun c => PyData.str (wordOf c)) = sD (cs.map wordOf) by unfold sD; rw [List.map_map]; rfl]
  refine sr_share 1 rfl ?_
  have hwok : ∀ y ∈ cs.map wordOf, OkS 12 y := fun y hy => by
    obtain ⟨c, _, rfl⟩ := List.mem_map.mp hy
    exact word_ok c
  have hwl : (cs.map wordOf).length ≤ 61 := by rw [List.length_map]; exact hcl
  have hjok := join_ok hwok hwl
  have hsum := sum_len fun y hy => (hwok y hy).len
  generalize hws : cs.map wordOf = ws at *
  refine sr_cons (s1_set 2 scLaw.nd (ev_call GS hr (by decide) rfl (ea_cons (ev_join ev_str (ev_var 1 rfl) (by decide +kernel) (by omega)) (ea_cons (ev_add (ev_mul (ev_call GN hr (by decide) rfl (ea_cons (ev_var 0 rfl) (ea_cons (ev_int (i := 0)) ea_nil)) ⟨ns, 0, rfl, rfl⟩) ev_int (.inr (by decide))) (ev_mod (ev_call GN hr (by decide) rfl (ea_cons (ev_var 0 rfl) (ea_cons (ev_int (i := 1)) ea_nil)) ⟨ns, 1, rfl, rfl⟩) ev_int (by decide))) ea_nil)) ⟨Txt.join bl ws, nthOf ns 0 * 10 + nthOf ns 1 % 10, rfl, hjok.mono (by decide), rfl⟩)) ?_
  generalize nthOf ns 0 * 10 + nthOf ns 1 % 10 = x
  have hrow := (spoilt_ok hjok x).mono (show 61 * (12 + 1) + 1 ≤ 990 by decide)
  generalize spoiltOf (Txt.join bl ws) x = row at *
  refine sr_skip (et_eq (et_not (k := true) (et_val (ev_call G1 hr (by decide) rfl (ea_cons (ev_var 2 rfl) ea_nil) ⟨row, rfl, hrow, rfl⟩))) rfl) ?_
  have hnear : ∀ (kd : Nat) (h : kd = 0 ∨ kd = 1), ∀ y ∈ cs.map fun c => nearOf c kd, OkS 12 y := fun kd h y hy => by
    obtain ⟨c, _, rfl⟩ := List.mem_map.mp hy
    exact near_ok c kd
  have hcomp : ∀ {e : Expr} (kd : Nat), True → True := fun _ _ => trivial
  refine sr_cons (s1_set (d := .list (sD (ws ++ (cs.map fun c => nearOf c 0) ++ cs.map fun c => nearOf c 1))) 3 scLaw.nd (ev_f (ef_eq (ef_cat (xs := sD ws ++ sD (cs.map fun c => nearOf c 0)) (ys := sD (cs.map fun c => nearOf c 1)) (ev_f (ef_cat (ev_var 1 rfl) (ev_eq (ev_f (ef_map 5 PyData.int cs (fun c => PyData.str (nearOf c 0)) rfl (cs_mk (defScope sLaw) nLaw rfl rfl (by decide +kernel)) scLaw.nd (ei_ints (ev_eq (ev_f (ef_sliceS (ev_var 0 rfl) (eo_some ev_int) (eo_some ev_int))) (by rw [hcs]))) (by omega) (fun C s2 H2 fp t ht => ev_call GE hr (by decide) rfl (ea_cons (ev_var 5 rfl) (ea_cons (ev_int (i := 0)) ea_nil)) ⟨t, 0, rfl, .inl rfl, rfl⟩))) (by unfold sD; rw [List.map_map]; rfl)) ?_)) (ev_eq (ev_f (ef_map 5 PyData.int cs (fun c => PyData.str (nearOf c 1)) rfl (cs_mk (defScope sLaw) nLaw rfl rfl (by decide +kernel)) scLaw.nd (ei_ints (ev_eq (ev_f (ef_sliceS (ev_var 0 rfl) (eo_some ev_int) (eo_some ev_int))) (by rw [hcs]))) (by omega) (fun C s2 H2 fp t ht => ev_call GE hr (by decide) rfl (ea_cons (ev_var 5 rfl) (ea_cons (ev_int (i := 1)) ea_nil)) ⟨t, 1, rfl, .inr rfl, rfl⟩))) (by unfold sD; rw [List.map_map]; rfl)) ?_) ?_))) ?_
  · unfold sD; rw [List.length_map, List.length_map, List.length_map]; omega
  · unfold sD; rw [List.length_append, List.length_map, List.length_map, List.length_map, List.length_map, List.length_map]; omega
  · unfold sD; rw [List.map_append, List.map_append]
  have hall : ∀ y ∈ ws ++ (cs.map fun c => nearOf c 0) ++ (cs.map fun c => nearOf c 1) ++ lastW, OkS 990 y := fun y hy => by
    rcases List.mem_append.mp hy with hy | hy
    · rcases List.mem_append.mp hy with hy | hy
      · rcases List.mem_append.mp hy with hy | hy
        · exact (hwok y hy).mono (by decide)
        · exact (hnear 0 (.inl rfl) y hy).mono (by decide)
      · exact (hnear 1 (.inr rfl) y hy).mono (by decide)
    · exact last_ok y hy
  have hlen : (ws ++ (cs.map fun c => nearOf c 0) ++ (cs.map fun c => nearOf c 1)).length ≤ 183 := by
    rw [List.length_append, List.length_append, List.length_map, List.length_map]; omega
  generalize ws ++ (cs.map fun c => nearOf c 0) ++ (cs.map fun c => nearOf c 1) = all at *
  refine sr_cons (δ1 := [.sh (scr ns), .sh (.list (sD ws)), .sh (.str row), .sh (.list (sD all)), .no, .no]) (s1_eq (s1_forR 4 (fun _ : Unit => [.sh (scr ns), .sh (.list (sD ws)), .sh (.str row), .sh (.list (sD all)), .no, .no]) PyData.str (all ++ lastW) (fun _ _ => .nx ()) (fun _ _ => True) (s0 := ()) PassesOwn.never rfl scLaw.nd (ei_list (ev_eq (ev_f (ef_cat (ev_var 3 rfl) (ev_f (ef_list (ea_cons ev_str (ea_cons ev_str (ea_cons (ev_mulS ev_str ev_int ?_) (ea_cons (ev_catS ev_str (ev_mulS ev_str ev_int ?_) (by decide +kernel)) (ea_cons (ev_mulS ev_str ev_int ?_) (ea_cons (ev_mulS ev_str ev_int ?_) ea_nil)))))))) ?_)) ?_)) trivial (fun i t s hi hJ => ?_) (fun i t s s' hi hJ he => trivial)) ?_) (sr_one (s1_ret ev_bl))
  · exact mul_small (by decide +kernel) (by decide)
  · exact mul_small (by decide +kernel) (by decide)
  · exact mul_small (by decide +kernel) (by decide)
  · exact mul_small (by decide +kernel) (by decide)
  · unfold sD; rw [List.length_map]; show _ + 6 ≤ 1000; omega
  · unfold sD; rw [List.map_append]; rfl
  · have ht := hall t (List.mem_of_getElem? hi)
    exact ⟨_, sr_skip (et_eq (et_or (k := false) (m := false) (et_eq (et_not (k := true) (et_val (ev_call G2 hr (by decide) rfl (ea_cons (ev_var 4 rfl) ea_nil) ⟨t, rfl, ht, rfl⟩))) rfl) (fun _ => et_eq (et_not (k := true) (et_val (ev_call G3 hr (by decide) rfl (ea_cons (ev_var 4 rfl) ea_nil) ⟨t, rfl, ht, rfl⟩))) rfl)) rfl) sr_nil, .keep (.keep (.keep (.keep (.lose (.lose .nil)))))⟩
  · rw [loopR_fold]; rfl
end
end Kx
end
section
namespace Kx
open PySem PySem.Spec PyProof.Rows L2
@[elab_as_elim] theorem ar0 {α : Type} {P : List α → Prop} : ∀ (us : List α), us.length = 0 → (P []) → P us
  | [], _, k => k
@[elab_as_elim] theorem ar1 {α : Type} {P : List α → Prop} : ∀ (us : List α), us.length = 1 → (∀ x0, P [x0]) → P us
  | [x0], _, k => k x0
@[elab_as_elim] theorem ar2 {α : Type} {P : List α → Prop} : ∀ (us : List α), us.length = 2 → (∀ x0 x1, P [x0, x1]) → P us
  | [x0, x1], _, k => k x0 x1
@[elab_as_elim] theorem ar3 {α : Type} {P : List α → Prop} : ∀ (us : List α), us.length = 3 → (∀ x0 x1 x2, P [x0, x1, x2]) → P us
  | [x0, x1, x2], _, k => k x0 x1 x2
theorem all_mk {l : PySem.W.OpenLaw} {w : World} {K : PySem.W.Frag} {h : Heap} {mg : Str → Option Value} {fa f1 f2 f3 f4 f5 f6 f7 f8 f9 f10 f11 f12 f13 f14 f15 f16 : Addr} (X : K.In h) (G : h.Ns mainGlobals mg) (hfa : mg "law" = some (.ref fa))
    {od1 an1 od2 an2 od3 an3 od4 an4 od5 an5 od6 an6 od7 an7 od8 an8 od9 an9 od10 an10 od11 an11 od12 an12 od13 an13 od14 an14 od15 an15 od16 an16 : Option Addr} {sl1 sl2 sl3 sl4 sl5 sl6 sl7 sl8 sl9 sl10 sl11 sl12 sl13 sl14 sl15 sl16 : Array (Option Value)} {oc1 kV1 dc1 pm1 cd1 ct1 oc2 kV2 dc2 pm2 cd2 ct2 oc3 kV3 dc3 pm3 cd3 ct3 oc4 kV4 dc4 pm4 cd4 ct4 oc5 kV5 dc5 pm5 cd5 ct5 oc6 kV6 dc6 pm6 cd6 ct6 oc7 kV7 dc7 pm7 cd7 ct7 oc8 kV8 dc8 pm8 cd8 ct8 oc9 kV9 dc9 pm9 cd9 ct9 oc10 kV10 dc10 pm10 cd10 ct10 oc11 kV11 dc11 pm11 cd11 ct11 oc12 kV12 dc12 pm12 cd12 ct12 oc13 kV13 dc13 pm13 cd13 ct13 oc14 kV14 dc14 pm14 cd14 ct14 oc15 kV15 dc15 pm15 cd15 ct15 oc16 kV16 dc16 pm16 cd16 ct16 : Value}
    {tk1 tk2 tk3 tk4 : Tok}
    (a1 : PySem.W.nsIn K mainGlobals "is_written_in" = some (some (.ref f1))) (l1 : K.lookup f1 = some ⟨oc1, od1, .func (PySem.W.fnOf "is_written_in" "is_written_in" (defArgs s_is_written_in) (defBody s_is_written_in) (defScope s_is_written_in) .none kV1 dc1 pm1 an1 cd1 ct1), sl1⟩) (c1 : PySem.W.codeIn K cd1 "is_written_in" = true) (k1 : PySem.W.keepIn K (.ref f1) = true)
    (a2 : PySem.W.nsIn K mainGlobals "read_words" = some (some (.ref f2))) (l2 : K.lookup f2 = some ⟨oc2, od2, .func (PySem.W.fnOf "read_words" "read_words" (defArgs s_read_words) (defBody s_read_words) (defScope s_read_words) .none kV2 dc2 pm2 an2 cd2 ct2), sl2⟩) (c2 : PySem.W.codeIn K cd2 "read_words" = true) (k2 : PySem.W.keepIn K (.ref f2) = true)
    (a3 : PySem.W.nsIn K mainGlobals "read_number" = some (some (.ref f3))) (l3 : K.lookup f3 = some ⟨oc3, od3, .func (PySem.W.fnOf "read_number" "read_number" (defArgs s_read_number) (defBody s_read_number) (defScope s_read_number) .none kV3 dc3 pm3 an3 cd3 ct3), sl3⟩) (c3 : PySem.W.codeIn K cd3 "read_number" = true) (k3 : PySem.W.keepIn K (.ref f3) = true)
    (a4 : PySem.W.nsIn K mainGlobals "read_name" = some (some (.ref f4))) (l4 : K.lookup f4 = some ⟨oc4, od4, .func (PySem.W.fnOf "read_name" "read_name" (defArgs s_read_name) (defBody s_read_name) (defScope s_read_name) .none kV4 dc4 pm4 an4 cd4 ct4), sl4⟩) (c4 : PySem.W.codeIn K cd4 "read_name" = true) (k4 : PySem.W.keepIn K (.ref f4) = true)
    (a5 : PySem.W.nsIn K mainGlobals "_law_nth" = some (some (.ref f5))) (l5 : K.lookup f5 = some ⟨oc5, od5, .func (PySem.W.fnOf "_law_nth" "_law_nth" (defArgs s__law_nth) (defBody s__law_nth) (defScope s__law_nth) .none kV5 dc5 pm5 an5 cd5 ct5), sl5⟩) (c5 : PySem.W.codeIn K cd5 "_law_nth" = true) (k5 : PySem.W.keepIn K (.ref f5) = true)
    (a6 : PySem.W.nsIn K mainGlobals "_law_spins" = some (some (.ref f6))) (l6 : K.lookup f6 = some ⟨oc6, od6, .func (PySem.W.fnOf "_law_spins" "_law_spins" (defArgs s__law_spins) (defBody s__law_spins) (defScope s__law_spins) .none kV6 dc6 pm6 an6 cd6 ct6), sl6⟩) (c6 : PySem.W.codeIn K cd6 "_law_spins" = true) (k6 : PySem.W.keepIn K (.ref f6) = true)
    (a7 : PySem.W.nsIn K mainGlobals "_law_signs" = some (some (.ref f7))) (l7 : K.lookup f7 = some ⟨oc7, od7, .func (PySem.W.fnOf "_law_signs" "_law_signs" (defArgs s__law_signs) (defBody s__law_signs) (defScope s__law_signs) .none kV7 dc7 pm7 an7 cd7 ct7), sl7⟩) (c7 : PySem.W.codeIn K cd7 "_law_signs" = true) (k7 : PySem.W.keepIn K (.ref f7) = true)
    (a8 : PySem.W.nsIn K mainGlobals "_law_word" = some (some (.ref f8))) (l8 : K.lookup f8 = some ⟨oc8, od8, .func (PySem.W.fnOf "_law_word" "_law_word" (defArgs s__law_word) (defBody s__law_word) (defScope s__law_word) .none kV8 dc8 pm8 an8 cd8 ct8), sl8⟩) (c8 : PySem.W.codeIn K cd8 "_law_word" = true) (k8 : PySem.W.keepIn K (.ref f8) = true)
    (a9 : PySem.W.nsIn K mainGlobals "_law_near" = some (some (.ref f9))) (l9 : K.lookup f9 = some ⟨oc9, od9, .func (PySem.W.fnOf "_law_near" "_law_near" (defArgs s__law_near) (defBody s__law_near) (defScope s__law_near) .none kV9 dc9 pm9 an9 cd9 ct9), sl9⟩) (c9 : PySem.W.codeIn K cd9 "_law_near" = true) (k9 : PySem.W.keepIn K (.ref f9) = true)
    (a10 : PySem.W.nsIn K mainGlobals "_law_spoilt" = some (some (.ref f10))) (l10 : K.lookup f10 = some ⟨oc10, od10, .func (PySem.W.fnOf "_law_spoilt" "_law_spoilt" (defArgs sSpoilt) (defBody sSpoilt) (defScope sSpoilt) .none kV10 dc10 pm10 an10 cd10 ct10), sl10⟩) (c10 : PySem.W.codeIn K cd10 "_law_spoilt" = true) (k10 : PySem.W.keepIn K (.ref f10) = true)
    (a11 : PySem.W.nsIn K mainGlobals "_law_refused" = some (some (.ref f11))) (l11 : K.lookup f11 = some ⟨oc11, od11, .func (PySem.W.fnOf "_law_refused" "_law_refused" (defArgs s__law_refused) (defBody s__law_refused) (defScope s__law_refused) .none kV11 dc11 pm11 an11 cd11 ct11), sl11⟩) (c11 : PySem.W.codeIn K cd11 "_law_refused" = true) (k11 : PySem.W.keepIn K (.ref f11) = true)
    (a12 : PySem.W.nsIn K mainGlobals "_law_told" = some (some (.ref f12))) (l12 : K.lookup f12 = some ⟨oc12, od12, .func (PySem.W.fnOf "_law_told" "_law_told" (defArgs s__law_told) (defBody s__law_told) (defScope s__law_told) .none kV12 dc12 pm12 an12 cd12 ct12), sl12⟩) (c12 : PySem.W.codeIn K cd12 "_law_told" = true) (k12 : PySem.W.keepIn K (.ref f12) = true)
    (a13 : PySem.W.nsIn K mainGlobals "_law_words_right" = some (some (.ref f13))) (l13 : K.lookup f13 = some ⟨oc13, od13, .func (PySem.W.fnOf "_law_words_right" "_law_words_right" (defArgs s__law_words_right) (defBody s__law_words_right) (defScope s__law_words_right) .none kV13 dc13 pm13 an13 cd13 ct13), sl13⟩) (c13 : PySem.W.codeIn K cd13 "_law_words_right" = true) (k13 : PySem.W.keepIn K (.ref f13) = true)
    (a14 : PySem.W.nsIn K mainGlobals "_law_number_right" = some (some (.ref f14))) (l14 : K.lookup f14 = some ⟨oc14, od14, .func (PySem.W.fnOf "_law_number_right" "_law_number_right" (defArgs s__law_number_right) (defBody s__law_number_right) (defScope s__law_number_right) .none kV14 dc14 pm14 an14 cd14 ct14), sl14⟩) (c14 : PySem.W.codeIn K cd14 "_law_number_right" = true) (k14 : PySem.W.keepIn K (.ref f14) = true)
    (a15 : PySem.W.nsIn K mainGlobals "_law_name_right" = some (some (.ref f15))) (l15 : K.lookup f15 = some ⟨oc15, od15, .func (PySem.W.fnOf "_law_name_right" "_law_name_right" (defArgs s__law_name_right) (defBody s__law_name_right) (defScope s__law_name_right) .none kV15 dc15 pm15 an15 cd15 ct15), sl15⟩) (c15 : PySem.W.codeIn K cd15 "_law_name_right" = true) (k15 : PySem.W.keepIn K (.ref f15) = true)
    (a16 : PySem.W.nsIn K mainGlobals "law" = some (some (.ref f16))) (l16 : K.lookup f16 = some ⟨oc16, od16, .func (PySem.W.fnOf "law" "law" (defArgs sLaw) (defBody sLaw) (defScope sLaw) .none kV16 dc16 pm16 an16 cd16 ct16), sl16⟩) (c16 : PySem.W.codeIn K cd16 "law" = true) (k16 : PySem.W.keepIn K (.ref f16) = true)
    (m1 : PySem.W.nsIn K mainGlobals "FIGURES" = some (some (.str "0123456789" tk1)))
    (m2 : PySem.W.nsIn K mainGlobals "MOST_FIGURES" = some (some (.int 7 tk2)))
    (m3 : PySem.W.nsIn K mainGlobals "LETTERS" = some (some (.str "abcdefghijklmnopqrstuvwxyz" tk3)))
    (m4 : PySem.W.nsIn K mainGlobals "MOST_LETTERS" = some (some (.int 8 tk4)))
    {c_NoRow c_LeaveError c_Away c_Full c_NoAsk c_NoDay c_NoHand c_NoHouse c_NoPost c_Short c_Twice : Addr}
    (cC_NoRow : PySem.W.nsIn K mainGlobals "NoRow" = some (some (.ref c_NoRow)))
    (cC_LeaveError : PySem.W.nsIn K mainGlobals "LeaveError" = some (some (.ref c_LeaveError)))
    (cC_Away : PySem.W.nsIn K mainGlobals "Away" = some (some (.ref c_Away)))
    (cC_Full : PySem.W.nsIn K mainGlobals "Full" = some (some (.ref c_Full)))
    (cC_NoAsk : PySem.W.nsIn K mainGlobals "NoAsk" = some (some (.ref c_NoAsk)))
    (cC_NoDay : PySem.W.nsIn K mainGlobals "NoDay" = some (some (.ref c_NoDay)))
    (cC_NoHand : PySem.W.nsIn K mainGlobals "NoHand" = some (some (.ref c_NoHand)))
    (cC_NoHouse : PySem.W.nsIn K mainGlobals "NoHouse" = some (some (.ref c_NoHouse)))
    (cC_NoPost : PySem.W.nsIn K mainGlobals "NoPost" = some (some (.ref c_NoPost)))
    (cC_Short : PySem.W.nsIn K mainGlobals "Short" = some (some (.ref c_Short)))
    (cC_Twice : PySem.W.nsIn K mainGlobals "Twice" = some (some (.ref c_Twice)))
    (cE_NoRow : PySem.W.excIn K c_NoRow [.type "ValueError", .type "Exception", .type "BaseException", .type "object"] "ValueError.__new__" = true)
    (xga_NoRow : PySem.W.findIn K (.ref c_NoRow) "__getattribute__" = some (some (.builtin "BaseException.__getattribute__")))
    (xgt_NoRow : PySem.W.findIn K (.ref c_NoRow) "__getattr__" = some none)
    (xcl_NoRow : PySem.W.findIn K (.ref c_NoRow) "__class__" = some (some (.builtin "object.__class__")))
    (xob_NoRow : PySem.W.mroIn K c_NoRow (.type "object") = some true)
    (xbx_NoRow : PySem.W.mroIn K c_NoRow (.type "BaseException") = some true)
    (xhd_NoRow : PySem.W.hasDictIn K c_NoRow = true)
    (xsp : PySem.W.specialIn K (.builtin "object.__class__") "__get__" = some (some (.builtin "getset_descriptor.__get__"))) (xtk : PySem.W.takesIn K (.builtin "object.__class__") = some true)
    (h_ex : PySem.W.exmOne K (.ref c_NoRow) (.ref c_LeaveError) = some true)
    (h_n1 : PySem.W.kitOne K (.ref c_NoRow) (.ref c_Away) = some false)
    (h_n2 : PySem.W.kitOne K (.ref c_NoRow) (.ref c_Full) = some false)
    (h_n3 : PySem.W.kitOne K (.ref c_NoRow) (.ref c_NoAsk) = some false)
    (h_n4 : PySem.W.kitOne K (.ref c_NoRow) (.ref c_NoDay) = some false)
    (h_n5 : PySem.W.kitOne K (.ref c_NoRow) (.ref c_NoHand) = some false)
    (h_n6 : PySem.W.kitOne K (.ref c_NoRow) (.ref c_NoHouse) = some false)
    (h_n7 : PySem.W.kitOne K (.ref c_NoRow) (.ref c_NoPost) = some false)
    (h_n8 : PySem.W.kitOne K (.ref c_NoRow) (.ref c_Short) = some false)
    (h_n9 : PySem.W.kitOne K (.ref c_NoRow) (.ref c_Twice) = some false)
    (h_y1 : PySem.W.kitOne K (.ref c_NoRow) (.ref c_NoRow) = some true)
    (h_y2 : PySem.W.kitOne K (.ref c_NoRow) (.type "ValueError") = some true)
    (z1 : PySem.W.nsIn K mainGlobals "len" = some none)
    (z2 : PySem.W.nsIn K mainGlobals "list" = some none)
    (z3 : PySem.W.nsIn K mainGlobals "range" = some none)
    (z4 : PySem.W.nsIn K mainGlobals "any" = some none)
    (z5 : PySem.W.nsIn K mainGlobals "all" = some none)
    (z6 : PySem.W.nsIn K mainGlobals "isinstance" = some none)
    (z7 : PySem.W.nsIn K mainGlobals "int" = some none)
    (z8 : PySem.W.nsIn K mainGlobals "bool" = some none)
    (z9 : PySem.W.nsIn K mainGlobals "max" = some none)
    (z10 : PySem.W.nsIn K mainGlobals "min" = some none)
    (z11 : PySem.W.nsIn K mainGlobals "sorted" = some none)
    (z12 : PySem.W.nsIn K mainGlobals "tuple" = some none)
    (z13 : PySem.W.nsIn K mainGlobals "set" = some none)
    (z14 : PySem.W.nsIn K mainGlobals "enumerate" = some none)
    (z15 : PySem.W.nsIn K mainGlobals "sum" = some none)
    (z16 : PySem.W.nsIn K mainGlobals "str" = some none)
    (z17 : PySem.W.nsIn K mainGlobals "dict" = some none)
    (z18 : PySem.W.nsIn K mainGlobals "ValueError" = some none)
    : ∃ fd : FuncData, (∀ (s : Shared) (v : Value), BindsTo s fd ⟨[v], []⟩ [("script", v)]) ∧ ∀ base : Heap, K.In base → base.Ns mainGlobals mg → FnOk l.prog w K mg base CX0 5 fa fd ["script"] (spLaw K) := by
  have e := hfa.symm.trans (PySem.W.mg_of X G a16)
  cases e
  have F1 := fun_mk (st := s_is_written_in) l1 c1 k1
  have b1 := F1.binds (ps := ["word", "signs", "most"]) fun _ _ _ _ _ _ us hl => ar3 us hl (fun _ _ _ => rfl)
  have g1 := PySem.W.mg_of X G a1
  have F2 := fun_mk (st := s_read_words) l2 c2 k2
  have b2 := F2.binds (ps := ["row"]) fun _ _ _ _ _ _ us hl => ar1 us hl (fun _ => rfl)
  have g2 := PySem.W.mg_of X G a2
  have F3 := fun_mk (st := s_read_number) l3 c3 k3
  have b3 := F3.binds (ps := ["word"]) fun _ _ _ _ _ _ us hl => ar1 us hl (fun _ => rfl)
  have g3 := PySem.W.mg_of X G a3
  have F4 := fun_mk (st := s_read_name) l4 c4 k4
  have b4 := F4.binds (ps := ["word"]) fun _ _ _ _ _ _ us hl => ar1 us hl (fun _ => rfl)
  have g4 := PySem.W.mg_of X G a4
  have F5 := fun_mk (st := s__law_nth) l5 c5 k5
  have b5 := F5.binds (ps := ["script", "k"]) fun _ _ _ _ _ _ us hl => ar2 us hl (fun _ _ => rfl)
  have g5 := PySem.W.mg_of X G a5
  have F6 := fun_mk (st := s__law_spins) l6 c6 k6
  have b6 := F6.binds (ps := ["cell", "many"]) fun _ _ _ _ _ _ us hl => ar2 us hl (fun _ _ => rfl)
  have g6 := PySem.W.mg_of X G a6
  have F7 := fun_mk (st := s__law_signs) l7 c7 k7
  have b7 := F7.binds (ps := []) fun _ _ _ _ _ _ us hl => ar0 us hl (rfl)
  have g7 := PySem.W.mg_of X G a7
  have F8 := fun_mk (st := s__law_word) l8 c8 k8
  have b8 := F8.binds (ps := ["cell"]) fun _ _ _ _ _ _ us hl => ar1 us hl (fun _ => rfl)
  have g8 := PySem.W.mg_of X G a8
  have F9 := fun_mk (st := s__law_near) l9 c9 k9
  have b9 := F9.binds (ps := ["cell", "kind"]) fun _ _ _ _ _ _ us hl => ar2 us hl (fun _ _ => rfl)
  have g9 := PySem.W.mg_of X G a9
  have F10 := fun_mk (st := sSpoilt) l10 c10 k10
  have b10 := F10.binds (ps := ["row", "x"]) fun _ _ _ _ _ _ us hl => ar2 us hl (fun _ _ => rfl)
  have g10 := PySem.W.mg_of X G a10
  have F11 := fun_mk (st := s__law_refused) l11 c11 k11
  have b11 := F11.binds (ps := ["caught"]) fun _ _ _ _ _ _ us hl => ar1 us hl (fun _ => rfl)
  have g11 := PySem.W.mg_of X G a11
  have F12 := fun_mk (st := s__law_told) l12 c12 k12
  have b12 := F12.binds (ps := ["way", "text"]) fun _ _ _ _ _ _ us hl => ar2 us hl (fun _ _ => rfl)
  have g12 := PySem.W.mg_of X G a12
  have F13 := fun_mk (st := s__law_words_right) l13 c13 k13
  have b13 := F13.binds (ps := ["row"]) fun _ _ _ _ _ _ us hl => ar1 us hl (fun _ => rfl)
  have g13 := PySem.W.mg_of X G a13
  have F14 := fun_mk (st := s__law_number_right) l14 c14 k14
  have b14 := F14.binds (ps := ["word"]) fun _ _ _ _ _ _ us hl => ar1 us hl (fun _ => rfl)
  have g14 := PySem.W.mg_of X G a14
  have F15 := fun_mk (st := s__law_name_right) l15 c15 k15
  have b15 := F15.binds (ps := ["word"]) fun _ _ _ _ _ _ us hl => ar1 us hl (fun _ => rfl)
  have g15 := PySem.W.mg_of X G a15
  have F16 := fun_mk (st := sLaw) l16 c16 k16
  have q1 := PySem.W.mg_of X G m1
  have q2 := PySem.W.mg_of X G m2
  have q3 := PySem.W.mg_of X G m3
  have q4 := PySem.W.mg_of X G m4
  have hB : Blt mg := ⟨PySem.W.mg_none_of X G z1, PySem.W.mg_none_of X G z2, PySem.W.mg_none_of X G z3, PySem.W.mg_none_of X G z4, PySem.W.mg_none_of X G z5, PySem.W.mg_none_of X G z6, PySem.W.mg_none_of X G z7, PySem.W.mg_none_of X G z8, PySem.W.mg_none_of X G z9, PySem.W.mg_none_of X G z10, PySem.W.mg_none_of X G z11, PySem.W.mg_none_of X G z12, PySem.W.mg_none_of X G z13, PySem.W.mg_none_of X G z14, PySem.W.mg_none_of X G z15, PySem.W.mg_none_of X G z16, PySem.W.mg_none_of X G z17, PySem.W.mg_none_of X G z18⟩
  refine ⟨PySem.W.fnOf "law" "law" (defArgs sLaw) (defBody sLaw) (defScope sLaw) .none kV16 dc16 pm16 an16 cd16 ct16, fun s v => .of_eq rfl, fun base hKb hGb => ?_⟩
  have m_NoRow := PySem.W.mg_of X G cC_NoRow
  have m_LeaveError := PySem.W.mg_of X G cC_LeaveError
  have m_Away := PySem.W.mg_of X G cC_Away
  have m_Full := PySem.W.mg_of X G cC_Full
  have m_NoAsk := PySem.W.mg_of X G cC_NoAsk
  have m_NoDay := PySem.W.mg_of X G cC_NoDay
  have m_NoHand := PySem.W.mg_of X G cC_NoHand
  have m_NoHouse := PySem.W.mg_of X G cC_NoHouse
  have m_NoPost := PySem.W.mg_of X G cC_NoPost
  have m_Short := PySem.W.mg_of X G cC_Short
  have m_Twice := PySem.W.mg_of X G cC_Twice
  have O_NoRow := own_mk hKb hGb cC_NoRow cE_NoRow
  have X_NoRow : XCls K c_NoRow := ⟨xga_NoRow, xgt_NoRow, xcl_NoRow, xsp, xtk, xob_NoRow, xbx_NoRow, xhd_NoRow⟩
  have C41 : Cl41 K mg c_NoRow c_LeaveError c_Away c_Full c_NoAsk c_NoDay c_NoHand c_NoHouse c_NoPost c_Short c_Twice := ⟨X_NoRow, m_LeaveError, h_ex, m_Away, m_Full, m_NoAsk, m_NoDay, m_NoHand, m_NoHouse, m_NoPost, m_Short, m_Twice, h_n1, h_n2, h_n3, h_n4, h_n5, h_n6, h_n7, h_n8, h_n9, h_y1, h_y2⟩
  have GWr := ok_wr (P := l.prog) (w := w) (base := base) hB F1 g1 b1
  have GW := ok_wdX (P := l.prog) (w := w) (base := base) O_NoRow F2 g2 b2
  have GN := ok_nuX (P := l.prog) (w := w) (base := base) hB ⟨_, q1⟩ ⟨_, q2⟩ O_NoRow GWr F3 g3 b3
  have GM := ok_nmX (P := l.prog) (w := w) (base := base) ⟨_, q3⟩ ⟨_, q4⟩ O_NoRow GWr F4 g4 b4
  have GNt := ok_nth (P := l.prog) (w := w) (base := base)  F5 g5 b5
  have GS := ok_spin (P := l.prog) (w := w) (base := base) hB F6 g6 b6
  have GSg := ok_sgn (P := l.prog) (w := w) (base := base)  F7 g7 b7
  have GWd := ok_word (P := l.prog) (w := w) (base := base) hB GS GSg F8 g8 b8
  have GNe := ok_near (P := l.prog) (w := w) (base := base) hB GS GSg F9 g9 b9
  have GSp := ok_spoil (P := l.prog) (w := w) (base := base) hB F10 g10 b10
  have GR := ok_rf (P := l.prog) (w := w) (base := base) hB m_NoRow C41 F11 g11 b11
  have GT := ok_told (P := l.prog) (w := w) (base := base) hB C41 GW GN GM GR F12 g12 b12
  have G1 := ok_wR (P := l.prog) (w := w) (base := base) hB GT F13 g13 b13
  have G2 := ok_nR (P := l.prog) (w := w) (base := base) hB GT F14 g14 b14
  have G3 := ok_mR (P := l.prog) (w := w) (base := base) hB GT F15 g15 b15
  exact ok_law hB GNt GWd GNe GSp G1 G2 G3 F16
end Kx
open PySem PySem.W PyProof.Rows
set_option maxRecDepth 100000 in
set_option maxHeartbeats 0 in
theorem PySem.Challenge.cw_furlough_k41_words_numbers_names_holds : PySem.Challenge.rw_furlough_k41_words_numbers_names.Holds := by
  w_on; o_law; k_head; (case hw => w_witness2)
  k_fill
  refine L2.law_walk (l := PySem.Challenge.rw_furlough_k41_words_numbers_names) (k := 5) rfl rfl ⟨rfl, by decide, by decide⟩ (fun w h Y => PySem.W.kIn_of Y) ?F
  case F =>
    intro w mg fa h KX G hmg
    refine' Kx.all_mk KX G hmg ?a1 ?l1 ?c1 ?k1 ?a2 ?l2 ?c2 ?k2 ?a3 ?l3 ?c3 ?k3 ?a4 ?l4 ?c4 ?k4 ?a5 ?l5 ?c5 ?k5 ?a6 ?l6 ?c6 ?k6 ?a7 ?l7 ?c7 ?k7 ?a8 ?l8 ?c8 ?k8 ?a9 ?l9 ?c9 ?k9 ?a10 ?l10 ?c10 ?k10 ?a11 ?l11 ?c11 ?k11 ?a12 ?l12 ?c12 ?k12 ?a13 ?l13 ?c13 ?k13 ?a14 ?l14 ?c14 ?k14 ?a15 ?l15 ?c15 ?k15 ?a16 ?l16 ?c16 ?k16 ?m1 ?m2 ?m3 ?m4 ?cC_NoRow ?cC_LeaveError ?cC_Away ?cC_Full ?cC_NoAsk ?cC_NoDay ?cC_NoHand ?cC_NoHouse ?cC_NoPost ?cC_Short ?cC_Twice ?cE_NoRow ?xga_NoRow ?xgt_NoRow ?xcl_NoRow ?xob_NoRow ?xbx_NoRow ?xhd_NoRow ?xsp ?xtk ?h_ex ?h_n1 ?h_n2 ?h_n3 ?h_n4 ?h_n5 ?h_n6 ?h_n7 ?h_n8 ?h_n9 ?h_y1 ?h_y2 ?z1 ?z2 ?z3 ?z4 ?z5 ?z6 ?z7 ?z8 ?z9 ?z10 ?z11 ?z12 ?z13 ?z14 ?z15 ?z16 ?z17 ?z18
    (case a1 => k_is)
    (case l1 => k_is)
    (case c1 => k_is)
    (case k1 => k_is)
    (case a2 => k_is)
    (case l2 => k_is)
    (case c2 => k_is)
    (case k2 => k_is)
    (case a3 => k_is)
    (case l3 => k_is)
    (case c3 => k_is)
    (case k3 => k_is)
    (case a4 => k_is)
    (case l4 => k_is)
    (case c4 => k_is)
    (case k4 => k_is)
    (case a5 => k_is)
    (case l5 => k_is)
    (case c5 => k_is)
    (case k5 => k_is)
    (case a6 => k_is)
    (case l6 => k_is)
    (case c6 => k_is)
    (case k6 => k_is)
    (case a7 => k_is)
    (case l7 => k_is)
    (case c7 => k_is)
    (case k7 => k_is)
    (case a8 => k_is)
    (case l8 => k_is)
    (case c8 => k_is)
    (case k8 => k_is)
    (case a9 => k_is)
    (case l9 => k_is)
    (case c9 => k_is)
    (case k9 => k_is)
    (case a10 => k_is)
    (case l10 => k_is)
    (case c10 => k_is)
    (case k10 => k_is)
    (case a11 => k_is)
    (case l11 => k_is)
    (case c11 => k_is)
    (case k11 => k_is)
    (case a12 => k_is)
    (case l12 => k_is)
    (case c12 => k_is)
    (case k12 => k_is)
    (case a13 => k_is)
    (case l13 => k_is)
    (case c13 => k_is)
    (case k13 => k_is)
    (case a14 => k_is)
    (case l14 => k_is)
    (case c14 => k_is)
    (case k14 => k_is)
    (case a15 => k_is)
    (case l15 => k_is)
    (case c15 => k_is)
    (case k15 => k_is)
    (case a16 => k_is)
    (case l16 => k_is)
    (case c16 => k_is)
    (case k16 => k_is)
    (case m1 => k_is)
    (case m2 => k_is)
    (case m3 => k_is)
    (case m4 => k_is)
    (case cC_NoRow => k_is)
    (case cC_LeaveError => k_is)
    (case cC_Away => k_is)
    (case cC_Full => k_is)
    (case cC_NoAsk => k_is)
    (case cC_NoDay => k_is)
    (case cC_NoHand => k_is)
    (case cC_NoHouse => k_is)
    (case cC_NoPost => k_is)
    (case cC_Short => k_is)
    (case cC_Twice => k_is)
    (case cE_NoRow => k_exc)
    (case xga_NoRow => k_is)
    (case xgt_NoRow => k_is)
    (case xcl_NoRow => k_is)
    (case xob_NoRow => k_is)
    (case xbx_NoRow => k_is)
    (case xhd_NoRow => k_is)
    (case xsp => k_is)
    (case xtk => k_is)
    (case h_ex => kts_exm)
    (case h_n1 => kit_is)
    (case h_n2 => kit_is)
    (case h_n3 => kit_is)
    (case h_n4 => kit_is)
    (case h_n5 => kit_is)
    (case h_n6 => kit_is)
    (case h_n7 => kit_is)
    (case h_n8 => kit_is)
    (case h_n9 => kit_is)
    (case h_y1 => kit_is)
    (case h_y2 => kit_is)
    (case z1 => k_is)
    (case z2 => k_is)
    (case z3 => k_is)
    (case z4 => k_is)
    (case z5 => k_is)
    (case z6 => k_is)
    (case z7 => k_is)
    (case z8 => k_is)
    (case z9 => k_is)
    (case z10 => k_is)
    (case z11 => k_is)
    (case z12 => k_is)
    (case z13 => k_is)
    (case z14 => k_is)
    (case z15 => k_is)
    (case z16 => k_is)
    (case z17 => k_is)
    (case z18 => k_is)
end
