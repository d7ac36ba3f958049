import PyProof.Rows.All
import Wide.All
import OpenK.AllK
import Wide.FinOn
import Lean
import PyProof.EqAt
import PyProof.EqKinds
import PyProof.TupleCall
import PySem.Challenge.RW_wavewires_k60_rounds
set_option compiler.extract_closed false
set_option Elab.async false
set_option linter.all false
set_option maxRecDepth 100000
/-! THE HAND LAYER, for ints, bools, texts, own classes, LISTS and tuples (index, slices, in, append, pop ..), calls, loops. Paste it whole ahead of your own text; what your proof does not reach may be deleted. -/
namespace L2
open PySem PySem.Spec PyProof.Rows

/-- a key: an int or a str -/
noncomputable abbrev Key := Sum Int Str
noncomputable def keyIs : Key → Value → Bool
  | .inl k, v => Value.isInt k v
  | .inr x, v => Value.isStrOf x v
noncomputable def keyH (w : World) : Key → Int
  | .inl k => hashInt k
  | .inr x => hashStr w x
theorem keyIs_shape : ∀ {k : Key} {v : Value}, keyIs k v = true → (∃ i t, k = Sum.inl i ∧ v = Value.int i t) ∨ (∃ x t, k = Sum.inr x ∧ v = Value.str x t)
  | .inl i, v, h => by
    obtain ⟨t, e⟩ := Value.isInt_shape (k := i) (v := v) h
    exact .inl ⟨i, t, rfl, e⟩
  | .inr x, v, h => by
    obtain ⟨t, e⟩ := Value.isStrOf_shape (x := x) (v := v) h
    exact .inr ⟨x, t, rfl, e⟩
theorem key_ll (a b : Int) : decide ((Sum.inl a : Key) = Sum.inl b) = (a == b) := by
  by_cases e : a = b
  · subst e; simp
  · have h : ¬ (Sum.inl a : Key) = Sum.inl b := fun q => e (Sum.inl.inj q)
    rw [decide_eq_false h]
    exact (beq_eq_false_iff_ne.mpr e).symm
theorem key_rr (a b : Str) : decide ((Sum.inr a : Key) = Sum.inr b) = decide (a = b) := by
  by_cases e : a = b
  · subst e; simp
  · have h : ¬ (Sum.inr a : Key) = Sum.inr b := fun q => e (Sum.inr.inj q)
    rw [decide_eq_false h, decide_eq_false e]
theorem key_lr (a : Int) (b : Str) : decide ((Sum.inl a : Key) = Sum.inr b) = false := decide_eq_false (fun q => nomatch q)
theorem key_rl (a : Str) (b : Int) : decide ((Sum.inr a : Key) = Sum.inl b) = false := decide_eq_false (fun q => nomatch q)

noncomputable def mixKind (prog : Program) (w : World) : PySem.KeyKind prog w Key where
  is := keyIs
  hash := keyH w
  inj := fun v a b ha hb => by
    rcases keyIs_shape ha with ⟨i, t, rfl, rfl⟩ | ⟨x, t, rfl, rfl⟩
    · rcases keyIs_shape hb with ⟨j, u, rfl, e⟩ | ⟨y, u, rfl, e⟩
      · injection e with e1 _; rw [e1]
      · exact nomatch e
    · rcases keyIs_shape hb with ⟨j, u, rfl, e⟩ | ⟨y, u, rfl, e⟩
      · exact nomatch e
      · injection e with e1 _; rw [e1]
  byValue := fun k v h => by
    rcases keyIs_shape h with ⟨i, t, rfl, rfl⟩ | ⟨x, t, rfl, rfl⟩ <;> rfl
  pyHash := fun hv h => by
    rcases keyIs_shape hv with ⟨i, t, rfl, rfl⟩ | ⟨x, t, rfl, rfl⟩
    · exact wpAny_pyHash_int h
    · exact wpAny_pyHash_str h
  eqBool := fun hu hv h => by
    rcases keyIs_shape hu with ⟨i, t, rfl, rfl⟩ | ⟨x, t, rfl, rfl⟩
    · rcases keyIs_shape hv with ⟨j, u, rfl, rfl⟩ | ⟨y, u, rfl, rfl⟩
      · rw [key_ll] at h; exact wpAny_eqBool_int h
      · rw [key_lr] at h; exact SeqAt.EqAt.int_str i t y u _ _ _ _ h
    · rcases keyIs_shape hv with ⟨j, u, rfl, rfl⟩ | ⟨y, u, rfl, rfl⟩
      · rw [key_rl] at h; exact SeqAt.EqAt.str_int x t j u _ _ _ _ h
      · rw [key_rr] at h; exact wpAny_eqBool_str h
  «strs» := fun k x t v h => by
    rcases keyIs_shape h with ⟨i, u, rfl, e⟩ | ⟨y, u, rfl, e⟩
    · exact nomatch e
    · injection e with e1 _
      subst e1
      cases v <;> rfl

end L2

namespace L2
open PySem PySem.Spec PyProof.Rows

/-- a value, without the heap -/
inductive V where
  | non | bl (b : Bool) | int (i : Int) | str (x : Str) | byt (b : Array UInt8) | flt (b : UInt64) | ref (a : Addr) | ty (n : String)
  deriving DecidableEq

noncomputable def RelV : V → Value → Prop
  | .non, u => u = Value.none
  | .bl b, u => u = Value.bool b
  | .int i, u => ∃ t, u = Value.int i t
  | .str x, u => ∃ t, u = Value.str x t
  | .byt b, u => ∃ t, u = Value.bytes b t
  | .flt b, u => ∃ t, u = Value.float b t
  | .ref a, u => u = Value.ref a
  | .ty n, u => u = Value.type n

noncomputable abbrev Vals : List V → List Value → Prop := Paired RelV
theorem Vals.length {xs : List V} {us : List Value} (r : Vals xs us) : xs.length = us.length := Paired.length r
theorem Vals.get : ∀ {xs : List V} {us : List Value} {i : Nat} {x : V}, Vals xs us → xs[i]? = some x → ∃ u, us[i]? = some u ∧ RelV x u
  | _, _, _, _, .nil, e => by simp at e
  | _, _, 0, _, .cons r _, e => by simp at e; subst e; exact ⟨_, rfl, r⟩
  | _, _, i + 1, x, .cons _ t, e => by
    obtain ⟨u, h1, h2⟩ := Vals.get (i := i) (x := x) t (by simpa using e)
    exact ⟨u, by simpa using h1, h2⟩
theorem Vals.set {x : V} {u : Value} (r : RelV x u) : ∀ {xs : List V} {us : List Value} (i : Nat), Vals xs us → Vals (xs.set i x) (us.set i u)
  | _, _, _, .nil => .nil
  | _, _, 0, .cons _ t => .cons r t
  | _, _, i + 1, .cons q t => .cons q (Vals.set r i t)
theorem Vals.append : ∀ {xs ys : List V} {us ws : List Value}, Vals xs us → Vals ys ws → Vals (xs ++ ys) (us ++ ws)
  | _, _, _, _, .nil, s => s
  | _, _, _, _, .cons r t, s => .cons r (Vals.append t s)
theorem Vals.take : ∀ {xs : List V} {us : List Value} (n : Nat), Vals xs us → Vals (xs.take n) (us.take n)
  | _, _, 0, _ => .nil
  | _, _, _ + 1, .nil => .nil
  | _, _, n + 1, .cons r t => .cons r (Vals.take n t)
theorem Vals.drop : ∀ {xs : List V} {us : List Value} (n : Nat), Vals xs us → Vals (xs.drop n) (us.drop n)
  | _, _, 0, r => r
  | _, _, _ + 1, .nil => .nil
  | _, _, n + 1, .cons _ t => Vals.drop n t
noncomputable def RelO : Option V → Option Value → Prop
  | some v, some u => RelV v u
  | none, none => True
  | _, _ => False
noncomputable def KV {κ : Type} : List (κ × V) → List (κ × Value) → Prop := Paired fun (p : κ × V) (q : κ × Value) => p.1 = q.1 ∧ RelV p.2 q.2

/-- a key of a dict (00_mix): an int or a text -/
noncomputable def kV : Key → V
  | .inl i => .int i
  | .inr x => .str x

/-- what stands at a tracked address -/
inductive HO where
  /-- a list -/
  | lst (xs : List V)
  /-- a tuple (never changes) -/
  | tup (xs : List V)
  /-- a dict whose keys are ints and texts; one whose keys are tuples of ints and texts (the empty one is both) -/
  | dK (kvs : List (Key × V)) | dT (kvs : List (List Key × V))
  /-- a set of ints: its members, its size -/
  | set (S : Int → Bool) (n : Nat)
  /-- an instance of the class at C, its dict at dx, its attributes -/
  | ins (C dx : Addr) (fs : List (Str × V))
  /-- the dict of the instance at x -/
  | own (x : Addr)
  /-- the dict of an exception -/
  | xd (fs : List (Str × V))
  /-- a bound method, f of x -/
  | met (f x : Addr)
  /-- a range object lo, lo + 1, .. below hi -/
  | rng (lo hi : Int)
  /-- a thing that is known to the object (the script; a dict while a loop walks it): read, never written while it is so -/
  | frz (o : Obj) (u : HO)
  /-- a code object's table -/
  | tbl (ps : Array Value)
  /-- any other thing, by what is true of its one object (a def of one's own: SetO a S n := HO.ext fun h => ..) -/
  | ext (φ : Heap → Prop)

noncomputable abbrev Hp := Addr → Option HO
noncomputable def upd (H : Hp) (a : Addr) (o : HO) : Hp := fun b => if b = a then some o else H b
theorem upd_same {H : Hp} {a : Addr} {o : HO} : upd H a o a = some o := by unfold upd; rw [if_pos rfl]
theorem upd_ne {H : Hp} {a b : Addr} {o : HO} (h : b ≠ a) : upd H a o b = H b := by unfold upd; rw [if_neg h]
theorem ne_of_none {H : Hp} {a b : Addr} {o : HO} (h : H a = some o) (h' : H b = none) : a ≠ b := by
  intro e; subst e; rw [h] at h'; cases h'

section
variable (P : Program) (w : World)
noncomputable def ObjOk (H : Hp) (h : Heap) (a : Addr) : HO → Prop
  | .lst xs => xs.length ≤ sizeLine ∧ ∃ (its : List Value) (n : Nat), Vals xs its ∧ h.get? a = some { cls := .type "list", data := .seq its.toArray n }
  | .tup xs => xs.length ≤ sizeLine ∧ ∃ its : List Value, Vals xs its ∧ IsTup h a its.toArray
  | .dK kvs => kvs.length ≤ sizeLine ∧ (a == sysModules) = false ∧ ∃ vs, KV kvs vs ∧ h.DictOf (mixKind P w) a vs
  | .dT kvs => kvs.length ≤ sizeLine ∧ (a == sysModules) = false ∧ ∃ xs : List (List Key × Addr × Value),
      Paired (fun (p : List Key × V) (q : List Key × Addr × Value) => p.1 = q.1 ∧ H q.2.1 = some (.tup (p.1.map kV)) ∧ RelV p.2 q.2.2) kvs xs ∧
      ∃ o es ep, h.get? a = some o ∧ o.ExactDict ∧ o.data = .dict es ep ∧ es.toList = xs.map (entryOfKey (tupleKind (mixKind P w))) ∧ (xs.map (·.1)).Nodup
  | .set S n => h.SetOf (intKind P w) a S n
  | .ins C dx fs => H dx = some (.own a) ∧ fs.length ≤ 1000 ∧ dx ≠ a ∧ h.get? a = some (PySem.W.instObj C dx) ∧
      ∃ mA, h.Ns1 dx mA ∧ (∀ f, RelO (fs.lookup f) (mA f)) ∧ PySem.Within mA (fs.map (·.1))
  | .own _ => ∃ o, h.get? a = some o
  | .xd fs => ∃ mA, h.Ns1 a mA ∧ ∀ f, RelO (fs.lookup f) (mA f)
  | .rng lo hi => ∃ t u v, h.get? a = some { cls := .type "range", data := .fields #[.int lo t, .int hi u, .int 1 v] }
  | .frz o u => h.get? a = some o ∧ ObjOk H h a u
  | .tbl ps => h.get? a = some { cls := .none, data := .fields ps }
  | .met f x => h.get? a = some (PySem.W.methodObj (.ref f) (.ref x))
  | .ext φ => φ h ∧ (∃ o, h.get? a = some o) ∧ ∀ h1 h2 : Heap, φ h1 → (∀ o, h1.get? a = some o → h2.get? a = some o) → φ h2
/-- the abstract heap is held -/
noncomputable def HOk (H : Hp) (h : Heap) : Prop := ∀ a o, H a = some o → ObjOk P w H h a o
end

section
variable {P : Program} {w : World} {H H' : Hp} {h h' : Heap} {a : Addr} {o : HO}
theorem ObjOk.lt (x : ObjOk P w H h a o) : a < h.objs.size := by
  cases o with
  | lst xs => obtain ⟨_, _, _, _, e⟩ := x; exact Heap.lt_size e
  | tup xs => obtain ⟨_, _, _, p⟩ := x; exact p.lt
  | dK kvs => obtain ⟨_, _, _, _, o, _, _, e, _⟩ := x; exact Heap.lt_size e
  | dT kvs => obtain ⟨_, _, _, _, o, _, _, e, _⟩ := x; exact Heap.lt_size e
  | set S n => obtain ⟨o, _, _, _, e, _⟩ := x; exact Heap.lt_size e
  | ins C dx fs => obtain ⟨_, _, _, e, _⟩ := x; exact Heap.lt_size e
  | own y => obtain ⟨_, e⟩ := x; exact Heap.lt_size e
  | xd fs => obtain ⟨_, ⟨_, _, _, e, _⟩, _⟩ := x; exact Heap.lt_size e
  | rng lo hi => obtain ⟨_, _, _, e⟩ := x; exact Heap.lt_size e
  | frz ob u => obtain ⟨e, _⟩ := x; exact Heap.lt_size e
  | tbl ps => exact Heap.lt_size (show h.get? a = some _ from x)
  | met f y => exact Heap.lt_size (show h.get? a = some _ from x)
  | ext φ => obtain ⟨_, ⟨_, e⟩, _⟩ := x; exact Heap.lt_size e
theorem Paired.mapP {α β : Type} {F G : α → β → Prop} : ∀ {l₁ : List α} {l₂ : List β}, Paired F l₁ l₂ → (∀ a b, F a b → G a b) → Paired G l₁ l₂
  | _, _, .nil, _ => .nil
  | _, _, .cons r t, f => .cons (f _ _ r) (Paired.mapP t f)
/-- what an object's description leans on: its own object, its own dict, the tuples -/
theorem ObjOk.stay (x : ObjOk P w H h a o) (k : ∀ b u, (b = a ∨ H b = some (.own a)) → h.get? b = some u → h'.get? b = some u)
    (ho : ∀ b, H b = some (.own a) → H' b = some (.own a)) (ht : ∀ b xs, H b = some (.tup xs) → H' b = some (.tup xs)) : ObjOk P w H' h' a o := by
  induction o with
  | lst xs => obtain ⟨z, its, n, r, e⟩ := x; exact ⟨z, its, n, r, k _ _ (.inl rfl) e⟩
  | tup xs => obtain ⟨z, its, r, ob, e, c⟩ := x; exact ⟨z, its, r, ob, k _ _ (.inl rfl) e, c⟩
  | dK kvs => obtain ⟨z, y, vs, r, ob, es, ep, e, c⟩ := x; exact ⟨z, y, vs, r, ob, es, ep, k _ _ (.inl rfl) e, c⟩
  | dT kvs =>
    obtain ⟨z, y, xs, r, ob, es, ep, e, c⟩ := x
    exact ⟨z, y, xs, Paired.mapP r fun p q z => ⟨z.1, ht _ _ z.2.1, z.2.2⟩, ob, es, ep, k _ _ (.inl rfl) e, c⟩
  | set S n => obtain ⟨ob, es, ep, t, e, c⟩ := x; exact ⟨ob, es, ep, t, k _ _ (.inl rfl) e, c⟩
  | ins C dx fs =>
    obtain ⟨d, z, ne, e, mA, ⟨od, es, ep, e2, c⟩, r⟩ := x
    exact ⟨ho _ d, z, ne, k _ _ (.inl rfl) e, mA, ⟨od, es, ep, k _ _ (.inr d) e2, c⟩, r⟩
  | own y => obtain ⟨ob, e⟩ := x; exact ⟨ob, k _ _ (.inl rfl) e⟩
  | xd fs => obtain ⟨mA, ⟨od, es, ep, e, c⟩, r⟩ := x; exact ⟨mA, ⟨od, es, ep, k _ _ (.inl rfl) e, c⟩, r⟩
  | rng lo hi => obtain ⟨t, u, v, e⟩ := x; exact ⟨t, u, v, k _ _ (.inl rfl) e⟩
  | frz ob u ih => obtain ⟨e, q⟩ := x; exact ⟨k _ _ (.inl rfl) e, ih q⟩
  | tbl ps =>
    have e : h.get? a = some { cls := .none, data := .fields ps } := x
    show h'.get? a = some { cls := .none, data := .fields ps }
    exact k a _ (.inl rfl) e
  | met f y =>
    have e : h.get? a = some (PySem.W.methodObj (.ref f) (.ref y)) := x
    show h'.get? a = some (PySem.W.methodObj (.ref f) (.ref y))
    exact k a _ (.inl rfl) e
  | ext φ => obtain ⟨p, ⟨o, e⟩, st⟩ := x; exact ⟨st _ _ p fun o q => k _ _ (.inl rfl) q, ⟨o, k _ _ (.inl rfl) e⟩, st⟩
theorem HOk.lt (x : HOk P w H h) (e : H a = some o) : a < h.objs.size := (x a o e).lt
theorem HOk.fresh (x : HOk P w H h) (e : h.objs.size ≤ a) : H a = none := by
  cases q : H a with
  | none => rfl
  | some u => exact absurd (Nat.lt_of_lt_of_le (x.lt q) e) (Nat.lt_irrefl _)
/-- every object of the heap is kept -/
theorem HOk.kept (x : HOk P w H h) (k : ∀ b u, h.get? b = some u → h'.get? b = some u) : HOk P w H h' := fun a o e =>
  (x a o e).stay (fun b u _ q => k b u q) (fun _ q => q) fun _ _ q => q
/-- a new object is laid and tracked -/
theorem HOk.laid (x : HOk P w H h) (k : ∀ b u, h.get? b = some u → h'.get? b = some u) (hp : h.objs.size ≤ a) (new : ObjOk P w (upd H a o) h' a o) : HOk P w (upd H a o) h' := fun b u e => by
  have hn := x.fresh hp
  by_cases hb : b = a
  · subst hb; rw [upd_same] at e; cases e; exact new
  · rw [upd_ne hb] at e
    exact (x b u e).stay (fun c v _ q => k c v q) (fun c q => by rw [upd_ne (ne_of_none q hn)]; exact q) fun c xs q => by rw [upd_ne (ne_of_none q hn)]; exact q
end

/-- what may be read as u: it is u, or a known u -/
noncomputable def Rd (H : Hp) (a : Addr) (u : HO) : Prop := H a = some u ∨ ∃ o, H a = some (.frz o u)
theorem Rd.of {H : Hp} {a : Addr} {u : HO} (h : H a = some u) : Rd H a u := .inl h
theorem Rd.ok {P : Program} {w : World} {H : Hp} {h : Heap} {a : Addr} {u : HO} (r : Rd H a u) (x : HOk P w H h) : ObjOk P w H h a u := by
  rcases r with r | ⟨o, r⟩
  · exact x a u r
  · obtain ⟨_, q⟩ := x a _ r
    exact q
/-- what may be written -/
noncomputable def Mut : Option HO → Prop
  | some (.lst _) => True
  | some (.dK _) => True
  | some (.dT _) => True
  | some (.set _ _) => True
  | some (.ins _ _ _) => True
  | some (.ext _) => True
  | _ => False
section
variable {P : Program} {w : World} {H : Hp} {h h' : Heap} {x e : Addr} {o' : HO}
/-- the object at e is changed: x itself, or the dict of the instance x -/
theorem HOk.write (ok : HOk P w H h) (mu : Mut (H x)) (he : e = x ∨ H e = some (.own x)) (k : ∀ b u, b ≠ e → h.get? b = some u → h'.get? b = some u) (heo : ∃ u, h'.get? e = some u)
    (new : ObjOk P w (upd H x o') h' x o') : HOk P w (upd H x o') h' := fun b u q => by
  have nown : ∀ c y, H c = some (.own y) → c ≠ x := fun c y r z => by subst z; rw [r] at mu; exact mu
  have ntup : ∀ c xs, H c = some (.tup xs) → c ≠ x := fun c xs r z => by subst z; rw [r] at mu; exact mu
  by_cases hb : b = x
  · subst hb; rw [upd_same] at q; cases q; exact new
  · rw [upd_ne hb] at q
    by_cases hbe : b = e
    · have q' : H b = some (.own x) := by
        rcases he with z | z
        · exact absurd (hbe.trans z) hb
        · rw [hbe]; exact z
      rw [q] at q'; cases q'
      obtain ⟨v, hv⟩ := heo
      exact ⟨v, by rw [hbe]; exact hv⟩
    · refine (ok b u q).stay (fun c v hc r => k c v ?_ r) (fun c r => by rw [upd_ne (nown c b r)]; exact r) fun c xs r => by rw [upd_ne (ntup c xs r)]; exact r
      rcases hc with rfl | hc
      · exact hbe
      · rintro rfl
        rcases he with z | z
        · exact nown c b hc z
        · rw [hc] at z; cases z; exact hb rfl
end

/-! ### kept unless tracked; of the frames at fs (the callers') the slots may change (an exception that passes writes there); of the records at ex (iterators) nothing is said -/
structure Un (fs ex : List Addr) (H H' : Hp) (h h' : Heap) : Prop where
  keep : ∀ b o, h.get? b = some o → H b = none → b ∉ fs → b ∉ ex → h'.get? b = some o
  slot : ∀ b o, h.get? b = some o → H b = none → b ∈ fs → b ∉ ex → ∃ sl, h'.get? b = some { o with slots := sl }
  free : ∀ b o, h.get? b = some o → H b = none → b ∉ ex → H' b = none
  there : ∀ b o, h.get? b = some o → b ∉ ex → ∃ o', h'.get? b = some o'
  tups : ∀ b xs, H b = some (.tup xs) → H' b = some (.tup xs)
  frzs : ∀ b o u, H b = some (.frz o u) → H' b = some (.frz o u)
  tbls : ∀ b ps, H b = some (.tbl ps) → ∃ more, H' b = some (.tbl (ps ++ more))
section
variable {fs fs' ex ex' : List Addr} {H H1 H2 : Hp} {h h1 h2 h' : Heap} {a x e : Addr} {o : HO}
theorem Un.any (u : Un fs ex H H1 h h1) {b : Addr} {ob : Obj} (q : h.get? b = some ob) (n : H b = none) (hx : b ∉ ex) : ∃ sl, h1.get? b = some { ob with slots := sl } := by
  by_cases hb : b ∈ fs
  · exact u.slot b ob q n hb hx
  · exact ⟨ob.slots, u.keep b ob q n hb hx⟩
theorem Un.trans (a : Un fs ex H H1 h h1) (b : Un fs ex H1 H2 h1 h2) : Un fs ex H H2 h h2 where
  keep := fun c ob q n hc hx => b.keep c ob (a.keep c ob q n hc hx) (a.free c ob q n hx) hc hx
  slot := fun c ob q n hc hx => by
    obtain ⟨sl, e1⟩ := a.slot c ob q n hc hx
    obtain ⟨sl', e2⟩ := b.slot c _ e1 (a.free c ob q n hx) hc hx
    exact ⟨sl', e2⟩
  free := fun c ob q n hx => by
    obtain ⟨o', e1⟩ := a.there c ob q hx
    exact b.free c o' e1 (a.free c ob q n hx) hx
  there := fun c ob q hx => by
    obtain ⟨o', e1⟩ := a.there c ob q hx
    exact b.there c o' e1 hx
  tups := fun c xs q => b.tups c xs (a.tups c xs q)
  frzs := fun c ob xs q => b.frzs c ob xs (a.frzs c ob xs q)
  tbls := fun c ps q => by
    obtain ⟨m1, e1⟩ := a.tbls c ps q
    obtain ⟨m2, e2⟩ := b.tbls c _ e1
    exact ⟨m1 ++ m2, by rw [e2, Array.append_assoc]⟩
theorem Un.kept (k : ∀ b u, h.get? b = some u → h'.get? b = some u) : Un fs ex H H h h' :=
  ⟨fun b ob q _ _ _ => k b ob q, fun b ob q _ _ _ => ⟨ob.slots, k b ob q⟩, fun _ _ _ n _ => n, fun b ob q _ => ⟨ob, k b ob q⟩, fun _ _ q => q, fun _ _ _ q => q, fun _ ps q => ⟨#[], by rw [q]; simp⟩⟩
theorem Un.refl : Un fs ex H H h h := Un.kept fun _ _ q => q
theorem Un.laid (k : ∀ b u, h.get? b = some u → h'.get? b = some u) (hp : h.objs.size ≤ a) (hn : H a = none) : Un fs ex H (upd H a o) h h' where
  keep := fun b u q _ _ _ => k b u q
  slot := fun b u q _ _ _ => ⟨u.slots, k b u q⟩
  free := fun b u q n _ => by rw [upd_ne (Nat.ne_of_lt (Nat.lt_of_lt_of_le (Heap.lt_size q) hp))]; exact n
  there := fun b u q _ => ⟨u, k b u q⟩
  tups := fun b xs q => by rw [upd_ne (ne_of_none q hn)]; exact q
  frzs := fun b u xs q => by rw [upd_ne (ne_of_none q hn)]; exact q
  tbls := fun b ps q => ⟨#[], by rw [upd_ne (ne_of_none q hn), q]; simp⟩
theorem Un.write (mu : Mut (H x)) (he : e = x ∨ H e = some (.own x)) (k : ∀ b u, b ≠ e → h.get? b = some u → h'.get? b = some u) (heo : ∃ u, h'.get? e = some u) : Un fs ex H (upd H x o) h h' := by
  have hx : ∀ b, H b = none → b ≠ x := fun b n z => by subst z; rw [n] at mu; exact mu
  have hb : ∀ b, H b = none → b ≠ e := fun b n z => by
    subst z
    rcases he with r | r
    · exact hx b n r
    · rw [n] at r; cases r
  have hm : ∀ b u, H b = some u → ¬ Mut (some u) → b ≠ x := fun b u q nm z => by subst z; rw [q] at mu; exact nm mu
  refine ⟨fun b u q n _ _ => k b u (hb b n) q, fun b u q n _ _ => ⟨u.slots, k b u (hb b n) q⟩, fun b u q n _ => by rw [upd_ne (hx b n)]; exact n, fun b u q _ => ?_,
    fun b xs q => by rw [upd_ne (hm b _ q fun z => z)]; exact q, fun b u xs q => by rw [upd_ne (hm b _ q fun z => z)]; exact q, fun b ps q => ⟨#[], by rw [upd_ne (hm b _ q fun z => z), q]; simp⟩⟩
  by_cases hbe : b = e
  · subst hbe; exact heo
  · exact ⟨u, k b u hbe q⟩
theorem Un.mono (u : Un fs ex H H1 h h1) (hs : ∀ b ∈ fs, b ∈ fs') (hx : ∀ b ∈ ex, b ∈ ex') : Un fs' ex' H H1 h h1 :=
  ⟨fun b ob q n hb he => u.keep b ob q n (fun z => hb (hs b z)) fun z => he (hx b z), fun _ _ q n _ he => u.any q n fun z => he (hx _ z), fun b ob q n he => u.free b ob q n fun z => he (hx b z), fun b ob q he => u.there b ob q fun z => he (hx b z), u.tups, u.frzs, u.tbls⟩
end

/-! ### the heap without what is tracked -/
noncomputable def trk (h : Heap) (H : Hp) : List Addr := (List.range h.objs.size).filter fun a => (H a).isSome
noncomputable def hidT (h : Heap) (H : Hp) : Heap := PySem.W.hideAll h (trk h H)
theorem hidT_size (h : Heap) (H : Hp) : (hidT h H).objs.size = h.objs.size := PySem.W.hideAll_size _ _
theorem hidT_get {h : Heap} {H : Hp} {b : Addr} {o : Obj} (e : h.get? b = some o) (n : H b = none) : (hidT h H).get? b = some o :=
  PySem.W.hideAll_get _ e fun hm => by
    have q : (H b).isSome = true := (List.mem_filter.mp hm).2
    rw [n] at q; simp at q
theorem of_hidT {h : Heap} {H : Hp} {b : Addr} {o : Obj} (e : (hidT h H).get? b = some o) : h.get? b = some o ∧ H b = none := by
  have e' : h.get? b = some o := PySem.W.of_hideAll (trk h H) e
  refine ⟨e', ?_⟩
  cases q : H b with
  | none => rfl
  | some x =>
    have hm : b ∈ trk h H := List.mem_filter.mpr ⟨List.mem_range.mpr (Heap.lt_size e'), by simp [q]⟩
    have z : (hidT h H).get? b = none := PySem.W.hideAll_none (trk h H) hm
    rw [z] at e; cases e

/-! ### OpenK's ledger, filled with every new object but one -/
noncomputable def allNews (g h : Heap) (L : Addr) : List (Addr × Obj) := (List.range h.objs.size).filterMap fun a => if a = L ∨ (g.get? a).isSome = true then none else (h.get? a).map fun o => (a, o)
noncomputable def rest (g h : Heap) (L d : Addr) : List (Addr × Obj) := (allNews g h L).filter fun p => decide (p.1 ≠ d)
end L2

namespace L2
open PySem PySem.Spec PyProof.Rows

/-- the module's facts, over the base: the heap at the law's entry without what is tracked there -/
structure Mod (K : PySem.W.Frag) (mg : Str → Option Value) (base : Heap) : Prop where
  kin : K.In base
  glob : base.Ns mainGlobals mg
  blt : ∃ mb, base.Ns builtinsNs mb ∧ ∀ x : Str, x ≠ "__name__" → mb x = bootBuiltins x
  nolimit : base.NoLimit

/-- the context: a def's body (or a comprehension's block) running. base: fixed through the whole law; s₀, H₀: the entry; outer: the frames whose slots others may change (a def's callers); stack: all frames that run;
   ex: iterators that were made ahead of the entry and are walked here (a comprehension's); fn: the names whose cells were made at the entry (a def: all; a comprehension's block: its own); calm: not within an except suite; pn: pins that every state bears; xe: what is wanted of an exception that leaves the code -/
structure Cx where
  prog : Program
  w : World
  K : PySem.W.Frag
  mg : Str → Option Value
  base : Heap
  A : Around
  N : List Str
  s₀ : Shared
  H₀ : Hp
  env : Env
  outer : List Env
  stack : List Env
  ex : List Addr
  fn : Str → Bool
  calm : Bool
  pn : List (Addr × Obj)
  xe : Value → Shared → Prop
/-- the callers' frames -/
noncomputable def frs (l : List Env) : List Addr := l.filterMap (·.frame)
noncomputable abbrev Cx.fs (X : Cx) : List Addr := frs X.outer

noncomputable def Vis (sc : Scope) (x : Str) : Prop := sc.names.lookup x = some .local ∨ sc.names.lookup x = some .cell ∨ sc.names.lookup x = some .free
noncomputable def Loc (sc : Scope) (x : Str) : Prop := sc.names.lookup x = some .local ∨ sc.names.lookup x = some .cell
noncomputable def Look (env : Env) (h : Heap) (m : Str → Option Value) (x : Str) (u : Value) : Prop :=
  (env.kindOf x = some .local ∧ m x = some u) ∨ ((env.kindOf x = some .cell ∨ env.kindOf x = some .free) ∧ ∃ c, env.cells.lookup x = some c ∧ h.IsCell c (some u))

structure Cx.Ok (X : Cx) : Prop where
  mod : Mod X.K X.mg X.base
  kind : X.env.scope.kind = .function
  glob : X.env.globals = mainGlobals
  blt : X.env.builtins = builtinsNs
  above : X.s₀.heap.objs.size ≤ X.env.locals
  inj : ∀ x y c, X.env.cells.lookup x = some c → X.env.cells.lookup y = some c → x = y
  has : ∀ x, (X.env.kindOf x = some .cell ∨ X.env.kindOf x = some .free) → ∃ c, X.env.cells.lookup x = some c
  cab : ∀ x c, X.fn x = true → X.env.cells.lookup x = some c → X.s₀.heap.objs.size ≤ c
  hd : X.calm = true → X.A.handled = none
  frames : X.A.frames = some X.stack
  stk : X.stack = X.outer ∨ (X.stack = X.env :: X.outer ∧ X.env.frame = some X.env.locals)
  exf : ∀ b ∈ X.ex, b ≠ X.env.locals ∧ ∀ x c, X.env.cells.lookup x = some c → c ≠ b
  bs : ∀ b o, X.base.get? b = some o → X.s₀.heap.get? b = some o ∧ X.H₀ b = none
  bsz : X.base.objs.size ≤ X.s₀.heap.objs.size
  noex : ∀ b o, X.base.get? b = some o → b ∉ X.ex
  exfs : ∀ b ∈ X.ex, b ∉ X.fs
  funs : X.s₀.heap.FunFrames X.base X.outer
  frf : ∀ b ∈ X.fs, X.H₀ b = none

structure Inv (X : Cx) (pins : List (Addr × Obj)) (σ : List (Option V)) (H : Hp) (s : Shared) : Prop where
  ok : X.Ok
  os : s.os = X.s₀.os
  bare : AllBare s.gens
  base : Un X.fs X.ex X.H₀ H X.s₀.heap s.heap
  loc : ∃ m, s.heap.Ns X.env.locals m ∧ ∀ (i : Nat) (x : Str) (v : V), X.N[i]? = some x → σ[i]? = some (some v) → Vis X.env.scope x → ∃ u, RelV v u ∧ Look X.env s.heap m x u
  cell : ∀ x c, X.env.cells.lookup x = some c → ∃ v, s.heap.IsCell c v
  free : H X.env.locals = none
  freeC : ∀ x c, X.env.cells.lookup x = some c → H c = none
  pin : ∀ p ∈ X.pn ++ pins, s.heap.get? p.1 = some p.2 ∧ H p.1 = none ∧ p.1 ≠ X.env.locals ∧ p.1 ∉ X.fs ∧ ∀ v, p.2.data ≠ .cell v
  hok : HOk X.prog X.w H s.heap
  len : σ.length = X.N.length

section
variable {X : Cx} {pins : List (Addr × Obj)} {σ : List (Option V)} {H H' : Hp} {s : Shared} {h' : Heap}

theorem Cx.Ok.nofr (ok : X.Ok) {b : Addr} {o : Obj} (e : X.base.get? b = some o) : b ∉ X.fs := fun hb => by
  have := (ok.funs.mem hb).1
  rw [e] at this; cases this
theorem Inv.bs (I : Inv X pins σ H s) : ∀ b o, X.base.get? b = some o → s.heap.get? b = some o ∧ H b = none := fun b o e =>
  ⟨I.base.keep b o (I.ok.bs b o e).1 (I.ok.bs b o e).2 (I.ok.nofr e) (I.ok.noex b o e), I.base.free b o (I.ok.bs b o e).1 (I.ok.bs b o e).2 (I.ok.noex b o e)⟩
theorem Inv.bk (I : Inv X pins σ H s) : ∀ b o, X.base.get? b = some o → s.heap.get? b = some o := fun b o e => (I.bs b o e).1
theorem Inv.mod (I : Inv X pins σ H s) : Mod X.K X.mg X.base := I.ok.mod
theorem Inv.kIn (I : Inv X pins σ H s) : X.K.In s.heap := I.ok.mod.kin.keeps I.bk
theorem Inv.nolimit (I : Inv X pins σ H s) : s.heap.NoLimit := I.ok.mod.nolimit.keeps I.bk
theorem Inv.lt (I : Inv X pins σ H s) : X.env.locals < s.heap.objs.size := let ⟨_, hn, _⟩ := I.loc; hn.lt
theorem Inv.sz (I : Inv X pins σ H s) : X.s₀.heap.objs.size ≤ s.heap.objs.size := Nat.le_trans I.ok.above (Nat.le_of_lt I.lt)
theorem Inv.nofs (I : Inv X pins σ H s) {a : Addr} (h : s.heap.objs.size ≤ a) : a ∉ X.fs := fun hb => by
  obtain ⟨_, o, ho, _⟩ := I.ok.funs.mem hb
  exact absurd (Nat.lt_of_lt_of_le (Heap.lt_size ho) (Nat.le_trans I.sz h)) (Nat.lt_irrefl _)
theorem Inv.cne (I : Inv X pins σ H s) : ∀ x c, X.env.cells.lookup x = some c → c ≠ X.env.locals := fun x c e z => by
  obtain ⟨v, o, ho, hd⟩ := I.cell x c e
  obtain ⟨m, ⟨o', es, ep, ho', hd', _⟩, _⟩ := I.loc
  rw [z, ho'] at ho; cases ho; rw [hd'] at hd; cases hd
theorem Inv.funs (I : Inv X pins σ H s) : s.heap.FunFrames X.base X.outer := by
  have all : ∀ (l : List Env), (∀ b ∈ frs l, b ∈ X.fs) → X.s₀.heap.FunFrames X.base l → s.heap.FunFrames X.base l := by
    intro l
    induction l with
    | nil => intro _ _; trivial
    | cons env r ih =>
      intro hs hl
      obtain ⟨hk, ⟨L, o, hf, hn, ho, hd⟩, hr⟩ := hl
      have hL : L ∈ X.fs := hs L (by unfold frs; rw [List.filterMap_cons, hf]; exact List.mem_cons_self)
      obtain ⟨sl, e⟩ := I.base.slot L o ho (I.ok.frf L hL) hL fun z => I.ok.exfs L z hL
      exact ⟨hk, ⟨L, _, hf, hn, e, hd⟩, ih (fun b hb => hs b (by unfold frs; rw [List.filterMap_cons, hf]; exact List.mem_cons_of_mem _ hb)) hr⟩
  exact all X.outer (fun _ hb => hb) I.ok.funs

/-- the frames that run, for a call -/
theorem Inv.stack (I : Inv X pins σ H s) : s.heap.FunFrames X.base X.stack := by
  rcases I.ok.stk with e | ⟨e, hf⟩
  · rw [e]; exact I.funs
  · rw [e]
    obtain ⟨m, hn, _⟩ := I.loc
    refine .cons (by rw [I.ok.kind]; decide) hf hn ?_ I.funs
    exact Heap.get?_none_of_le (Nat.le_trans I.ok.bsz I.ok.above)
theorem Inv.stkSub (I : Inv X pins σ H s) : ∀ b ∈ frs X.stack, b ∈ X.env.locals :: X.fs := fun b hb => by
  rcases I.ok.stk with e | ⟨e, hf⟩
  · rw [e] at hb; exact List.mem_cons_of_mem _ hb
  · rw [e] at hb
    unfold frs at hb
    rw [List.filterMap_cons, hf] at hb
    exact hb
theorem Inv.stkFree (I : Inv X pins σ H s) : ∀ b ∈ frs X.stack, H b = none := fun b hb => by
  rcases List.mem_cons.mp (I.stkSub b hb) with e | hb
  · rw [e]; exact I.free
  · obtain ⟨_, o, ho, _⟩ := I.ok.funs.mem hb
    exact I.base.free b o ho (I.ok.frf b hb) fun z => I.ok.exfs b z hb

/-- THE STEP: the untracked objects but the frame and the records at ch are kept (the callers' frames up to slots), the frame's map is kept, the new abstract heap is held -/
theorem Inv.step {g' : Array GenState} {t' : Nat} {d' : Drawn} {ch : List Addr} (I : Inv X pins σ H s)
    (hch : ∀ b ∈ ch, (b ∈ X.ex ∨ X.s₀.heap.objs.size ≤ b) ∧ b ≠ X.env.locals ∧ (∀ x c, X.env.cells.lookup x = some c → c ≠ b) ∧ ∀ p ∈ X.pn ++ pins, p.1 ≠ b)
    (keep : ∀ b o, b ≠ X.env.locals → b ∉ X.fs → b ∉ ch → s.heap.get? b = some o → H b = none → h'.get? b = some o)
    (slot : ∀ b o, b ≠ X.env.locals → b ∈ X.fs → b ∉ ch → s.heap.get? b = some o → H b = none → ∃ sl, h'.get? b = some { o with slots := sl }) (free : ∀ b o, b ∉ ch → s.heap.get? b = some o → H b = none → H' b = none)
    (there : ∀ b o, b ∉ ch → s.heap.get? b = some o → ∃ o', h'.get? b = some o')
    (tups : ∀ b xs, H b = some (.tup xs) → H' b = some (.tup xs)) (frzs : ∀ b o u, H b = some (.frz o u) → H' b = some (.frz o u)) (tbls : ∀ b ps, H b = some (.tbl ps) → ∃ more, H' b = some (.tbl (ps ++ more)))
    (ns : ∀ m, s.heap.Ns X.env.locals m → h'.Ns X.env.locals m) (hok : HOk X.prog X.w H' h') (hg : AllBare g') :
    Inv X pins σ H' { s with heap := h', gens := g', drawn := d', toks := t' } := by
  have neL : ∀ b o, X.s₀.heap.get? b = some o → b ≠ X.env.locals := fun b o e => Nat.ne_of_lt (Nat.lt_of_lt_of_le (Heap.lt_size e) I.ok.above)
  have neC : ∀ b o, X.s₀.heap.get? b = some o → b ∉ X.ex → b ∉ ch := fun b o e hx hb => by
    rcases (hch b hb).1 with z | z
    · exact hx z
    · exact absurd (Nat.lt_of_lt_of_le (Heap.lt_size e) z) (Nat.lt_irrefl _)
  have cellK : ∀ x c, X.env.cells.lookup x = some c → ∀ v, s.heap.IsCell c v → h'.IsCell c v := fun x c e v ⟨o, ho, hd⟩ => by
    have nch : c ∉ ch := fun z => (hch c z).2.2.1 x c e rfl
    by_cases hc : c ∈ X.fs
    · obtain ⟨sl, q⟩ := slot c o (I.cne x c e) hc nch ho (I.freeC x c e)
      exact ⟨_, q, hd⟩
    · exact ⟨o, keep c o (I.cne x c e) hc nch ho (I.freeC x c e), hd⟩
  refine ⟨I.ok, I.os, hg, ⟨fun b o e n hb hx => ?_, fun b o e n hb hx => ?_, fun b o e n hx => ?_, fun b o e hx => ?_, fun b xs e => tups b xs (I.base.tups b xs e), fun b o xs e => frzs b o xs (I.base.frzs b o xs e), fun b ps e => ?_⟩, ?_, fun x c e => ?_, ?_, fun x c e => ?_, fun p hp => ?_, hok, I.len⟩
  · exact keep b o (neL b o e) hb (neC b o e hx) (I.base.keep b o e n hb hx) (I.base.free b o e n hx)
  · obtain ⟨sl, e1⟩ := I.base.slot b o e n hb hx
    obtain ⟨sl', e2⟩ := slot b _ (neL b o e) hb (neC b o e hx) e1 (I.base.free b o e n hx)
    exact ⟨sl', e2⟩
  · obtain ⟨o', e1⟩ := I.base.there b o e hx
    exact free b o' (neC b o e hx) e1 (I.base.free b o e n hx)
  · obtain ⟨o', e1⟩ := I.base.there b o e hx
    exact there b o' (neC b o e hx) e1
  · obtain ⟨m1, e1⟩ := I.base.tbls b ps e
    obtain ⟨m2, e2⟩ := tbls b _ e1
    exact ⟨m1 ++ m2, by rw [e2, Array.append_assoc]⟩
  · obtain ⟨m, hn, hl⟩ := I.loc
    refine ⟨m, ns m hn, fun i x v e1 e2 e3 => ?_⟩
    obtain ⟨u, r, l⟩ := hl i x v e1 e2 e3
    refine ⟨u, r, ?_⟩
    rcases l with l | ⟨k, c, e, z⟩
    · exact .inl l
    · exact .inr ⟨k, c, e, cellK x c e _ z⟩
  · obtain ⟨v, z⟩ := I.cell x c e
    exact ⟨v, cellK x c e v z⟩
  · obtain ⟨m, ⟨o, _, _, ho, _⟩, _⟩ := I.loc
    exact free _ o (fun z => (hch _ z).2.1 rfl) ho I.free
  · obtain ⟨v, o, ho, hd⟩ := I.cell x c e
    exact free c o (fun z => (hch c z).2.2.1 x c e rfl) ho (I.freeC x c e)
  · obtain ⟨e, n, ne, nf, d⟩ := I.pin p hp
    have nch : p.1 ∉ ch := fun z => (hch p.1 z).2.2.2 p hp rfl
    exact ⟨keep p.1 p.2 ne nf nch e n, free p.1 p.2 nch e n, ne, nf, d⟩
/-- .. where the frame's own object is kept too -/
theorem Inv.un {t' : Nat} (I : Inv X pins σ H s) (u : Un X.fs [] H H' s.heap h') (hok : HOk X.prog X.w H' h') : Inv X pins σ H' { s with heap := h', toks := t' } := by
  obtain ⟨m, ⟨o, es, ep, ho, r⟩, _⟩ := id I.loc
  obtain ⟨sl, hL⟩ := u.any ho I.free (by simp)
  exact I.step (g' := s.gens) (d' := s.drawn) (ch := []) (fun _ z => nomatch z) (fun b o _ hb _ e n => u.keep b o e n hb (by simp)) (fun b o _ hb _ e n => u.slot b o e n hb (by simp)) (fun b o _ e n => u.free b o e n (by simp)) (fun b o _ e => u.there b o e (by simp)) u.tups u.frzs u.tbls (fun m' hm => by
    obtain ⟨o', es', ep', ho', r'⟩ := hm
    rw [ho] at ho'; cases ho'
    exact ⟨_, es', ep', hL, r'⟩) hok I.bare
/-- behind a call (or a comprehension's block): the slots of this frame may have changed too, the records at ch may have turned -/
theorem Inv.call {g' : Array GenState} {t' : Nat} {d' : Drawn} {ch : List Addr} (I : Inv X pins σ H s) (u : Un (frs X.stack) ch H H' s.heap h') (hok : HOk X.prog X.w H' h') (hg : AllBare g')
    (hch : ∀ b ∈ ch, (b ∈ X.ex ∨ X.s₀.heap.objs.size ≤ b) ∧ b ≠ X.env.locals ∧ (∀ x c, X.env.cells.lookup x = some c → c ≠ b) ∧ ∀ p ∈ X.pn ++ pins, p.1 ≠ b) :
    Inv X pins σ H' { s with heap := h', gens := g', drawn := d', toks := t' } := by
  obtain ⟨m, ⟨o, es, ep, ho, r⟩, _⟩ := id I.loc
  obtain ⟨sl, hL⟩ := u.any ho I.free fun z => (hch _ z).2.1 rfl
  exact I.step (ch := ch) hch (fun b o hL hb hc e n => u.keep b o e n (fun z => (List.mem_cons.mp (I.stkSub b z)).elim hL hb) hc) (fun b o _ _ hc e n => u.any e n hc) (fun b o hc e n => u.free b o e n hc) (fun b o hc e => u.there b o e hc) u.tups u.frzs u.tbls (fun m' hm => by
    obtain ⟨o', es', ep', ho', r'⟩ := hm
    rw [ho] at ho'; cases ho'
    exact ⟨_, es', ep', hL, r'⟩) hok hg
/-- an untracked record of ours (an iterator) has turned -/
theorem Inv.turned {t' : Nat} {it : Addr} (I : Inv X pins σ H s) (k : ∀ b o, b ≠ it → s.heap.get? b = some o → h'.get? b = some o) (hn : H it = none) (hL : it ≠ X.env.locals)
    (h1 : it ∈ X.ex ∨ X.s₀.heap.objs.size ≤ it) (h2 : ∀ x c, X.env.cells.lookup x = some c → c ≠ it) (h3 : ∀ p ∈ X.pn ++ pins, p.1 ≠ it) : Inv X pins σ H { s with heap := h', toks := t' } := by
  have nit : ∀ b u, H b = some u → b ≠ it := fun b u e z => by rw [z, hn] at e; cases e
  refine I.step (g' := s.gens) (d' := s.drawn) (ch := [it]) (fun b hb => ?_) (fun b o _ _ hc e _ => k b o (fun z => hc (by simp [z])) e) (fun b o _ _ hc e _ => ⟨o.slots, k b o (fun z => hc (by simp [z])) e⟩) (fun _ _ _ _ n => n)
    (fun b o hc e => ⟨o, k b o (fun z => hc (by simp [z])) e⟩) (fun _ _ e => e) (fun _ _ _ e => e) (fun b ps e => ⟨#[], by rw [e]; simp⟩) (fun m hm => ?_) (fun b u e => ?_) I.bare
  · have e : b = it := by simpa using hb
    subst e
    exact ⟨h1, hL, h2, h3⟩
  · obtain ⟨o, es, ep, ho, r⟩ := hm
    exact ⟨o, es, ep, k _ o (Ne.symm hL) ho, r⟩
  · refine (I.hok b u e).stay (fun c v hc q => k c v ?_ q) (fun _ q => q) fun _ _ q => q
    rcases hc with z | z
    · rw [z]; exact nit b u e
    · exact nit c _ z
theorem Inv.tok (I : Inv X pins σ H s) (t : Nat) : Inv X pins σ H { s with toks := t } := I.un (h' := s.heap) (t' := t) Un.refl I.hok
/-- all objects kept -/
theorem Inv.kept {t' : Nat} (I : Inv X pins σ H s) (k : ∀ b u, s.heap.get? b = some u → h'.get? b = some u) : Inv X pins σ H { s with heap := h', toks := t' } := I.un (Un.kept k) (I.hok.kept k)
/-- a new object laid and tracked -/
theorem Inv.laid {a : Addr} {o : HO} {t' : Nat} (I : Inv X pins σ H s) (k : ∀ b u, s.heap.get? b = some u → h'.get? b = some u) (hp : s.heap.objs.size ≤ a) (new : ObjOk X.prog X.w (upd H a o) h' a o) :
    Inv X pins σ (upd H a o) { s with heap := h', toks := t' } := I.un (Un.laid k hp (I.hok.fresh hp)) (I.hok.laid k hp new)
/-- an object written -/
theorem Inv.write {x e : Addr} {o : HO} {t' : Nat} (I : Inv X pins σ H s) (mu : Mut (H x)) (he : e = x ∨ H e = some (.own x)) (k : ∀ b u, b ≠ e → s.heap.get? b = some u → h'.get? b = some u) (heo : ∃ u, h'.get? e = some u)
    (new : ObjOk X.prog X.w (upd H x o) h' x o) : Inv X pins σ (upd H x o) { s with heap := h', toks := t' } := I.un (Un.write mu he k heo) (I.hok.write mu he k heo new)
/-- forgetting slots, pins -/
theorem Inv.weak {σ' : List (Option V)} (I : Inv X pins σ H s) (hl : σ'.length = σ.length) (w : ∀ (i : Nat) v, σ'[i]? = some (some v) → σ[i]? = some (some v)) : Inv X pins σ' H s :=
  ⟨I.ok, I.os, I.bare, I.base, let ⟨m, hn, hl'⟩ := I.loc; ⟨m, hn, fun i x v e1 e2 e3 => hl' i x v e1 (w i v e2) e3⟩, I.cell, I.free, I.freeC, I.pin, I.hok, hl.trans I.len⟩
theorem Inv.pins_of {pins' : List (Addr × Obj)} (I : Inv X pins σ H s) (h : ∀ p ∈ pins', s.heap.get? p.1 = some p.2 ∧ H p.1 = none ∧ p.1 ≠ X.env.locals ∧ p.1 ∉ X.fs ∧ ∀ v, p.2.data ≠ .cell v) : Inv X pins' σ H s :=
  ⟨I.ok, I.os, I.bare, I.base, I.loc, I.cell, I.free, I.freeC, fun p hp => (List.mem_append.mp hp).elim (fun z => I.pin p (List.mem_append_left _ z)) (h p), I.hok, I.len⟩

theorem nodup_ix {N : List Str} (hN : N.Nodup) {i j : Nat} {x : Str} (a : N[i]? = some x) (b : N[j]? = some x) : i = j := by
  obtain ⟨h1, e1⟩ := List.getElem?_eq_some_iff.mp a
  obtain ⟨h2, e2⟩ := List.getElem?_eq_some_iff.mp b
  exact (List.getElem_inj hN).mp (e1.trans e2.symm)

/-- a name is stored; what changed -/
theorem store_ok2 {M : Model} {A : Around} {E : Value → Shared → Prop} {i : Nat} {x : Str} {v : V} {u : Value} {Q : Unit → Shared → Prop} (I : Inv X pins σ H s) (hN : X.N.Nodup) (hi : X.N[i]? = some x) (hx : Loc X.env.scope x) (r : RelV v u)
    (h : ∀ s', Inv X pins (σ.set i (some v)) H s' → (∃ a, Heap.SameBut a s.heap s'.heap ∧ (a = X.env.locals ∨ X.env.cells.lookup x = some a)) → Q () s') (hf : X.fn x = true ∨ X.env.scope.names.lookup x = some .local := by first | exact .inl rfl | exact .inr rfl | assumption) : wpAny M A (storeName X.env x u) Q E s := by
  obtain ⟨m, hn, hl⟩ := id I.loc
  have hcls : (X.env.scope.kind == .class || (X.env.scope.kind == .module && X.env.locals != X.env.globals)) = false := by rw [I.ok.kind]; rfl
  have hiσ : i < σ.length := by rw [I.len]; exact (List.getElem?_eq_some_iff.mp hi).1
  have cne := I.cne
  have tracked : ∀ {a : Addr} {h' : Heap}, (∃ o, s.heap.get? a = some o ∧ H a = none) → Heap.SameBut a s.heap h' → HOk X.prog X.w H h' := fun {a h'} ha hs b ob e => by
    obtain ⟨_, _, hfree⟩ := ha
    refine (I.hok b ob e).stay (fun c w' hc q => (hs.2 c ?_).trans q) (fun _ q => q) fun _ _ q => q
    rintro rfl
    rcases hc with rfl | hc
    · rw [hfree] at e; cases e
    · rw [hfree] at hc; cases hc
  rcases hx with hk | hk
  · refine wpAny_storeName_local hk hn (fun h' hn' hs => ?_) hcls
    obtain ⟨oL, _, _, hoL, _⟩ := id hn
    refine h _ ⟨I.ok, I.os, I.bare, ⟨fun b o e n hb hx => ?_, fun b o e n hb hx => ?_, I.base.free, fun b o e hx => ?_, I.base.tups, I.base.frzs, I.base.tbls⟩, ⟨_, hn', fun j y v' e1 e2 e3 => ?_⟩, fun y c e => ?_, I.free, I.freeC, fun p hp => ?_, tracked ⟨oL, hoL, I.free⟩ hs, by simpa using I.len⟩ ⟨_, hs, .inl rfl⟩
    · exact (hs.2 b (Nat.ne_of_lt (Nat.lt_of_lt_of_le (Heap.lt_size e) I.ok.above))).trans (I.base.keep b o e n hb hx)
    · obtain ⟨sl, e1⟩ := I.base.slot b o e n hb hx
      exact ⟨sl, (hs.2 b (Nat.ne_of_lt (Nat.lt_of_lt_of_le (Heap.lt_size e) I.ok.above))).trans e1⟩
    · obtain ⟨o', e1⟩ := I.base.there b o e hx
      exact ⟨o', (hs.2 b (Nat.ne_of_lt (Nat.lt_of_lt_of_le (Heap.lt_size e) I.ok.above))).trans e1⟩
    · by_cases hj : j = i
      · subst hj
        rw [hi] at e1; cases e1
        rw [List.getElem?_set_self hiσ] at e2
        cases e2
        exact ⟨u, r, .inl ⟨hk, by simp⟩⟩
      · rw [List.getElem?_set_ne (Ne.symm hj)] at e2
        obtain ⟨u', r', q⟩ := hl j y v' e1 e2 e3
        refine ⟨u', r', ?_⟩
        rcases q with ⟨k, e⟩ | ⟨k, c, e, z⟩
        · refine .inl ⟨k, ?_⟩
          have : y ≠ x := fun e => hj (nodup_ix hN e1 (e ▸ hi))
          simp [this, e]
        · exact .inr ⟨k, c, e, z.sameBut hs (cne y c e)⟩
    · obtain ⟨w', z⟩ := I.cell y c e
      exact ⟨w', z.sameBut hs (cne y c e)⟩
    · obtain ⟨e, n, ne, nf, d⟩ := I.pin p hp
      exact ⟨(hs.2 p.1 ne).trans e, n, ne, nf, d⟩
  · have hfn : X.fn x = true := by
      rcases hf with z | z
      · exact z
      · rw [z] at hk; cases hk
    obtain ⟨c, hc⟩ := I.ok.has x (.inl hk)
    obtain ⟨w', z⟩ := I.cell x c hc
    refine wpAny_storeName_cell I.ok.kind hk hc z (fun h' hc' hs => ?_)
    obtain ⟨oc, hoc, hocd⟩ := id z
    refine h { s with heap := h' } ⟨I.ok, I.os, I.bare, ⟨fun b o e n hb hx => ?_, fun b o e n hb hx => ?_, I.base.free, fun b o e hx => ?_, I.base.tups, I.base.frzs, I.base.tbls⟩, ⟨m, hn.sameBut hs (Ne.symm (cne x c hc)), fun j y v' e1 e2 e3 => ?_⟩, fun y c' e => ?_, I.free, I.freeC, fun p hp => ?_, tracked ⟨oc, hoc, I.freeC x c hc⟩ hs, by simpa using I.len⟩ ⟨c, hs, .inr hc⟩
    · exact (hs.2 b (Nat.ne_of_lt (Nat.lt_of_lt_of_le (Heap.lt_size e) (I.ok.cab x c hfn hc)))).trans (I.base.keep b o e n hb hx)
    · obtain ⟨sl, e1⟩ := I.base.slot b o e n hb hx
      exact ⟨sl, (hs.2 b (Nat.ne_of_lt (Nat.lt_of_lt_of_le (Heap.lt_size e) (I.ok.cab x c hfn hc)))).trans e1⟩
    · obtain ⟨o', e1⟩ := I.base.there b o e hx
      exact ⟨o', (hs.2 b (Nat.ne_of_lt (Nat.lt_of_lt_of_le (Heap.lt_size e) (I.ok.cab x c hfn hc)))).trans e1⟩
    · by_cases hj : j = i
      · subst hj
        rw [hi] at e1; cases e1
        rw [List.getElem?_set_self hiσ] at e2
        cases e2
        exact ⟨u, r, .inr ⟨.inl hk, c, hc, hc'⟩⟩
      · rw [List.getElem?_set_ne (Ne.symm hj)] at e2
        obtain ⟨u', r', q⟩ := hl j y v' e1 e2 e3
        refine ⟨u', r', ?_⟩
        rcases q with q | ⟨k, c', e, z'⟩
        · exact .inl q
        · refine .inr ⟨k, c', e, z'.sameBut hs ?_⟩
          rintro rfl
          exact hj (nodup_ix hN e1 (I.ok.inj _ _ _ e hc ▸ hi))
    · by_cases hcc : c' = c
      · subst hcc; exact ⟨_, hc'⟩
      · obtain ⟨w2, z2⟩ := I.cell y c' e
        exact ⟨w2, z2.sameBut hs hcc⟩
    · obtain ⟨e, n, ne, nf, d⟩ := I.pin p hp
      refine ⟨(hs.2 p.1 ?_).trans e, n, ne, nf, d⟩
      intro q
      rw [q, hoc] at e
      have q' : oc = p.2 := Option.some.inj e
      exact d w' (by rw [← q']; exact hocd)
theorem store_ok {M : Model} {A : Around} {E : Value → Shared → Prop} {i : Nat} {x : Str} {v : V} {u : Value} {Q : Unit → Shared → Prop} (I : Inv X pins σ H s) (hN : X.N.Nodup) (hi : X.N[i]? = some x) (hx : Loc X.env.scope x) (r : RelV v u)
    (h : ∀ s', Inv X pins (σ.set i (some v)) H s' → Q () s') (hf : X.fn x = true ∨ X.env.scope.names.lookup x = some .local := by first | exact .inl rfl | exact .inr rfl | assumption) : wpAny M A (storeName X.env x u) Q E s :=
  store_ok2 I hN hi hx r (fun s' I' _ => h s' I') hf
/-- behind a call or a block, the state as it is -/
theorem Inv.call' {s' : Shared} {ch : List Addr} (I : Inv X pins σ H s) (ho : s'.os = s.os) (u : Un (frs X.stack) ch H H' s.heap s'.heap) (hok : HOk X.prog X.w H' s'.heap) (hg : AllBare s'.gens)
    (hch : ∀ b ∈ ch, (b ∈ X.ex ∨ X.s₀.heap.objs.size ≤ b) ∧ b ≠ X.env.locals ∧ (∀ x c, X.env.cells.lookup x = some c → c ≠ b) ∧ ∀ p ∈ X.pn ++ pins, p.1 ≠ b) : Inv X pins σ H' s' := by
  obtain ⟨h', g', d', t', o'⟩ := s'
  have e : o' = s.os := ho
  subst e
  exact I.call (g' := g') (t' := t') (d' := d') u hok hg hch
end

/-! ### the judgements -/
/-- an exception: its class, its own dict's address (where it has one), the abstract heap behind it -/
noncomputable abbrev XK := Value → Option Addr → Hp → Prop
noncomputable abbrev St := List (Option V)
noncomputable abbrev VK := V → Hp → Prop
/-- an expression's reading; a test's; an argument list's -/
noncomputable abbrev TE := St → Hp → VK → Prop
noncomputable abbrev TT := St → Hp → (Bool → Hp → Prop) → Prop
noncomputable abbrev TA := St → Hp → (List V → Hp → Prop) → Prop
/-- what is wanted behind a statement -/
structure Ends where
  nx : St → Hp → Prop
  rt : VK
  bk : St → Hp → Prop := fun _ _ => False
  ct : St → Hp → Prop := fun _ _ => False
noncomputable abbrev TS := Ends → St → Hp → Prop

noncomputable def EP (X : Cx) (pins : List (Addr × Obj)) (σ : St) (Q : VK) (u : Value) (s' : Shared) : Prop := ∃ v H', Inv X pins σ H' s' ∧ RelV v u ∧ Q v H'
noncomputable def TP (X : Cx) (pins : List (Addr × Obj)) (σ : St) (Q : Bool → Hp → Prop) (b : Bool) (s' : Shared) : Prop := ∃ H', Inv X pins σ H' s' ∧ Q b H'
noncomputable def AP (X : Cx) (pins : List (Addr × Obj)) (σ : St) (Q : List V → Hp → Prop) (us : List Value) (s' : Shared) : Prop := ∃ vs H', Inv X pins σ H' s' ∧ Vals vs us ∧ Q vs H'
noncomputable def SP (X : Cx) (pins : List (Addr × Obj)) (D : Ends) (f : Flow) (s' : Shared) : Prop :=
  match f with
  | .next => ∃ σ' H', Inv X pins σ' H' s' ∧ D.nx σ' H'
  | .brk => ∃ σ' H', Inv X pins σ' H' s' ∧ D.bk σ' H'
  | .cont => ∃ σ' H', Inv X pins σ' H' s' ∧ D.ct σ' H'
  | .ret u => ∃ v σ' H', Inv X pins σ' H' s' ∧ RelV v u ∧ D.rt v H'

noncomputable def PE (X : Cx) (e : Expr) (t : TE) : Prop :=
  ∀ (pins : List (Addr × Obj)) (s : Shared) (σ : St) (H : Hp) (Q : VK), Inv X pins σ H s → t σ H Q → wpAny (model X.prog X.w) X.A (eval e X.env) (EP X pins σ Q) X.xe s
noncomputable def PT (X : Cx) (e : Expr) (t : TT) : Prop :=
  ∀ (pins : List (Addr × Obj)) (s : Shared) (σ : St) (H : Hp) (Q : Bool → Hp → Prop), Inv X pins σ H s → t σ H Q → wpAny (model X.prog X.w) X.A (isTrue e X.env (eval e X.env)) (TP X pins σ Q) X.xe s
/-- a test whatever its 'whole' is (and, or) -/
noncomputable def PW (X : Cx) (e : Expr) (t : TT) : Prop :=
  ∀ (whole : Sem Value) (pins : List (Addr × Obj)) (s : Shared) (σ : St) (H : Hp) (Q : Bool → Hp → Prop), Inv X pins σ H s → t σ H Q → wpAny (model X.prog X.w) X.A (isTrue e X.env whole) (TP X pins σ Q) X.xe s
theorem PW.pt {X : Cx} {e : Expr} {t : TT} (h : PW X e t) : PT X e t := h _
/-- an argument list (no star), from the left -/
noncomputable def PA (X : Cx) (es : List Expr) (t : TA) : Prop :=
  ∀ (pos : Pos) (pins : List (Addr × Obj)) (s : Shared) (σ : St) (H : Hp) (Q : List V → Hp → Prop), Inv X pins σ H s → t σ H Q → wpAny (model X.prog X.w) X.A (spliced (backTo pos (starEach es X.env))) (AP X pins σ Q) X.xe s
noncomputable def PS (X : Cx) (st : Stmt) (t : TS) : Prop :=
  ∀ (pins : List (Addr × Obj)) (s : Shared) (σ : St) (H : Hp) (D : Ends), Inv X pins σ H s → t D σ H → wpAny (model X.prog X.w) X.A (exec st X.env) (SP X pins D) X.xe s
noncomputable def PSs (X : Cx) (st : List Stmt) (t : TS) : Prop :=
  ∀ (pins : List (Addr × Obj)) (s : Shared) (σ : St) (H : Hp) (D : Ends), Inv X pins σ H s → t D σ H → wpAny (model X.prog X.w) X.A (execs st X.env) (SP X pins D) X.xe s
/-- weaken the end -/
theorem thn {α : Type} {t : Sem α} {Q Q' : α → Shared → Prop} {M : Model} {A : Around} {E : Value → Shared → Prop} {s : Shared} (h : wpAny M A t Q E s) (hQ : ∀ a s, Q a s → Q' a s) : wpAny M A t Q' E s := wpAny_mono h hQ fun _ _ x => x
end L2

namespace L2
open PySem PySem.Spec PyProof.Rows
section
variable {X : Cx}

/-! ### names and constants -/
noncomputable def tVar (i : Nat) : TE := fun σ H Q => ∃ v, σ[i]? = some (some v) ∧ Q v H
noncomputable def tC (v : V) : TE := fun _ H Q => Q v H
theorem pe_var {i : Nat} {x : Str} {pos : Pos} (hN : X.N[i]? = some x) (hv : Vis X.env.scope x) (hd : (x == ("__debug__" : Str)) = false := by decide) (hcd : (x == ("__classdict__" : Str)) = false := by decide) : PE X (.Name x pos) (tVar i) := by
  intro pins s σ H Q I h
  obtain ⟨v, e, h⟩ := h
  obtain ⟨m, hn, hl⟩ := I.loc
  obtain ⟨u, r, l⟩ := hl i x v hN e hv
  have fin : EP X pins σ Q u s := ⟨v, H, I, r, h⟩
  rcases l with ⟨hk, hm⟩ | ⟨hk, c, hc, hcell⟩
  · exact wpAny_Name (wpAny_loadName_local I.ok.kind hk hn hm fin) hd
  · rcases hk with hk | hk
    · exact wpAny_Name (wpAny_loadName_cell I.ok.kind hk hc hcell fin) hd
    · exact wpAny_Name (wpAny_loadName_free I.ok.kind hk hc hcell fin hcd) hd
theorem pe_int {i j pos} : PE X (.Constant (.int i) j pos) (tC (.int i)) := fun _ _ _ H _ I h => wpAny_Constant_int ⟨.int i, H, I.tok _, ⟨_, rfl⟩, h⟩
theorem pe_bl {b j pos} : PE X (.Constant (.bool b) j pos) (tC (.bl b)) := fun _ _ _ H _ I h => Constant_bool ⟨.bl b, H, I, rfl, h⟩
theorem pe_non {j pos} : PE X (.Constant .none j pos) (tC .non) := fun _ _ _ H _ I h => Constant_none ⟨.non, H, I, rfl, h⟩
theorem pe_str {x j pos} : PE X (.Constant (.str x) j pos) (tC (.str x)) := fun _ _ _ H _ I h => Calls.Constant_str ⟨.str x, H, I.tok _, ⟨_, rfl⟩, h⟩

/-- a global name of the def -/
noncomputable def Gl (X : Cx) (x : Str) : Prop := X.env.kindOf x = some .globalImplicit
theorem ld_glob {E : Value → Shared → Prop} {pins : List (Addr × Obj)} {s : Shared} {σ : St} {H : Hp} {x : Str} {u : Value} {pos : Pos} {Q : Value → Shared → Prop} (I : Inv X pins σ H s) (hg : Gl X x) (hm : X.mg x = some u) (h : Q u s)
    (hd : (x == ("__debug__" : Str)) = false := by decide) : wpAny (model X.prog X.w) X.A (eval (.Name x pos) X.env) Q E s :=
  Calls.Name_function_global I.ok.kind hg (Calls.loadGlobal_global (by rw [I.ok.glob]; exact I.mod.glob.keeps I.bk) hm h) hd
theorem ld_blt {E : Value → Shared → Prop} {pins : List (Addr × Obj)} {s : Shared} {σ : St} {H : Hp} {x : Str} {u : Value} {pos : Pos} {Q : Value → Shared → Prop} (I : Inv X pins σ H s) (hg : Gl X x) (hm : X.mg x = none) (hv : bootBuiltins x = some u) (h : Q u s)
    (hn : x ≠ "__name__" := by decide) (hd : (x == ("__debug__" : Str)) = false := by decide) : wpAny (model X.prog X.w) X.A (eval (.Name x pos) X.env) Q E s := by
  obtain ⟨mb, h1, h2⟩ := I.mod.blt
  exact Calls.Name_function_global I.ok.kind hg (Calls.loadGlobal_builtin (by rw [I.ok.glob]; exact I.mod.glob.keeps I.bk) hm (by rw [I.ok.blt]; exact h1.keeps I.bk) ((h2 x hn).trans hv) h) hd
/-- a module's constant, a class, a function, as a value -/
theorem pe_glob {x : Str} {v : V} {u : Value} {pos : Pos} (hg : Gl X x) (hm : X.mg x = some u) (r : RelV v u) (hd : (x == ("__debug__" : Str)) = false := by decide) : PE X (.Name x pos) (tC v) :=
  fun _ _ _ H _ I h => ld_glob I hg hm ⟨v, H, I, r, h⟩ hd
theorem pe_bltn {x : Str} {v : V} {u : Value} {pos : Pos} (hg : Gl X x) (hm : X.mg x = none) (hv : bootBuiltins x = some u) (r : RelV v u) (hn : x ≠ "__name__" := by decide) (hd : (x == ("__debug__" : Str)) = false := by decide) : PE X (.Name x pos) (tC v) :=
  fun _ _ _ H _ I h => ld_blt I hg hm hv ⟨v, H, I, r, h⟩ hn hd

/-! ### arithmetic -/
variable {a b : Expr} {ta tb : TE} {pos : Pos}
/-! ### comparisons -/
/-- a comparison as a value, as a test -/
noncomputable def tB (t : TE) : TT := fun σ H Q => t σ H fun x H1 => ∃ c, x = .bl c ∧ Q c H1
/-- an expression whose value is a bool, as a test -/
theorem pt_val {e : Expr} {t : TE} (h : PE X e t) (he : ∀ whole, isTrue e X.env whole = (do let v ← whole; standAt e.pos; holding [v] (truthy v)) := by intro _; rfl) : PT X e (tB t) := by
  intro pins s σ H Q I hw
  refine isTrue_plain (thn (h pins s σ H _ I hw) fun v s1 ⟨x, H1, I1, r1, q1⟩ => ?_) (he _)
  obtain ⟨d, rfl, q⟩ := q1
  cases r1
  exact wpAny_truthy_bool ⟨H1, I1, q⟩

/-! ### and, or, not -/
variable {tA tB' : TT} {rest : List Expr}
noncomputable def tAnd (t u : TT) : TT := fun σ H Q => t σ H fun c H1 => if c = true then u σ H1 Q else Q false H1
noncomputable def tOr (t u : TT) : TT := fun σ H Q => t σ H fun c H1 => if c = true then Q true H1 else u σ H1 Q
noncomputable def tNot (t : TT) : TT := fun σ H Q => t σ H fun c H1 => Q (!c) H1
theorem pw_and1 (ha : PT X a tA) : PW X (.BoolOp .And [a] pos) tA := by
  intro wh pins s σ H Q I h
  refine isTrue_and (thn (ha pins s σ H Q I h) fun c s1 e => ?_)
  cases c with
  | true => exact isTrue_and_nil e
  | false => exact e
theorem pw_or1 (ha : PT X a tA) : PW X (.BoolOp .Or [a] pos) tA := by
  intro wh pins s σ H Q I h
  refine isTrue_or (thn (ha pins s σ H Q I h) fun c s1 e => ?_)
  cases c with
  | false => exact isTrue_or_nil e
  | true => exact e
theorem pw_and (ha : PT X a tA) (hb : PW X (.BoolOp .And (b :: rest) pos) tB') : PW X (.BoolOp .And (a :: b :: rest) pos) (tAnd tA tB') := by
  intro wh pins s σ H Q I h
  refine isTrue_and (thn (ha pins s σ H _ I h) fun c s1 ⟨H1, I1, q1⟩ => ?_)
  cases c with
  | true => exact hb wh pins s1 σ H1 Q I1 q1
  | false => exact ⟨H1, I1, q1⟩
theorem pw_or (ha : PT X a tA) (hb : PW X (.BoolOp .Or (b :: rest) pos) tB') : PW X (.BoolOp .Or (a :: b :: rest) pos) (tOr tA tB') := by
  intro wh pins s σ H Q I h
  refine isTrue_or (thn (ha pins s σ H _ I h) fun c s1 ⟨H1, I1, q1⟩ => ?_)
  cases c with
  | true => exact ⟨H1, I1, q1⟩
  | false => exact hb wh pins s1 σ H1 Q I1 q1
theorem pt_not (ha : PT X a tA) : PT X (.UnaryOp .Not a pos) (tNot tA) := by
  intro pins s σ H Q I h
  exact isTrue_not (ha pins s σ H (fun c H1 => Q (!c) H1) I h)
/-- .. as values (bools) -/
noncomputable def tAndV (ta tb : TE) : TE := fun σ H Q => ta σ H fun x H1 => ∃ c, x = .bl c ∧ if c = true then tb σ H1 Q else Q (.bl false) H1
noncomputable def tNotV (ta : TE) : TE := fun σ H Q => ta σ H fun x H1 => ∃ c, x = .bl c ∧ Q (.bl (!c)) H1
theorem pe_one {op} {t : TE} (h : PE X a t) : PE X (.BoolOp op [a] pos) t := fun pins s σ H Q I hw => BoolOp_one (h pins s σ H Q I hw)
theorem pe_and (ha : PE X a ta) (hb : PE X (.BoolOp .And (b :: rest) pos) tb) : PE X (.BoolOp .And (a :: b :: rest) pos) (tAndV ta tb) := by
  intro pins s σ H Q I h
  refine BoolOp_and (thn (ha pins s σ H _ I h) fun v s1 ⟨x, H1, I1, r1, q1⟩ => ?_)
  obtain ⟨c, rfl, q1⟩ := q1
  cases r1
  refine wpAny_truthy_bool ?_
  cases c with
  | true => exact hb pins s1 σ H1 Q I1 q1
  | false => exact ⟨.bl false, H1, I1, rfl, q1⟩
theorem pe_not (ha : PE X a ta) : PE X (.UnaryOp .Not a pos) (tNotV ta) := by
  intro pins s σ H Q I h
  refine UnaryOp_ (thn (ha pins s σ H _ I h) fun v s1 ⟨x, H1, I1, r1, q1⟩ => ?_)
  obtain ⟨c, rfl, q1⟩ := q1
  cases r1
  exact not_of (wpAny_truthy_bool ⟨.bl (!c), H1, I1, rfl, q1⟩)
/-- a if t else b -/
noncomputable def tIf (t : TT) (ta tb : TE) : TE := fun σ H Q => t σ H fun c H1 => if c = true then ta σ H1 Q else tb σ H1 Q
theorem pe_ifExp {c : Expr} (hc : PT X c tA) (ha : PE X a ta) (hb : PE X b tb) : PE X (.IfExp c a b pos) (tIf tA ta tb) := by
  intro pins s σ H Q I h
  refine wpAny_IfExp (thn (hc pins s σ H _ I h) fun d s1 ⟨H1, I1, q1⟩ => ?_)
  cases d with
  | true => exact ha pins s1 σ H1 Q I1 q1
  | false => exact hb pins s1 σ H1 Q I1 q1
end
end L2

namespace L2
open PySem PySem.Spec PyProof.Rows

/-! ### a list, a tuple that is read: tracked, frozen, or an object of the module -/
noncomputable def SqL (K : PySem.W.Frag) (H : Hp) (a : Addr) (xs : List V) : Prop :=
  Rd H a (.lst xs) ∨
    ∃ (o : Obj) (its : Array Value) (n : Nat), K.lookup a = some o ∧ o.cls = .type "list" ∧ o.dict = none ∧ o.data = .seq its n ∧ its.size ≤ sizeLine ∧ Vals xs its.toList
noncomputable def SqT (K : PySem.W.Frag) (H : Hp) (a : Addr) (xs : List V) : Prop :=
  Rd H a (.tup xs) ∨
    ∃ (o : Obj) (its : Array Value) (n : Nat), K.lookup a = some o ∧ o.cls = .type "tuple" ∧ o.data = .seq its n ∧ its.size ≤ sizeLine ∧ Vals xs its.toList
noncomputable def absV : Value → Option V
  | .none => some .non
  | .bool b => some (.bl b)
  | .int i _ => some (.int i)
  | .str x _ => some (.str x)
  | .bytes b _ => some (.byt b)
  | .float b _ => some (.flt b)
  | .ref a => some (.ref a)
  | .type n => some (.ty n)
  | _ => none
theorem RelV.abs {x : V} {u : Value} (r : RelV x u) : absV u = some x := by
  cases x with
  | non => cases r; rfl
  | bl _ => cases r; rfl
  | int _ => obtain ⟨t, rfl⟩ := r; rfl
  | str _ => obtain ⟨t, rfl⟩ := r; rfl
  | byt _ => obtain ⟨t, rfl⟩ := r; rfl
  | flt _ => obtain ⟨t, rfl⟩ := r; rfl
  | ref _ => cases r; rfl
  | ty _ => cases r; rfl
theorem RelV.inj {x y : V} {u : Value} (r : RelV x u) (q : RelV y u) : x = y := Option.some.inj (r.abs.symm.trans q.abs)
theorem Vals.inj : ∀ {xs ys : List V} {us : List Value}, Vals xs us → Vals ys us → xs = ys
  | _, _, _, .nil, .nil => rfl
  | _, _, _, .cons r t, .cons r' t' => by rw [r.inj r', Vals.inj t t']
section
variable {X : Cx} {pins : List (Addr × Obj)} {σ : St} {H : Hp} {s : Shared} {a : Addr} {xs ys : List V}
theorem SqL.of {K : PySem.W.Frag} (h : H a = some (.lst xs)) : SqL K H a xs := .inl (.inl h)
theorem SqT.of {K : PySem.W.Frag} (h : H a = some (.tup xs)) : SqT K H a xs := .inl (.inl h)
theorem Inv.list (I : Inv X pins σ H s) (h : SqL X.K H a xs) : ∃ its : List Value, Vals xs its ∧ PlainL s.heap a its.toArray ∧ xs.length ≤ sizeLine := by
  rcases h with h | ⟨o, its, n, hk, hc, hd, hs, hz, r⟩
  · obtain ⟨z, its, n, r, e⟩ := h.ok I.hok
    exact ⟨its, r, ⟨_, n, e, rfl, rfl, rfl⟩, z⟩
  · refine ⟨its.toList, r, ⟨o, n, I.kIn a o hk, hc, hd, by simpa using hs⟩, ?_⟩
    have e := r.length
    simp only [Array.length_toList] at e
    lia
theorem Inv.tuple (I : Inv X pins σ H s) (h : SqT X.K H a xs) : ∃ its : List Value, Vals xs its ∧ IsTup s.heap a its.toArray ∧ xs.length ≤ sizeLine := by
  rcases h with h | ⟨o, its, n, hk, hc, hs, hz, r⟩
  · obtain ⟨z, its, r, p⟩ := h.ok I.hok
    exact ⟨its, r, p, z⟩
  · refine ⟨its.toList, r, ⟨o, I.kIn a o hk, hc, n, by simpa using hs⟩, ?_⟩
    have e := r.length
    simp only [Array.length_toList] at e
    lia
theorem Inv.list_inj (I : Inv X pins σ H s) (h : SqL X.K H a xs) (h' : SqL X.K H a ys) : xs = ys := by
  obtain ⟨its, r, ⟨o, n, e, _, _, d⟩, _⟩ := I.list h
  obtain ⟨its', r', ⟨o', n', e', _, _, d'⟩, _⟩ := I.list h'
  rw [e] at e'; cases e'
  rw [d] at d'
  injection d' with d1 _
  have : its = its' := by simpa using congrArg Array.toList d1
  subst this
  exact r.inj r'
theorem Inv.tuple_inj (I : Inv X pins σ H s) (h : SqT X.K H a xs) (h' : SqT X.K H a ys) : xs = ys := by
  obtain ⟨its, r, ⟨o, e, _, n, d⟩, _⟩ := I.tuple h
  obtain ⟨its', r', ⟨o', e', _, n', d'⟩, _⟩ := I.tuple h'
  rw [e] at e'; cases e'
  rw [d] at d'
  injection d' with d1 _
  have : its = its' := by simpa using congrArg Array.toList d1
  subst this
  exact r.inj r'
end

/-! ### another wish about exceptions -/
noncomputable abbrev Cx.wish (X : Cx) (E : Value → Shared → Prop) : Cx := { X with xe := E }
/-- no exception leaves -/
noncomputable abbrev Cx.nox (X : Cx) : Cx := X.wish fun _ _ => False
theorem Cx.Ok.wish {X : Cx} (ok : X.Ok) (E : Value → Shared → Prop) : (X.wish E).Ok :=
  ⟨ok.mod, ok.kind, ok.glob, ok.blt, ok.above, ok.inj, ok.has, ok.cab, ok.hd, ok.frames, ok.stk, ok.exf, ok.bs, ok.bsz, ok.noex, ok.exfs, ok.funs, ok.frf⟩
theorem Cx.Ok.unwish {X : Cx} {E : Value → Shared → Prop} (ok : (X.wish E).Ok) : X.Ok :=
  ⟨ok.mod, ok.kind, ok.glob, ok.blt, ok.above, ok.inj, ok.has, ok.cab, ok.hd, ok.frames, ok.stk, ok.exf, ok.bs, ok.bsz, ok.noex, ok.exfs, ok.funs, ok.frf⟩
section
variable {X : Cx} {pins : List (Addr × Obj)} {σ : St} {H : Hp} {s : Shared} {E : Value → Shared → Prop}
theorem Inv.wish (I : Inv X pins σ H s) (E : Value → Shared → Prop) : Inv (X.wish E) pins σ H s := ⟨I.ok.wish E, I.os, I.bare, I.base, I.loc, I.cell, I.free, I.freeC, I.pin, I.hok, I.len⟩
theorem Inv.unwish (I : Inv (X.wish E) pins σ H s) : Inv X pins σ H s := ⟨I.ok.unwish, I.os, I.bare, I.base, I.loc, I.cell, I.free, I.freeC, I.pin, I.hok, I.len⟩
theorem SP.unwish {D : Ends} {f : Flow} {s' : Shared} (h : SP (X.wish E) pins D f s') : SP X pins D f s' := by
  cases f with
  | next => obtain ⟨σ', H', I, q⟩ := h; exact ⟨σ', H', I.unwish, q⟩
  | brk => obtain ⟨σ', H', I, q⟩ := h; exact ⟨σ', H', I.unwish, q⟩
  | cont => obtain ⟨σ', H', I, q⟩ := h; exact ⟨σ', H', I.unwish, q⟩
  | ret u => obtain ⟨v, σ', H', I, r, q⟩ := h; exact ⟨v, σ', H', I.unwish, r, q⟩
theorem PE.nox {e : Expr} {t : TE} (h : PE X.nox e t) : PE X e t := fun pins s σ H Q I hw =>
  wpAny_mono (h pins s σ H Q (I.wish _) hw) (fun _ _ ⟨v, H', I', r, q⟩ => ⟨v, H', I'.unwish, r, q⟩) fun _ _ z => False.elim z
theorem PT.nox {e : Expr} {t : TT} (h : PT X.nox e t) : PT X e t := fun pins s σ H Q I hw =>
  wpAny_mono (h pins s σ H Q (I.wish _) hw) (fun _ _ ⟨H', I', q⟩ => ⟨H', I'.unwish, q⟩) fun _ _ z => False.elim z
theorem PSs.nox {st : List Stmt} {t : TS} (h : PSs X.nox st t) : PSs X st t := fun pins s σ H D I hw =>
  wpAny_mono (h pins s σ H D (I.wish _) hw) (fun _ _ q => q.unwish) fun _ _ z => False.elim z
end

/-! ### blocks and small statements -/
section
variable {X : Cx} {st : Stmt} {rest : List Stmt} {t u : TS} {e : Expr} {te : TE} {pos : Pos}
noncomputable def tNext : TS := fun D σ H => D.nx σ H
noncomputable def tSeq (t u : TS) : TS := fun D σ H => t { D with nx := u D } σ H
theorem pss_nil : PSs X [] tNext := fun _ _ σ H _ I h => wpAny_execs_nil ⟨σ, H, I, h⟩
theorem pss_cons (h1 : PS X st t) (h2 : PSs X rest u) : PSs X (st :: rest) (tSeq t u) := by
  intro pins s σ H D I h
  refine wpAny_execs_cons (thn (h1 pins s σ H { D with nx := u D } I h) fun f s1 q => ?_)
  cases f with
  | next =>
    obtain ⟨σ', H', I', q⟩ := q
    exact h2 pins s1 σ' H' D I' q
  | ret v => exact q
  | brk => exact q
  | cont => exact q
theorem pss_one (h1 : PS X st t) : PSs X [st] t := by
  intro pins s σ H D I h
  refine wpAny_execs_cons (thn (h1 pins s σ H D I h) fun f s1 q => ?_)
  cases f with
  | next => exact wpAny_execs_nil q
  | ret v => exact q
  | brk => exact q
  | cont => exact q
/-- in a def's body nothing is shown -/
theorem Inv.quiet {pins : List (Addr × Obj)} {σ : St} {H : Hp} {s : Shared} (I : Inv X pins σ H s) : interactive X.env = false := by simp [interactive, I.ok.kind]
/-- an expression whose value is dropped -/
noncomputable def tDrop (te : TE) : TS := fun D σ H => te σ H fun _ H1 => D.nx σ H1
theorem ps_expr (he : PE X e te) (hs : swapsWith e none pos.line X.env = pure false := by rfl) : PS X (.Expr e pos) (tDrop te) := by
  intro pins s σ H D I h
  exact wpAny_Expr_any (thn (he pins s σ H _ I h) fun v s1 ⟨x, H1, I1, r1, q1⟩ => ⟨σ, H1, I1, q1⟩) I.quiet hs
noncomputable def tRet (te : TE) : TS := fun D σ H => te σ H D.rt
theorem ps_ret (he : PE X e te) : PS X (.Return (some e) pos) (tRet te) := by
  intro pins s σ H D I h
  exact wpAny_Return_some (thn (he pins s σ H _ I h) fun v s1 ⟨x, H1, I1, r1, q1⟩ => ⟨x, σ, H1, I1, r1, q1⟩)
noncomputable def tIfS (c : TT) (t u : TS) : TS := fun D σ H => c σ H fun b H1 => if b = true then t D σ H1 else u D σ H1
theorem ps_if {c : Expr} {a b : List Stmt} {tc : TT} (hc : PT X c tc) (ha : PSs X a t) (hb : PSs X b u) : PS X (.If c a b pos) (tIfS tc t u) := by
  intro pins s σ H D I h
  refine wpAny_If (thn (hc pins s σ H _ I h) fun d s1 ⟨H1, I1, q1⟩ => ?_)
  cases d with
  | true => exact ha pins s1 σ H1 D I1 q1
  | false => exact hb pins s1 σ H1 D I1 q1
end

/-! ### targets -/
noncomputable abbrev TG := V → St → Hp → (St → Hp → Prop) → Prop
noncomputable abbrev TGs := List V → St → Hp → (St → Hp → Prop) → Prop
noncomputable def PG (X : Cx) (target : Expr) (t : TG) : Prop :=
  ∀ (pins : List (Addr × Obj)) (s : Shared) (σ : St) (H : Hp) (v : V) (u : Value) (Q : St → Hp → Prop), Inv X pins σ H s → RelV v u → t v σ H Q →
    wpAny (model X.prog X.w) X.A (assign target X.env u) (fun _ s' => ∃ σ' H', Inv X pins σ' H' s' ∧ Q σ' H') X.xe s
/-- several targets, one after another -/
noncomputable def PGs (X : Cx) (ts : List Expr) (t : TGs) : Prop :=
  ∀ (pins : List (Addr × Obj)) (s : Shared) (σ : St) (H : Hp) (vs : List V) (us : List Value) (Q : St → Hp → Prop), Inv X pins σ H s → Vals vs us → t vs σ H Q →
    wpAny (model X.prog X.w) X.A (assignInOrder ((assignEach ts X.env).map (·.2)) us) (fun _ s' => ∃ σ' H', Inv X pins σ' H' s' ∧ Q σ' H') X.xe s
/-- o[i] = v, by values -/
noncomputable abbrev TSet := V → V → V → Hp → (Hp → Prop) → Prop
noncomputable def PSet (X : Cx) (t : TSet) : Prop :=
  ∀ (pins : List (Addr × Obj)) (s : Shared) (σ : St) (H : Hp) (o i v : V) (ov iv u : Value) (Q : Hp → Prop), Inv X pins σ H s → RelV o ov → RelV i iv → RelV v u → t o i v H Q →
    wpAny (model X.prog X.w) X.A (setItem ov iv u) (fun _ s' => ∃ H', Inv X pins σ H' s' ∧ Q H') X.xe s
section
variable {X : Cx} {pos : Pos}
noncomputable def gName (i : Nat) : TG := fun v σ H Q => Q (σ.set i (some v)) H
theorem pg_name {i : Nat} {x : Str} (hN : X.N.Nodup) (hi : X.N[i]? = some x) (hx : Loc X.env.scope x) (hf : X.fn x = true ∨ X.env.scope.names.lookup x = some .local := by first | exact .inl rfl | exact .inr rfl | assumption) : PG X (.Name x pos) (gName i) := by
  intro pins s σ H v u Q I r h
  exact wpAny_assign_Name (store_ok I hN hi hx r (fun s' I' => ⟨_, H, I', h⟩) hf)
/-- o[i] = .. -/
noncomputable def gSub (to ti : TE) (t : TSet) : TG := fun v σ H Q => to σ H fun o H1 => ti σ H1 fun i H2 => t o i v H2 fun H3 => Q σ H3
theorem pg_sub {o i : Expr} {to ti : TE} {t : TSet} (ho : PE X o to) (hi : PE X i ti) (hs : PSet X t)
    (ha : ∀ v, assign (.Subscript o i pos) X.env v = (do
      let ov ← holding [v] (eval o X.env)
      let iv ← holding [v, ov] (eval i X.env)
      standAt pos
      holding [v, ov, iv] (setItem ov iv v)
      release [v, ov, iv] []) := by intro _; rfl) : PG X (.Subscript o i pos) (gSub to ti t) := by
  intro pins s σ H v u Q I r h
  rw [ha]
  refine wpAny_bind (wpAny_holding (thn (ho pins s σ H _ I h) fun ov s1 ⟨x, H1, I1, r1, q1⟩ => ?_))
  refine wpAny_bind (wpAny_holding (thn (hi pins s1 σ H1 _ I1 q1) fun iv s2 ⟨y, H2, I2, r2, q2⟩ => ?_))
  refine wpAny_bind (wpAny_standAt (wpAny_bind (wpAny_holding (thn (hs pins s2 σ H2 x y v ov iv u _ I2 r1 r2 r q2) fun _ s3 ⟨H3, I3, q3⟩ => ?_))))
  exact wpAny_release ⟨σ, H3, I3, q3⟩
/-- target = value -/
noncomputable def tAsg (te : TE) (g : TG) : TS := fun D σ H => te σ H fun x H1 => g x σ H1 D.nx
theorem ps_asg {tg e : Expr} {te : TE} {g : TG} (he : PE X e te) (hg : PG X tg g) (hs : swapsWithSole [tg] e pos.line X.env = pure false := by rfl) (hw : swappedStores [tg] e X.env = pure none := by rfl)
    (h1 : (assignEach [tg] X.env).map (·.2) = [assign tg X.env] := by rfl) : PS X (.Assign [tg] e pos) (tAsg te g) := by
  intro pins s σ H D I h
  refine wpAny_Assign_stores (thn (he pins s σ H _ I h) fun v s1 ⟨x, H1, I1, r1, q1⟩ => ?_) hs hw
  rw [h1]
  exact thn (hg pins s1 σ H1 x v _ I1 r1 q1) fun _ s2 q => q
/-- name = value -/
theorem ps_set {i : Nat} {x : Str} {e : Expr} {te : TE} {pos' : Pos} (hN : X.N.Nodup) (hi : X.N[i]? = some x) (hx : Loc X.env.scope x) (he : PE X e te) (hs : swapsWith e (some (.Name x pos')) pos.line X.env = pure false := by rfl) (hf : X.fn x = true ∨ X.env.scope.names.lookup x = some .local := by first | exact .inl rfl | exact .inr rfl | assumption) :
    PS X (.Assign [.Name x pos'] e pos) (tAsg te (gName i)) := by
  intro pins s σ H D I h
  refine wpAny_Assign_Name (thn (he pins s σ H _ I h) fun v s1 ⟨y, H1, I1, r1, q1⟩ => ?_) hs
  exact store_ok I1 hN hi hx r1 (fun s2 I2 => ⟨_, H1, I2, q1⟩) hf
end

/-! ### while -/
section
variable {X : Cx} {pos : Pos}
end

/-! ### what a loop or a comprehension walks -/
/-- at turn i: it yields x (the heap may grow), or it stops -/
structure It where
  go : Nat → Hp → Prop
  yld : Nat → Hp → V → Hp → Prop
  stop : Nat → Hp → Prop
/-- the iterator's own objects may turn: they are not the frame's, not pinned, younger than the entry (or a comprehension's own) -/
noncomputable def FpOk (X : Cx) (pins : List (Addr × Obj)) (H : Hp) (b : Addr) : Prop :=
  H b = none ∧ b ≠ X.env.locals ∧ b ∉ X.fs ∧ (b ∈ X.ex ∨ X.s₀.heap.objs.size ≤ b) ∧ (∀ x c, X.env.cells.lookup x = some c → c ≠ b) ∧ ∀ p ∈ X.pn ++ pins, p.1 ≠ b
theorem Inv.fpOk {X : Cx} {pins : List (Addr × Obj)} {σ : St} {H H' : Hp} {s : Shared} {b : Addr} (I : Inv X pins σ H s) (hb : s.heap.objs.size ≤ b) (hn : H' b = none) : FpOk X pins H' b := by
  refine ⟨hn, Nat.ne_of_gt (Nat.lt_of_lt_of_le I.lt hb), I.nofs hb, .inr (Nat.le_trans I.sz hb), fun x c e z => ?_, fun p hp z => ?_⟩
  · obtain ⟨v, q⟩ := I.cell x c e
    exact absurd (Nat.lt_of_lt_of_le q.lt (by rw [z]; exact hb)) (Nat.lt_irrefl _)
  · exact absurd (Nat.lt_of_lt_of_le (Heap.lt_size (I.pin p hp).1) (by rw [z]; exact hb)) (Nat.lt_irrefl _)
structure Turn (P : Program) (w : World) (K : PySem.W.Frag) (tg : Expr) (J : It) (fp : List Addr) (it : Addr) (tn : Nat → Heap → Prop) : Prop where
  mem : it ∈ fp
  obj : ∀ i h, tn i h → ∀ b ∈ fp, ∃ o, h.get? b = some o ∧ ∀ v, o.data ≠ .cell v
  keep : ∀ i h h', tn i h → (∀ b ∈ fp, ∀ o, h.get? b = some o → h'.get? b = some o) → tn i h'
  item : ∀ (X : Cx), X.prog = P → X.w = w → X.K = K → X.calm = true → ∀ (i : Nat) (pins : List (Addr × Obj)) (s : Shared) (σ : St) (H : Hp) (E : Value → Shared → Prop), Inv X pins σ H s → (∀ b ∈ fp, FpOk X pins H b) → tn i s.heap → J.go i H →
    wpAny (model P w) X.A (pyNext (.ref it)) (fun r s1 => ∃ u, r = some u ∧
      wpAny (model P w) X.A (letOwnedTupleGo tg (.ref it) u) (fun _ s2 => ∃ x H', Inv X pins σ H' s2 ∧ RelV x u ∧ J.yld i H x H' ∧ tn (i + 1) s2.heap ∧ ∀ b ∈ fp, H' b = none) E s1) E s
  done : ∀ (X : Cx), X.prog = P → X.w = w → X.K = K → X.calm = true → ∀ (i : Nat) (pins : List (Addr × Obj)) (s : Shared) (σ : St) (H : Hp) (E : Value → Shared → Prop), Inv X pins σ H s → (∀ b ∈ fp, FpOk X pins H b) → tn i s.heap → J.stop i H →
    wpAny (model P w) X.A (pyNext (.ref it)) (fun r s1 => r = none ∧ Inv X pins σ H s1) E s
  self : ∀ (A : Around) (i : Nat) (s : Shared) (Q : Value → Shared → Prop) (E : Value → Shared → Prop), tn i s.heap → Q (.ref it) s → wpAny (model P w) A (pyIter (.ref it)) Q E s
noncomputable abbrev TI := St → Hp → (It → Hp → Prop) → Prop
/-- an iterator has come -/
noncomputable def PIE (X : Cx) (pins : List (Addr × Obj)) (σ : St) (tg : Expr) (R : It → Hp → Prop) (itv : Value) (s2 : Shared) : Prop :=
  ∃ (it : Addr) (fp : List Addr) (tn : Nat → Heap → Prop) (J : It) (H' : Hp), itv = .ref it ∧ Inv X pins σ H' s2 ∧ Turn X.prog X.w X.K tg J fp it tn ∧ tn 0 s2.heap ∧ (∀ b ∈ fp, FpOk X pins H' b) ∧ R J H'
noncomputable def PI (X : Cx) (tg iter : Expr) (wi : TI) : Prop :=
  ∀ (pins : List (Addr × Obj)) (s : Shared) (σ : St) (H : Hp) (R : It → Hp → Prop), Inv X pins σ H s → wi σ H R →
    wpAny (model X.prog X.w) X.A (eval iter X.env) (fun v s1 => wpAny (model X.prog X.w) X.A (pyIter v) (PIE X pins σ tg R) X.xe s1) X.xe s

/-- the step ahead of the store is nothing for an iterator that keeps no tuple -/
theorem go_of {M : Model} {A : Around} {E : Value → Shared → Prop} {s : Shared} {tg : Expr} {it : Addr} {u : Value} {o : Obj} {n : String} {vs : Array Value} {Q : Unit → Shared → Prop} (ho : s.heap.get? it = some o) (hc : o.cls = .type n) (hd : o.data = .fields vs)
    (hn : ["enumerate", "zip", "dict_itemiterator", "dict_reverseitemiterator", "odict_iterator", "itertools.zip_longest", "itertools.pairwise"].contains n = false) (hQ : Q () s) : wpAny M A (letOwnedTupleGo tg (.ref it) u) Q E s := by
  unfold letOwnedTupleGo
  cases tg <;> first
    | exact wpAny_pure hQ
    | (cases u <;> first
        | exact wpAny_pure hQ
        | (refine wpAny_bind (wpAny_load ho ?_)
           rw [hc, hd]
           show wpAny M A (if (["enumerate", "zip", "dict_itemiterator", "dict_reverseitemiterator", "odict_iterator", "itertools.zip_longest", "itertools.pairwise"].contains n && vs[0]? == some (rawInt _)) = true then _ else _) Q E s
           rw [if_neg (by intro h; rw [hn, Bool.false_and] at h; cases h)]
           exact wpAny_pure hQ))

/-- the list at a, as it stands at each turn (a loop may append to it) -/
noncomputable def Itl (K : PySem.W.Frag) (a : Addr) : It :=
  ⟨fun i H => ∃ xs x, SqL K H a xs ∧ xs[i]? = some x, fun i H x H' => H' = H ∧ ∀ xs, SqL K H a xs → xs[i]? = some x, fun i H => ∃ xs, SqL K H a xs ∧ xs.length ≤ i⟩
noncomputable def Itt (K : PySem.W.Frag) (a : Addr) : It :=
  ⟨fun i H => ∃ xs x, SqT K H a xs ∧ xs[i]? = some x, fun i H x H' => H' = H ∧ ∀ xs, SqT K H a xs → xs[i]? = some x, fun i H => ∃ xs, SqT K H a xs ∧ xs.length ≤ i⟩
/-- lo, lo + 1, .. (n of them) -/
noncomputable def Itr (lo : Int) (n : Nat) : It := ⟨fun i _ => i < n, fun i H x H' => H' = H ∧ x = .int (lo + i), fun i _ => n ≤ i⟩
theorem turn_list {P : Program} {w : World} {K : PySem.W.Frag} {tg : Expr} (a it : Addr) : Turn P w K tg (Itl K a) [it] it (fun i h => h.IsListIter it a i) where
  mem := by simp
  obj := fun i h st b hb => by
    have e : b = it := by simpa using hb
    subst e
    obtain ⟨o, e, c, d⟩ := st
    exact ⟨o, e, fun v z => by rw [d] at z; cases z⟩
  keep := fun i h h' st k => st.at fun o e => k it (by simp) o e
  item := by
    intro X hP hw hK hc i pins s σ H E I hf st hg
    subst hP hw hK
    obtain ⟨xs, x, hq, hx⟩ := hg
    obtain ⟨its, rv, p, hz⟩ := I.list hq
    obtain ⟨u, hu, ru⟩ := rv.get hx
    obtain ⟨f0, f1, f2, f3, f4, f5⟩ := hf it (by simp)
    refine wpAny_pyNext_list_item st p.isList (x := u) (by simpa using hu) fun h' st' sb => ?_
    have I1 : Inv X pins σ H { s with heap := h' } := I.turned (t' := s.toks) (fun b o hb e => (sb.2 b hb).trans e) f0 f1 f3 f4 f5
    obtain ⟨o, e, c, d⟩ := id st'
    exact ⟨u, rfl, go_of (s := { s with heap := h' }) e c d (by decide) ⟨x, H, I1, ru, ⟨rfl, fun ys hy => by rw [I.list_inj hy hq]; exact hx⟩, st', fun b hb => (hf b hb).1⟩⟩
  done := by
    intro X hP hw hK hc i pins s σ H E I hf st hg
    subst hP hw hK
    obtain ⟨xs, hq, hx⟩ := hg
    obtain ⟨its, rv, p, hz⟩ := I.list hq
    obtain ⟨f0, f1, f2, f3, f4, f5⟩ := hf it (by simp)
    have hl := rv.length
    exact wpAny_pyNext_list_end (I.ok.hd hc) st p.isList (by simp; lia) fun h' eb => ⟨rfl, I.turned (t' := s.toks) (fun b o hb e => eb b o hb e) f0 f1 f3 f4 f5⟩
  self := fun _ _ _ _ _ st h => wpAny_pyIter_listiter st h
theorem turn_tuple {P : Program} {w : World} {K : PySem.W.Frag} {tg : Expr} (a it : Addr) : Turn P w K tg (Itt K a) [it] it (fun i h => h.IsTupleIter it a i) where
  mem := by simp
  obj := fun i h st b hb => by
    have e : b = it := by simpa using hb
    subst e
    obtain ⟨o, e, c, d⟩ := st
    exact ⟨o, e, fun v z => by rw [d] at z; cases z⟩
  keep := fun i h h' st k => st.at fun o e => k it (by simp) o e
  item := by
    intro X hP hw hK hc i pins s σ H E I hf st hg
    subst hP hw hK
    obtain ⟨xs, x, hq, hx⟩ := hg
    obtain ⟨its, rv, p, hz⟩ := I.tuple hq
    obtain ⟨u, hu, ru⟩ := rv.get hx
    obtain ⟨f0, f1, f2, f3, f4, f5⟩ := hf it (by simp)
    refine wpAny_pyNext_tuple_item st (show s.heap.IsTuple a its.toArray from p) (x := u) (by simpa using hu) fun h' st' sb => ?_
    have I1 : Inv X pins σ H { s with heap := h' } := I.turned (t' := s.toks) (fun b o hb e => (sb.2 b hb).trans e) f0 f1 f3 f4 f5
    obtain ⟨o, e, c, d⟩ := id st'
    exact ⟨u, rfl, go_of (s := { s with heap := h' }) e c d (by decide) ⟨x, H, I1, ru, ⟨rfl, fun ys hy => by rw [I.tuple_inj hy hq]; exact hx⟩, st', fun b hb => (hf b hb).1⟩⟩
  done := by
    intro X hP hw hK hc i pins s σ H E I hf st hg
    subst hP hw hK
    obtain ⟨xs, hq, hx⟩ := hg
    obtain ⟨its, rv, p, hz⟩ := I.tuple hq
    obtain ⟨f0, f1, f2, f3, f4, f5⟩ := hf it (by simp)
    have hl := rv.length
    exact wpAny_pyNext_tuple_end (I.ok.hd hc) st (show s.heap.IsTuple a its.toArray from p) (by simp; lia) fun h' eb => ⟨rfl, I.turned (t' := s.toks) (fun b o hb e => eb b o hb e) f0 f1 f3 f4 f5⟩
  self := fun _ _ _ _ _ st h => wpAny_pyIter_tupleiter st h
theorem turn_range {P : Program} {w : World} {K : PySem.W.Frag} {tg : Expr} (it : Addr) (lo : Int) (n : Nat) : Turn P w K tg (Itr lo n) [it] it (fun i h => IsRangeIter h it (lo + (i : Nat) * 1) ((n : Int) - (i : Nat)) 1) where
  mem := by simp
  obj := fun i h st b hb => by
    have e : b = it := by simpa using hb
    subst e
    exact ⟨_, st, fun v z => by
      have z' : Data.fields _ = Data.cell v := z
      cases z'⟩
  keep := fun i h h' st k => k it (by simp) _ st
  item := by
    intro X hP hw hK hc i pins s σ H E I hf st hg
    subst hP hw hK
    obtain ⟨f0, f1, f2, f3, f4, f5⟩ := hf it (by simp)
    have W := Walks.range (prog := X.prog) (w := X.w) (I.ok.hd hc) it lo 1 n
    refine W.item i s _ _ hg st fun v h' tk hv st' kk => ?_
    obtain ⟨t, rfl⟩ := hv
    have I1 : Inv X pins σ H { s with heap := h', toks := tk } := I.turned (fun b o hb e => kk b o (by simpa using hb) e) f0 f1 f3 f4 f5
    refine ⟨_, rfl, go_of (s := { s with heap := h', toks := tk }) (n := "range_iterator") st' rfl rfl (by decide) ⟨.int (lo + i), H, I1, ⟨t, ?_⟩, ⟨rfl, rfl⟩, st', fun b hb => (hf b hb).1⟩⟩
    rw [Int.mul_one]
  done := by
    intro X hP hw hK hc i pins s σ H E I hf st hg
    subst hP hw hK
    obtain ⟨f0, f1, f2, f3, f4, f5⟩ := hf it (by simp)
    exact wpAny_pyNext_range_end (I.ok.hd hc) st (by have : n ≤ i := hg; lia) fun h' eb => ⟨rfl, I.turned (t' := s.toks) (fun b o hb e => eb b o hb e) f0 f1 f3 f4 f5⟩
  self := fun _ _ _ _ _ st h => wpAny_pyIter_rangeiter st h
end L2

namespace L2
open PySem PySem.Spec PyProof.Rows
section
variable {X : Cx} {tg : Expr}
noncomputable def iList (K : PySem.W.Frag) (tl : TE) : TI := fun σ H R => tl σ H fun x H1 => ∃ a, x = .ref a ∧ (∃ xs, SqL K H1 a xs) ∧ R (Itl K a) H1
noncomputable def iTup (K : PySem.W.Frag) (tl : TE) : TI := fun σ H R => tl σ H fun x H1 => ∃ a, x = .ref a ∧ (∃ xs, SqT K H1 a xs) ∧ R (Itt K a) H1
theorem pi_list {l : Expr} {tl : TE} (hl : PE X l tl) : PI X tg l (iList X.K tl) := by
  intro pins s σ H R I h
  refine thn (hl pins s σ H _ I h) fun v s1 ⟨x, H1, I1, r1, q1⟩ => ?_
  obtain ⟨a, e, ⟨xs, hq⟩, q⟩ := q1
  subst e
  cases r1
  obtain ⟨its, rv, p, hz⟩ := I1.list hq
  refine wpAny_pyIter_list p.isList ?_
  refine ⟨s1.heap.objs.size, [s1.heap.objs.size], _, _, H1, rfl, I1.kept (t' := s1.toks) fun b o e => Heap.get?_push_of_some _ e, turn_list a _, ⟨_, Heap.get?_push_size _ rfl, rfl, rfl⟩, fun b hb => ?_, q⟩
  have e : b = s1.heap.objs.size := by simpa using hb
  subst e
  exact I1.fpOk (Nat.le_refl _) (I1.hok.fresh (Nat.le_refl _))
theorem pi_tup {l : Expr} {tl : TE} (hl : PE X l tl) : PI X tg l (iTup X.K tl) := by
  intro pins s σ H R I h
  refine thn (hl pins s σ H _ I h) fun v s1 ⟨x, H1, I1, r1, q1⟩ => ?_
  obtain ⟨a, e, ⟨xs, hq⟩, q⟩ := q1
  subst e
  cases r1
  obtain ⟨its, rv, p, hz⟩ := I1.tuple hq
  refine wpAny_pyIter_tuple (show s1.heap.IsTuple a its.toArray from p) ?_
  refine ⟨s1.heap.objs.size, [s1.heap.objs.size], _, _, H1, rfl, I1.kept (t' := s1.toks) fun b o e => Heap.get?_push_of_some _ e, turn_tuple a _, ⟨_, Heap.get?_push_size _ rfl, rfl, rfl⟩, fun b hb => ?_, q⟩
  have e : b = s1.heap.objs.size := by simpa using hb
  subst e
  exact I1.fpOk (Nat.le_refl _) (I1.hok.fresh (Nat.le_refl _))
/-- a range object just made, walked -/
theorem range_it {pins : List (Addr × Obj)} {σ : St} {H : Hp} {s : Shared} {R : It → Hp → Prop} {E : Value → Shared → Prop} {lo hi : Int} {t u v : Tok} {tk : Nat} (I : Inv X pins σ H s) (h1 : -(2 ^ 62) ≤ lo) (h2 : lo < 2 ^ 62) (h3 : -(2 ^ 62) ≤ hi) (h4 : hi < 2 ^ 62)
    (q : R (Itr lo (hi - lo).toNat) H) : wpAny (model X.prog X.w) X.A (pyIter (.ref s.heap.objs.size)) (PIE X pins σ tg R) E { s with heap := s.heap.push { cls := .type "range", data := .fields #[.int lo t, .int hi u, .int 1 v] }, toks := tk } := by
  refine wpAny_pyIter_range (IsRange.new ..) (small_one h1 h2 h3 h4) ?_
  have I1 : Inv X pins σ H { s with heap := s.heap.push { cls := .type "range", data := .fields #[.int lo t, .int hi u, .int 1 v] }, toks := tk } := I.kept fun b o e => Heap.get?_push_of_some _ e
  refine ⟨(s.heap.push { cls := .type "range", data := .fields #[.int lo t, .int hi u, .int 1 v] }).objs.size, [(s.heap.push { cls := .type "range", data := .fields #[.int lo t, .int hi u, .int 1 v] }).objs.size], _, _, H, rfl,
    I1.kept (t' := tk) fun b o e => Heap.get?_push_of_some _ e, turn_range _ lo (hi - lo).toNat, ?_, fun b hb => ?_, q⟩
  · have e1 : lo + ((0 : Nat) : Int) * 1 = lo := by simp
    have e2 : (((hi - lo).toNat : Nat) : Int) - ((0 : Nat) : Int) = Builtin.Range.rangeSize lo hi 1 := by rw [rangeSize_one]; split <;> lia
    show IsRangeIter _ _ (lo + ((0 : Nat) : Int) * 1) ((((hi - lo).toNat : Nat) : Int) - ((0 : Nat) : Int)) 1
    rw [e1, e2]
    exact Heap.get?_push_size _ rfl
  · have e : b = (s.heap.push { cls := .type "range", data := .fields #[.int lo t, .int hi u, .int 1 v] }).objs.size := by simpa using hb
    subst e
    exact I1.fpOk (Nat.le_refl _) (I1.hok.fresh (Nat.le_refl _))
noncomputable def iRng1 (ta : TA) : TI := fun σ H R => ta σ H fun vs H1 => ∃ j : Int, vs = [.int j] ∧ -(2 ^ 62) ≤ j ∧ j < 2 ^ 62 ∧ R (Itr 0 j.toNat) H1
noncomputable def iRng2 (ta : TA) : TI := fun σ H R => ta σ H fun vs H1 => ∃ i j : Int, vs = [.int i, .int j] ∧ (-(2 ^ 62) ≤ i ∧ i < 2 ^ 62 ∧ -(2 ^ 62) ≤ j ∧ j < 2 ^ 62) ∧ R (Itr i (j - i).toNat) H1
theorem pi_range1 {a : Expr} {ta : TA} {p pos : Pos} (hg : Gl X "range") (hm : X.mg "range" = none) (ha : PA X [a] ta) (hs : starEach [a] X.env = [(false, eval a X.env)] := by rfl) : PI X tg (.Call (.Name "range" p) [a] [] pos) (iRng1 ta) := by
  intro pins s σ H R I h
  refine Call_ (ld_blt I hg hm boot_range (PyProof.Rows.callWith_type1 (thn (ha pos pins s σ H _ I h) fun us s1 ⟨vs, H1, I1, r1, q1⟩ => ?_) hs rfl))
  obtain ⟨j, e, q1, q2, q⟩ := q1
  subst e
  cases r1 with
  | cons r rr =>
    cases rr
    obtain ⟨t, rfl⟩ := r
    exact call_range_1 (range_it I1 (by lia) (by lia) q1 q2 (by simpa using q))
theorem pi_range2 {a b : Expr} {ta : TA} {p pos : Pos} (hg : Gl X "range") (hm : X.mg "range" = none) (ha : PA X [a, b] ta) (hs : starEach [a, b] X.env = [(false, eval a X.env), (false, eval b X.env)] := by rfl) (hs2 : starEach [b] X.env = [(false, eval b X.env)] := by rfl) :
    PI X tg (.Call (.Name "range" p) [a, b] [] pos) (iRng2 ta) := by
  intro pins s σ H R I h
  refine Call_ (ld_blt I hg hm boot_range (PyProof.Rows.callWith_type1 (thn (ha pos pins s σ H _ I h) fun us s1 ⟨vs, H1, I1, r1, q1⟩ => ?_) (by rw [hs, hs2]) (by rw [hs2]; rfl)))
  obtain ⟨i, j, e, ⟨q1, q2, q3, q4⟩, q⟩ := q1
  subst e
  cases r1 with
  | cons r rr =>
    cases rr with
    | cons r' rr =>
      cases rr
      obtain ⟨t, rfl⟩ := r
      obtain ⟨t', rfl⟩ := r'
      exact call_range_2 (range_it I1 q1 q2 q3 q4 q)

/-! ### for -/
/-- W: the invariant by the turn and a measure; N: what the body is to reach -/
noncomputable def tFor (wi : TI) (g : TG) (tb : TS) : TS := fun D σ H => wi σ H fun J H1 => ∃ W : Nat → Nat → St → Hp → Prop, (∃ m, W 0 m σ H1) ∧ ∀ i m σ H, W i m σ H →
  (J.stop i H ∧ D.nx σ H) ∨ (J.go i H ∧ ∃ N : St → Hp → Prop, (∀ σ' H', N σ' H' → ∃ m', m' < m ∧ W (i + 1) m' σ' H') ∧ ∀ x H', J.yld i H x H' → g x σ H' fun σ2 H2 => tb { D with nx := N, ct := N, bk := D.nx } σ2 H2)
/-- the records at fp as they stand -/
noncomputable def pinsAt (fp : List Addr) (h : Heap) : List (Addr × Obj) := fp.filterMap fun b => (h.get? b).map fun o => (b, o)
theorem mem_pinsAt {fp : List Addr} {h : Heap} {b : Addr} {o : Obj} (hb : b ∈ fp) (e : h.get? b = some o) : (b, o) ∈ pinsAt fp h := List.mem_filterMap.mpr ⟨b, hb, by rw [e]; rfl⟩
theorem of_pinsAt {fp : List Addr} {h : Heap} {p : Addr × Obj} (hp : p ∈ pinsAt fp h) : p.1 ∈ fp ∧ h.get? p.1 = some p.2 := by
  obtain ⟨b, hb, e⟩ := List.mem_filterMap.mp hp
  cases q : h.get? b with
  | none => rw [q] at e; cases e
  | some o =>
    rw [q] at e
    have e' : (b, o) = p := Option.some.inj e
    subst e'
    exact ⟨hb, q⟩
theorem Inv.pinned {pins : List (Addr × Obj)} {σ : St} {H : Hp} {s : Shared} {fp : List Addr} (I : Inv X pins σ H s) (hf : ∀ b ∈ fp, FpOk X pins H b) (ho : ∀ b ∈ fp, ∃ o, s.heap.get? b = some o ∧ ∀ v, o.data ≠ .cell v) : Inv X (pins ++ pinsAt fp s.heap) σ H s :=
  I.pins_of fun p hp => (List.mem_append.mp hp).elim (fun z => I.pin p (List.mem_append_right _ z)) fun z => by
    obtain ⟨hb, e⟩ := of_pinsAt z
    obtain ⟨f0, f1, f2, _⟩ := hf p.1 hb
    obtain ⟨o, e', d⟩ := ho p.1 hb
    rw [e] at e'; cases e'
    exact ⟨e, f0, f1, f2, d⟩
theorem Inv.unpinned {pins pl : List (Addr × Obj)} {σ : St} {H : Hp} {s : Shared} (I : Inv X (pins ++ pl) σ H s) : Inv X pins σ H s := I.pins_of fun p hp => I.pin p (List.mem_append_right _ (List.mem_append_left _ hp))
theorem ps_for {iter : Expr} {body : List Stmt} {wi : TI} {g : TG} {tb : TS} {pos : Pos} (hp : PassesOwn (model X.prog X.w) X.A X.env X.xe) (hc : X.calm = true) (hi : PI X tg iter wi) (hg : PG X tg g) (hb : PSs X body tb)
    (hs : ∀ x, foldedSetIterable iter X.env x = pure x := by intro _; rfl) : PS X (.For tg iter body [] pos) (tFor wi g tb) := by
  intro pins s σ H D I h
  refine wpAny_For (thn (hi pins s σ H _ I h) fun v s1 h1 => thn h1 fun itv s2 h2 => ?_) hs
  obtain ⟨it, fp, tn, J, H2, e, I2, T, st2, f2, W, ⟨m0, w0⟩, turn⟩ := h2
  subst e
  -- what stays true of the iterator's objects through the loop
  have stat : ∀ {H' : Hp}, (∀ b ∈ fp, H' b = none) → ∀ b ∈ fp, FpOk X pins H' b := fun hn b hb => ⟨hn b hb, (f2 b hb).2⟩
  refine codeAny_forLoop_any (fun n s' => ∃ i σ' H', Inv X pins σ' H' s' ∧ tn i s'.heap ∧ (∀ b ∈ fp, H' b = none) ∧ W i n σ' H') ?_ m0 ⟨0, σ, H2, I2, st2, fun b hb => (f2 b hb).1, w0⟩
  rintro n s3 ⟨i, σ3, H3, I3, st3, fr3, w3⟩
  rcases turn i n σ3 H3 w3 with ⟨stop, qn⟩ | ⟨go, N, hN, step⟩
  · refine wpAny_passesOwn hp (thn (T.done X rfl rfl rfl hc i pins s3 σ3 H3 X.xe I3 (stat fr3) st3 stop) fun r s4 ⟨hr, I4⟩ => ?_)
    subst hr
    exact wpAny_execs_nil ⟨σ3, H3, I4, qn⟩
  · refine wpAny_passesOwn hp (thn (T.item X rfl rfl rfl hc i pins s3 σ3 H3 X.xe I3 (stat fr3) st3 go) fun r s4 ⟨u, hr, h4⟩ => ?_)
    subst hr
    refine wpAny_passesOwn hp (thn h4 fun _ s5 ⟨x, H5, I5, r5, y5, st5, fr5⟩ => ?_)
    have I5' := I5.pinned (stat fr5) (T.obj _ _ st5)
    refine wpAny_passesOwn hp (thn (hg _ s5 σ3 H5 x u _ I5' r5 (step x H5 y5)) fun _ s6 ⟨σ6, H6, I6, q6⟩ => ?_)
    refine wpAny_passesOwn hp (thn (hb _ s6 σ6 H6 _ I6 q6) fun f s7 q7 => ?_)
    have again : ∀ {σ7 : St} {H7 : Hp}, Inv X (pins ++ pinsAt fp s5.heap) σ7 H7 s7 → N σ7 H7 → ∃ m, m < n ∧ ∃ i σ' H', Inv X pins σ' H' s7 ∧ tn i s7.heap ∧ (∀ b ∈ fp, H' b = none) ∧ W i m σ' H' := fun {σ7 H7} I7 n7 => by
      obtain ⟨m', hm, w7⟩ := hN σ7 H7 n7
      refine ⟨m', hm, i + 1, σ7, H7, I7.unpinned, T.keep _ _ _ st5 fun b hb o e => (I7.pin (b, o) (List.mem_append_right _ (List.mem_append_right _ (mem_pinsAt hb e)))).1, fun b hb => ?_, w7⟩
      obtain ⟨o, e, d⟩ := T.obj _ _ st5 b hb
      exact (I7.pin (b, o) (List.mem_append_right _ (List.mem_append_right _ (mem_pinsAt hb e)))).2.1
    cases f with
    | next => obtain ⟨σ7, H7, I7, n7⟩ := q7; exact again I7 n7
    | cont => obtain ⟨σ7, H7, I7, n7⟩ := q7; exact again I7 n7
    | brk => obtain ⟨σ7, H7, I7, q7⟩ := q7; exact ⟨σ7, H7, I7.unpinned, q7⟩
    | ret v => obtain ⟨x7, σ7, H7, I7, r7, q7⟩ := q7; exact ⟨x7, σ7, H7, I7.unpinned, r7, q7⟩
end

/-! ### the forms one uses -/
end L2

namespace L2
open PySem PySem.Spec PyProof.Rows

noncomputable abbrev R2 := V → V → Hp → VK → Prop
/-- a two-place operation on values: f is binaryOp op, inplaceOp op or compareOp op -/
noncomputable def OpR (X : Cx) (f : Value → Value → Sem Value) (r : R2) : Prop :=
  ∀ (pins : List (Addr × Obj)) (s : Shared) (σ : St) (H : Hp) (x y : V) (v u : Value) (Q : VK), Inv X pins σ H s → RelV x v → RelV y u → r x y H Q →
    wpAny (model X.prog X.w) X.A (f v u) (EP X pins σ Q) X.xe s
/-- a one-place operation -/
noncomputable def UnR (X : Cx) (f : Value → Sem Value) (r : V → Hp → VK → Prop) : Prop :=
  ∀ (pins : List (Addr × Obj)) (s : Shared) (σ : St) (H : Hp) (x : V) (v : Value) (Q : VK), Inv X pins σ H s → RelV x v → r x H Q →
    wpAny (model X.prog X.w) X.A (f v) (EP X pins σ Q) X.xe s
/-- a call of a value that is known (a builtin, a type) with values -/
noncomputable def CallR (X : Cx) (f : Value) (r : List V → Hp → VK → Prop) : Prop :=
  ∀ (pins : List (Addr × Obj)) (s : Shared) (σ : St) (H : Hp) (xs : List V) (us : List Value) (Q : VK), Inv X pins σ H s → Vals xs us → r xs H Q →
    wpAny (model X.prog X.w) X.A (call f us) (EP X pins σ Q) X.xe s
noncomputable def tOp (r : R2) (ta tb : TE) : TE := fun σ H Q => ta σ H fun x H1 => tb σ H1 fun y H2 => r x y H2 Q
noncomputable def tUn (r : V → Hp → VK → Prop) (ta : TE) : TE := fun σ H Q => ta σ H fun x H1 => r x H1 Q
/-- ints in, under C, and a value out -/
noncomputable def rI (C : Int → Int → Prop) (g : Int → Int → V) : R2 := fun x y H Q => ∃ i j, x = .int i ∧ y = .int j ∧ C i j ∧ Q (g i j) H
noncomputable def rI0 (g : Int → Int → V) : R2 := fun x y H Q => ∃ i j, x = .int i ∧ y = .int j ∧ Q (g i j) H
noncomputable def rU (g : Int → V) : V → Hp → VK → Prop := fun x H Q => ∃ i, x = .int i ∧ Q (g i) H

section
variable {X : Cx} {a b c : Expr} {ta tb tc : TE} {pos : Pos}

theorem binT (ha : PE X a ta) (hb : PE X b tb) {pins : List (Addr × Obj)} {s : Shared} {σ : St} {H : Hp} {R : V → V → Hp → Prop} (I : Inv X pins σ H s)
    (h : ta σ H fun x H1 => tb σ H1 fun y H2 => R x y H2) {Q : Value → Shared → Prop} {f : Value → Value → Sem Value}
    (hf : ∀ v u s2 x y H2, Inv X pins σ H2 s2 → RelV x v → RelV y u → R x y H2 → wpAny (model X.prog X.w) X.A (f v u) Q X.xe s2) :
    wpAny (model X.prog X.w) X.A (eval a X.env) (fun v s₁ => wpAny (model X.prog X.w) X.A (eval b X.env) (fun u s₂ => wpAny (model X.prog X.w) X.A (f v u) Q X.xe s₂) X.xe s₁) X.xe s := by
  refine thn (ha pins s σ H _ I h) fun v s1 ⟨x, H1, I1, r1, q1⟩ => ?_
  refine thn (hb pins s1 σ H1 _ I1 q1) fun u s2 ⟨y, H2, I2, r2, q2⟩ => ?_
  exact hf v u s2 x y H2 I2 r1 r2 q2

theorem pe_op {op : Operator} {r : R2} (ho : OpR X (binaryOp op) r) (ha : PE X a ta) (hb : PE X b tb) : PE X (.BinOp a op b pos) (tOp r ta tb) := by
  intro pins s σ H Q I h
  exact wpAny_BinOp (binT ha hb I h fun v u s2 x y H2 I2 rx ry q => ho pins s2 σ H2 x y v u Q I2 rx ry q)
theorem pe_un {op : UnaryOp} {r : V → Hp → VK → Prop} (ho : UnR X (unaryOp op) r) (ha : PE X a ta) : PE X (.UnaryOp op a pos) (tUn r ta) := by
  intro pins s σ H Q I h
  exact UnaryOp_ (thn (ha pins s σ H _ I h) fun v s1 ⟨x, H1, I1, r1, q1⟩ => ho pins s1 σ H1 x v Q I1 r1 q1)
/-! ### ints -/
theorem opI {f : Value → Value → Sem Value} {C : Int → Int → Prop} {g : Int → Int → Int}
    (rule : ∀ (i j : Int) (t u : Tok) (s : Shared) (Q : Value → Shared → Prop) (E : Value → Shared → Prop), C i j → Q (.int (g i j) s.toks) { s with toks := s.toks + 1 } → wpAny (model X.prog X.w) X.A (f (.int i t) (.int j u)) Q E s) :
    OpR X f (rI C fun i j => .int (g i j)) := by
  intro pins s σ H x y v u Q I rx ry h
  obtain ⟨i, j, rfl, rfl, hc, q⟩ := h
  obtain ⟨t, rfl⟩ := rx
  obtain ⟨t', rfl⟩ := ry
  exact rule i j t t' s _ _ hc ⟨.int (g i j), H, I.tok _, ⟨_, rfl⟩, q⟩
theorem opI0 {f : Value → Value → Sem Value} {g : Int → Int → Int}
    (rule : ∀ (i j : Int) (t u : Tok) (s : Shared) (Q : Value → Shared → Prop) (E : Value → Shared → Prop), Q (.int (g i j) s.toks) { s with toks := s.toks + 1 } → wpAny (model X.prog X.w) X.A (f (.int i t) (.int j u)) Q E s) :
    OpR X f (rI0 fun i j => .int (g i j)) := by
  intro pins s σ H x y v u Q I rx ry h
  obtain ⟨i, j, rfl, rfl, q⟩ := h
  obtain ⟨t, rfl⟩ := rx
  obtain ⟨t', rfl⟩ := ry
  exact rule i j t t' s _ _ ⟨.int (g i j), H, I.tok _, ⟨_, rfl⟩, q⟩
theorem opB0 {f : Value → Value → Sem Value} {g : Int → Int → Bool}
    (rule : ∀ (i j : Int) (t u : Tok) (s : Shared) (Q : Value → Shared → Prop) (E : Value → Shared → Prop), Q (.bool (g i j)) s → wpAny (model X.prog X.w) X.A (f (.int i t) (.int j u)) Q E s) :
    OpR X f (rI0 fun i j => .bl (g i j)) := by
  intro pins s σ H x y v u Q I rx ry h
  obtain ⟨i, j, rfl, rfl, q⟩ := h
  obtain ⟨t, rfl⟩ := rx
  obtain ⟨t', rfl⟩ := ry
  exact rule i j t t' s _ _ ⟨.bl (g i j), H, I, rfl, q⟩

noncomputable def CDiv (i j : Int) : Prop := 0 < j ∧ j < 1073741824
noncomputable def CMul (i j : Int) : Prop := (-(2 ^ 64) < i ∧ i < 2 ^ 64) ∨ (-(2 ^ 64) < j ∧ j < 2 ^ 64)
theorem CMul.ok {i j : Int} (h : CMul i j) : IntMulOk i j := by
  rcases h with ⟨h1, h2⟩ | ⟨h1, h2⟩
  · exact .of_left (intBits_le_64 h1 h2)
  · exact .of_right (intBits_le_64 h1 h2)
theorem two_pow_nn (k : Nat) : (0 : Int) ≤ 2 ^ k := by
  rw [two_pow_cast]
  exact Int.natCast_nonneg _

theorem op_add : OpR X (binaryOp .Add) (rI0 fun i j => .int (i + j)) := opI0 fun _ _ _ _ _ _ _ q => add_int q
theorem op_sub : OpR X (binaryOp .Sub) (rI0 fun i j => .int (i - j)) := opI0 fun _ _ _ _ _ _ _ q => sub_int q
/-- // by a positive divisor -/
theorem op_fdiv : OpR X (binaryOp .FloorDiv) (rI CDiv fun i j => .int (i / j)) := opI fun i j _ _ _ _ _ hc q => by
  have h1 : (0 : Int) < j := hc.1
  have h2 : j < 1073741824 := hc.2
  exact floordiv_int (by lia) (by rw [Int.fdiv_eq_ediv_of_nonneg i (by lia)]; exact q) (.inl (PyProof.noPylong_small (by lia)))
/-- % by a positive divisor of any size -/
theorem op_mod : OpR X (binaryOp .Mod) (rI (fun _ j => 0 < j) fun i j => .int (i % j)) := opI fun i j _ _ _ _ _ hc q => by
  have h1 : (0 : Int) < j := hc
  exact mod_int' (by lia) (by rw [Int.fmod_eq_emod_of_nonneg i (by lia)]; exact q)
theorem op_shr : OpR X (binaryOp .RShift) (rI (fun _ j => 0 ≤ j) fun i j => .int (i / 2 ^ j.toNat)) := opI fun i j _ _ _ _ _ hc q =>
  rshift_int hc (by rw [Int.fdiv_eq_ediv_of_nonneg i (two_pow_nn _)]; exact q)
theorem op_and : OpR X (binaryOp .BitAnd) (rI0 fun i j => .int (Builtin.bitAnd i j)) := opI0 fun _ _ _ _ _ _ _ q => and_int q
theorem op_or : OpR X (binaryOp .BitOr) (rI0 fun i j => .int (Builtin.bitOr i j)) := opI0 fun _ _ _ _ _ _ _ q => or_int q
theorem op_xor : OpR X (binaryOp .BitXor) (rI0 fun i j => .int (Builtin.bitXor i j)) := opI0 fun _ _ _ _ _ _ _ q => xor_int q

theorem unI {f : Value → Sem Value} {g : Int → Int}
    (rule : ∀ (i : Int) (t : Tok) (s : Shared) (Q : Value → Shared → Prop) (E : Value → Shared → Prop), Q (.int (g i) s.toks) { s with toks := s.toks + 1 } → wpAny (model X.prog X.w) X.A (f (.int i t)) Q E s) :
    UnR X f (rU fun i => .int (g i)) := by
  intro pins s σ H x v Q I rx h
  obtain ⟨i, rfl, q⟩ := h
  obtain ⟨t, rfl⟩ := rx
  exact rule i t s _ _ ⟨.int (g i), H, I.tok _, ⟨_, rfl⟩, q⟩
theorem un_neg : UnR X (unaryOp .USub) (rU fun i => .int (-i)) := unI fun _ _ _ _ _ q => neg_int q
/-! ### bools among ints: n += (a < b) -/
end

/-! ### comparisons -/
section
variable {X : Cx} {a b c : Expr} {ta tb tc : TE} {pos : Pos}
theorem fin_bl {pins : List (Addr × Obj)} {σ : St} {H : Hp} {s : Shared} {Q : VK} {k k' : Bool} (I : Inv X pins σ H s) (q : Q (.bl k) H) (e : k = k') : EP X pins σ Q (.bool k') s := by
  subst e
  exact ⟨.bl k, H, I, rfl, q⟩
theorem op_lt : OpR X (compareOp .Lt) (rI0 fun i j => .bl (decide (i < j))) := opB0 fun _ _ _ _ _ _ _ q => lt_int q
theorem op_gt : OpR X (compareOp .Gt) (rI0 fun i j => .bl (decide (j < i))) := opB0 fun _ _ _ _ _ _ _ q => gt_int q
/-- is None, is not None: the right side a value none -/
theorem op_isN : OpR X (compareOp .Is) (fun x y H Q => y = .non ∧ Q (.bl (decide (x = .non))) H) := by
  intro pins s σ H x y v u Q I rx ry h
  obtain ⟨rfl, q⟩ := h
  cases ry
  refine is_none_gen (fin_bl I q ?_)
  cases x <;> first
    | (cases rx; rfl)
    | (obtain ⟨t, rfl⟩ := rx; rfl)
theorem op_notN : OpR X (compareOp .IsNot) (fun x y H Q => y = .non ∧ Q (.bl (!decide (x = .non))) H) := by
  intro pins s σ H x y v u Q I rx ry h
  obtain ⟨rfl, q⟩ := h
  cases ry
  refine isnot_none_gen (fin_bl I q ?_)
  cases x <;> first
    | (cases rx; rfl)
    | (obtain ⟨t, rfl⟩ := rx; rfl)

/-- two rules for one operation: by cases -/
theorem OpR.or {f : Value → Value → Sem Value} {r r' : R2} (h : OpR X f r) (h' : OpR X f r') : OpR X f (fun x y H Q => r x y H Q ∨ r' x y H Q) := by
  intro pins s σ H x y v u Q I rx ry q
  rcases q with q | q
  · exact h pins s σ H x y v u Q I rx ry q
  · exact h' pins s σ H x y v u Q I rx ry q

theorem nomark (b : Expr) {op : CmpOp} (h : op ≠ .In := by decide) (h2 : op ≠ .NotIn := by decide) : behindInMarks op b = false := by
  have e1 : (op == CmpOp.In) = false := by cases op <;> first | rfl | exact absurd rfl h
  have e2 : (op == CmpOp.NotIn) = false := by cases op <;> first | rfl | exact absurd rfl h2
  cases b <;> simp [behindInMarks, e1, e2]
/-- a comparison as a value; hm: nomark b, or (for in, not in) by with_unfolding_all rfl -/
theorem pe_cmpR {op : CmpOp} {r : R2} (ho : OpR X (compareOp op) r) (ha : PE X a ta) (hb : PE X b tb) (hm : behindInMarks op b = false) : PE X (.Compare a [op] [b] pos) (tOp r ta tb) := by
  intro pins s σ H Q I h
  exact wpAny_Compare1 (binT ha hb I h fun v u s2 x y H2 I2 rx ry q => ho pins s2 σ H2 x y v u Q I2 rx ry q) hm
/-- a reading of a value as a test -/
noncomputable def tTest (t : TE) : TT := fun σ H Q => t σ H fun x H' => ∃ k, x = .bl k ∧ Q k H'
theorem pt_cmpR {op : CmpOp} {r : R2} (ho : OpR X (compareOp op) r) (ha : PE X a ta) (hb : PE X b tb) (hm : behindInMarks op b = false) : PT X (.Compare a [op] [b] pos) (tTest (tOp r ta tb)) := by
  intro pins s σ H Q I h
  refine wpAny_isTrue_Compare1 (thn (ha pins s σ H _ I h) fun v s1 ⟨x, H1, I1, r1, q1⟩ => thn (hb pins s1 σ H1 _ I1 q1) fun u s2 ⟨y, H2, I2, r2, q2⟩ =>
    thn (ho pins s2 σ H2 x y v u _ I2 r1 r2 q2) fun c s3 ⟨z, H3, I3, r3, k, e, q3⟩ => ?_) hm
  subst e
  cases r3
  exact wpAny_truthy_bool ⟨H3, I3, q3⟩
/-! ### truth -/
theorem line63 : (sizeLine : Nat) < 2 ^ 63 := by rw [sizeLine_eq]; decide
/-! ### strs and bytes -/
theorem op_add_str : OpR X (binaryOp .Add) (fun x y H Q => ∃ i j, x = .str i ∧ y = .str j ∧ i.length + j.length ≤ sizeLine ∧ Q (.str (i ++ j)) H) := by
  intro pins s σ H x y v u Q I rx ry h
  obtain ⟨i, j, rfl, rfl, hz, q⟩ := h
  obtain ⟨t, rfl⟩ := rx
  obtain ⟨t', rfl⟩ := ry
  exact add_str (fun t' tk => ⟨.str (i ++ j), H, I.tok _, ⟨_, rfl⟩, q⟩) hz
/-! ### scalar builtins, by CallR -/
theorem vals1 {x : V} {us : List Value} (r : Vals [x] us) : ∃ u, us = [u] ∧ RelV x u := by
  cases r with
  | cons r1 r2 => cases r2; exact ⟨_, rfl, r1⟩
theorem vals2 {x y : V} {us : List Value} (r : Vals [x, y] us) : ∃ u w', us = [u, w'] ∧ RelV x u ∧ RelV y w' := by
  cases r with
  | cons r1 r2 =>
    cases r2 with
    | cons r3 r4 => cases r4; exact ⟨_, _, rfl, r1, r3⟩
theorem call_max2 (hc : X.calm = true) : CallR X (.builtin "max") (fun xs H Q => ∃ i j, xs = [.int i, .int j] ∧ Q (.int (if j > i then j else i)) H) := by
  intro pins s σ H xs us Q I r h
  obtain ⟨i, j, rfl, q⟩ := h
  obtain ⟨u, w', rfl, ⟨t, rfl⟩, ⟨t', rfl⟩⟩ := vals2 r
  refine max_two_ints (I.ok.hd hc) fun h' tk k => ⟨_, H, I.kept k, ?_, q⟩
  by_cases hj : j > i
  · rw [if_pos hj, if_pos hj]; exact ⟨_, rfl⟩
  · rw [if_neg hj, if_neg hj]; exact ⟨_, rfl⟩
theorem call_min2 (hc : X.calm = true) : CallR X (.builtin "min") (fun xs H Q => ∃ i j, xs = [.int i, .int j] ∧ Q (.int (if j < i then j else i)) H) := by
  intro pins s σ H xs us Q I r h
  obtain ⟨i, j, rfl, q⟩ := h
  obtain ⟨u, w', rfl, ⟨t, rfl⟩, ⟨t', rfl⟩⟩ := vals2 r
  refine min_two_ints (I.ok.hd hc) fun h' tk k => ⟨_, H, I.kept k, ?_, q⟩
  by_cases hj : j < i
  · rw [if_pos hj, if_pos hj]; exact ⟨_, rfl⟩
  · rw [if_neg hj, if_neg hj]; exact ⟨_, rfl⟩
/-- len of a str, a bytes, a list, a tuple -/
noncomputable def LenV (K : PySem.W.Frag) (x : V) (H : Hp) (n : Nat) : Prop :=
  match x with
  | .str y => y.length ≤ sizeLine ∧ n = y.length
  | .byt y => y.size ≤ sizeLine ∧ n = y.size
  | .ref p => (∃ xs, SqL K H p xs ∧ n = xs.length) ∨ ∃ xs, SqT K H p xs ∧ n = xs.length
  | _ => False
theorem call_len : CallR X (.builtin "len") (fun xs H Q => ∃ x n, xs = [x] ∧ LenV X.K x H n ∧ Q (.int n) H) := by
  intro pins s σ H xs us Q I r h
  obtain ⟨x, n, rfl, e, q⟩ := h
  obtain ⟨u, rfl, rx⟩ := vals1 r
  have hl := line63
  have hs : sizeLine = 16777216 := sizeLine_eq
  cases x with
  | str y =>
    obtain ⟨t, rfl⟩ := rx
    obtain ⟨hy, e'⟩ : y.length ≤ sizeLine ∧ n = y.length := e
    subst e'
    exact len_str (by lia) ⟨.int _, H, I.tok _, ⟨_, rfl⟩, q⟩
  | byt y =>
    obtain ⟨t, rfl⟩ := rx
    obtain ⟨hy, e'⟩ : y.size ≤ sizeLine ∧ n = y.size := e
    subst e'
    exact PySem.W.len_bytes (by lia) ⟨.int _, H, I.tok _, ⟨_, rfl⟩, q⟩
  | ref p =>
    cases rx
    have e' : (∃ xs, SqL X.K H p xs ∧ n = xs.length) ∨ ∃ xs, SqT X.K H p xs ∧ n = xs.length := e
    rcases e' with ⟨xs, hx, e'⟩ | ⟨xs, hx, e'⟩
    · subst e'
      obtain ⟨its, r', pl, hz⟩ := I.list hx
      have hlen := r'.length
      exact Calls.call_len_list pl.isList (by simp only [List.size_toArray]; lia) ⟨.int xs.length, H, I.tok _, ⟨_, by simp only [List.size_toArray]; rw [hlen]⟩, q⟩
    · subst e'
      obtain ⟨its, r', pl, hz⟩ := I.tuple hx
      have hlen := r'.length
      exact len_tuple pl (by simp only [List.size_toArray]; lia) ⟨.int xs.length, H, I.tok _, ⟨_, by simp only [List.size_toArray]; rw [hlen]⟩, q⟩
  | _ => exact (show False from e).elim
end
end L2

namespace L2
open PySem PySem.Spec PyProof.Rows

/-! ### an instance, its attributes a map -/
structure ObjM (h : Heap) (x dx C : Addr) (mA : Str → Option Value) : Prop where
  obj : h.get? x = some (PySem.W.instObj C dx)
  ns : h.Ns1 dx mA
  ne : dx ≠ x

theorem lookIn_ns {h : Heap} {dx : Addr} {mA : Str → Option Value} (n : h.Ns1 dx mA) : ∃ od, h.get? dx = some od ∧ ∀ name, PySem.W.lookIn name od = some (mA name) := by
  obtain ⟨o, es, ep, ho, hd, hk, _, hm⟩ := n
  refine ⟨o, ho, fun name => ?_⟩
  have e := hm name
  unfold nsFind findBy at e
  rw [← Array.find?_toList] at e
  unfold PySem.W.lookIn
  rw [hd]
  dsimp only
  split
  · rename_i y q
    rw [q] at e
    exact congrArg some e
  · rename_i q
    rw [q] at e
    have a : es.toList.any (·.refKey) = false := by
      rw [List.any_eq_false]
      intro y hy
      obtain ⟨z, t, hkey⟩ := hk y (Array.mem_toList_iff.mp hy)
      simp [DictEntry.refKey, hkey]
    have a' : ¬ es.toList.any (·.refKey) = true := by rw [a]; exact Bool.false_ne_true
    rw [if_neg a']
    exact congrArg some e

theorem ObjM.look {h : Heap} {x dx C : Addr} {mA : Str → Option Value} (I : ObjM h x dx C mA) : ∃ od, PySem.W.InstAt h x (PySem.W.instObj C dx) C (some od) ∧ ∀ name, PySem.W.lookIn name od = some (mA name) :=
  let ⟨od, ho, hl⟩ := lookIn_ns I.ns
  ⟨od, ⟨I.obj, rfl, rfl, ho⟩, hl⟩

section
variable {prog : Program} {w : World} {A : Around} {E : Value → Shared → Prop} {s : Shared} {K : PySem.W.Frag} {x dx C f : Addr} {mA : Str → Option Value} {name : Str} {v : Value}

end

/-! ### the attributes as a list of pairs -/
theorem RelO.some_of {v : V} {o : Option Value} (r : RelO (some v) o) : ∃ u, o = some u ∧ RelV v u := by
  cases o with
  | none => exact (show False from r).elim
  | some u => exact ⟨u, rfl, r⟩
section
variable {P : Program} {w : World} {H H' : Hp} {h h' : Heap} {a C dx : Addr} {fs fs' : List (Str × V)}
theorem ins_get (hok : HOk P w H h) (e : H a = some (.ins C dx fs)) : ∃ mA, ObjM h a dx C mA ∧ (∀ f, RelO (fs.lookup f) (mA f)) ∧ PySem.Within mA (fs.map (·.1)) ∧ fs.length ≤ 1000 ∧ H dx = some (.own a) := by
  obtain ⟨d, z, ne, ob, mA, n, r, q⟩ := (show ObjOk P w H h a (.ins C dx fs) from hok a _ e)
  exact ⟨mA, ⟨ob, n, ne⟩, r, q, z, d⟩
end

/-! ### what of the text a class must have -/
structure Cls (K : PySem.W.Frag) (C : Addr) : Prop where
  pg : PySem.W.plainGet K C Str.empty = true
  hd : PySem.W.hasDictIn K C = true
  po : PySem.W.plainOver K C = true
  sa : PySem.W.findIn K (.ref C) "__setattr__" = some (some (.builtin "object.__setattr__"))
theorem Cls.get {K : PySem.W.Frag} {C : Addr} (c : Cls K C) (f : Str) : PySem.W.plainGet K C f = true := c.pg
/-- a constant of the class -/
structure Con (K : PySem.W.Frag) (C : Addr) (f : Str) (v : V) (u : Value) : Prop where
  at_ : PySem.W.findIn K (.ref C) f = some (some u)
  rel : RelV v u
  get : PySem.W.specialIn K u "__get__" = some none
  cp : PySem.W.copiedNames.contains f = false
/-- a method: a plain def of the class or of one above it -/
structure Meth (K : PySem.W.Frag) (C : Addr) (m : Str) (f : Addr) : Prop where
  at_ : PySem.W.findIn K (.ref C) m = some (some (.ref f))
  fn : PySem.W.isFn K (.ref f) = true
  kp : PySem.W.keepIn K (.ref f) = true

section
variable {X : Cx} {pins : List (Addr × Obj)} {σ : St} {H : Hp} {s : Shared} {a C dx : Addr} {fs : List (Str × V)} {f : Str} {v : V} {A : Around} {E : Value → Shared → Prop}

/-- a new instance, tracked, without attributes -/
theorem Inv.made (I : Inv X pins σ H s) : Inv X pins σ (upd (upd H s.heap.objs.size (.own (s.heap.objs.size + 1))) (s.heap.objs.size + 1) (.ins C s.heap.objs.size []))
    { s with heap := (s.heap.push PySem.W.emptyDict).push (PySem.W.instObj C s.heap.objs.size) } := by
  have e1 : (s.heap.push PySem.W.emptyDict).get? s.heap.objs.size = some PySem.W.emptyDict := Heap.get?_push_size s.heap rfl
  have e2 : ((s.heap.push PySem.W.emptyDict).push (PySem.W.instObj C s.heap.objs.size)).get? (s.heap.objs.size + 1) = some (PySem.W.instObj C s.heap.objs.size) := by
    have := Heap.get?_push_size (s.heap.push PySem.W.emptyDict) (o := PySem.W.instObj C s.heap.objs.size) rfl
    rwa [Heap.size_push] at this
  have e3 : (s.heap.push PySem.W.emptyDict).Ns s.heap.objs.size (fun _ => none) := ⟨PySem.W.emptyDict, #[], _, e1, rfl, (fun e he => absurd he (by simp)), fun _ => rfl⟩
  have I1 := I.laid (a := s.heap.objs.size) (o := .own (s.heap.objs.size + 1)) (h' := s.heap.push PySem.W.emptyDict) (t' := s.toks) (fun b u q => Heap.get?_push_of_some _ q) (Nat.le_refl _) ⟨_, e1⟩
  refine I1.laid (a := s.heap.objs.size + 1) (o := .ins C s.heap.objs.size []) (t' := s.toks) (fun b u q => Heap.get?_push_of_some _ q) (Nat.le_of_eq (Heap.size_push _ _)) ?_
  have ne : s.heap.objs.size ≠ s.heap.objs.size + 1 := Nat.ne_of_lt (Nat.lt_succ_self _)
  refine ⟨by rw [upd_ne ne, upd_same], Nat.zero_le _, ne, e2, fun _ => none, (Heap.Ns1.of_empty e3).at fun o q => Heap.get?_push_of_some _ q, fun _ => True.intro, fun y hy => absurd rfl hy⟩

end

/-! ### readings and rules -/
section
variable {X : Cx} {o e value : Expr} {f : Str} {pos pos' tpos : Pos} {ta tv : TE}
end

/-! ### isinstance -/
section
variable {X : Cx} {pins : List (Addr × Obj)} {σ : St} {H : Hp} {s : Shared} {A : Around} {E : Value → Shared → Prop} {Q : Value → Shared → Prop} {c : Value} {b : Bool}
/-- the type of a value, as the fragment's deciders take it; for an instance its class -/
inductive TyOf (K : PySem.W.Frag) (H : Hp) : V → Value → Prop where
  | non : TyOf K H .non (.type "NoneType")
  | bl (x : Bool) : TyOf K H (.bl x) (.type "bool")
  | int (i : Int) : TyOf K H (.int i) (.type "int")
  | str (x : Str) : TyOf K H (.str x) (.type "str")
  | flt (x : UInt64) : TyOf K H (.flt x) (.type "float")
  | lst {a : Addr} {xs : List V} (e : H a = some (.lst xs)) : TyOf K H (.ref a) (.type "list")
  | frz {a : Addr} {o : Obj} {xs : List V} (e : H a = some (.frz o (.lst xs))) : TyOf K H (.ref a) (.type "list")
  | tup {a : Addr} {xs : List V} (e : H a = some (.tup xs)) : TyOf K H (.ref a) (.type "tuple")
  | dK {a : Addr} {kvs : List (Key × V)} (e : H a = some (.dK kvs)) : TyOf K H (.ref a) (.type "dict")
  | dT {a : Addr} {kvs : List (List Key × V)} (e : H a = some (.dT kvs)) : TyOf K H (.ref a) (.type "dict")
  | ins {a C dx : Addr} {fs : List (Str × V)} (e : H a = some (.ins C dx fs)) (cl : Cls K C) (ha : PySem.W.findIn K (.ref C) "__class__" = some (some (.builtin "object.__class__")))
      (hn : PySem.W.specialIn K (.builtin "object.__class__") "__get__" = some (some (.builtin "getset_descriptor.__get__"))) (htk : PySem.W.takesIn K (.builtin "object.__class__") = some true)
      (hm : PySem.W.mroIn K C (.type "object") = some true) : TyOf K H (.ref a) (.ref C)
/-- isinstance(x, c) for one class c, a built-in or an own one: kitOne's answer -/
theorem isinst_ok {x : V} {u t : Value} (I : Inv X pins σ H s) (rx : RelV x u) (ty : TyOf X.K H x t) (e : PySem.W.kitOne X.K t c = some b) (h : ∀ tk, Q (.bool b) { s with toks := tk }) :
    wpAny (model X.prog X.w) A (call (.builtin "isinstance") [u, c]) Q E s := by
  cases ty with
  | non => cases (show u = Value.none from rx); exact PySem.W.kia_one PySem.W.kitx_none I.kIn True.intro e (fun z => nomatch z) h
  | bl y => cases (show u = Value.bool y from rx); exact PySem.W.kia_one PySem.W.kitx_bool I.kIn True.intro e (fun z => nomatch z) h
  | int i => obtain ⟨t, q⟩ := (show ∃ t, u = Value.int i t from rx); cases q; exact PySem.W.kia_one PySem.W.kitx_int I.kIn True.intro e (fun z => nomatch z) h
  | str y => obtain ⟨t, q⟩ := (show ∃ t, u = Value.str y t from rx); cases q; exact PySem.W.kia_one PySem.W.kitx_str I.kIn True.intro e (fun z => nomatch z) h
  | flt y => obtain ⟨t, q⟩ := (show ∃ t, u = Value.float y t from rx); cases q; exact PySem.W.kia_one PySem.W.kitx_float I.kIn True.intro e (fun z => nomatch z) h
  | @lst a xs ea =>
    cases (show u = Value.ref a from rx)
    obtain ⟨_, _, n, _, h1⟩ := (show ObjOk X.prog X.w H s.heap a (.lst xs) from I.hok a _ ea)
    exact PySem.W.kia_one PySem.W.kitx_list I.kIn ⟨_, h1, rfl⟩ e (fun z => nomatch z) h
  | @frz a ob xs ea =>
    cases (show u = Value.ref a from rx)
    obtain ⟨_, _, _, n, _, h1⟩ := (show ObjOk X.prog X.w H s.heap a (.frz ob (.lst xs)) from I.hok a _ ea)
    exact PySem.W.kia_one PySem.W.kitx_list I.kIn ⟨_, h1, rfl⟩ e (fun z => nomatch z) h
  | @tup a xs ea =>
    cases (show u = Value.ref a from rx)
    obtain ⟨_, _, _, p⟩ := (show ObjOk X.prog X.w H s.heap a (.tup xs) from I.hok a _ ea)
    obtain ⟨o, h1, h2, _⟩ := p
    exact PySem.W.kia_one PySem.W.kitx_tuple I.kIn ⟨o, h1, h2⟩ e (fun z => nomatch z) h
  | @dK a kvs ea =>
    cases (show u = Value.ref a from rx)
    obtain ⟨_, _, vs, _, p⟩ := (show ObjOk X.prog X.w H s.heap a (.dK kvs) from I.hok a _ ea)
    obtain ⟨o, es, ep, h1, h2, _⟩ := p
    exact PySem.W.kia_one PySem.W.kitx_dict I.kIn ⟨o, h1, h2.1⟩ e (fun z => nomatch z) h
  | @dT a kvs ea =>
    cases (show u = Value.ref a from rx)
    obtain ⟨_, _, xs, _, o, es, ep, h1, h2, _⟩ := (show ObjOk X.prog X.w H s.heap a (.dT kvs) from I.hok a _ ea)
    exact PySem.W.kia_one PySem.W.kitx_dict I.kIn ⟨o, h1, h2.1⟩ e (fun z => nomatch z) h
  | @ins a C dx fs ea cl ha hn htk hm =>
    cases (show u = Value.ref a from rx)
    obtain ⟨mA, O, _⟩ := ins_get I.hok ea
    obtain ⟨od, J, _⟩ := O.look
    exact PySem.W.kia_one (PySem.W.kitx_own (cl.get _) cl.hd ha hn htk hm) I.kIn J e (fun z => nomatch z) h
end
end L2

namespace L2
open PySem PySem.Spec PyProof.Rows

/-! ### room -/
structure Room (k : Nat) (A : Around) : Prop where
  hd : A.handled = none
  dp : A.depth + 3 * k + 5 < recursionLimit
  un : A.units + 16 * k + 200 < cLine
theorem Room.mono {j k : Nat} {A : Around} (r : Room k A) (h : j ≤ k) : Room j A := ⟨r.hd, by have := r.dp; lia, by have := r.un; lia⟩
theorem Room.deeper {k : Nat} {A : Around} (r : Room (k + 1) A) (env : Env) : Room k (A.deeper env) :=
  ⟨r.hd, by have := r.dp; show A.depth + 1 + 3 * k + 5 < _; lia, by have := r.un; show A.units + 3 + 16 * k + 200 < _; lia⟩
theorem Room.in1 {k : Nat} {A : Around} (r : Room (k + 1) A) : Room k A.in1 :=
  ⟨r.hd, by have := r.dp; show A.depth + 3 * k + 5 < _; lia, by have := r.un; show A.units + 1 + 16 * k + 200 < _; lia⟩
theorem Room.depth {k : Nat} {A : Around} (r : Room k A) : A.depth < recursionLimit := by have := r.dp; lia
theorem Room.units {k : Nat} {A : Around} (r : Room k A) : A.units + 64 < cLine := by have := r.un; lia
/-! ### argument lists and displays -/
noncomputable def tNil : TA := fun _ H Q => Q [] H
noncomputable def tCons (ta : TE) (tr : TA) : TA := fun σ H Q => ta σ H fun x H1 => tr σ H1 fun xs H2 => Q (x :: xs) H2
section
variable {X : Cx} {e : Expr} {es : List Expr} {te : TE} {t : TA} {pos : Pos}
theorem pa_nil : PA X [] tNil := fun _ _ _ _ H Q I h => Calls.spliced_nil ⟨[], H, I, .nil, h⟩
theorem pa_cons (ha : PE X e te) (hr : PA X es t) (hs : starEach (e :: es) X.env = (false, eval e X.env) :: starEach es X.env := by rfl) : PA X (e :: es) (tCons te t) := by
  intro pos pins s σ H Q I h
  rw [hs]
  show wpAny _ _ (spliced ((false, eval e X.env) :: backTo pos (starEach es X.env))) _ _ s
  refine Calls.spliced_cons (thn (ha pins s σ H _ I h) fun u s1 ⟨x, H1, I1, r1, q1⟩ => ?_)
  exact thn (hr pos pins s1 σ H1 _ I1 q1) fun us s2 ⟨xs, H2, I2, r2, q2⟩ => ⟨x :: xs, H2, I2, .cons r1 r2, q2⟩

/-- a tuple, a list of written items -/
noncomputable def tTup (t : TA) : TE := fun σ H Q => t σ H fun xs H1 => xs.length ≤ sizeLine ∧ ∀ p, H1 p = none → Q (.ref p) (upd H1 p (.tup xs))
noncomputable def tLst (t : TA) : TE := fun σ H Q => t σ H fun xs H1 => xs.length ≤ sizeLine ∧ ∀ p, H1 p = none → Q (.ref p) (upd H1 p (.lst xs))
theorem pe_tup {x1} (h : PA X es t) : PE X (.Tuple es x1 pos) (tTup t) := by
  intro pins s σ H Q I hq
  refine wpAny_Tuple_spliced (thn (h pos pins s σ H _ I hq) fun us s1 ⟨xs, H1, I1, r, z, q⟩ => ⟨by rw [← r.length]; exact z, ?_⟩)
  have hf : H1 s1.heap.objs.size = none := I1.hok.fresh (Nat.le_refl _)
  refine ⟨.ref s1.heap.objs.size, upd H1 s1.heap.objs.size (.tup xs), I1.laid (t' := s1.toks) (fun b u e => Heap.get?_push_of_some _ e) (Nat.le_refl _) ?_, rfl, q _ hf⟩
  exact ⟨z, us, r, ⟨_, Heap.get?_push_size _ rfl, rfl, _, rfl⟩⟩
theorem pe_lst (h : PA X es t) : PE X (.List es pos) (tLst t) := by
  intro pins s σ H Q I hq
  refine wpAny_List_spliced (thn (h pos pins s σ H _ I hq) fun us s1 ⟨xs, H1, I1, r, z, q⟩ => ⟨by rw [← r.length]; exact z, ?_⟩)
  have hf : H1 s1.heap.objs.size = none := I1.hok.fresh (Nat.le_refl _)
  refine ⟨.ref s1.heap.objs.size, upd H1 s1.heap.objs.size (.lst xs), I1.laid (t' := s1.toks) (fun b u e => Heap.get?_push_of_some _ e) (Nat.le_refl _) ?_, rfl, q _ hf⟩
  exact ⟨z, us, 0, r, Heap.get?_push_size _ rfl⟩
end

/-! ### what a def promises -/
/-- a def's promise: the bound arguments in the parameters' order, the heap, the wanted end, the wanted exception -/
noncomputable abbrev Sp := List V → Hp → VK → XK → Prop
/-- how an exception lies behind a call (file 08 gives it): the callers' frames, abstract heap and state ahead of the call, the wish, the exception, the state -/
noncomputable abbrev CXT := List Env → Hp → Shared → XK → Value → Shared → Prop

/-- the state at a call -/
structure Env0 (P : Program) (w : World) (K : PySem.W.Frag) (mg : Str → Option Value) (base : Heap) (A : Around) (outer : List Env) (s : Shared) (H : Hp) : Prop where
  frames : A.frames = some outer
  mod : Mod K mg base
  bs : ∀ b o, base.get? b = some o → s.heap.get? b = some o ∧ H b = none
  bsz : base.objs.size ≤ s.heap.objs.size
  funs : s.heap.FunFrames base outer
  frf : ∀ b ∈ frs outer, H b = none
  hok : HOk P w H s.heap
  bare : AllBare s.gens
/-- a call's end -/
noncomputable def CE (outer : List Env) (P : Program) (w : World) (H : Hp) (s : Shared) (Q : VK) (u : Value) (s' : Shared) : Prop :=
  ∃ v H', s'.os = s.os ∧ AllBare s'.gens ∧ Un (frs outer) [] H H' s.heap s'.heap ∧ HOk P w H' s'.heap ∧ RelV v u ∧ Q v H'
noncomputable def CR (CX : CXT) (outer : List Env) (P : Program) (w : World) (H : Hp) (s : Shared) (Q : VK) (E : XK) (r : Result) (s' : Shared) : Prop :=
  match r with
  | .ok (.ret u) => CE outer P w H s Q u s'
  | .ok _ => False
  | .error e => CX outer H s E e s'
structure FnOk (P : Program) (w : World) (K : PySem.W.Frag) (mg : Str → Option Value) (base : Heap) (CX : CXT) (k : Nat) (f : Addr) (fd : FuncData) (ps : List Str) (sp : Sp) : Prop where
  len : ∀ vs H Q E, sp vs H Q E → vs.length = ps.length
  run : ∀ (A : Around) (outer : List Env) (s : Shared) (H : Hp) (args : Args) (us : List Value) (vs : List V) (Q : VK) (E : XK), Room k A → Env0 P w K mg base A outer s H → BindsTo s fd args (ps.zip us) → Vals vs us → sp vs H Q E →
    codeAny (model P w) A (.call (.ref f) args) (CR CX outer P w H s Q E) s
theorem FnOk.mono {P : Program} {w : World} {K : PySem.W.Frag} {mg : Str → Option Value} {base : Heap} {CX : CXT} {j k : Nat} {f : Addr} {fd : FuncData} {ps : List Str} {sp : Sp} (F : FnOk P w K mg base CX j f fd ps sp) (h : j ≤ k) :
    FnOk P w K mg base CX k f fd ps sp := ⟨F.len, fun A outer s H args us vs Q E hr => F.run A outer s H args us vs Q E (hr.mono h)⟩
/-- a weaker promise -/
theorem FnOk.imp {P : Program} {w : World} {K : PySem.W.Frag} {mg : Str → Option Value} {base : Heap} {CX : CXT} {k : Nat} {f : Addr} {fd : FuncData} {ps : List Str} {sp sp' : Sp} (F : FnOk P w K mg base CX k f fd ps sp)
    (h : ∀ vs H Q E, sp' vs H Q E → sp vs H Q E) : FnOk P w K mg base CX k f fd ps sp' :=
  ⟨fun vs H Q E q => F.len vs H Q E (h _ _ _ _ q), fun A outer s H args us vs Q E hr he hb hv hs => F.run A outer s H args us vs Q E hr he hb hv (h _ _ _ _ hs)⟩

theorem Env0.in1 {P : Program} {w : World} {K : PySem.W.Frag} {mg : Str → Option Value} {base : Heap} {A : Around} {outer : List Env} {s : Shared} {H : Hp} (e : Env0 P w K mg base A outer s H) :
    Env0 P w K mg base A.in1 outer s H := ⟨e.frames, e.mod, e.bs, e.bsz, e.funs, e.frf, e.hok, e.bare⟩

section
variable {X : Cx} {pins : List (Addr × Obj)} {σ : St} {H : Hp} {s s' : Shared}
/-- from a body: what a callee wants -/
theorem Inv.env0 (I : Inv X pins σ H s) : Env0 X.prog X.w X.K X.mg X.base X.A X.stack s H :=
  ⟨I.ok.frames, I.ok.mod, I.bs, Nat.le_trans I.ok.bsz I.sz, I.stack, I.stkFree, I.hok, I.bare⟩
/-- behind a call -/
theorem Inv.after {Q : VK} {u : Value} (I : Inv X pins σ H s) (h : CE X.stack X.prog X.w H s Q u s') : EP X pins σ Q u s' := by
  obtain ⟨v, H', os, bare, un, hok, r, q⟩ := h
  obtain ⟨hh, g, d, t, os'⟩ := s'
  obtain rfl : os' = s.os := os
  exact ⟨v, H', I.call (h' := hh) (g' := g) (d' := d) (t' := t) (ch := []) un hok bare (fun b z => absurd z (by simp)), r, q⟩
end

/-! ### calls -/
/-- f(..): the written arguments, then the defaults dvs; E: what is wanted of an exception -/
noncomputable def tCall (sp : Sp) (dvs : List V) (E : XK) (t : TA) : TE := fun σ H Q => t σ H fun vs H1 => sp (vs ++ dvs) H1 Q E
/-- how the parameters are bound: us the positional arguments, kw the keywords' values by name, ds the defaults that fill up -/
noncomputable def Binds (K : PySem.W.Frag) (fd : FuncData) (ps : List Str) (ds : List Value) : Prop :=
  ∀ (s : Shared) (us : List Value), K.In s.heap → (us ++ ds).length = ps.length → BindsTo s fd ⟨us, []⟩ (ps.zip (us ++ ds))
/-- every parameter is given -/
theorem Binds.all {K : PySem.W.Frag} {fd : FuncData} {ps : List Str} (h : ∀ us : List Value, us.length = ps.length → bindArgs fd ⟨us, []⟩ = pure (ps.zip us)) : Binds K fd ps [] := fun s us _ hl => by
  rw [List.append_nil] at hl ⊢
  exact .of_eq (h us hl)

/-- an exception of a callee reaches what this body wants of exceptions -/
noncomputable def Passes (CX : CXT) (X : Cx) (E : XK) : Prop := ∀ (pins : List (Addr × Obj)) (σ : St) (H : Hp) (s : Shared) (e : Value) (s' : Shared), Inv X pins σ H s → CX X.stack H s E e s' → X.xe e s'

section
variable {X : Cx} {CX : CXT} {k : Nat} {f C : Addr} {fd : FuncData} {ps : List Str} {sp : Sp} {dvs : List V} {ds : List Value} {E : XK} {x m : Str} {p pos apos : Pos} {e o : Expr} {es : List Expr} {ta : TE} {t : TA}

/-- the callee runs -/
theorem run_fn {pins : List (Addr × Obj)} {σ : St} {H : Hp} {s : Shared} {Q : VK} {us : List Value} {vs : List V} (F : FnOk X.prog X.w X.K X.mg X.base CX k f fd ps sp) (hr : Room k X.A) (hb : Binds X.K fd ps ds) (hd : Vals dvs ds) (hx : Passes CX X E)
    (I : Inv X pins σ H s) (r : Vals vs us) (h : sp (vs ++ dvs) H Q E) : wpAny (model X.prog X.w) X.A (call (.ref f) us) (EP X pins σ Q) X.xe s := by
  have r2 : Vals (vs ++ dvs) (us ++ ds) := r.append hd
  have hl : (us ++ ds).length = ps.length := by rw [← r2.length]; exact F.len _ _ _ _ h
  refine wpAny_call (codeAny_mono (F.run X.A X.stack s H ⟨us, []⟩ (us ++ ds) (vs ++ dvs) Q E hr I.env0 (hb s us I.kIn hl) r2 h) fun r s' hq => ?_)
  cases r with
  | error e => exact hx pins σ H s e s' I hq
  | ok fl =>
    cases fl with
    | ret u => exact I.after hq
    | next => exact False.elim hq
    | brk => exact False.elim hq
    | cont => exact False.elim hq

theorem pe_call (F : FnOk X.prog X.w X.K X.mg X.base CX k f fd ps sp) (hr : Room k X.A) (hg : Gl X x) (hm : X.mg x = some (.ref f)) (hk : PySem.W.keepIn X.K (.ref f) = true) (hb : Binds X.K fd ps ds) (hd : Vals dvs ds) (hx : Passes CX X E)
    (ha : PA X (e :: es) t) (hdb : (x == ("__debug__" : Str)) = false := by decide) (he : starEach (e :: es) X.env = (false, eval e X.env) :: starEach es X.env := by rfl) (hpl : (backTo pos (starEach es X.env)).any (·.1) = false := by rfl) :
    PE X (.Call (.Name x p) (e :: es) [] pos) (tCall sp dvs E t) := by
  intro pins s σ H Q I h
  refine wpAny_Call_Name_kw (ld_glob I hg hm ?_ hdb)
  refine PySem.W.callWith_K (h₀ := X.base) I.ok.mod.kin hk (thn (ha pos pins s σ H _ I h) fun us s1 ⟨vs, H1, I1, r, q⟩ => ⟨I1.kIn, ?_⟩) he hpl
  exact run_fn F hr hb hd hx I1 r q
/-- what a class must have to be made -/
structure Mk (K : PySem.W.Frag) (C f : Addr) : Prop where
  makes : PySem.W.makesIn K C = true
  init : PySem.W.findIn K (.ref C) "__init__" = some (some (.ref f))
  fn : PySem.W.isFn K (.ref f) = true
  kp : PySem.W.keepIn K (.ref C) = true

end

/-! ### keywords -/
section
variable {X : Cx} {CX : CXT} {k : Nat} {f C : Addr} {fd : FuncData} {ps ks : List Str} {sp : Sp} {E : XK} {x m : Str} {p pos apos kpos : Pos} {e o : Expr} {es : List Expr} {kws : List Keyword} {te ta : TE} {t tk : TA} {nm : Option Str}
/-- how a call with keywords binds: g puts the positional values us and the keywords' values ws (names ks) in the parameters' order, defaults among them -/
structure KBinds (K : PySem.W.Frag) (fd : FuncData) (ps ks : List Str) (g : List Value → List Value → List Value) (gV : List V → List V → List V) : Prop where
  to : ∀ (s : Shared) (us ws : List Value), K.In s.heap → (g us ws).length = ps.length → BindsTo s fd ⟨us, ks.zip ws⟩ (ps.zip (g us ws))
  rel : ∀ {vs : List V} {us : List Value} {zs : List V} {ws : List Value}, Vals vs us → Vals zs ws → Vals (gV vs zs) (g us ws)
variable {g : List Value → List Value → List Value} {gV : List V → List V → List V}
end

/-! ### a def's body keeps its promise -/
/-- names: the parameters first -/
structure FnScope (N P : List Str) (sc : Scope) : Prop where
  kind : sc.kind = .function
  co : sc.isCoroutine = false
  gen : sc.isGenerator = false
  nd : N.Nodup
  pre : N.take P.length = P
  par : ∀ x ∈ P, sc.names.lookup x = some .local ∨ sc.names.lookup x = some .cell
  nofree : ∀ y ∈ sc.names, y.2 ≠ .free

theorem bindL_out {kindOf : Str → Option NameKind} {x : Str} : ∀ {binds : List (Str × Value)} {m : Str → Option Value}, (∀ v, (x, v) ∉ binds) → bindL kindOf binds m x = m x
  | [], _, _ => rfl
  | (n, v) :: r, m, h => by
    unfold bindL
    rw [bindL_out fun w hw => h w (List.mem_cons_of_mem _ hw)]
    split
    · have : x ≠ n := by rintro rfl; exact h v List.mem_cons_self
      simp [this]
    · rfl
theorem bindC_out {kindOf : Str → Option NameKind} {x : Str} : ∀ {binds : List (Str × Value)} {m : Str → Option Value}, (∀ v, (x, v) ∉ binds) → bindC kindOf binds m x = m x
  | [], _, _ => rfl
  | (n, v) :: r, m, h => by
    unfold bindC
    rw [bindC_out fun w hw => h w (List.mem_cons_of_mem _ hw)]
    split
    · rfl
    · have : x ≠ n := by rintro rfl; exact h v List.mem_cons_self
      simp [this]
theorem bindL_get {kindOf : Str → Option NameKind} {x : Str} {v : Value} : ∀ {P : List Str} {vs : List Value} {i : Nat} {m : Str → Option Value}, P.Nodup → P[i]? = some x → vs[i]? = some v → kindOf x = some .local →
    bindL kindOf (P.zip vs) m x = some v
  | [], _, _, _, _, h, _, _ => by simp at h
  | _ :: _, [], _, _, _, _, h, _ => by simp at h
  | p :: P, w :: vs, 0, m, nd, h1, h2, hk => by
    simp at h1 h2; subst h1; subst h2
    show bindL kindOf ((p, w) :: P.zip vs) m p = _
    unfold bindL
    rw [bindL_out fun v hv => (List.nodup_cons.mp nd).1 (List.of_mem_zip hv).1, if_pos hk]
    simp
  | p :: P, w :: vs, i + 1, m, nd, h1, h2, hk => by
    show bindL kindOf ((p, w) :: P.zip vs) m x = _
    unfold bindL
    exact bindL_get (i := i) (List.nodup_cons.mp nd).2 (by simpa using h1) (by simpa using h2) hk
theorem bindC_get {kindOf : Str → Option NameKind} {x : Str} {v : Value} : ∀ {P : List Str} {vs : List Value} {i : Nat} {m : Str → Option Value}, P.Nodup → P[i]? = some x → vs[i]? = some v → kindOf x ≠ some .local →
    bindC kindOf (P.zip vs) m x = some v
  | [], _, _, _, _, h, _, _ => by simp at h
  | _ :: _, [], _, _, _, _, h, _ => by simp at h
  | p :: P, w :: vs, 0, m, nd, h1, h2, hk => by
    simp at h1 h2; subst h1; subst h2
    show bindC kindOf ((p, w) :: P.zip vs) m p = _
    unfold bindC
    rw [bindC_out fun v hv => (List.nodup_cons.mp nd).1 (List.of_mem_zip hv).1, if_neg hk]
    simp
  | p :: P, w :: vs, i + 1, m, nd, h1, h2, hk => by
    show bindC kindOf ((p, w) :: P.zip vs) m x = _
    unfold bindC
    exact bindC_get (i := i) (List.nodup_cons.mp nd).2 (by simpa using h1) (by simpa using h2) hk

/-- the names' values at the entry -/
noncomputable def start (N : List Str) (vs : List V) : St := vs.map some ++ List.replicate (N.length - vs.length) none

/-- the context of a def's body, at its entry; an exception leaves the frame, then lies as CX says -/
noncomputable def cxOf (CX : CXT) (P : Program) (w : World) (K : PySem.W.Frag) (mg : Str → Option Value) (base : Heap) (N : List Str) (qual : Str) (scope : Scope) (f : Addr) (cd : Value) (A : Around) (outer : List Env) (s : Shared) (H : Hp) (E : XK) : Cx where
  prog := P
  w := w
  K := K
  mg := mg
  base := base
  A := A.deeper (envOfC qual scope s.heap.objs.size f cd)
  N := N
  s₀ := s
  H₀ := H
  env := envOfC qual scope s.heap.objs.size f cd
  outer := outer
  stack := envOfC qual scope s.heap.objs.size f cd :: outer
  ex := []
  calm := true
  fn := fun _ => true
  pn := []
  xe := fun e s' => wpAny (model P w) (A.deeper (envOfC qual scope s.heap.objs.size f cd)) (leaving (envOfC qual scope s.heap.objs.size f cd) e) (fun _ s'' => CX outer H s E e s'') (fun e' s'' => CX outer H s E e' s'') s'

theorem cell_has {sc : Scope} {n : Nat} {x : Str} (h : sc.names.lookup x = some .cell) : ∃ c, (cellsFrom n sc.names []).lookup x = some c := by
  have q := PySem.W.cellsFrom_some sc.names n [] (.inl h)
  exact Option.isSome_iff_exists.mp q

theorem inv_start {CX : CXT} {P : Program} {w : World} {K : PySem.W.Frag} {mg : Str → Option Value} {base : Heap} {N ps : List Str} {qual : Str} {scope : Scope} {f : Addr} {cd : Value} {A : Around} {outer : List Env} {s s1 : Shared} {H : Hp} {E : XK} {us : List Value} {vs : List V}
    (S : FnScope N ps scope) (hd : A.handled = none) (e0 : Env0 P w K mg base A outer s H) (hl : vs.length = ps.length) (r : Vals vs us)
    (x : InCallC s s.heap.objs.size (bindL (envOfC qual scope s.heap.objs.size f cd).kindOf (ps.zip us) fun _ => none) (cellsFrom (s.heap.objs.size + 1) scope.names []) (bindC (envOfC qual scope s.heap.objs.size f cd).kindOf (ps.zip us) fun _ => none) s1) :
    Inv (cxOf CX P w K mg base N qual scope f cd A outer s H E) [] (start N vs) H s1 := by
  have hpl : ps.length ≤ N.length := by have := congrArg List.length S.pre; rw [List.length_take] at this; lia
  obtain ⟨h1, tk, rfl, hk⟩ := x.done
  have noA : ∀ b : Addr, b ∉ (cxOf CX P w K mg base N qual scope f cd A outer s H E).ex := fun b z => absurd (show b ∈ ([] : List Addr) from z) (by simp)
  refine ⟨⟨e0.mod, S.kind, rfl, rfl, Nat.le_refl _, fun y z c h1 h2 => ?_, fun y hy => ?_, fun y c _ h => ?_, fun _ => hd, Around.frames_deeper e0.frames, .inr ⟨rfl, rfl⟩, fun b z => absurd z (noA b), e0.bs, e0.bsz, fun b _ _ => noA b, fun b z => absurd z (noA b), e0.funs, e0.frf⟩,
    rfl, e0.bare, Un.kept hk, ⟨_, x.toInCall.ns, fun i y v h1 h2 h3 => ?_⟩, fun y c h => ⟨_, x.cell y c h⟩, e0.hok.fresh (Nat.le_refl _), fun y c h => ?_, fun p hp => absurd (show p ∈ ([] : List (Addr × Obj)) from hp) (by simp), e0.hok.kept hk, ?_⟩
  · exact name_of_addr x.apart (PySem.mem_of_lookup h1) (PySem.mem_of_lookup h2)
  · have hy : scope.names.lookup y = some .cell ∨ scope.names.lookup y = some .free := hy
    rcases hy with hy | hy
    · exact cell_has hy
    · exact absurd rfl (S.nofree _ (PySem.mem_of_lookup hy))
  · exact Nat.le_of_lt (x.above y c (PySem.mem_of_lookup h))
  · have hi : i < vs.length := by
      unfold start at h2
      by_cases hi : i < vs.length
      · exact hi
      · rw [List.getElem?_append_right (by simpa using hi)] at h2
        rw [List.getElem?_replicate] at h2
        split at h2 <;> cases h2
    have ha : vs[i]? = some v := by
      unfold start at h2
      rw [List.getElem?_append_left (by simpa using hi), List.getElem?_map] at h2
      cases e : vs[i]? with
      | none => rw [e] at h2; cases h2
      | some a => rw [e] at h2; cases h2; rfl
    obtain ⟨u, hu, rv⟩ := r.get ha
    have hp : ps[i]? = some y := by
      rw [← S.pre, List.getElem?_take_of_lt (by lia)]; exact h1
    have ndP : ps.Nodup := by rw [← S.pre]; exact S.nd.sublist (List.take_sublist _ _)
    refine ⟨u, rv, ?_⟩
    rcases S.par y (List.mem_of_getElem? hp) with k | k
    · exact .inl ⟨k, bindL_get ndP hp hu k⟩
    · obtain ⟨c, e⟩ := cell_has (n := s.heap.objs.size + 1) k
      refine .inr ⟨.inl k, c, e, ?_⟩
      have q := x.cell y c e
      rw [bindC_get ndP hp hu (by show scope.names.lookup y ≠ _; rw [k]; decide)] at q
      exact q
  · exact e0.hok.fresh (Nat.le_of_lt (x.above y c (PySem.mem_of_lookup h)))
  · unfold start
    show _ = N.length
    rw [List.length_append, List.length_map, List.length_replicate]
    lia

/-- THE RULE: a def (or a method) of the text, by its body. The body's reading t is chosen for each entry; it is run at the parameters' values -/
theorem fn_of {CX : CXT} {P : Program} {w : World} {K : PySem.W.Frag} {mg : Str → Option Value} {base : Heap} {k : Nat} {f : Addr} {name qual : Str} {params : Arguments} {body : List Stmt} {scope : Scope} {dV kV doc pm cdv ct oc : Value} {an od : Option Addr}
    {osl : Array (Option Value)} {N ps : List Str} {sp : Sp} (lk : K.lookup f = some ⟨oc, od, .func (PySem.W.fnOf name qual params body scope dV kV doc pm an cdv ct), osl⟩) (hcd : PySem.W.codeIn K cdv qual = true) (S : FnScope N ps scope)
    (len : ∀ vs H Q E, sp vs H Q E → vs.length = ps.length)
    (hbody : ∀ (A : Around) (outer : List Env) (s : Shared) (H : Hp) (vs : List V) (Q : VK) (E : XK), Room k (A.deeper (envOfC qual scope s.heap.objs.size f cdv)) → sp vs H Q E →
      ∃ t, PSs (cxOf CX P w K mg base N qual scope f cdv A outer s H E) body t ∧ t { nx := fun _ H' => Q .non H', rt := Q } (start N vs) H) :
    FnOk P w K mg base CX (k + 1) f (PySem.W.fnOf name qual params body scope dV kV doc pm an cdv ct) ps sp := by
  refine ⟨len, fun A outer s H args us vs Q E hr e0 hb r hsp => ?_⟩
  have hl := len _ _ _ _ hsp
  have KX : K.In s.heap := e0.mod.kin.keeps fun b o e => (e0.bs b o e).1
  have lim : s.heap.NoLimit := e0.mod.nolimit.keeps fun b o e => (e0.bs b o e).1
  have hkind : ∀ y ∈ ps.zip us, scope.names.lookup y.1 = some .local ∨ (scope.names.lookup y.1 = some .cell ∧ ((cellsFrom (s.heap.objs.size + 1) scope.names []).lookup y.1).isSome = true) := fun ⟨n, v⟩ hy => by
    rcases S.par n (List.of_mem_zip hy).1 with q | q
    · exact .inl q
    · exact .inr ⟨q, PySem.W.cellsFrom_some _ _ _ (.inl q)⟩
  refine codeAny_call_function hr.depth (KX _ _ lk) rfl S.co S.gen rfl (PySem.W.codeRec_of KX hcd) (hb _ _ _ _ ?_)
  refine wpAny_newFunctionEnv_cells S.kind hkind fun env he s1 x => ?_
  subst he
  refine ⟨lim.keeps x.toInCall.keep, codeAny_func ?_⟩
  obtain ⟨t, ht, hq⟩ := hbody A outer s H vs Q E (hr.deeper _) hsp
  have I : Inv (cxOf CX P w K mg base N qual scope f cdv A outer s H E) [] (start N vs) H s1 := inv_start S hr.hd e0 hl r x
  refine wpAny_mono (ht [] s1 (start N vs) H _ I hq) (fun fl s' hs => ?_) fun e s' hs => hs
  have fin : ∀ {σ' : St} {H' : Hp} {v : V} {u : Value}, Inv (cxOf CX P w K mg base N qual scope f cdv A outer s H E) [] σ' H' s' → RelV v u → Q v H' → CE outer P w H s Q u s' :=
    fun {σ' H' v u} J rv q => ⟨v, H', J.os, J.bare, J.base, J.hok, rv, q⟩
  cases fl with
  | ret u =>
    obtain ⟨v, σ', H', J, rv, q⟩ := hs
    exact fin J rv q
  | next =>
    obtain ⟨σ', H', J, q⟩ := hs
    exact fin (v := V.non) (u := Value.none) J rfl q
  | brk =>
    obtain ⟨_, _, _, q⟩ := hs
    exact False.elim q
  | cont =>
    obtain ⟨_, _, _, q⟩ := hs
    exact False.elim q
end L2

namespace L2
open PySem PySem.Spec PyProof.Rows
section
variable {X : Cx} {x : Str} {p pos : Pos} {e : Expr} {es : List Expr} {t : TA} {id T : String} {r : List V → Hp → VK → Prop}

noncomputable def tCB (r : List V → Hp → VK → Prop) (t : TA) : TE := fun σ H Q => t σ H fun vs H1 => r vs H1 Q
/-- f(e, ..), f a built-in function -/
theorem pe_callB (hc : CallR X (.builtin id) r) (hg : Gl X x) (hm : X.mg x = none) (hv : bootBuiltins x = some (.builtin id)) (ha : PA X (e :: es) t) (hn : x ≠ "__name__" := by decide) (hdb : (x == ("__debug__" : Str)) = false := by decide)
    (he : starEach (e :: es) X.env = (false, eval e X.env) :: starEach es X.env := by rfl) (hpl : (backTo pos (starEach es X.env)).any (·.1) = false := by rfl) : PE X (.Call (.Name x p) (e :: es) [] pos) (tCB r t) := by
  intro pins s σ H Q I h
  refine wpAny_Call_Name_kw (ld_blt I hg hm hv ?_ hn hdb)
  exact PyProof.Rows.callWith_builtin1 (thn (ha pos pins s σ H _ I h) fun us s1 ⟨vs, H1, I1, r1, q1⟩ => hc pins s1 σ H1 vs us Q I1 r1 q1) he hpl
/-- T(e, ..), T a built-in type -/
theorem pe_callTy (hc : CallR X (.type T) r) (hg : Gl X x) (hm : X.mg x = none) (hv : bootBuiltins x = some (.type T)) (ha : PA X (e :: es) t) (hn : x ≠ "__name__" := by decide) (hdb : (x == ("__debug__" : Str)) = false := by decide)
    (he : starEach (e :: es) X.env = (false, eval e X.env) :: starEach es X.env := by rfl) (hpl : (backTo pos (starEach es X.env)).any (·.1) = false := by rfl) : PE X (.Call (.Name x p) (e :: es) [] pos) (tCB r t) := by
  intro pins s σ H Q I h
  refine wpAny_Call_Name_kw (ld_blt I hg hm hv ?_ hn hdb)
  exact PyProof.Rows.callWith_type1 (thn (ha pos pins s σ H _ I h) fun us s1 ⟨vs, H1, I1, r1, q1⟩ => hc pins s1 σ H1 vs us Q I1 r1 q1) he hpl
end
end L2

namespace HT
open PySem PyProof.Rows

section
open PySem.SeqAt
open PySem.AutoSeq1 (wpAny_loadPart')
open PySem.MeetsSeq PySem.MeetsSeq2 PySem.MeetsSeq3

end

section
variable {prog : Program} {w : World} {A : Around} {E : Value → Shared → Prop} {s : Shared}

/-- t + u, t not empty -/
theorem cat_tup {t b : Addr} {vs ws : List Value} {Q : Value → Shared → Prop} (ht : IsTup s.heap t vs.toArray) (hb : IsTup s.heap b ws.toArray) (hv : vs ≠ [])
    (h1 : ws = [] → Q (.ref t) s) (h2 : ws ≠ [] → Q (.ref s.heap.objs.size) { s with heap := s.heap.push { cls := .type "tuple", data := .seq (vs ++ ws).toArray } })
    (hsz : vs.length + ws.length ≤ sizeLine) : wpAny (model prog w) A (binaryOp .Add (.ref t) (.ref b)) Q E s := by
  obtain ⟨⟨cls, dd, data, sl⟩, ho, hc, n, hd⟩ := id ht
  obtain ⟨⟨cls2, dd2, data2, sl2⟩, ho2, hc2, n2, hd2⟩ := id hb
  simp only at hc hd hc2 hd2
  subst hc hd hc2 hd2
  have e : vs.toArray ++ ws.toArray = (vs ++ ws).toArray := by simp
  by_cases hw : ws = []
  · exact concat_meets ⟨_, ho, rfl⟩ ⟨_, ho2, rfl⟩ noFill_tuple_add seq_tuple_add PySem.F.slot_tuple_add PySem.F.entry_tuple_add (PySem.F.args_tuple_add_2 _ _)
      (tuple_addW1 t b vs.toArray ws.toArray n n2 dd dd2 sl sl2 (by simpa using hv) (by simp [hw])) ⟨ho, ho2, h1 hw⟩
  · refine concat_meets ⟨_, ho, rfl⟩ ⟨_, ho2, rfl⟩ noFill_tuple_add seq_tuple_add PySem.F.slot_tuple_add PySem.F.entry_tuple_add (PySem.F.args_tuple_add_2 _ _)
      (tuple_addW2 t b vs.toArray ws.toArray n n2 dd dd2 sl sl2 (by simpa using hv) (by simpa using hw) (by rw [List.size_toArray, List.size_toArray]; exact hsz)) ⟨ho, ho2, ?_⟩
    rw [e]
    exact h2 hw

/-! ### t[a:b], not the whole -/
/-- a slice's bound as a place among n (d where it is left out) -/
noncomputable def sIx (n d : Nat) : Option Int → Nat
  | none => d
  | some v => if v < 0 then (v + (n : Int)).toNat else min v.toNat n
theorem sIx_le (n d : Nat) (hd : d ≤ n) (o : Option Int) : sIx n d o ≤ n := by
  cases o with
  | none => exact hd
  | some v =>
    show (if v < 0 then (v + (n : Int)).toNat else min v.toNat n) ≤ n
    by_cases hv : v < 0
    · rw [if_pos hv]; lia
    · rw [if_neg hv]; exact Nat.min_le_right _ _
theorem clip_eq (v : Int) (n d : Nat) : (if v < 0 then max (v + (n : Int)) 0 else min v (n : Int)) = ((sIx n d (some v) : Nat) : Int) := by
  show (if v < 0 then max (v + (n : Int)) 0 else min v (n : Int)) = (((if v < 0 then (v + (n : Int)).toNat else min v.toNat n) : Nat) : Int)
  by_cases hv : v < 0
  · simp only [if_pos hv]; lia
  · simp only [if_neg hv]; lia
theorem adjust_gen (lo hi : Option Int) (n : Nat) : Builtin.Slice.sliceAdjust lo hi 1 (n : Int) = (((sIx n 0 lo : Nat) : Int), ((sIx n n hi : Nat) : Int)) := by
  have h1 : ¬ ((1 : Int) < 0) := by lia
  unfold Builtin.Slice.sliceAdjust
  simp only [h1, if_false]
  refine Prod.ext ?_ ?_
  · cases lo with
    | none => rfl
    | some v => exact clip_eq v n 0
  · cases hi with
    | none => rfl
    | some v => exact clip_eq v n n
theorem places_gen (i j : Nat) : Builtin.Slice.slicePlaces (i : Int) (j : Int) 1 = j - i := by
  unfold Builtin.Slice.slicePlaces
  have h1 : (1 : Int) > 0 := by lia
  simp only [h1, if_true, Int.ediv_one]
  split <;> lia
theorem slicePart_ {v : Value} {o : Option Int} {Q : Option Int → Shared → Prop} (p : IsPart v o) (h : Q o s) : wpAny (model prog w) A (Builtin.Slice.slicePartIndex v) Q E s := by
  cases p with
  | none => exact slicePart_none h
  | int i t => exact slicePart_int h
theorem sliceApplied_gen {sl : Addr} {vl vu : Value} {lo hi : Option Int} {n : Nat} {Q : Int × Int × Nat → Shared → Prop} (hs : s.heap.IsSliceOf sl vl vu .none) (pl : IsPart vl lo) (pu : IsPart vu hi)
    (h : Q (((sIx n 0 lo : Nat) : Int), 1, sIx n n hi - sIx n 0 lo) s) : wpAny (model prog w) A (Builtin.Slice.sliceApplied (.ref sl) (pure (n : Int))) Q E s := by
  obtain ⟨os, hos, hcs, hds⟩ := id hs
  unfold Builtin.Slice.sliceApplied Builtin.Slice.sliceFields
  refine wpAny_bind (wpAny_bind (wpAny_field hos hds (x := vl) rfl (wpAny_bind (wpAny_field hos hds (x := vu) rfl (wpAny_bind (wpAny_field hos hds (x := .none) rfl (wpAny_pure ?_)))))))
  refine wpAny_bind (slicePart_none ?_)
  show wpAny _ _ (if ((1 : Int) == 0) = true then _ else _) _ _ s
  rw [if_neg (by decide)]
  refine wpAny_bind (slicePart_ pl (wpAny_bind (slicePart_ pu (wpAny_bind (wpAny_pure ?_)))))
  show wpAny _ _ (match Builtin.Slice.sliceAdjust lo hi 1 (n : Int) with | (lo, hi) => pure (lo, (1 : Int), Builtin.Slice.slicePlaces lo hi 1)) _ _ s
  rw [adjust_gen lo hi n]
  show wpAny _ _ (pure (((sIx n 0 lo : Nat) : Int), (1 : Int), Builtin.Slice.slicePlaces ((sIx n 0 lo : Nat) : Int) ((sIx n n hi : Nat) : Int) 1)) _ _ s
  rw [places_gen]
  exact wpAny_pure h
theorem pick_gen (xs : Array Value) (i k : Nat) : ((List.range k).filterMap fun (m : Nat) => xs[((i : Int) + (m : Int) * 1).toNat]?).toArray = ((xs.toList.drop i).take k).toArray := by
  have e : (fun (m : Nat) => xs[((i : Int) + (m : Int) * 1).toNat]?) = fun m => xs[i + m]? := by
    funext m
    have : ((i : Int) + (m : Int) * 1).toNat = i + m := by lia
    rw [this]
  rw [e]
  have := pick_run xs i k
  rw [List.filterMap_map] at this
  have e2 : ((fun x => xs[x]?) ∘ fun x => i + x) = fun m => xs[i + m]? := rfl
  rw [e2] at this
  rw [this]

theorem getItem_tuple_cut {t sl : Addr} {items : Array Value} {vl vu : Value} {lo hi : Option Int} {Q : Value → Shared → Prop} (ht : IsTup s.heap t items) (hs : s.heap.IsSliceOf sl vl vu .none) (pl : IsPart vl lo) (pu : IsPart vu hi)
    (hw : ¬ (sIx items.size 0 lo = 0 ∧ sIx items.size items.size hi = items.size))
    (h : Q (.ref s.heap.objs.size) { s with heap := s.heap.push { cls := .type "tuple", data := .seq ((items.toList.drop (sIx items.size 0 lo)).take (sIx items.size items.size hi - sIx items.size 0 lo)).toArray } })
    (hsz : items.size ≤ sizeLine) : wpAny (model prog w) A (getItem (.ref t) (.ref sl)) Q E s := by
  have htake : sizeOk (.seq ((items.toList.drop (sIx items.size 0 lo)).take (sIx items.size items.size hi - sIx items.size 0 lo)).toArray) := by
    show ((items.toList.drop (sIx items.size 0 lo)).take (sIx items.size items.size hi - sIx items.size 0 lo)).toArray.size ≤ sizeLine
    rw [List.size_toArray, List.length_take, List.length_drop, Array.length_toList]
    omega
  have hj : sIx items.size items.size hi ≤ items.size := sIx_le _ _ (Nat.le_refl _) hi
  obtain ⟨os, hos, hcs, hds⟩ := id hs
  have hTs : s.TypeIs (.ref sl) "slice" := ⟨os, hos, hcs⟩
  unfold getItem
  try with_reducible refine wpAny_holding ?_
  first | refine wpAny_bind (wpAny_pure ?_) | skip
  refine wpAny_bind (wpAny_sequenceKey ht.typeIs (by decide) ?_)
  refine wpAny_bind (wpAny_callSpecial?_slot (name := Str.ofString "__getitem__") ht.typeIs PyProof.Rows.slot_tuple_getitem
    (wpAny_call_entry PyProof.Rows.slot_tuple_getitem ht.typeIs entry_tuple_getitem ?_ (args_tuple_getitem _ _)))
  show wpAny _ _ (Builtin.Tuple.tupleItemsOf (.ref t) >>= _) _ _ s
  refine wpAny_bind (tupleItemsOf_ ht ?_)
  refine wpAny_bind (wpAny_typeOf hTs ?_)
  rw [if_pos (by decide)]
  refine wpAny_bind (sliceApplied_gen hs pl pu ?_)
  have hno : ¬ ((((sIx items.size 0 lo : Nat) : Int) == 0 && (1 : Int) == 1 && (sIx items.size items.size hi - sIx items.size 0 lo) == items.size) = true) := by
    intro q
    rw [Bool.and_eq_true, Bool.and_eq_true] at q
    have q1 : ((sIx items.size 0 lo : Nat) : Int) = 0 := eq_of_beq q.1.1
    have q2 : sIx items.size items.size hi - sIx items.size 0 lo = items.size := eq_of_beq q.2
    exact hw ⟨by omega, by omega⟩
  show wpAny _ _ (if (((sIx items.size 0 lo : Nat) : Int) == 0 && (1 : Int) == 1 && (sIx items.size items.size hi - sIx items.size 0 lo) == items.size) = true then _ else _) _ _ s
  rw [if_neg hno, pick_gen]
  first
    | exact wpAny_bind (m := Builtin.Tuple.tupleExact _) (wpAny_newObj_type (wpAny_pure ⟨_, rfl, wpAny_pure h⟩) htake)
    | exact wpAny_bind (m := Builtin.Tuple.tupleExact _) (wpAny_newObj_type (wpAny_bind (wpAny_pure (wpAny_pure ⟨_, rfl, wpAny_pure h⟩))) htake)
    | exact wpAny_bind (wpAny_bind (m := Builtin.Tuple.tupleExact _) (wpAny_newObj_type (wpAny_pure (wpAny_pure ⟨_, rfl, wpAny_pure h⟩)) htake))
    | exact wpAny_bind (wpAny_bind (m := Builtin.Tuple.tupleExact _) (wpAny_newObj_type (wpAny_pure ⟨_, rfl, wpAny_pure h⟩) htake))
end
end HT

namespace L2
open PySem PySem.Spec PyProof.Rows

/-! ### the parts of a slice -/
noncomputable abbrev TO := St → Hp → (Option Int → Hp → Prop) → Prop
/-- a slice's part (left out, or an int) -/
noncomputable def PO (X : Cx) (e : Option Expr) (t : TO) : Prop :=
  ∀ (pins : List (Addr × Obj)) (s : Shared) (σ : St) (H : Hp) (Q : Option Int → Hp → Prop), Inv X pins σ H s → t σ H Q →
    wpAny (model X.prog X.w) X.A (evalPart e X.env) (fun u s' => ∃ o H', Inv X pins σ H' s' ∧ IsPart u o ∧ Q o H') X.xe s
noncomputable def tNoPart : TO := fun _ H Q => Q none H
noncomputable def tPart (t : TE) : TO := fun σ H Q => t σ H fun x H1 => ∃ i, x = .int i ∧ Q (some i) H1

section
variable {X : Cx} {e : Expr} {te : TE} {lo hi : Option Expr} {tl th : TO} {pos p2 : Pos}

theorem po_none : PO X none tNoPart := by
  intro pins s σ H Q I h
  rw [evalPart_none]
  exact wpAny_pure ⟨none, H, I, .none, h⟩
theorem po_some (h : PE X e te) : PO X (some e) (tPart te) := by
  intro pins s σ H Q I hw
  rw [evalPart_some]
  refine thn (h pins s σ H _ I hw) fun u s1 ⟨x, H1, I1, r1, q1⟩ => ?_
  obtain ⟨i, rfl, q⟩ := q1
  obtain ⟨t, rfl⟩ := r1
  exact ⟨some i, H1, I1, .int i t, q⟩

/-- what a slice of a value is, by values: the slice object stands at sl -/
noncomputable def SlR (X : Cx) (r : V → Option Int → Option Int → Hp → VK → Prop) : Prop :=
  ∀ (pins : List (Addr × Obj)) (s : Shared) (σ : St) (H : Hp) (x : V) (v vl vu : Value) (lo hi : Option Int) (sl : Addr) (Q : VK), Inv X pins σ H s → RelV x v → s.heap.IsSliceOf sl vl vu .none → IsPart vl lo → IsPart vu hi → r x lo hi H Q →
    ∃ T id, typeLookup (.type T) "__getitem__" = pure (some (.builtin id)) ∧ s.TypeIs v T ∧ wpAny (model X.prog X.w) X.A (getItem v (.ref sl)) (EP X pins σ Q) X.xe s
theorem SlR.or {r r' : V → Option Int → Option Int → Hp → VK → Prop} (h : SlR X r) (h' : SlR X r') : SlR X (fun x lo hi H Q => r x lo hi H Q ∨ r' x lo hi H Q) := by
  intro pins s σ H x v vl vu lo hi sl Q I rx hs pl pu q
  rcases q with q | q
  · exact h pins s σ H x v vl vu lo hi sl Q I rx hs pl pu q
  · exact h' pins s σ H x v vl vu lo hi sl Q I rx hs pl pu q
noncomputable def tSl (r : V → Option Int → Option Int → Hp → VK → Prop) (te : TE) (tl th : TO) : TE := fun σ H Q => te σ H fun x H1 => tl σ H1 fun l H2 => th σ H2 fun u H3 => r x l u H3 Q
/-- a[lo:hi], any a -/
theorem pe_slice {r : V → Option Int → Option Int → Hp → VK → Prop} (hr : SlR X r) (he : PE X e te) (hl : PO X lo tl) (hu : PO X hi th) : PE X (.Subscript e (.Slice lo hi none p2) pos) (tSl r te tl th) := by
  intro pins s σ H Q I h
  refine Subscript_ (thn (he pins s σ H _ I h) fun v s1 ⟨x, H1, I1, r1, q1⟩ => ?_)
  refine wpAny_Slice (thn (hl pins s1 σ H1 _ I1 q1) fun vl s2 ⟨l, H2, I2, pl, q2⟩ => thn (hu pins s2 σ H2 _ I2 q2) fun vu s3 ⟨u, H3, I3, pu, q3⟩ => ?_)
  rw [evalPart_none]
  refine wpAny_pure ?_
  have I4 : Inv X pins σ H3 { s3 with heap := s3.heap.push { cls := .type "slice", data := .fields #[vl, vu, .none] } } := I3.kept (t' := s3.toks) fun b ob q => Heap.get?_push_of_some _ q
  obtain ⟨T, id, hT, ht, hg⟩ := hr pins { s3 with heap := s3.heap.push { cls := .type "slice", data := .fields #[vl, vu, .none] } } σ H3 x v vl vu l u s3.heap.objs.size Q I4 r1 (Heap.IsSliceOf.new ..) pl pu q3
  show wpAny (model X.prog X.w) X.A (subscriptTail e (.Slice lo hi none p2) v (.ref s3.heap.objs.size)) (EP X pins σ Q) X.xe { s3 with heap := s3.heap.push { cls := .type "slice", data := .fields #[vl, vu, .none] } }
  exact tail_any (ops := [.ref s3.heap.objs.size, v]) ht hT hg (by with_unfolding_all rfl)

/-- the items of xs[lo:hi] -/
noncomputable def cutV (xs : List V) (lo hi : Option Int) : List V := (xs.drop (HT.sIx xs.length 0 lo)).take (HT.sIx xs.length xs.length hi - HT.sIx xs.length 0 lo)
theorem cutV_length (xs : List V) (lo hi : Option Int) : (cutV xs lo hi).length ≤ xs.length := by
  unfold cutV
  rw [List.length_take, List.length_drop]
  lia
/-- t[lo:hi], not the whole of it (the whole would be t itself) -/
noncomputable def rSlT (K : PySem.W.Frag) : V → Option Int → Option Int → Hp → VK → Prop := fun x lo hi H Q => ∃ a xs, x = .ref a ∧ SqT K H a xs ∧
  ¬ (HT.sIx xs.length 0 lo = 0 ∧ HT.sIx xs.length xs.length hi = xs.length) ∧ ∀ p, H p = none → Q (.ref p) (upd H p (.tup (cutV xs lo hi)))
theorem sl_tup : SlR X (rSlT X.K) := by
  intro pins s σ H x v vl vu lo hi sl Q I rx hs pl pu h
  obtain ⟨a, xs, rfl, hx, hw, q⟩ := h
  cases rx
  obtain ⟨its, r, ht, hz⟩ := I.tuple hx
  have hlen : its.toArray.size = xs.length := by rw [List.size_toArray]; exact r.length.symm
  refine ⟨"tuple", _, PyProof.Rows.slot_tuple_getitem.lookup, ht.typeIs, ?_⟩
  refine HT.getItem_tuple_cut ht hs pl pu (by rw [hlen]; exact hw) ?_ (by rw [hlen]; exact hz)
  rw [hlen]
  refine ⟨.ref s.heap.objs.size, _, I.laid (t' := s.toks) (o := .tup (cutV xs lo hi)) (fun b ob q => Heap.get?_push_of_some _ q) (Nat.le_refl _) ?_, rfl, q _ (I.hok.fresh (Nat.le_refl _))⟩
  exact ⟨Nat.le_trans (cutV_length xs lo hi) hz, _, (r.drop (HT.sIx xs.length 0 lo)).take (HT.sIx xs.length xs.length hi - HT.sIx xs.length 0 lo), IsTup.new _ _⟩

/-! ### t < u, t + u -/
/-- t + u, t not empty: u empty gives t itself -/
noncomputable def rCatT (K : PySem.W.Frag) : R2 := fun x y H Q => ∃ a b xs ys, x = .ref a ∧ y = .ref b ∧ SqT K H a xs ∧ SqT K H b ys ∧ xs ≠ [] ∧ xs.length + ys.length ≤ sizeLine ∧
  (ys = [] → Q (.ref a) H) ∧ (ys ≠ [] → ∀ p, H p = none → Q (.ref p) (upd H p (.tup (xs ++ ys))))
theorem Vals.nil_iff {xs : List V} {us : List Value} (r : Vals xs us) : us = [] ↔ xs = [] := by
  cases r with
  | nil => simp
  | cons _ _ => simp
theorem op_catT : OpR X (binaryOp .Add) (rCatT X.K) := by
  intro pins s σ H x y v u Q I rx ry h
  obtain ⟨a, b, xs, ys, rfl, rfl, ha, hb, hx, hz, q1, q2⟩ := h
  cases rx
  cases ry
  obtain ⟨its, r1, p1, _⟩ := I.tuple ha
  obtain ⟨its2, r2, p2, _⟩ := I.tuple hb
  refine HT.cat_tup p1 p2 (fun z => hx (r1.nil_iff.mp z)) (fun z => ⟨.ref a, H, I, rfl, q1 (r2.nil_iff.mp z)⟩) (fun z => ?_) (by rw [← r1.length, ← r2.length]; exact hz)
  refine ⟨.ref s.heap.objs.size, _, I.laid (t' := s.toks) (o := .tup (xs ++ ys)) (fun b ob q => Heap.get?_push_of_some _ q) (Nat.le_refl _) ?_, rfl, q2 (fun w => z (r2.nil_iff.mpr w)) _ (I.hok.fresh (Nat.le_refl _))⟩
  exact ⟨by rw [List.length_append]; exact hz, _, r1.append r2, IsTup.new _ _⟩
end
end L2

namespace L2
open PySem PySem.Spec PyProof.Rows

/-! ### places -/
/-- the place that an index of any sign means -/
noncomputable def ixN (n : Nat) (i : Int) : Option Nat := if 0 ≤ i then (if i < n then some i.toNat else none) else if -(n : Int) ≤ i then some (i + n).toNat else none
noncomputable def atI {α : Type} (xs : List α) (i : Int) : Option α := (ixN xs.length i).bind fun j => xs[j]?
theorem ixN_seq {n : Nat} {i : Int} {j : Nat} (h : ixN n i = some j) : seqIndex? i n = some j ∧ j < n ∧ -(n : Int) ≤ i ∧ i < n := by
  unfold ixN at h
  by_cases h0 : 0 ≤ i
  · rw [if_pos h0] at h
    by_cases h1 : i < n
    · rw [if_pos h1] at h
      have e : i.toNat = j := Option.some.inj h
      exact ⟨by rw [seqIndex_of h0 h1, e], by lia, by lia, h1⟩
    · rw [if_neg h1] at h; cases h
  · rw [if_neg h0] at h
    by_cases h1 : -(n : Int) ≤ i
    · rw [if_pos h1] at h
      have e : (i + n).toNat = j := Option.some.inj h
      exact ⟨by rw [seqIndex_neg (by lia) h1, e], by lia, h1, by lia⟩
    · rw [if_neg h1] at h; cases h
theorem atI_get {α : Type} {xs : List α} {i : Int} {v : α} (h : atI xs i = some v) : ∃ j, seqIndex? i xs.length = some j ∧ xs[j]? = some v ∧ j < xs.length ∧ -(xs.length : Int) ≤ i ∧ i < xs.length := by
  unfold atI at h
  cases e : ixN xs.length i with
  | none => rw [e] at h; cases h
  | some j =>
    rw [e] at h
    obtain ⟨h1, h2, h3, h4⟩ := ixN_seq e
    exact ⟨j, h1, h, h2, h3, h4⟩
/-! ### what may be subscripted -/
/-- what stands as an index of a plain subscript -/
noncomputable def PlainIx (b : Expr) : Prop := ∀ o i, subscripted b false o i = operate [o, i] (getItem o i)
/-- a subscript by values -/
noncomputable def IxR (X : Cx) (r : R2) : Prop :=
  ∀ (value slice : Expr) (pins : List (Addr × Obj)) (s : Shared) (σ : St) (H : Hp) (x y : V) (v u : Value) (Q : VK), Inv X pins σ H s → RelV x v → RelV y u → r x y H Q →
    subscripted slice false v u = operate [v, u] (getItem v u) → wpAny (model X.prog X.w) X.A (subscriptTail value slice v u) (EP X pins σ Q) X.xe s
/-- a call of a builtin's method by values: the receiver, the arguments -/
noncomputable def MtR (X : Cx) (id : String) (r : V → List V → Hp → VK → Prop) : Prop :=
  ∀ (pins : List (Addr × Obj)) (s : Shared) (σ : St) (H : Hp) (x : V) (xs : List V) (v : Value) (us : List Value) (Q : VK), Inv X pins σ H s → RelV x v → Vals xs us → r x xs H Q →
    wpAny (model X.prog X.w) X.A (call (.builtin id) (v :: us)) (EP X pins σ Q) X.xe s
section
variable {X : Cx} {a b : Expr} {ta tb : TE} {pos : Pos}
theorem IxR.or {r r' : R2} (h : IxR X r) (h' : IxR X r') : IxR X (fun x y H Q => r x y H Q ∨ r' x y H Q) := by
  intro value slice pins s σ H x y v u Q I rx ry q hs
  rcases q with q | q
  · exact h value slice pins s σ H x y v u Q I rx ry q hs
  · exact h' value slice pins s σ H x y v u Q I rx ry q hs
theorem MtR.or {id : String} {r r' : V → List V → Hp → VK → Prop} (h : MtR X id r) (h' : MtR X id r') : MtR X id (fun x xs H Q => r x xs H Q ∨ r' x xs H Q) := by
  intro pins s σ H x xs v us Q I rx rs q
  rcases q with q | q
  · exact h pins s σ H x xs v us Q I rx rs q
  · exact h' pins s σ H x xs v us Q I rx rs q
/-- a[b] -/
theorem pe_ix {r : R2} (hr : IxR X r) (ha : PE X a ta) (hb : PE X b tb) (hs : PlainIx b) : PE X (.Subscript a b pos) (tOp r ta tb) := by
  intro pins s σ H Q I h
  exact Subscript_ (binT ha hb I h fun v u s2 x y H2 I2 rx ry q => hr a b pins s2 σ H2 x y v u Q I2 rx ry q (hs _ _))

noncomputable def rIxL (K : PySem.W.Frag) : R2 := fun x y H Q => ∃ p xs i v, x = .ref p ∧ y = .int i ∧ SqL K H p xs ∧ atI xs i = some v ∧ Q v H
noncomputable def rIxT (K : PySem.W.Frag) : R2 := fun x y H Q => ∃ p xs i v, x = .ref p ∧ y = .int i ∧ SqT K H p xs ∧ atI xs i = some v ∧ Q v H
theorem ix_list : IxR X (rIxL X.K) := by
  intro value slice pins s σ H x y v u Q I rx ry h hs
  obtain ⟨p, xs, i, z, rfl, rfl, hq, he, q⟩ := h
  cases rx
  obtain ⟨t, rfl⟩ := ry
  obtain ⟨its, r, pl, hz⟩ := I.list hq
  obtain ⟨j, h1, h2, h3, h4, h5⟩ := atI_get he
  obtain ⟨w, ew, rw'⟩ := r.get h2
  have hl := r.length
  have hn := line63
  have fin : EP X pins σ Q w s := ⟨z, H, I, rw', q⟩
  by_cases h0 : 0 ≤ i
  · have hj : i.toNat = j := by
      rw [seqIndex_of h0 h5] at h1
      exact Option.some.inj h1
    exact item_listR pl.isList h0 (by lia) (by rw [hj]; simpa using ew) fin hs
  · have hj : (i + (its.toArray.size : Int)).toNat = j := by
      rw [seqIndex_neg (by lia) h4] at h1
      rw [List.size_toArray, ← hl]
      exact Option.some.inj h1
    exact subscriptTail_builtinR (x := w) pl.isList.typeIs slot_list_getitem.lookup
      (wpAny_getItem_list_neg (Q := fun r s' => r = w ∧ EP X pins σ Q r s') pl.isList (by lia) (by rw [List.size_toArray] <;> lia) (by lia) (by rw [hj]; simpa using ew) ⟨rfl, fin⟩) hs
theorem ix_tup : IxR X (rIxT X.K) := by
  intro value slice pins s σ H x y v u Q I rx ry h hs
  obtain ⟨p, xs, i, z, rfl, rfl, hq, he, q⟩ := h
  cases rx
  obtain ⟨t, rfl⟩ := ry
  obtain ⟨its, r, pl, hz⟩ := I.tuple hq
  obtain ⟨j, h1, h2, h3, h4, h5⟩ := atI_get he
  obtain ⟨w, ew, rw'⟩ := r.get h2
  have hl := r.length
  have hn := line63
  have fin : EP X pins σ Q w s := ⟨z, H, I, rw', q⟩
  exact subscriptTail_builtinR (x := w) pl.typeIs slot_tuple_getitem.lookup
    (getItem_tuple (j := j) (Q := fun r s' => r = w ∧ EP X pins σ Q r s') pl (by lia) (by lia) (by rw [List.size_toArray, ← hl]; exact h1) (by simpa using ew) ⟨rfl, fin⟩) hs
/-! ### xs[i] = v, any sign -/
/-- the list's object behind a store -/
theorem mapSeq_set (its : List Value) (n j : Nat) (u : Value) : Obj.mapSeq (·.setIfInBounds j u) { cls := .type "list", data := .seq its.toArray n } = { cls := .type "list", data := .seq (its.set j u).toArray n } := by
  simp [Obj.mapSeq]
theorem Inv.lst {pins : List (Addr × Obj)} {σ : St} {H : Hp} {s : Shared} {p : Addr} {xs : List V} (I : Inv X pins σ H s) (h : H p = some (.lst xs)) :
    ∃ (its : List Value) (n : Nat), Vals xs its ∧ s.heap.get? p = some { cls := .type "list", data := .seq its.toArray n } ∧ xs.length ≤ sizeLine := by
  obtain ⟨z, its, n, r, e⟩ := I.hok p _ h
  exact ⟨its, n, r, e, z⟩
/-- the list at p is written by an update of its object -/
theorem Inv.lstUpd {pins : List (Addr × Obj)} {σ : St} {H : Hp} {s : Shared} {p : Addr} {xs ys : List V} {its its' : List Value} {n n' : Nat} {f : Obj → Obj} (I : Inv X pins σ H s) (h : H p = some (.lst xs))
    (ho : s.heap.get? p = some { cls := .type "list", data := .seq its.toArray n }) (hf : f { cls := .type "list", data := .seq its.toArray n } = { cls := .type "list", data := .seq its'.toArray n' }) (r : Vals ys its') (hz : ys.length ≤ sizeLine) (t : Nat) :
    Inv X pins σ (upd H p (.lst ys)) { s with heap := s.heap.update p f, toks := t } := by
  have e : (s.heap.update p f).get? p = some { cls := .type "list", data := .seq its'.toArray n' } := by
    rw [Heap.get?_update_self f ho (by rw [hf] <;> rfl), hf]
  refine I.write (x := p) (e := p) (by rw [h]; trivial) (.inl rfl) (fun b u hb q => (Heap.get?_update_other _ _ (Ne.symm hb)).trans q) ⟨_, e⟩ ?_
  exact ⟨hz, its', n', r, e⟩
noncomputable def rSetL : V → V → V → Hp → (Hp → Prop) → Prop := fun o i v H Q => ∃ p xs k j, o = .ref p ∧ i = .int k ∧ H p = some (.lst xs) ∧ ixN xs.length k = some j ∧ Q (upd H p (.lst (xs.set j v)))
theorem set_list : PSet X rSetL := by
  intro pins s σ H o i v ov iv u Q I ro ri rv h
  obtain ⟨p, xs, k, j, rfl, rfl, hp, hj, q⟩ := h
  cases ro
  obtain ⟨t, rfl⟩ := ri
  obtain ⟨its, n, r, ho, hz⟩ := I.lst hp
  obtain ⟨h1, h2, h3, h4⟩ := ixN_seq hj
  have hl := r.length
  have hn := line63
  have I' : Inv X pins σ (upd H p (.lst (xs.set j v))) { s with heap := s.heap.update p (Obj.mapSeq (·.setIfInBounds j u)) } :=
    I.lstUpd hp ho (mapSeq_set its n j u) (r.set rv j) (by rw [List.length_set]; exact hz) s.toks
  by_cases h0 : 0 ≤ k
  · have hk : k.toNat = j := by
      rw [seqIndex_of h0 h4] at h1
      exact Option.some.inj h1
    exact PySem.W.ki_setAt ho h0 (by lia) (by rw [List.size_toArray, ← hl]; exact h4) (by rw [hk]; exact ⟨_, I', q⟩)
  · have hk : (k + (its.toArray.size : Int)).toNat = j := by
      rw [seqIndex_neg (by lia) h3] at h1
      rw [List.size_toArray, ← hl]
      exact Option.some.inj h1
    exact PySem.W.ki_setBack ho (by lia) (by rw [List.size_toArray, ← hl]; exact h3) (by lia) (by rw [hk]; exact ⟨_, I', q⟩)

/-! ### slices -/
theorem slice_bounds (lo hi : Option Int) (n : Nat) : (sliceBounds lo hi none n).1 = ((HT.sIx n 0 lo : Nat) : Int) ∧ (sliceBounds lo hi none n).2.1 = ((HT.sIx n n hi : Nat) : Int) ∧ (sliceBounds lo hi none n).2.2 = 1 := by
  refine ⟨?_, ?_, rfl⟩
  · cases lo with
    | none => simp [sliceBounds, HT.sIx]
    | some i =>
      simp only [sliceBounds, HT.sIx, Option.getD_none, show (1 : Int) > 0 by decide, if_true]
      by_cases h : i < 0
      · simp only [h, if_true] <;> lia
      · simp only [h, if_false] <;> lia
  · cases hi with
    | none => simp [sliceBounds, HT.sIx]
    | some i =>
      simp only [sliceBounds, HT.sIx, Option.getD_none, show (1 : Int) > 0 by decide, if_true]
      by_cases h : i < 0
      · simp only [h, if_true] <;> lia
      · simp only [h, if_false] <;> lia
theorem slicePick_cut (its : List Value) (lo hi : Option Int) : slicePick its.toArray lo hi none = ((its.drop (HT.sIx its.length 0 lo)).take (HT.sIx its.length its.length hi - HT.sIx its.length 0 lo)).toArray := by
  obtain ⟨h1, h2, h3⟩ := slice_bounds lo hi its.toArray.size
  unfold slicePick
  rw [h1, h2, h3]
  simp only [sliceRange_one, pick_run, List.size_toArray] <;> rfl
/-- xs[lo:hi] of a list: a new list -/
noncomputable def rSlL (K : PySem.W.Frag) : V → Option Int → Option Int → Hp → VK → Prop := fun x lo hi H Q => ∃ a xs, x = .ref a ∧ SqL K H a xs ∧ ∀ p, H p = none → Q (.ref p) (upd H p (.lst (cutV xs lo hi)))
theorem sl_list : SlR X (rSlL X.K) := by
  intro pins s σ H x v vl vu lo hi sl Q I rx hs pl pu h
  obtain ⟨a, xs, rfl, hx, q⟩ := h
  cases rx
  obtain ⟨its, r, ht, hz⟩ := I.list hx
  have hlen := r.length
  refine ⟨"list", _, slot_list_getitem.lookup, ht.isList.typeIs, ?_⟩
  refine wpAny_getItem_list_slice ht.isList hs pl pu .none (by simp) ?_ (by rw [List.size_toArray] <;> lia)
  rw [slicePick_cut, ← hlen]
  refine ⟨.ref s.heap.objs.size, _, I.laid (t' := s.toks) (o := .lst (cutV xs lo hi)) (fun b ob q => Heap.get?_push_of_some _ q) (Nat.le_refl _) ?_, rfl, q _ (I.hok.fresh (Nat.le_refl _))⟩
  exact ⟨Nat.le_trans (cutV_length xs lo hi) hz, _, 0, (r.drop (HT.sIx xs.length 0 lo)).take (HT.sIx xs.length xs.length hi - HT.sIx xs.length 0 lo), Heap.get?_push_size _ rfl⟩

/-! ### in, not in: flat items -/
noncomputable def flatV : V → Bool
  | .non => true
  | .bl _ => true
  | .int _ => true
  | .str _ => true
  | _ => false
/-- == of flat values -/
noncomputable def eqV : V → V → Bool
  | .non, .non => true
  | .bl a, .bl b => a == b
  | .bl a, .int b => (if a then 1 else 0) == b
  | .int a, .bl b => a == (if b then 1 else 0)
  | .int a, .int b => a == b
  | .str a, .str b => a == b
  | _, _ => false
theorem eqAt_V {A : Around} {s : Shared} {y x : V} {u v : Value} (ry : RelV y u) (rx : RelV x v) (fy : flatV y = true) (fx : flatV x = true) : SeqAt.EqAt A s u v (eqV y x) := by
  cases y with
  | non =>
    cases ry
    cases x with
    | non => cases rx; exact SeqAt.EqAt.same _
    | bl b => cases rx; exact SeqAt.EqAt.none_bool b
    | int b => obtain ⟨t, rfl⟩ := rx; exact SeqAt.EqAt.none_int b t
    | str b => obtain ⟨t, rfl⟩ := rx; exact SeqAt.EqAt.none_str b t
    | _ => exact absurd (show false = true from fx) Bool.false_ne_true
  | bl a =>
    cases ry
    cases x with
    | non => cases rx; exact SeqAt.EqAt.bool_none a
    | bl b => cases rx; exact SeqAt.EqAt.bool_bool a b
    | int b => obtain ⟨t, rfl⟩ := rx; exact SeqAt.EqAt.bool_int a b t
    | str b => obtain ⟨t, rfl⟩ := rx; exact SeqAt.EqAt.bool_str a b t
    | _ => exact absurd (show false = true from fx) Bool.false_ne_true
  | int a =>
    obtain ⟨t', rfl⟩ := ry
    cases x with
    | non => cases rx; exact SeqAt.EqAt.int_none a t'
    | bl b => cases rx; exact SeqAt.EqAt.int_bool a t' b
    | int b => obtain ⟨t, rfl⟩ := rx; exact SeqAt.EqAt.int_int a t' b t
    | str b => obtain ⟨t, rfl⟩ := rx; exact SeqAt.EqAt.int_str a t' b t
    | _ => exact absurd (show false = true from fx) Bool.false_ne_true
  | str a =>
    obtain ⟨t', rfl⟩ := ry
    cases x with
    | non => cases rx; exact SeqAt.EqAt.str_none a t'
    | bl b => cases rx; exact SeqAt.EqAt.str_bool a t' b
    | int b => obtain ⟨t, rfl⟩ := rx; exact SeqAt.EqAt.str_int a t' b t
    | str b => obtain ⟨t, rfl⟩ := rx; exact SeqAt.EqAt.str_str a t' b t
    | _ => exact absurd (show false = true from fx) Bool.false_ne_true
  | _ => exact absurd (show false = true from fy) Bool.false_ne_true
/-- the items' answers, read off the values (a value's own answer does not lean on its token) -/
noncomputable def eqU (x : V) (u : Value) : Bool := match u with
  | .none => eqV .non x
  | .bool b => eqV (.bl b) x
  | .int i _ => eqV (.int i) x
  | .str z _ => eqV (.str z) x
  | _ => false
theorem eqU_of {x y : V} {u : Value} (r : RelV y u) (f : flatV y = true) : eqU x u = eqV y x := by
  cases y with
  | non => cases r; rfl
  | bl b => cases r; rfl
  | int i => obtain ⟨t, rfl⟩ := r; rfl
  | str z => obtain ⟨t, rfl⟩ := r; rfl
  | _ => exact absurd (show false = true from f) Bool.false_ne_true
theorem any_eqU {x : V} : ∀ {xs : List V} {us : List Value}, Vals xs us → xs.all flatV = true → us.any (eqU x) = xs.any fun y => eqV y x
  | _, _, .nil, _ => rfl
  | y :: xs, u :: us, .cons r t, f => by
    rw [List.all_cons, Bool.and_eq_true] at f
    rw [List.any_cons, List.any_cons, eqU_of r f.1, any_eqU t f.2]
theorem mem_eqAt {A : Around} {s : Shared} {x : V} {v : Value} (rx : RelV x v) (fx : flatV x = true) : ∀ {xs : List V} {us : List Value}, Vals xs us → xs.all flatV = true → ∀ u ∈ us, SeqAt.EqAt A s u v (eqU x u)
  | _, _, .nil, _ => fun u hu => by cases hu
  | y :: xs, u :: us, .cons r t, f => fun u' hu => by
    rw [List.all_cons, Bool.and_eq_true] at f
    rcases List.mem_cons.mp hu with rfl | hu
    · rw [eqU_of r f.1]; exact eqAt_V r rx f.1 fx
    · exact mem_eqAt rx fx t f.2 u' hu
noncomputable def inV (x : V) (xs : List V) : Bool := xs.any fun y => eqV y x
/-- x in a list or tuple of flat items -/
noncomputable def rIn (K : PySem.W.Frag) (neg : Bool) : R2 := fun x y H Q => ∃ p xs, y = .ref p ∧ (SqL K H p xs ∨ SqT K H p xs) ∧ flatV x = true ∧ xs.all flatV = true ∧ Q (.bl (if neg then !inV x xs else inV x xs)) H
theorem op_in_seq : OpR X (compareOp .In) (rIn X.K false) := by
  intro pins s σ H x y v u Q I rx ry h
  obtain ⟨p, xs, rfl, hq, fx, fs, q⟩ := h
  cases ry
  rcases hq with hq | hq
  · obtain ⟨its, r, pl, hz⟩ := I.list hq
    refine SeqAt.in_listAt (eqU x) pl.isList (fun w hw => mem_eqAt rx fx r fs w (by simpa using hw)) ⟨.bl _, H, I, rfl, ?_⟩
    rw [show its.toArray.any (eqU x) = its.any (eqU x) by simp, any_eqU r fs]
    exact q
  · obtain ⟨its, r, pl, hz⟩ := I.tuple hq
    refine SeqAt.in_tupleAt (eqU x) pl (fun w hw => mem_eqAt rx fx r fs w (by simpa using hw)) ⟨.bl _, H, I, rfl, ?_⟩
    rw [show its.toArray.any (eqU x) = its.any (eqU x) by simp, any_eqU r fs]
    exact q
/-! ### len, list(x), tuple(x) of any list or tuple that is read -/
theorem CallR.or {f : Value} {r r' : List V → Hp → VK → Prop} (h : CallR X f r) (h' : CallR X f r') : CallR X f (fun xs H Q => r xs H Q ∨ r' xs H Q) := by
  intro pins s σ H xs us Q I rs q
  rcases q with q | q
  · exact h pins s σ H xs us Q I rs q
  · exact h' pins s σ H xs us Q I rs q
theorem call_list_of : CallR X (.type "list") (fun xs H Q => ∃ p ys, xs = [.ref p] ∧ (SqL X.K H p ys ∨ SqT X.K H p ys) ∧ ∀ l, H l = none → Q (.ref l) (upd H l (.lst ys))) := by
  intro pins s σ H xs us Q I r h
  obtain ⟨p, ys, rfl, hq, q⟩ := h
  obtain ⟨u, rfl, rx⟩ := vals1 r
  cases rx
  have fin : ∀ (its : List Value), Vals ys its → ys.length ≤ sizeLine → ∀ (h' : Heap) (c' : Nat), (∀ b o', s.heap.get? b = some o' → h'.get? b = some o') →
      h'.get? s.heap.objs.size = some { cls := .type "list", dict := none, data := .seq its.toArray c', slots := #[] } → EP X pins σ Q (.ref s.heap.objs.size) { s with heap := h' } := fun its r' hz h' c' kp e =>
    ⟨.ref s.heap.objs.size, _, I.laid (t' := s.toks) kp (Nat.le_refl _) (show ObjOk X.prog X.w _ h' _ (.lst ys) from ⟨hz, its, c', r', e⟩), rfl, q _ (I.hok.fresh (Nat.le_refl _))⟩
  rcases hq with hq | hq
  · obtain ⟨its, r', pl, hz⟩ := I.list hq
    have hlen := r'.length
    obtain ⟨o, ho, hc, n, hd⟩ := pl.isList
    exact call_list_seq p (.inl rfl) ho hc hd (fun h' c' kp e => fin its r' hz h' c' kp e) (by simp only [List.size_toArray] <;> lia)
  · obtain ⟨its, r', pl, hz⟩ := I.tuple hq
    have hlen := r'.length
    obtain ⟨o, ho, hc, n, hd⟩ := pl
    exact call_list_seq p (.inr rfl) ho hc hd (fun h' c' kp e => fin its r' hz h' c' kp e) (by simp only [List.size_toArray] <;> lia)
theorem call_tuple_of : CallR X (.type "tuple") (fun xs H Q => ∃ p ys, xs = [.ref p] ∧ ((SqL X.K H p ys ∧ ∀ l, H l = none → Q (.ref l) (upd H l (.tup ys))) ∨ (SqT X.K H p ys ∧ Q (.ref p) H))) := by
  intro pins s σ H xs us Q I r h
  obtain ⟨p, ys, rfl, h⟩ := h
  obtain ⟨u, rfl, rx⟩ := vals1 r
  cases rx
  rcases h with ⟨hq, q⟩ | ⟨hq, q⟩
  · obtain ⟨its, r', pl, hz⟩ := I.list hq
    have hlen := r'.length
    refine call_tuple_list pl.isList (fun h' kp => ?_) (by simp only [List.size_toArray] <;> lia)
    have I1 : Inv X pins σ H { s with heap := h' } := I.kept (t' := s.toks) kp
    have I2 : Inv X pins σ (upd H h'.objs.size (.tup ys)) { s with heap := h'.push { cls := .type "tuple", data := .seq its.toArray } } :=
      I1.laid (t' := s.toks) (fun b o e => Heap.get?_push_of_some _ e) (Nat.le_refl _) (show ObjOk X.prog X.w _ _ _ (.tup ys) from ⟨hz, its, r', IsTup.new _ _⟩)
    exact ⟨.ref h'.objs.size, _, I2, rfl, q _ (I1.hok.fresh (Nat.le_refl _))⟩
  · obtain ⟨its, r', pl, hz⟩ := I.tuple hq
    exact call_tuple_same pl ⟨.ref p, H, I, rfl, q⟩

/-! ### the call of a builtin's method: o.m(..) -/
/-- the value is of that builtin type -/
noncomputable def tyV (K : PySem.W.Frag) (T : String) (x : V) (H : Hp) : Prop := match x with
  | .str _ => T = "str"
  | .int _ => T = "int"
  | .ref p => (T = "list" ∧ ∃ xs, SqL K H p xs) ∨ (T = "tuple" ∧ ∃ o, K.lookup p = some o ∧ o.cls = .type "tuple" ∧ o.dict = none) ∨
      (T = "dict" ∧ ((∃ kvs, H p = some (.dK kvs)) ∨ ∃ kvs, H p = some (.dT kvs))) ∨ (T = "set" ∧ ∃ S n, H p = some (.set S n))
  | _ => False
theorem tyV_is {pins : List (Addr × Obj)} {σ : St} {H : Hp} {s : Shared} {T : String} {x : V} {v : Value} (I : Inv X pins σ H s) (r : RelV x v) (ty : tyV X.K T x H) :
    s.TypeIs v T ∧ ∀ a, v = .ref a → ∃ ob, s.heap.get? a = some ob ∧ ob.dict = none := by
  cases x with
  | str z =>
    obtain ⟨t, rfl⟩ := r
    cases (show T = "str" from ty)
    exact ⟨typeIs_str s z t, fun _ e => nomatch e⟩
  | int i =>
    obtain ⟨t, rfl⟩ := r
    cases (show T = "int" from ty)
    exact ⟨typeIs_int s i t, fun _ e => nomatch e⟩
  | ref p =>
    cases r
    rcases ty with ⟨rfl, xs, hq⟩ | ⟨rfl, o, hk, hc, hd⟩ | ⟨rfl, hk⟩ | ⟨rfl, S, n, hk⟩
    · obtain ⟨its, _, pl, _⟩ := I.list hq
      refine ⟨pl.isList.typeIs, fun a e => ?_⟩
      cases e
      obtain ⟨o, n, e, c, hd, _⟩ := pl
      exact ⟨o, e, hd⟩
    · refine ⟨⟨o, I.kIn p o hk, hc⟩, fun a e => ?_⟩
      cases e
      exact ⟨o, I.kIn _ o hk, hd⟩
    · have z : ∃ o, s.heap.get? p = some o ∧ o.ExactDict := by
        rcases hk with ⟨kvs, hk⟩ | ⟨kvs, hk⟩
        · obtain ⟨_, _, _, _, o, _, _, e, ex, _⟩ := I.hok p _ hk
          exact ⟨o, e, ex⟩
        · obtain ⟨_, _, _, _, o, _, _, e, ex, _⟩ := I.hok p _ hk
          exact ⟨o, e, ex⟩
      obtain ⟨o, e, ex⟩ := z
      refine ⟨⟨o, e, ex.1⟩, fun a e2 => ?_⟩
      cases e2
      exact ⟨o, e, ex.2.1⟩
    · obtain ⟨o, _, _, _, e, ex, _⟩ := I.hok p _ hk
      refine ⟨⟨o, e, ex.1⟩, fun a e2 => ?_⟩
      cases e2
      exact ⟨o, e, ex.2.1⟩
  | _ => exact False.elim ty
noncomputable def tBM0 (K : PySem.W.Frag) (T : String) (r : V → List V → Hp → VK → Prop) (to : TE) : TE := fun σ H Q => to σ H fun x H1 => tyV K T x H1 ∧ r x [] H1 Q
noncomputable def tBM (K : PySem.W.Frag) (T : String) (r : V → List V → Hp → VK → Prop) (to : TE) (t : TA) : TE := fun σ H Q => to σ H fun x H1 => tyV K T x H1 ∧ t σ H1 fun xs H2 => r x xs H2 Q
variable {o e : Expr} {es : List Expr} {to : TE} {t : TA} {name : Str} {apos cpos : Pos} {T id : String} {r : V → List V → Hp → VK → Prop}
theorem pe_bm0 (pa : PlainAttrs T) (slot : Slot T name id) (hty : typeOf (.builtin id) = pure (.type "method_descriptor")) (hm : MtR X id r) (ho : PE X o to)
    (hbase : attributeBase o name X.env (eval o X.env) = eval o X.env := by rfl) (hline : (apos.endLine == cpos.line) = true := by rfl) : PE X (.Call (.Attribute o name apos) [] [] cpos) (tBM0 X.K T r to) := by
  intro pins s σ H Q I h
  refine wpAny_Call_method0_late hbase hline (thn (ho pins s σ H _ I h) fun v s1 ⟨x, H1, I1, r1, ty, q1⟩ => ?_)
  obtain ⟨h1, h2⟩ := tyV_is I1 r1 ty
  exact ⟨T, id, pa, slot, hty, h1, h2, Calls.callWith_builtin rfl (PySem.evalArgs_none (hm pins s1 σ H1 x [] v [] Q I1 r1 .nil q1))⟩
theorem pe_bm (pa : PlainAttrs T) (slot : Slot T name id) (hty : typeOf (.builtin id) = pure (.type "method_descriptor")) (hm : MtR X id r) (ho : PE X o to) (ha : PA X (e :: es) t)
    (hbase : attributeBase o name X.env (eval o X.env) = eval o X.env := by rfl)
    (hfew : ((backTo cpos (starEach (e :: es) X.env)).all (fun x => !x.1) && (backToKw cpos (keywordEach [] X.env)).all (fun x => x.1.isSome)
      && decide ((e :: es).length + ([] : List Keyword).length + (if ([] : List Keyword).isEmpty then 0 else 1) < 30)) = true := by rfl)
    (hline : (apos.endLine == cpos.line) = true := by rfl) (hs : starEach (e :: es) X.env = (false, eval e X.env) :: starEach es X.env := by rfl) (hplain : (backTo cpos (starEach es X.env)).any (·.1) = false := by rfl) :
    PE X (.Call (.Attribute o name apos) (e :: es) [] cpos) (tBM X.K T r to t) := by
  intro pins s σ H Q I h
  refine wpAny_Call_method_late hbase hfew hline rfl (thn (ho pins s σ H _ I h) fun v s1 ⟨x, H1, I1, r1, ty, q1⟩ => ?_)
  obtain ⟨h1, h2⟩ := tyV_is I1 r1 ty
  refine ⟨T, id, pa, slot, hty, h1, h2, ?_⟩
  have hA := ha cpos pins s1 σ H1 _ I1 q1
  rw [hs] at hA ⊢
  refine Calls.callWith_builtin (by show (false || (backTo cpos (starEach es X.env)).any (·.1)) = false; rw [hplain] <;> rfl) (Calls.evalArgs_plain ?_)
  exact thn hA fun us s2 ⟨vs, H2, I2, r2, q2⟩ => hm pins s2 σ H2 x vs v us Q I2 r1 r2 q2
/- xs.append(e), list.index on a module's tuple .. are MtR facts of 06m -/
end
end L2

namespace L2
open PySem PySem.Spec PyProof.Rows

noncomputable def MtM (X : Cx) (id : String) (r : V → List V → Hp → VK → Prop) : Prop :=
  ∀ (pins : List (Addr × Obj)) (s : Shared) (σ : St) (H : Hp) (x : V) (xs : List V) (v : Value) (us : List Value) (Q : VK), Inv X pins σ H s → RelV x v → Vals xs us → r x xs H Q →
    wpAny (model X.prog X.w) X.A (call (.builtin id) (v :: us)) (EP X pins σ Q) X.xe s

/-! ### lists of values -/
theorem Vals.one : ∀ {x : V} {us : List Value}, Vals [x] us → ∃ u, us = [u] ∧ RelV x u
  | _, _, h => by
    cases h with
    | cons r t =>
      cases t
      exact ⟨_, rfl, r⟩
theorem Vals.two : ∀ {x y : V} {us : List Value}, Vals [x, y] us → ∃ u v, us = [u, v] ∧ RelV x u ∧ RelV y v
  | _, _, _, h => by
    cases h with
    | cons r t =>
      cases t with
      | cons q t2 =>
        cases t2
        exact ⟨_, _, rfl, r, q⟩
theorem Vals.zero : ∀ {us : List Value}, Vals [] us → us = []
  | _, .nil => rfl
theorem Vals.reverse {xs : List V} {us : List Value} (h : Vals xs us) : Vals xs.reverse us.reverse := by
  induction h with
  | nil => exact .nil
  | cons r t ih => rw [List.reverse_cons, List.reverse_cons]; exact Vals.append ih (.cons r .nil)
theorem Vals.rep {xs : List V} {us : List Value} (h : Vals xs us) : ∀ k : Nat, Vals (List.replicate k xs).flatten (List.replicate k us).flatten
  | 0 => .nil
  | k + 1 => by
    rw [List.replicate_succ, List.replicate_succ, List.flatten_cons, List.flatten_cons]
    exact Vals.append h (Vals.rep h k)
theorem foldl_rep (its : List Value) : ∀ (k : Nat) (acc : List Value),
    List.foldl (fun x1 x2 => x1 ++ x2) acc.toArray (List.replicate k its.toArray) = (acc ++ (List.replicate k its).flatten).toArray
  | 0, acc => by simp
  | k + 1, acc => by
    have e : acc.toArray ++ its.toArray = (acc ++ its).toArray := by simp
    have e2 : (acc ++ its) ++ (List.replicate k its).flatten = acc ++ (List.replicate (k + 1) its).flatten := by
      rw [List.replicate_succ, List.flatten_cons, List.append_assoc]
    rw [← e2, ← foldl_rep its k (acc ++ its), ← e, List.replicate_succ, List.foldl_cons]

section
variable {X : Cx} {pins : List (Addr × Obj)} {σ : St} {H : Hp} {s : Shared} {l b : Addr} {xs ys zs : List V}

/-! ### the two steps: a tracked list is rewritten, a new list is laid -/
theorem Inv.lset {its its' : List Value} {n : Nat} {f : Array Value → Array Value} {t' : Nat} (I : Inv X pins σ H s) (hH : H l = some (.lst xs))
    (e : s.heap.get? l = some { cls := .type "list", data := .seq its.toArray n }) (hf : f its.toArray = its'.toArray) (hv : Vals ys its') (hz : ys.length ≤ sizeLine) :
    Inv X pins σ (upd H l (.lst ys)) { s with heap := s.heap.update l (Obj.mapSeq f), toks := t' } := by
  have q := PySem.IsL.update e f
  rw [hf] at q
  refine I.write (x := l) (e := l) (by rw [hH]; exact trivial) (.inl rfl) (fun b' u hb hu => (Heap.get?_update_other s.heap (Obj.mapSeq f) (Ne.symm hb)).trans hu) ⟨_, q⟩ ?_
  exact ⟨hz, its', _, hv, q⟩
theorem Inv.lnew {its : List Value} {t' : Nat} (I : Inv X pins σ H s) (hv : Vals ys its) (hz : ys.length ≤ sizeLine) :
    Inv X pins σ (upd H s.heap.objs.size (.lst ys)) { s with heap := s.heap.push { cls := .type "list", data := .seq its.toArray }, toks := t' } :=
  I.laid (fun _ _ q => Heap.get?_push_of_some _ q) (Nat.le_refl _) ⟨hz, its, 0, hv, Heap.get?_push_size _ rfl⟩
theorem Inv.fresh (I : Inv X pins σ H s) : H s.heap.objs.size = none := I.hok.fresh (Nat.le_refl _)
theorem Inv.lstM (I : Inv X pins σ H s) (hH : H l = some (.lst xs)) : xs.length ≤ sizeLine ∧ ∃ (its : List Value) (n : Nat), Vals xs its ∧ xs.length = its.length ∧ s.heap.get? l = some { cls := .type "list", data := .seq its.toArray n } := by
  obtain ⟨z, its, n, r, e⟩ := I.hok l _ hH
  exact ⟨z, its, n, r, r.length, e⟩

theorem notLongL {n : Nat} (h : n ≤ sizeLine) : Builtin.List.listTooLong n = false := by
  unfold Builtin.List.listTooLong
  exact decide_eq_false (by lia)
end

section
variable {X : Cx}

/-! ### methods -/
noncomputable def rAppend : V → List V → Hp → VK → Prop := fun x vs H Q => ∃ l xs y, x = .ref l ∧ vs = [y] ∧ H l = some (.lst xs) ∧ xs.length < sizeLine ∧ Q .non (upd H l (.lst (xs ++ [y])))
theorem mt_append : MtM X "list.append" rAppend := by
  intro pins s σ H x vs v us Q I rx rv h
  obtain ⟨l, xs, y, rfl, rfl, hH, hz, q⟩ := h
  cases rx
  obtain ⟨u, rfl, ru⟩ := rv.one
  obtain ⟨z, its, n, r, hl, e⟩ := I.lstM hH
  refine call_meets F.slot_list_append ⟨_, e, rfl⟩ F.entry_list_append (F.args_list_append_2 _ _) (PySem.list_append l its.toArray n u (by rw [List.size_toArray]; lia)) ⟨e, ?_⟩
  refine ⟨.non, _, I.lset (its' := its ++ [u]) hH e (by simp) (r.append (.cons ru .nil)) ?_, rfl, q⟩
  rw [List.length_append, List.length_singleton]
  lia

/-! ### list + list, list += list, list * int -/
theorem len_rep {α : Type} (xs : List α) (k : Nat) : (List.replicate k xs).flatten.length = k * xs.length := by
  induction k with
  | zero => simp
  | succ k ih => rw [List.replicate_succ, List.flatten_cons, List.length_append, ih, Nat.succ_mul, Nat.add_comm]
/-! ### del xs[i] -/
end

/-! ### xs[a:b] = ys -/
section
variable {prog : Program} {w : World} {A : Around} {E : Value → Shared → Prop} {s : Shared}
end

section
variable {X : Cx}
end
end L2

namespace Att
open PySem PySem.W PySem.Calls PyProof.Rows

/-! ### the script -/
theorem ints_of_wellAll {P : Params} {h : Heap} : ∀ (ns : List Int) (vs : List Value), WellAll P h vs (ns.map WData.int) → IntsAre vs ns := by
  intro ns
  induction ns with
  | nil =>
    intro vs w
    rw [List.map_nil] at w
    cases w
    exact .nil
  | cons n ns ih =>
    intro vs w
    rw [List.map_cons] at w
    cases w with
    | cons a b =>
      cases a
      exact .cons _ _ (ih _ b)

theorem script_of {l : OpenLaw} {n : Nat} (hn : l.most = some n) {P : Params} {h : Heap} {args : List WData} {vals : List Value}
    (hpre : l.row.toRowW.claim.pre args = true) (hwl : WellAll P h vals args) :
    ∃ a vs ns, vals = [Value.ref a] ∧ args = [WData.list (ns.map WData.int)] ∧ h.get? a = some { cls := .type "list", data := .seq vs.toArray } ∧ IntsAre vs ns ∧ ns.length ≤ n := by
  have hsh : WShape.hasAll [] args [.list .int] = true := (pre_splitW hpre).1
  have hc : l.pre.holds [] { args := args } = true := (pre_splitW hpre).2
  obtain ⟨d, r, rfl, h1, h2⟩ := hasAllW_cons hsh
  obtain rfl := hasAllW_nil h2
  obtain ⟨xs, rfl, h3⟩ := hasW_list h1
  obtain ⟨ns, rfl⟩ := items_int h3
  have hlen : ns.length ≤ n := by
    unfold OpenLaw.pre at hc
    have h4 : (WTm.not (.lt (.lit (.int (n : Int))) (.len (.arg 0)))).holds [] { args := [.list (ns.map .int)] } = true := by
      have h4 := (holds_andW hc).1
      rw [hn] at h4
      exact h4
    have h5 := condW_of h4 (w_not (w_lt w_lit (w_len_list (w_arg rfl))))
    rw [List.length_map] at h5
    refine Nat.le_of_not_lt fun q => ?_
    have q' : (n : Int) < ((ns.length : Nat) : Int) := by omega
    first
      | (rw [decide_eq_true q'] at h5; exact absurd h5 (by decide))
      | (simp at h5; omega)
  cases hwl with
  | cons w1 w2 =>
    cases w2
    cases w1 with
    | list ho hall => exact ⟨_, _, ns, rfl, rfl, ho, ints_of_wellAll ns _ hall, hlen⟩

theorem post_true (l : OpenLaw) (args : List WData) : l.row.toRowW.claim.post args (.bool true) args = true :=
  postW_of (r := l.row.toRowW) (X := (true == true))
    (show WShape.has [] (.bool true) .bool = true by first | rfl | decide | simp [WShape.has, WShape.arms, WShape.armsAll])
    (show (WTm.eq .res (.lit (.bool true))).value [] { args := args, res := some (.bool true), after := args } = some (.bool (true == true)) from w_eq_bool (w_res rfl) w_lit) rfl

/-! ### the attachment: holds_open's last premise (the goal 'hc' behind k_head) from a wpAny of the law's body -/
/-- the same from a codeAny of the CALL (for a layer whose function contracts speak of calls) -/
theorem attach_call {l : OpenLaw} {n : Nat} {q : Program} {loose : List Str} {XP : (Str → Option Value) → Heap → Prop} {YP : World → Heap → Prop} {d : DefRec}
    (hn : l.most = some n) (hdf : d.params.defaults = [])
    (call : ∀ (w : World) (s₀ s₁ : Shared) (mg mb : Str → Option Value) (fa : Addr) (o : Obj) (pm cd doc : Value) (a : Addr) (vs : List Value) (ns : List Int),
      Ground q loose [] XP w s₀ mg mb s₁.heap → YP w s₁.heap →
      s₁.heap.get? fa = some o → o.data = .func (docDef d.name d.params d.body d.scope pm cd doc) → s₁.heap.CodeRec cd d.name → mg d.name = some (.ref fa) →
      s₁.heap.get? a = some { cls := .type "list", data := .seq vs.toArray } → IntsAre vs ns → ns.length ≤ n → s₁.gens = #[] →
      codeAny (model l.prog w) callerA (.call (.ref fa) ⟨[.ref a], []⟩) (fun r s' => r = .ok (.ret (.bool true)) ∧ OldK s₁.heap s'.heap ∧ s'.os = s₁.os ∧ AllBare s'.gens) s₁) :
    WalkO q loose XP YP l.row.toRowW d [] (fun f vs => PySem.call f vs) := by
  intro w s₀ s₁ mg mb G Y fa o pm cd doc dV kV ho hd hcd hD hmg hg args vals as hpre hlay hrd hwl hlo
  obtain rfl : dV = .none := Dflts.none hD hdf
  obtain rfl : kV = .none := Dflts.noKw hD
  obtain ⟨a, vs, ns, rfl, rfl, hobj, hints, hlen⟩ := script_of hn hpre hwl
  refine enter_call (codeAny_mono (call w s₀ s₁ mg mb fa o pm cd doc a vs ns G Y ho (fd_plain hd) hcd hmg hobj hints hlen hg) fun r s' hq => ?_)
  obtain ⟨rfl, h2, h3, h4⟩ := hq
  exact ⟨.inl ⟨.bool true, .bool true, [], rfl, fun _ => rfl, .bool true, post_true l _, fun _ => ⟨List.Pairwise.nil, fun _ hm => (nomatch hm)⟩⟩, h2, h3, h4⟩

/-! ### rules over ANY heap (no ledger) from facts about the written part K: the library's own take a ledger (News) for what they write -/
section
variable {prog : Program} {w : World} {A : Around} {E : Value → Shared → Prop} {s : Shared} {K : Frag}

/-! the whole heap as the ledger: makes every rule that writes through a ledger a rule over any heap -/
noncomputable def ledger (h : Heap) (L d : Addr) : List (Addr × Obj) := (List.range h.objs.size).filterMap fun a => if a = L ∨ a = d then none else (h.get? a).map fun o => (a, o)
end
end Att

namespace L2
open PySem PySem.Spec PyProof.Rows

theorem vals_ints : ∀ {vs : List Value} {ns : List Int}, IntsAre vs ns → Vals (ns.map V.int) vs
  | _, _, .nil => .nil
  | _, _, .cons n t h => .cons ⟨t, rfl⟩ (vals_ints h)

/-- nothing is tracked but the script, known to the object (or it is an object of the module) -/
noncomputable def Only (H : Hp) : Prop := ∀ b, H b = none ∨ ∃ o xs, H b = some (.frz o (.lst xs))

/-- THE HEAD: the law's promise, at the heap behind the top. F, the promise of the law's def, may use that base is part of the heap (so K.In base, base.Ns mainGlobals mg stand in Mod) -/
theorem law_call {P : Program} {w : World} {K : PySem.W.Frag} {mg mb : Str → Option Value} {CX : CXT} {k : Nat} {fa a : Addr} {fd : FuncData} {x : Str} {sp : Sp} {s₁ : Shared} {vs : List Value} {ns : List Int}
    (KX : K.In s₁.heap) (hns : s₁.heap.Ns mainGlobals mg) (hb : s₁.heap.Ns builtinsNs mb) (hbb : ∀ x : Str, x ≠ "__name__" → mb x = bootBuiltins x) (hlim : s₁.heap.NoLimit) (hg : s₁.gens = #[])
    (ha : s₁.heap.get? a = some { cls := .type "list", data := .seq vs.toArray }) (hi : IntsAre vs ns) (hl : ns.length ≤ sizeLine) (hr : Room k callerA)
    (F : ∀ base : Heap, K.In base → base.Ns mainGlobals mg → FnOk P w K mg base CX k fa fd [x] sp) (hbind : ∀ (s : Shared) (u : Value), BindsTo s fd ⟨[u], []⟩ [(x, u)])
    (hsp : ∀ H : Hp, Only H → SqL K H a (ns.map V.int) → sp [.ref a] H (fun v _ => v = .bl true) fun _ _ _ => False)
    (hCX : ∀ H e s', CX [] H s₁ (fun _ _ _ => False) e s' → False) :
    codeAny (model P w) callerA (.call (.ref fa) ⟨[.ref a], []⟩) (fun r s' => r = .ok (.ret (.bool true)) ∧ OldK s₁.heap s'.heap ∧ s'.os = s₁.os ∧ AllBare s'.gens) s₁ := by
  have rv := vals_ints hi
  have lenV := hi.length
  -- from an abstract heap in which nothing but the script may be tracked
  have core : ∀ H : Hp, Only H → SqL K H a (ns.map V.int) → HOk P w H s₁.heap → (∀ b, H b ≠ none → b = a) → (H a ≠ none → K.lookup a = none) →
      codeAny (model P w) callerA (.call (.ref fa) ⟨[.ref a], []⟩) (fun r s' => r = .ok (.ret (.bool true)) ∧ OldK s₁.heap s'.heap ∧ s'.os = s₁.os ∧ AllBare s'.gens) s₁ := by
    intro H hO hS hok hA hK
    have base_of : ∀ {b : Addr} {o : Obj}, s₁.heap.get? b = some o → H b = none → (hidT s₁.heap H).get? b = some o := fun e n => hidT_get e n
    have noA : ∀ {b : Addr} {o : Obj} {es : Array DictEntry} {ep : Nat}, s₁.heap.get? b = some o → o.data = .dict es ep → H b = none := fun {b o es ep} e d => by
      cases q : H b with
      | none => rfl
      | some u =>
        have e' : b = a := hA b (by rw [q]; simp)
        subst e'
        rw [ha] at e; cases e
        have d' : Data.seq vs.toArray _ = Data.dict es ep := d
        cases d'
    have nsK : ∀ {b : Addr} {m : Str → Option Value}, s₁.heap.Ns b m → (hidT s₁.heap H).Ns b m := fun {b m} ⟨o, es, ep, e, d, r⟩ => ⟨o, es, ep, base_of e (noA e d), d, r⟩
    have hKb : K.In (hidT s₁.heap H) := fun b o e => base_of (KX b o e) (by
      cases q : H b with
      | none => rfl
      | some u =>
        have e' : b = a := hA b (by rw [q]; simp)
        subst e'
        rw [hK (by rw [q]; simp)] at e; cases e)
    have hM : Mod K mg (hidT s₁.heap H) := ⟨hKb, nsK hns, ⟨mb, nsK hb, hbb⟩, let ⟨mc, h1, h2⟩ := hlim; ⟨mc, nsK h1, h2⟩⟩
    have e0 : Env0 P w K mg (hidT s₁.heap H) callerA [] s₁ H := ⟨rfl, hM, fun b o e => of_hidT e, Nat.le_of_eq (hidT_size _ _), trivial, fun b hb => absurd (show b ∈ ([] : List Addr) from hb) (by simp), hok, .of_eq hg⟩
    refine codeAny_mono ((F _ hKb (nsK hns)).run callerA [] s₁ H ⟨[.ref a], []⟩ [.ref a] [.ref a] _ _ hr e0 (hbind s₁ (.ref a)) (.cons rfl .nil) (hsp H hO hS)) fun r s' h => ?_
    cases r with
    | error e => exact (hCX H e s' h).elim
    | ok fl =>
      cases fl with
      | next => exact False.elim h
      | brk => exact False.elim h
      | cont => exact False.elim h
      | ret u =>
        obtain ⟨v, H', os, bare, un, hok', r', q⟩ := h
        have q' : v = .bl true := q
        subst q'
        obtain rfl : u = Value.bool true := r'
        refine ⟨rfl, OldK.of_keep fun b o e => ?_, os, bare⟩
        cases q : H b with
        | none => exact un.keep b o e q (by intro z; exact absurd (show b ∈ ([] : List Addr) from z) (by simp)) (by simp)
        | some u =>
          rcases hO b with z | ⟨ob, xs, z⟩
          · rw [q] at z; cases z
          · have z2 := un.frzs b ob _ z
            obtain ⟨e1, _⟩ := hok b _ z
            obtain ⟨e2, _⟩ := hok' b _ z2
            rw [e] at e1; cases e1
            exact e2
  cases hk : K.lookup a with
  | some o =>
    -- the script is one of the module's own objects
    have e := KX a o hk
    rw [ha] at e
    cases e
    refine core (fun _ => none) (fun _ => .inl rfl) (.inr ⟨_, vs.toArray, _, hk, rfl, rfl, rfl, by rw [List.size_toArray, lenV]; exact hl, by simpa using rv⟩) (fun b u z => by have z' : (none : Option HO) = some u := z; cases z') (fun b z => absurd rfl z) fun z => absurd rfl z
  | none =>
    refine core (fun b => if b = a then some (.frz { cls := .type "list", data := .seq vs.toArray } (.lst (ns.map V.int))) else none) (fun b => ?_) (.inl (.inr ⟨{ cls := .type "list", data := .seq vs.toArray }, if_pos rfl⟩)) (fun b u z => ?_) (fun b z => ?_) fun _ => hk
    · by_cases hb : b = a
      · exact .inr ⟨_, _, if_pos hb⟩
      · exact .inl (if_neg hb)
    · by_cases hb : b = a
      · have z' := (if_pos hb).symm.trans z
        cases z'
        subst hb
        exact ⟨ha, by rw [List.length_map]; exact hl, vs, _, rv, ha⟩
      · have z' := (if_neg hb).symm.trans z
        cases z'
    · by_cases hb : b = a
      · exact hb
      · exact absurd (if_neg hb) z
end L2

namespace L2
open PySem PySem.Spec PyProof.Rows

noncomputable abbrev KOf {K : PySem.W.Frag} {h : Heap} (_ : K.In h) : PySem.W.Frag := K

/-- the goal that k_head leaves (case hc), from the law's promise. F gives the function object fd (K's own) once, then the promise over every base -/
theorem walk_of {l : PySem.W.OpenLaw} {n k : Nat} {q : Program} {loose : List Str} {XP : (Str → Option Value) → Heap → Prop} {YP : World → Heap → Prop} {d : DefRec} {K : Params → PySem.W.Frag} {CX : World → CXT} {sp : World → Sp} {x : Str}
    (hn : l.most = some n) (hn2 : n ≤ sizeLine) (hdf : d.params.defaults = []) (hr : Room k callerA)
    (hY : ∀ (w : World) (h : Heap), YP w h → (K w.params).In h)
    (F : ∀ (w : World) (mg : Str → Option Value) (fa : Addr) (h : Heap), (K w.params).In h → h.Ns mainGlobals mg → mg d.name = some (.ref fa) →
      ∃ fd : FuncData, (∀ (s : Shared) (u : Value), BindsTo s fd ⟨[u], []⟩ [(x, u)]) ∧
        ∀ base : Heap, (K w.params).In base → base.Ns mainGlobals mg → FnOk l.prog w (K w.params) mg base (CX w) k fa fd [x] (sp w))
    (hsp : ∀ (w : World) (H : Hp) (a : Addr) (ns : List Int), ns.length ≤ n → Only H → SqL (K w.params) H a (ns.map V.int) → sp w [.ref a] H (fun v _ => v = .bl true) fun _ _ _ => False)
    (hCX : ∀ (w : World) (H : Hp) (s : Shared) (e : Value) (s' : Shared), CX w [] H s (fun _ _ _ => False) e s' → False) :
    PySem.W.WalkO q loose XP YP l.row.toRowW d [] (fun f vs => PySem.call f vs) := by
  refine Att.attach_call hn hdf fun w s₀ s₁ mg mb fa o pm cd doc a vs ns G Y ho hd hcd hmg hobj hints hlen hg => ?_
  have KX := hY w _ Y
  obtain ⟨fd, hb, hF⟩ := F w mg fa _ KX G.T.g hmg
  exact law_call KX G.T.g G.T.b G.T.builtins G.T.nolimit hg hobj hints (Nat.le_trans hlen hn2) hr hF hb (fun H hO hS => hsp w H a ns hlen hO hS) fun H e s' => hCX w H s₁ e s'
end L2

/- THE LAST THEOREM (shape; LID, My.* are yours):
   My.Adr: a structure of the addresses that your layer names (classes, functions); My.Txt K t: a structure (Prop) of the equations over K;
   My.txt_mk : {K} {implicit addresses ..} (e1 : nsIn K mainGlobals "law" = some (some (.ref f))) (e2 : K.lookup f = some ⟨oc, od, .func (fnOf "law" "law" params body scope dV kV doc pm an cdv ct), sl⟩) (e3 : codeIn K cdv "law" = true) .. : ∃ t, My.Txt K t

set_option maxRecDepth 100000 in
set_option maxHeartbeats 0 in
theorem PySem.Challenge.cw_LID_holds : PySem.Challenge.rw_LID.Holds := by
  w_on; o_law; k_head; (case hw => w_witness2)
  k_fill
  refine L2.walk_of (l := PySem.Challenge.rw_LID) (n := 63) (k := 40) (x := "script") (CX := fun w => ..) (sp := fun _ => My.sp_law) rfl (by decide) rfl ⟨rfl, by decide, by decide⟩ (fun w h Y => PySem.W.kIn_of Y) ?F ?S ?C
  case F =>
    intro w mg fa h KX G hmg
    have T : ∃ t, My.Txt (L2.KOf KX) t := by
      dsimp only [L2.KOf]                          -- K must stand as «<heap const> w.params» for k_is
      refine' My.txt_mk ?e1 ?e2 ?e3 ..
      (case e1 => PySem.W.k_is)                    -- in the order: a name -> its address -> its object -> its parts
      (case e2 => PySem.W.k_is)
      ..
    obtain ⟨t, T⟩ := T
    have e0 := hmg.symm.trans (PySem.W.mg_of KX G T.law)
    cases e0                                       -- fa is the law's own address
    exact ⟨_, fun s u => .of_eq rfl, fun base kb nb => My.law_fn T kb nb⟩     -- if «.of_eq rfl» comes too early: refine' ⟨_, ?b, fun base kb nb => My.law_fn T kb nb⟩; exact fun s u => .of_eq rfl
  case S => exact fun w H a ns hl hO hS => ..
  case C => exact ..
(the tactic k_is has no namespace: write k_is) -/

/-! SHORT WORDS over the layer: a def of the text, its body, what a loop and a test want. -/
namespace L2
open PySem PySem.Spec PyProof.Rows

/-! ### the text by places -/
noncomputable def defArgs (s : Stmt) : Arguments := match s with
  | .FunctionDef _ a _ _ _ _ _ _ _ _ => a
  | _ => { posonlyargs := [], args := [], vararg := none, kwonlyargs := [], kw_defaults := [], kwarg := none, defaults := [] }
noncomputable def defBody (s : Stmt) : List Stmt := match s with
  | .FunctionDef _ _ b _ _ _ _ _ _ _ => b
  | _ => []
noncomputable def defScope (s : Stmt) : Scope := match s with
  | .FunctionDef _ _ _ _ _ _ sc _ _ _ => sc
  | _ => { kind := .function, names := [], isGenerator := false, isCoroutine := false }

/-! ### no exception leaves a def -/
noncomputable abbrev CX0 : CXT := fun _ _ _ _ _ _ => False
noncomputable abbrev E0 : XK := fun _ _ _ => False
theorem pass0 {X : Cx} : Passes CX0 X E0 := fun _ _ _ _ _ _ _ h => h.elim

/-! ### a def (or method) of the text as it stands behind the top -/
structure Fun (K : PySem.W.Frag) (x qual : Str) (st : Stmt) (f : Addr) (fd : FuncData) : Prop where
  ex : ∃ (oc : Value) (od : Option Addr) (kV doc pm : Value) (an : Option Addr) (cdv ct : Value) (osl : Array (Option Value)),
    fd = PySem.W.fnOf x qual (defArgs st) (defBody st) (defScope st) .none kV doc pm an cdv ct ∧ K.lookup f = some ⟨oc, od, .func fd, osl⟩ ∧ PySem.W.codeIn K cdv qual = true
  kp : PySem.W.keepIn K (.ref f) = true
section
variable {P : Program} {w : World} {K : PySem.W.Frag} {mg : Str → Option Value} {base : Heap}
/-- THE RULE for a def: its body as a term of rules, and the reading of that term -/
theorem Fun.ok {x qual : Str} {st : Stmt} {f : Addr} {fd : FuncData} {N ps : List Str} {k : Nat} {sp : Sp} (F : Fun K x qual st f fd) (S : FnScope N ps (defScope st)) (len : ∀ vs H Q E, sp vs H Q E → vs.length = ps.length)
    (hbody : ∀ (cdv : Value) (A : Around) (outer : List Env) (s : Shared) (H : Hp) (vs : List V) (Q : VK) (E : XK), Room k (A.deeper (envOfC qual (defScope st) s.heap.objs.size f cdv)) → sp vs H Q E →
      ∃ t, PSs (cxOf CX0 P w K mg base N qual (defScope st) f cdv A outer s H E).nox (defBody st) t ∧ t { nx := fun _ H' => Q .non H', rt := Q } (start N vs) H) : FnOk P w K mg base CX0 (k + 1) f fd ps sp := by
  obtain ⟨oc, od, kV, doc, pm, an, cdv, ct, osl, rfl, lk, hcd⟩ := F.ex
  refine fn_of lk hcd S len fun A outer s H vs Q E hr hsp => ?_
  obtain ⟨t, h, q⟩ := hbody cdv A outer s H vs Q E hr hsp
  exact ⟨t, h.nox, q⟩
/-- how its arguments bind (no defaults): h is «fun _ _ _ _ _ _ us hl => match us, hl with | [_, _], _ => rfl», one _ a parameter -/
theorem Fun.binds {x qual : Str} {st : Stmt} {f : Addr} {fd : FuncData} {ps : List Str} (F : Fun K x qual st f fd)
    (h : ∀ (kV doc pm : Value) (an : Option Addr) (cdv ct : Value) (us : List Value), us.length = ps.length → bindArgs (PySem.W.fnOf x qual (defArgs st) (defBody st) (defScope st) .none kV doc pm an cdv ct) ⟨us, []⟩ = pure (ps.zip us)) : Binds K fd ps [] := by
  obtain ⟨oc, od, kV, doc, pm, an, cdv, ct, osl, rfl, lk, hcd⟩ := F.ex
  exact .all (h kV doc pm an cdv ct)
end
/-! ### expressions in short: the name that stands in the i-th slot -/
section
variable {X : Cx}
end

/-! ### tests -/
/-! ### heaps -/
/-- all that was tracked is as it was -/
noncomputable def Same (H H' : Hp) : Prop := ∀ b o, H b = some o → H' b = some o
theorem Same.refl (H : Hp) : Same H H := fun _ _ h => h
theorem Same.trans {H H1 H2 : Hp} (a : Same H H1) (b : Same H1 H2) : Same H H2 := fun c o h => b c o (a c o h)
theorem Same.free {H H' : Hp} (e : Same H H') {l : Addr} (h : H' l = Option.none) : H l = Option.none := by
  cases q : H l with
  | none => rfl
  | some o =>
    rw [e l o q] at h
    cases h
theorem Same.seq {K : PySem.W.Frag} {H H' : Hp} {a : Addr} {xs : List V} (e : Same H H') (h : SqL K H a xs) : SqL K H' a xs := by
  rcases h with (h | ⟨o, h⟩) | h
  · exact .inl (.inl (e _ _ h))
  · exact .inl (.inr ⟨o, e _ _ h⟩)
  · exact .inr h

end L2

set_option Elab.async false
set_option linter.all false
set_option maxRecDepth 100000
set_option maxHeartbeats 4000000
/-! Plain data, and the functions that expressions, statements and defs are. -/
namespace VL
open PySem L2
noncomputable abbrev D := PyData
inductive Sl where
  | un | fz (d : D) | ow (ds : List D)
noncomputable abbrev Dv := List Sl
inductive Fl where
  | nx | bk | ct | rt (d : D)
noncomputable abbrev Sf := Dv → Option (Fl × Dv)
@[simp] noncomputable def o2 (f1 f2 : Dv → Option D) (g : D → D → Option D) : Dv → Option D := fun δ => (f1 δ).bind fun x => (f2 δ).bind fun y => g x y
@[simp] noncomputable def o1 (f : Dv → Option D) (g : D → Option D) : Dv → Option D := fun δ => (f δ).bind g
@[simp] noncomputable def os (f : Dv → Option (List D)) (g : List D → Option D) : Dv → Option D := fun δ => (f δ).bind g
noncomputable def asB : D → Option Bool
  | .bool b => some b
  | _ => none
@[simp] theorem asB_bool (b : Bool) : asB (.bool b) = some b := rfl
@[simp] noncomputable def ob (f : Dv → Option D) : Dv → Option Bool := fun δ => (f δ).bind asB
@[simp] noncomputable def oAnd (t u : Dv → Option Bool) : Dv → Option Bool := fun δ => (t δ).bind fun b => if b = true then u δ else some false
@[simp] noncomputable def oOr (t u : Dv → Option Bool) : Dv → Option Bool := fun δ => (t δ).bind fun b => if b = true then some true else u δ
@[simp] noncomputable def oNot (t : Dv → Option Bool) : Dv → Option Bool := fun δ => (t δ).map (!·)
@[simp] noncomputable def oAndV (f1 f2 : Dv → Option D) : Dv → Option D := fun δ => (f1 δ).bind fun x => (asB x).bind fun b => if b = true then f2 δ else some (.bool false)
@[simp] noncomputable def oOrV (f1 f2 : Dv → Option D) : Dv → Option D := fun δ => (f1 δ).bind fun x => (asB x).bind fun b => if b = true then some (.bool true) else f2 δ
@[simp] noncomputable def notD (d : D) : Option D := (asB d).map fun b => .bool (!b)
@[simp] noncomputable def oIf (t : Dv → Option Bool) (f1 f2 : Dv → Option D) : Dv → Option D := fun δ => (t δ).bind fun b => if b = true then f1 δ else f2 δ
noncomputable def slV : Option Sl → Option D
  | some (.fz d) => some d
  | _ => none
@[simp] theorem slV_fz (d : D) : slV (some (.fz d)) = some d := rfl
@[simp] noncomputable def oV (i : Nat) : Dv → Option D := fun δ => slV δ[i]?
@[simp] noncomputable def oC (d : D) : Dv → Option D := fun _ => some d
@[simp] noncomputable def oNil : Dv → Option (List D) := fun _ => some []
@[simp] noncomputable def oCons (f : Dv → Option D) (fs : Dv → Option (List D)) : Dv → Option (List D) := fun δ => (f δ).bind fun x => (fs δ).bind fun xs => some (x :: xs)
noncomputable def tupD (ds : List D) : Option D := if ds.length ≤ sizeLine then some (.tuple ds) else none
noncomputable def lstD (ds : List D) : Option D := if ds.length ≤ sizeLine then some (.list ds) else none
theorem tupD_ok {ds : List D} (h : ds.length ≤ 16777216) : tupD ds = some (.tuple ds) := if_pos h
theorem lstD_ok {ds : List D} (h : ds.length ≤ 16777216) : lstD ds = some (.list ds) := if_pos h
@[simp] theorem tupD0 : tupD [] = some (.tuple []) := rfl
@[simp] theorem tupD1 (a : D) : tupD [a] = some (.tuple [a]) := tupD_ok (by simp)
@[simp] theorem tupD2 (a b : D) : tupD [a, b] = some (.tuple [a, b]) := tupD_ok (by simp)
@[simp] theorem tupD3 (a b c : D) : tupD [a, b, c] = some (.tuple [a, b, c]) := tupD_ok (by simp)
@[simp] theorem tupD4 (a b c d : D) : tupD [a, b, c, d] = some (.tuple [a, b, c, d]) := tupD_ok (by simp)
@[simp] theorem tupD5 (a b c d e : D) : tupD [a, b, c, d, e] = some (.tuple [a, b, c, d, e]) := tupD_ok (by simp)
@[simp] theorem tupD8 (a b c d e f g h : D) : tupD [a, b, c, d, e, f, g, h] = some (.tuple [a, b, c, d, e, f, g, h]) := tupD_ok (by simp)
@[simp] theorem lstD0 : lstD [] = some (.list []) := rfl
@[simp] theorem lstD1 (a : D) : lstD [a] = some (.list [a]) := lstD_ok (by simp)
@[simp] theorem lstD2 (a b : D) : lstD [a, b] = some (.list [a, b]) := lstD_ok (by simp)
@[simp] theorem lstD3 (a b c : D) : lstD [a, b, c] = some (.list [a, b, c]) := lstD_ok (by simp)
@[simp] theorem lstD4 (a b c d : D) : lstD [a, b, c, d] = some (.list [a, b, c, d]) := lstD_ok (by simp)
@[simp] theorem lstD5 (a b c d e : D) : lstD [a, b, c, d, e] = some (.list [a, b, c, d, e]) := lstD_ok (by simp)
/-! ### ints -/
instance (i j : Int) : Decidable (IntMulOk i j) := by unfold IntMulOk; infer_instance
noncomputable def iI (g : Int → Int → Int) : D → D → Option D
  | .int i, .int j => some (.int (g i j))
  | _, _ => none
noncomputable def iC (C : Int → Int → Bool) (g : Int → Int → Int) : D → D → Option D
  | .int i, .int j => if C i j = true then some (.int (g i j)) else none
  | _, _ => none
noncomputable def iB (g : Int → Int → Bool) : D → D → Option D
  | .int i, .int j => some (.bool (g i j))
  | _, _ => none
@[simp] theorem iI_int (g : Int → Int → Int) (i j : Int) : iI g (.int i) (.int j) = some (.int (g i j)) := rfl
@[simp] theorem iB_int (g : Int → Int → Bool) (i j : Int) : iB g (.int i) (.int j) = some (.bool (g i j)) := rfl
theorem iC_int {C : Int → Int → Bool} {g : Int → Int → Int} {i j : Int} (h : C i j = true) : iC C g (.int i) (.int j) = some (.int (g i j)) := if_pos h
noncomputable def cMul (i j : Int) : Bool := decide (IntMulOk i j)
noncomputable def cDiv (i j : Int) : Bool := decide (0 < j ∧ j < 1073741824)
noncomputable def cMod (i j : Int) : Bool := decide (0 < j)
noncomputable def cPow (i j : Int) : Bool := decide (0 ≤ j ∧ j ≤ 1000000 ∧ i.natAbs < 2 ^ 64)
noncomputable def cShl (i j : Int) : Bool := decide (0 ≤ j ∧ (Builtin.Int.intBits i : Int) + j ≤ 2 ^ 27)
noncomputable def cShr (i j : Int) : Bool := decide (0 ≤ j)
noncomputable abbrev subD := iI fun i j => i - j
noncomputable abbrev mulI := iC cMul fun i j => i * j
noncomputable abbrev divD := iC cDiv fun i j => i / j
noncomputable abbrev modD := iC cMod fun i j => i % j
noncomputable abbrev powD := iC cPow fun i j => i ^ j.toNat
noncomputable abbrev shlD := iC cShl fun i j => i * 2 ^ j.toNat
noncomputable abbrev shrD := iC cShr fun i j => i / 2 ^ j.toNat
noncomputable abbrev andD := iI Builtin.bitAnd
noncomputable abbrev orD := iI Builtin.bitOr
noncomputable abbrev xorD := iI Builtin.bitXor
noncomputable abbrev ltD := iB fun i j => decide (i < j)
noncomputable abbrev gtD := iB fun i j => decide (j < i)
@[simp] theorem mulI_int {i j : Int} (h : IntMulOk i j) : mulI (.int i) (.int j) = some (.int (i * j)) := iC_int (decide_eq_true h)
@[simp] theorem divD_int {i j : Int} (h : 0 < j) (h2 : j < 1073741824) : divD (.int i) (.int j) = some (.int (i / j)) := iC_int (decide_eq_true ⟨h, h2⟩)
@[simp] theorem modD_int {i j : Int} (h : 0 < j) : modD (.int i) (.int j) = some (.int (i % j)) := iC_int (decide_eq_true h)
@[simp] theorem powD_int {i j : Int} (h : 0 ≤ j) (h2 : j ≤ 1000000) (h3 : i.natAbs < 2 ^ 64) : powD (.int i) (.int j) = some (.int (i ^ j.toNat)) := iC_int (decide_eq_true ⟨h, h2, h3⟩)
theorem shlD_int {i j : Int} (h : 0 ≤ j) (h2 : (Builtin.Int.intBits i : Int) + j ≤ 2 ^ 27) : shlD (.int i) (.int j) = some (.int (i * 2 ^ j.toNat)) := iC_int (decide_eq_true ⟨h, h2⟩)
@[simp] theorem shrD_int {i j : Int} (h : 0 ≤ j) : shrD (.int i) (.int j) = some (.int (i / 2 ^ j.toNat)) := iC_int (decide_eq_true h)
noncomputable def negD : D → Option D
  | .int i => some (.int (-i))
  | _ => none
@[simp] theorem negD_int (i : Int) : negD (.int i) = some (.int (-i)) := rfl
noncomputable def addD : D → D → Option D
  | .int i, .int j => some (.int (i + j))
  | .str x, .str y => if x.length + y.length ≤ sizeLine then some (.str (x ++ y)) else none
  | .list xs, .list ys => if xs.length + ys.length ≤ sizeLine then some (.list (xs ++ ys)) else none
  | .tuple xs, .tuple ys => if xs.length + ys.length ≤ sizeLine then some (.tuple (xs ++ ys)) else none
  | _, _ => none
@[simp] theorem addD_int (i j : Int) : addD (.int i) (.int j) = some (.int (i + j)) := rfl
/-! ### == -/
noncomputable def shp (d : D) : Bool := PySem.SeqAt.shaped d
noncomputable def eqD : D → D → Option D := fun a b => if shp a = true ∧ shp b = true then some (.bool (PyData.eqv a b)) else none
noncomputable def neD : D → D → Option D := fun a b => if shp a = true ∧ shp b = true then some (.bool (!PyData.eqv a b)) else none
@[simp] theorem eqD_int (i j : Int) : eqD (.int i) (.int j) = some (.bool (i == j)) := rfl
@[simp] theorem neD_int (i j : Int) : neD (.int i) (.int j) = some (.bool (!(i == j))) := rfl
@[simp] theorem eqD_bool (i j : Bool) : eqD (.bool i) (.bool j) = some (.bool (i == j)) := rfl
@[simp] theorem neD_bool (i j : Bool) : neD (.bool i) (.bool j) = some (.bool (!(i == j))) := rfl
noncomputable def isN (d : D) : Bool := match d with
  | .none => true
  | _ => false
noncomputable def isD : D → D → Option D := fun a b => match b with
  | .none => some (.bool (isN a))
  | _ => none
noncomputable def isntD : D → D → Option D := fun a b => match b with
  | .none => some (.bool (!isN a))
  | _ => none
@[simp] theorem isD_none (a : D) : isD a .none = some (.bool (isN a)) := rfl
@[simp] theorem isntD_none (a : D) : isntD a .none = some (.bool (!isN a)) := rfl
@[simp] theorem isN_none : isN .none = true := rfl
@[simp] theorem isN_int (i : Int) : isN (.int i) = false := rfl
/-! ### items -/
noncomputable def ixD : D → D → Option D
  | .list xs, .int i => atI xs i
  | .tuple xs, .int i => atI xs i
  | _, _ => none
@[simp] theorem ixD_list (xs : List D) (i : Int) : ixD (.list xs) (.int i) = atI xs i := rfl
@[simp] theorem ixD_tuple (xs : List D) (i : Int) : ixD (.tuple xs) (.int i) = atI xs i := rfl
theorem atI_of {α : Type} {xs : List α} {i : Int} {j : Nat} {v : α} (hi : i = j) (h : xs[j]? = some v) : atI xs i = some v := by
  have hl : j < xs.length := (List.getElem?_eq_some_iff.mp h).1
  subst hi
  unfold atI ixN
  rw [if_pos (by lia), if_pos (by lia)]
  simpa using h
@[simp] theorem at0 {α : Type} (a : α) (r : List α) : atI (a :: r) 0 = some a := atI_of (j := 0) rfl rfl
@[simp] theorem at1 {α : Type} (a b : α) (r : List α) : atI (a :: b :: r) 1 = some b := atI_of (j := 1) rfl rfl
@[simp] theorem at2 {α : Type} (a b c : α) (r : List α) : atI (a :: b :: c :: r) 2 = some c := atI_of (j := 2) rfl rfl
@[simp] theorem at3 {α : Type} (a b c d : α) (r : List α) : atI (a :: b :: c :: d :: r) 3 = some d := atI_of (j := 3) rfl rfl
@[simp] theorem at4 {α : Type} (a b c d e : α) (r : List α) : atI (a :: b :: c :: d :: e :: r) 4 = some e := atI_of (j := 4) rfl rfl
@[simp] theorem at5 {α : Type} (a b c d e f : α) (r : List α) : atI (a :: b :: c :: d :: e :: f :: r) 5 = some f := atI_of (j := 5) rfl rfl
@[simp] theorem at6 {α : Type} (a b c d e f g : α) (r : List α) : atI (a :: b :: c :: d :: e :: f :: g :: r) 6 = some g := atI_of (j := 6) rfl rfl
@[simp] theorem at7 {α : Type} (a b c d e f g h : α) (r : List α) : atI (a :: b :: c :: d :: e :: f :: g :: h :: r) 7 = some h := atI_of (j := 7) rfl rfl
/-! ### builtins -/
noncomputable def lenD : List D → Option D
  | [.list xs] => some (.int xs.length)
  | [.tuple xs] => some (.int xs.length)
  | _ => none
@[simp] theorem lenD_list (xs : List D) : lenD [.list xs] = some (.int xs.length) := rfl
@[simp] theorem lenD_tuple (xs : List D) : lenD [.tuple xs] = some (.int xs.length) := rfl
noncomputable def minD : List D → Option D
  | [.int i, .int j] => some (.int (if j < i then j else i))
  | _ => none
noncomputable def maxD : List D → Option D
  | [.int i, .int j] => some (.int (if j > i then j else i))
  | _ => none
@[simp] theorem minD_int (i j : Int) : minD [.int i, .int j] = some (.int (if j < i then j else i)) := rfl
@[simp] theorem maxD_int (i j : Int) : maxD [.int i, .int j] = some (.int (if j > i then j else i)) := rfl
noncomputable def intD : List D → Option D
  | [.int i] => some (.int i)
  | [.bool b] => some (.int (if b then 1 else 0))
  | _ => none
@[simp] theorem intD_int (i : Int) : intD [.int i] = some (.int i) := rfl
@[simp] theorem intD_bool (b : Bool) : intD [.bool b] = some (.int (if b then 1 else 0)) := rfl
noncomputable def listD : List D → Option D
  | [.list xs] => some (.list xs)
  | [.tuple xs] => some (.list xs)
  | _ => none
@[simp] theorem listD_list (xs : List D) : listD [.list xs] = some (.list xs) := rfl
@[simp] theorem listD_tuple (xs : List D) : listD [.tuple xs] = some (.list xs) := rfl
noncomputable def tupleD : List D → Option D
  | [.list xs] => some (.tuple xs)
  | [.tuple xs] => some (.tuple xs)
  | _ => none
@[simp] theorem tupleD_list (xs : List D) : tupleD [.list xs] = some (.tuple xs) := rfl
@[simp] theorem tupleD_tuple (xs : List D) : tupleD [.tuple xs] = some (.tuple xs) := rfl
noncomputable def bitsD : D → Option D
  | .int i => some (.int (Builtin.Int.intBits i))
  | _ => none
@[simp] theorem bitsD_int (i : Int) : bitsD (.int i) = some (.int (Builtin.Int.intBits i)) := rfl
noncomputable def tyN : D → String
  | .none => "NoneType"
  | .bool _ => "bool"
  | .int _ => "int"
  | .str _ => "str"
  | .list _ => "list"
  | .tuple _ => "tuple"
  | .dict _ => "dict"
noncomputable def isiB (t T : String) : Bool := t == T || (t == "bool" && T == "int")
noncomputable def isDct : D → Bool
  | .dict _ => true
  | _ => false
noncomputable def isiD (T : String) (d : D) : Option D := if isDct d = true then none else if T = "int" ∨ T = "bool" ∨ T = "str" ∨ T = "list" ∨ T = "tuple" then some (.bool (isiB (tyN d) T)) else none
@[simp] theorem isi_int_int (i : Int) : isiD "int" (.int i) = some (.bool true) := rfl
@[simp] theorem isi_bool_int (i : Int) : isiD "bool" (.int i) = some (.bool false) := rfl
@[simp] theorem isi_int_bool (i : Bool) : isiD "int" (.bool i) = some (.bool true) := rfl
@[simp] theorem isi_bool_bool (i : Bool) : isiD "bool" (.bool i) = some (.bool true) := rfl
@[simp] theorem isi_tuple_tuple (xs : List D) : isiD "tuple" (.tuple xs) = some (.bool true) := rfl
@[simp] theorem isi_list_list (xs : List D) : isiD "list" (.list xs) = some (.bool true) := rfl
/-! ### statements -/
@[simp] noncomputable def sRet (f : Dv → Option D) : Sf := fun δ => (f δ).bind fun d => some (.rt d, δ)
@[simp] noncomputable def sSet (i : Nat) (f : Dv → Option D) : Sf := fun δ => (f δ).bind fun d => some (.nx, δ.set i (.fz d))
@[simp] noncomputable def sDrop (f : Dv → Option D) : Sf := fun δ => (f δ).bind fun _ => some (.nx, δ)
@[simp] noncomputable def sNx : Sf := fun δ => some (.nx, δ)
@[simp] noncomputable def sBk : Sf := fun δ => some (.bk, δ)
@[simp] noncomputable def sCt : Sf := fun δ => some (.ct, δ)
@[simp] noncomputable def sSeq (s t : Sf) : Sf := fun δ => (s δ).bind fun r => match r with
  | (.nx, δ') => t δ'
  | r => some r
@[simp] noncomputable def sIf (t : Dv → Option Bool) (u w : Sf) : Sf := fun δ => (t δ).bind fun c => if c = true then u δ else w δ
noncomputable def dFz (i : Nat) (δ : Dv) : Dv := match δ[i]? with
  | some (.ow ds) => δ.set i (.fz (.list ds))
  | _ => δ
@[simp] noncomputable def gN (i : Nat) : D → Dv → Option Dv := fun d δ => some (δ.set i (.fz d))
noncomputable def loop (g : D → Dv → Option Dv) (b : Sf) : List D → Sf
  | [], δ => some (.nx, δ)
  | d :: ds, δ => (g d δ).bind fun δ1 => (b δ1).bind fun r => match r with
    | (.nx, δ2) => loop g b ds δ2
    | (.ct, δ2) => loop g b ds δ2
    | (.bk, δ2) => some (.nx, δ2)
    | (.rt x, δ2) => some (.rt x, δ2)
@[simp] theorem loop_nil (g : D → Dv → Option Dv) (b : Sf) (δ : Dv) : loop g b [] δ = some (.nx, δ) := rfl
@[simp] noncomputable def sFor (f : Dv → Option (List D)) (g : D → Dv → Option Dv) (b : Sf) : Sf := fun δ => (f δ).bind fun ds => loop g b ds δ
noncomputable def rngL (lo : Int) (n : Nat) : List D := (List.range n).map fun k => .int (lo + (k : Nat))
noncomputable def rng1D : List D → Option (List D)
  | [.int j] => if j < 2 ^ 62 ∧ -(2 ^ 62) ≤ j then some (rngL 0 j.toNat) else none
  | _ => none
noncomputable def rng2D : List D → Option (List D)
  | [.int i, .int j] => if (i < 2 ^ 62 ∧ -(2 ^ 62) ≤ i) ∧ j < 2 ^ 62 ∧ -(2 ^ 62) ≤ j then some (rngL i (j - i).toNat) else none
  | _ => none
theorem rng1D_int {j : Int} (h : j < 4611686018427387904) (h2 : -4611686018427387904 ≤ j) : rng1D [.int j] = some (rngL 0 j.toNat) := if_pos ⟨h, h2⟩
@[simp] noncomputable def oL (fs : Dv → Option (List D)) (g : List D → Option (List D)) : Dv → Option (List D) := fun δ => (fs δ).bind g
noncomputable def itsD : D → Option (List D)
  | .list xs => some xs
  | .tuple xs => some xs
  | _ => none
@[simp] theorem itsD_list (xs : List D) : itsD (.list xs) = some xs := rfl
@[simp] theorem itsD_tuple (xs : List D) : itsD (.tuple xs) = some xs := rfl
noncomputable def lstI : D → Option (List D)
  | .list xs => some xs
  | _ => none
noncomputable def tupI : D → Option (List D)
  | .tuple xs => some xs
  | _ => none
@[simp] noncomputable def oI (f : Dv → Option D) (g : D → Option (List D)) : Dv → Option (List D) := fun δ => (f δ).bind g
@[simp] noncomputable def oNo : Dv → Option (Option Int) := fun _ => some none
noncomputable def asI : D → Option (Option Int)
  | .int i => some (some i)
  | _ => none
@[simp] theorem asI_int (i : Int) : asI (.int i) = some (some i) := rfl
@[simp] noncomputable def oP (f : Dv → Option D) : Dv → Option (Option Int) := fun δ => (f δ).bind asI
noncomputable def cutD (xs : List D) (lo hi : Option Int) : List D := (xs.drop (HT.sIx xs.length 0 lo)).take (HT.sIx xs.length xs.length hi - HT.sIx xs.length 0 lo)
noncomputable def slD : D → Option Int → Option Int → Option D
  | .list xs, lo, hi => some (.list (cutD xs lo hi))
  | .tuple xs, lo, hi => some (.tuple (cutD xs lo hi))
  | _, _, _ => none
@[simp] noncomputable def oSl (f : Dv → Option D) (l u : Dv → Option (Option Int)) : Dv → Option D := fun δ => (f δ).bind fun x => (l δ).bind fun i => (u δ).bind fun j => slD x i j
noncomputable def startD (N : List Str) (as : List D) : Dv := as.map .fz ++ List.replicate (N.length - as.length) .un
noncomputable def runB (N : List Str) (n : Nat) (b : Sf) : List D → Option D := fun as => if as.length = n then (b (startD N as)).bind fun r => match r with
    | (.rt d, _) => some d
    | (.nx, _) => some .none
    | _ => none
  else none
end VL

set_option Elab.async false
set_option linter.all false
set_option maxRecDepth 100000
set_option maxHeartbeats 4000000
/-! Values as plain data over the hand layer: what an expression, a statement, a def is worth, as a partial function over plain data. -/
namespace VL
open PySem PySem.Spec PyProof.Rows L2

noncomputable abbrev Fg := PySem.W.Frag
noncomputable abbrev St := L2.St

/-- things that are no plain data: an exception of a class of the text, a def of the text -/
noncomputable def exO (a C : Addr) : HO := .ext fun h => ∃ o, h.get? a = some o ∧ o.cls = .ref C
inductive Opq (K : Fg) (Z : Hp) (a : Addr) : List (D × D) → Prop
  | exc {n : Str} {C : Addr} : PySem.W.nsIn K mainGlobals n = some (some (.ref C)) → Z a = some (exO a C) → Opq K Z a [(.str "exc", .str n)]
  | fn {n : Str} : PySem.W.nsIn K mainGlobals n = some (some (.ref a)) → Opq K Z a [(.str "fn", .str n)]
theorem Opq.same {K : Fg} {Z Z' : Hp} {a : Addr} {kvs : List (D × D)} (s : Same Z Z') (h : Opq K Z a kvs) : Opq K Z' a kvs := by
  cases h with
  | exc h1 h2 => exact .exc h1 (s _ _ h2)
  | fn h1 => exact .fn h1
mutual
inductive Rep (K : Fg) (Z : Hp) : V → D → Prop
  | non : Rep K Z .non .none
  | bl (b : Bool) : Rep K Z (.bl b) (.bool b)
  | int (i : Int) : Rep K Z (.int i) (.int i)
  | str (x : Str) : Rep K Z (.str x) (.str x)
  | tup {a : Addr} {xs : List V} {ds : List D} : SqT K Z a xs → Reps K Z xs ds → Rep K Z (.ref a) (.tuple ds)
  | lst {a : Addr} {xs : List V} {ds : List D} : SqL K Z a xs → Reps K Z xs ds → Rep K Z (.ref a) (.list ds)
  | opq {a : Addr} {kvs : List (D × D)} : Opq K Z a kvs → Rep K Z (.ref a) (.dict kvs)
inductive Reps (K : Fg) (Z : Hp) : List V → List D → Prop
  | nil : Reps K Z [] []
  | cons {v : V} {d : D} {vs : List V} {ds : List D} : Rep K Z v d → Reps K Z vs ds → Reps K Z (v :: vs) (d :: ds)
end

theorem Rd.same {H H' : Hp} {a : Addr} {u : HO} (h : Rd H a u) (s : Same H H') : Rd H' a u := by
  rcases h with h | ⟨o, h⟩
  · exact .inl (s _ _ h)
  · exact .inr ⟨o, s _ _ h⟩
theorem SqT.same {K : Fg} {H H' : Hp} {a : Addr} {xs : List V} (h : SqT K H a xs) (s : Same H H') : SqT K H' a xs := by
  rcases h with h | h
  · exact .inl (Rd.same h s)
  · exact .inr h
theorem SqL.same {K : Fg} {H H' : Hp} {a : Addr} {xs : List V} (h : SqL K H a xs) (s : Same H H') : SqL K H' a xs := by
  rcases h with h | h
  · exact .inl (Rd.same h s)
  · exact .inr h
mutual
theorem Rep.same {K : Fg} {Z Z' : Hp} (s : Same Z Z') : ∀ {v : V} {d : D}, Rep K Z v d → Rep K Z' v d
  | _, _, .non => .non
  | _, _, .bl b => .bl b
  | _, _, .int i => .int i
  | _, _, .str x => .str x
  | _, _, .tup h r => .tup (SqT.same h s) (Reps.same s r)
  | _, _, .lst h r => .lst (SqL.same h s) (Reps.same s r)
  | _, _, .opq h => .opq (Opq.same s h)
theorem Reps.same {K : Fg} {Z Z' : Hp} (s : Same Z Z') : ∀ {vs : List V} {ds : List D}, Reps K Z vs ds → Reps K Z' vs ds
  | _, _, .nil => .nil
  | _, _, .cons h r => .cons (Rep.same s h) (Reps.same s r)
end
theorem Reps.length {K : Fg} {Z : Hp} : ∀ {vs : List V} {ds : List D}, Reps K Z vs ds → vs.length = ds.length
  | _, _, .nil => rfl
  | _, _, .cons _ r => congrArg (· + 1) (Reps.length r)
theorem Reps.get {K : Fg} {Z : Hp} : ∀ {vs : List V} {ds : List D} {i : Nat} {d : D}, Reps K Z vs ds → ds[i]? = some d → ∃ v, vs[i]? = some v ∧ Rep K Z v d
  | _, _, _, _, .nil, e => by simp at e
  | _, _, 0, _, .cons r _, e => by simp at e; subst e; exact ⟨_, rfl, r⟩
  | _, _, i + 1, d, .cons _ t, e => by
    obtain ⟨u, h1, h2⟩ := Reps.get (i := i) (d := d) t (by simpa using e)
    exact ⟨u, by simpa using h1, h2⟩
theorem Reps.set {K : Fg} {Z : Hp} {x : V} {u : D} (r : Rep K Z x u) : ∀ {xs : List V} {us : List D} (i : Nat), Reps K Z xs us → Reps K Z (xs.set i x) (us.set i u)
  | _, _, _, .nil => .nil
  | _, _, 0, .cons _ t => .cons r t
  | _, _, i + 1, .cons q t => .cons q (Reps.set r i t)
theorem Reps.append {K : Fg} {Z : Hp} : ∀ {xs ys : List V} {us ws : List D}, Reps K Z xs us → Reps K Z ys ws → Reps K Z (xs ++ ys) (us ++ ws)
  | _, _, _, _, .nil, s => s
  | _, _, _, _, .cons r t, s => .cons r (Reps.append t s)
theorem Reps.take {K : Fg} {Z : Hp} : ∀ {xs : List V} {us : List D} (n : Nat), Reps K Z xs us → Reps K Z (xs.take n) (us.take n)
  | _, _, 0, _ => .nil
  | _, _, _ + 1, .nil => .nil
  | _, _, n + 1, .cons r t => .cons r (Reps.take n t)
theorem Reps.drop {K : Fg} {Z : Hp} : ∀ {xs : List V} {us : List D} (n : Nat), Reps K Z xs us → Reps K Z (xs.drop n) (us.drop n)
  | _, _, 0, r => r
  | _, _, _ + 1, .nil => .nil
  | _, _, n + 1, .cons _ t => Reps.drop n t
theorem Rep.int_eq {K : Fg} {Z : Hp} {v : V} {i : Int} (h : Rep K Z v (.int i)) : v = .int i := by cases h; rfl
theorem Rep.bl_eq {K : Fg} {Z : Hp} {v : V} {b : Bool} (h : Rep K Z v (.bool b)) : v = .bl b := by cases h; rfl
theorem Reps.ints {K : Fg} {Z : Hp} : ∀ ns : List Int, Reps K Z (ns.map V.int) (ns.map PyData.int)
  | [] => .nil
  | n :: r => .cons (.int n) (Reps.ints r)

/-! ### from the abstract heap to the heap -/
mutual
theorem Rep.reads {X : Cx} {pins : List (Addr × Obj)} {σ : St} {H Z : Hp} {s : Shared} (I : Inv X pins σ H s) (zh : Same Z H) : ∀ {v : V} {d : D} {u : Value}, Rep X.K Z v d → RelV v u → d.canLay0 = true → ∃ as, Reads s.heap u d as
  | _, _, u, .non, r, _ => by cases (show u = Value.none from r); exact ⟨_, .none⟩
  | _, _, u, .bl b, r, _ => by cases (show u = Value.bool b from r); exact ⟨_, .bool b⟩
  | _, _, u, .int i, r, _ => by obtain ⟨t, rfl⟩ := (show ∃ t, u = Value.int i t from r); exact ⟨_, .int i t⟩
  | _, _, u, .str x, r, _ => by obtain ⟨t, rfl⟩ := (show ∃ t, u = Value.str x t from r); exact ⟨_, .str x t⟩
  | _, _, u, .tup (a := a) h q, r, hc => by
    cases (show u = Value.ref a from r)
    obtain ⟨its, rv, ht, _⟩ := I.tuple (SqT.same h zh)
    obtain ⟨as, ra⟩ := Reps.reads I zh q rv hc
    obtain ⟨o, e, c, n, dd⟩ := ht
    exact ⟨_, reads_tuple_at e c dd (by simpa using ra)⟩
  | _, _, u, .lst (a := a) h q, r, hc => by
    cases (show u = Value.ref a from r)
    obtain ⟨its, rv, ht, _⟩ := I.list (SqL.same h zh)
    obtain ⟨as, ra⟩ := Reps.reads I zh q rv hc
    obtain ⟨o, n, e, c, _, dd⟩ := ht
    exact ⟨_, reads_list_at e c dd (by simpa using ra)⟩
  | _, _, u, .opq h, r, hc => by cases hc
theorem Reps.reads {X : Cx} {pins : List (Addr × Obj)} {σ : St} {H Z : Hp} {s : Shared} (I : Inv X pins σ H s) (zh : Same Z H) : ∀ {vs : List V} {ds : List D} {us : List Value}, Reps X.K Z vs ds → Vals vs us → PyData.canLayAll0 ds = true → ∃ as, ReadsAll s.heap us ds as
  | _, _, _, .nil, .nil, _ => ⟨_, .nil⟩
  | _, _, _, .cons h q, .cons r t, hc => by
    have hc' := Bool.and_eq_true_iff.mp hc
    obtain ⟨as, ha⟩ := Rep.reads I zh h r hc'.1
    obtain ⟨bs, hb⟩ := Reps.reads I zh q t hc'.2
    exact ⟨_, .cons ha hb⟩
end

/-! ### what is new -/
structure New (Z H Z' H' : Hp) : Prop where
  z : Same Z Z'
  h : Same H H'
  zh : Same Z' H'
  o : ∀ b, H b ≠ none → Z' b = Z b
theorem New.refl {Z H : Hp} (zh : Same Z H) : New Z H Z H := ⟨Same.refl _, Same.refl _, zh, fun _ _ => rfl⟩
theorem New.trans {Z H Z1 H1 Z2 H2 : Hp} (a : New Z H Z1 H1) (b : New Z1 H1 Z2 H2) : New Z H Z2 H2 :=
  ⟨a.z.trans b.z, a.h.trans b.h, b.zh, fun c hc => by
    have : H1 c ≠ none := by
      cases e : H c with
      | none => exact absurd e hc
      | some o => rw [a.h c o e]; intro z; cases z
    rw [b.o c this, a.o c hc]⟩
theorem same_upd {H : Hp} {p : Addr} {o : HO} (h : H p = none) : Same H (upd H p o) := fun b u e => by
  rw [upd_ne (ne_of_none e h)]; exact e
theorem free_of {Z H : Hp} (zh : Same Z H) {p : Addr} (h : H p = none) : Z p = none := by
  cases e : Z p with
  | none => rfl
  | some o => rw [zh p o e] at h; cases h
/-- a new object, known for good -/
theorem New.add {Z H : Hp} (zh : Same Z H) {p : Addr} (hp : H p = none) (o : HO) : New Z H (upd Z p o) (upd H p o) where
  z := same_upd (free_of zh hp)
  h := same_upd hp
  zh := fun b u e => by
    by_cases hb : b = p
    · subst hb; rw [upd_same] at e ⊢; exact e
    · rw [upd_ne hb] at e ⊢; exact zh b u e
  o := fun b hb => by
    have : b ≠ p := fun z => hb (z ▸ hp)
    rw [upd_ne this]

/-! ### slots -/

structure Hold (K : Fg) (H₀ Z₀ Z : Hp) (δ : Dv) (σ : St) (H : Hp) : Prop where
  zh : Same Z H
  h0 : Same H₀ H
  z0 : Same Z₀ Z
  zb : ∀ b, H₀ b ≠ none → Z b = Z₀ b
  len : δ.length = σ.length
  fz : ∀ (i : Nat) d, δ[i]? = some (.fz d) → ∃ v, σ[i]? = some (some v) ∧ Rep K Z v d
  ow : ∀ (i : Nat) ds, δ[i]? = some (.ow ds) → ∃ a xs, σ[i]? = some (some (.ref a)) ∧ H₀ a = none ∧ Z a = none ∧ H a = some (.lst xs) ∧ Reps K Z xs ds
  dj : ∀ (i j : Nat) ds es a, i ≠ j → δ[i]? = some (.ow ds) → δ[j]? = some (.ow es) → σ[i]? = some (some (.ref a)) → σ[j]? ≠ some (some (V.ref a))
section
variable {K : Fg} {H₀ Z₀ Z Z' H H' : Hp} {δ : Dv} {σ : St}
theorem Hold.new (h : Hold K H₀ Z₀ Z δ σ H) (n : New Z H Z' H') : Hold K H₀ Z₀ Z' δ σ H' where
  zh := n.zh
  h0 := h.h0.trans n.h
  z0 := h.z0.trans n.z
  zb := fun b hb => by
    have : H b ≠ none := by
      cases e : H₀ b with
      | none => exact absurd e hb
      | some o => rw [h.h0 b o e]; intro z; cases z
    rw [n.o b this, h.zb b hb]
  len := h.len
  fz := fun i d e => let ⟨v, a, r⟩ := h.fz i d e; ⟨v, a, r.same n.z⟩
  ow := fun i ds e => by
    obtain ⟨a, xs, h1, h2, h3, h4, h5⟩ := h.ow i ds e
    exact ⟨a, xs, h1, h2, by rw [n.o a (by rw [h4]; intro z; cases z)]; exact h3, n.h a _ h4, h5.same n.z⟩
  dj := h.dj
/-- a name is given a known value -/
theorem Hold.set (h : Hold K H₀ Z₀ Z δ σ H) {i : Nat} {v : V} {d : D} (r : Rep K Z v d) : Hold K H₀ Z₀ Z (δ.set i (.fz d)) (σ.set i (some v)) H where
  zh := h.zh
  h0 := h.h0
  z0 := h.z0
  zb := h.zb
  len := by simp [h.len]
  fz := fun j e q => by
    by_cases hj : i = j
    · subst hj
      have hl : i < δ.length := by
        have := (List.getElem?_eq_some_iff.mp q).1
        simpa using this
      rw [List.getElem?_set_self hl] at q
      cases q
      exact ⟨v, List.getElem?_set_self (by rw [← h.len]; exact hl), r⟩
    · rw [List.getElem?_set_ne hj] at q
      obtain ⟨u, a, b⟩ := h.fz j e q
      exact ⟨u, by rw [List.getElem?_set_ne hj]; exact a, b⟩
  ow := fun j es q => by
    by_cases hj : i = j
    · subst hj
      have hl : i < δ.length := by
        have := (List.getElem?_eq_some_iff.mp q).1
        simpa using this
      rw [List.getElem?_set_self hl] at q
      cases q
    · rw [List.getElem?_set_ne hj] at q ⊢
      exact h.ow j es q
  dj := fun j k ds es a hjk q1 q2 => by
    by_cases hj : i = j
    · subst hj
      have hl : i < δ.length := by
        have := (List.getElem?_eq_some_iff.mp q1).1
        simpa using this
      rw [List.getElem?_set_self hl] at q1
      cases q1
    · by_cases hk : i = k
      · subst hk
        have hl : i < δ.length := by
          have := (List.getElem?_eq_some_iff.mp q2).1
          simpa using this
        rw [List.getElem?_set_self hl] at q2
        cases q2
      · rw [List.getElem?_set_ne hj] at q1
        rw [List.getElem?_set_ne hk] at q2
        rw [List.getElem?_set_ne hj, List.getElem?_set_ne hk]
        exact h.dj j k ds es a hjk q1 q2
/-- a name is given a new list of its own -/
theorem Hold.setO (h : Hold K H₀ Z₀ Z δ σ H) {i : Nat} {p : Addr} {xs : List V} {ds : List D} (hp : H p = none) (r : Reps K Z xs ds) : Hold K H₀ Z₀ Z (δ.set i (.ow ds)) (σ.set i (some (.ref p))) (upd H p (.lst xs)) where
  zh := h.zh.trans (same_upd hp)
  h0 := h.h0.trans (same_upd hp)
  z0 := h.z0
  zb := h.zb
  len := by simp [h.len]
  fz := fun j e q => by
    by_cases hj : i = j
    · subst hj
      have hl : i < δ.length := by
        have := (List.getElem?_eq_some_iff.mp q).1
        simpa using this
      rw [List.getElem?_set_self hl] at q
      cases q
    · rw [List.getElem?_set_ne hj] at q
      obtain ⟨u, a, b⟩ := h.fz j e q
      exact ⟨u, by rw [List.getElem?_set_ne hj]; exact a, b⟩
  ow := fun j es q => by
    by_cases hj : i = j
    · subst hj
      have hl : i < δ.length := by
        have := (List.getElem?_eq_some_iff.mp q).1
        simpa using this
      rw [List.getElem?_set_self hl] at q
      cases q
      exact ⟨p, xs, List.getElem?_set_self (by rw [← h.len]; exact hl), free_of h.h0 hp, free_of h.zh hp, upd_same, r⟩
    · rw [List.getElem?_set_ne hj] at q ⊢
      obtain ⟨a, ys, h1, h2, h3, h4, h5⟩ := h.ow j es q
      exact ⟨a, ys, h1, h2, h3, by rw [upd_ne (ne_of_none h4 hp)]; exact h4, h5⟩
  dj := fun j k ds es a hjk q1 q2 => by
    have old : ∀ {m : Nat} {fs : List D}, δ[m]? = some (.ow fs) → σ[m]? ≠ some (some (V.ref p)) := fun {m fs} q z => by
      obtain ⟨b, ys, h1, h2, h3, h4, h5⟩ := h.ow m fs q
      rw [h1] at z
      cases z
      rw [hp] at h4
      cases h4
    have hl : ∀ {m : Nat} {x : Sl}, (δ.set i x)[m]? ≠ none → m < σ.length := fun {m x} q => by
      have : m < (δ.set i x).length := by
        rcases Nat.lt_or_ge m (δ.set i x).length with g | g
        · exact g
        · exact absurd (List.getElem?_eq_none_iff.mpr g) q
      rw [← h.len]; simpa using this
    by_cases hj : i = j
    · subst hj
      have h1 : i < σ.length := hl (by rw [q1]; intro z; cases z)
      rw [List.getElem?_set_self h1]
      intro e
      cases e
      rw [List.getElem?_set_ne hjk] at q2 ⊢
      exact old q2
    · rw [List.getElem?_set_ne hj] at q1 ⊢
      by_cases hk : i = k
      · subst hk
        have h1 : i < σ.length := hl (by rw [q2]; intro z; cases z)
        intro e z
        rw [List.getElem?_set_self h1] at z
        cases z
        exact old q1 e
      · rw [List.getElem?_set_ne hk] at q2 ⊢
        exact h.dj j k ds es a hjk q1 q2
/-- a list of one's own is changed -/
theorem Hold.chg (h : Hold K H₀ Z₀ Z δ σ H) {i : Nat} {p : Addr} {xs ys : List V} {ds es : List D} (e : δ[i]? = some (.ow ds)) (ep : σ[i]? = some (some (.ref p))) (r : Reps K Z ys es) : Hold K H₀ Z₀ Z (δ.set i (.ow es)) σ (upd H p (.lst ys)) := by
  obtain ⟨a, zs, h1, h2, h3, h4, h5⟩ := h.ow i ds e
  rw [ep] at h1
  cases h1
  have hl : i < δ.length := (List.getElem?_eq_some_iff.mp e).1
  refine ⟨fun b o q => ?_, fun b o q => ?_, h.z0, h.zb, by simp [h.len], fun j d q => ?_, fun j d q => ?_, fun j k d1 d2 a hjk q1 q2 => ?_⟩
  · rw [upd_ne (ne_of_none q h3)]; exact h.zh b o q
  · rw [upd_ne (ne_of_none q h2)]; exact h.h0 b o q
  · by_cases hj : i = j
    · subst hj
      rw [List.getElem?_set_self hl] at q
      cases q
    · rw [List.getElem?_set_ne hj] at q
      exact h.fz j d q
  · by_cases hj : i = j
    · subst hj
      rw [List.getElem?_set_self hl] at q
      cases q
      exact ⟨p, ys, ep, h2, h3, upd_same, r⟩
    · rw [List.getElem?_set_ne hj] at q
      obtain ⟨b, ws, g1, g2, g3, g4, g5⟩ := h.ow j d q
      refine ⟨b, ws, g1, g2, g3, ?_, g5⟩
      have : b ≠ p := fun z => by subst z; exact h.dj i j ds d b hj e q ep g1
      rw [upd_ne this]; exact g4
  · have f : ∀ {m : Nat} {dm : List D}, (δ.set i (.ow es))[m]? = some (.ow dm) → ∃ dm', δ[m]? = some (.ow dm') := fun {m dm} q => by
      by_cases hm : i = m
      · subst hm; exact ⟨ds, e⟩
      · rw [List.getElem?_set_ne hm] at q; exact ⟨dm, q⟩
    obtain ⟨e1, g1⟩ := f q1
    obtain ⟨e2, g2⟩ := f q2
    exact h.dj j k e1 e2 a hjk g1 g2
/-- a list of one's own is known for good -/
theorem Hold.frz (h : Hold K H₀ Z₀ Z δ σ H) {i : Nat} {ds : List D} (e : δ[i]? = some (.ow ds)) : ∃ Z', Same Z Z' ∧ Hold K H₀ Z₀ Z' (δ.set i (.fz (.list ds))) σ H := by
  obtain ⟨a, xs, h1, h2, h3, h4, h5⟩ := h.ow i ds e
  have hl : i < δ.length := (List.getElem?_eq_some_iff.mp e).1
  have sz : Same Z (upd Z a (.lst xs)) := same_upd h3
  refine ⟨upd Z a (.lst xs), sz, fun b o q => ?_, h.h0, h.z0.trans sz, fun b hb => ?_, by simp [h.len], fun j d q => ?_, fun j d q => ?_, fun j k d1 d2 b hjk q1 q2 => ?_⟩
  · by_cases hb : b = a
    · subst hb; rw [upd_same] at q; cases q; exact h4
    · rw [upd_ne hb] at q; exact h.zh b o q
  · rw [upd_ne (fun z => hb (by rw [z]; exact h2))]; exact h.zb b hb
  · by_cases hj : i = j
    · subst hj
      rw [List.getElem?_set_self hl] at q
      cases q
      exact ⟨.ref a, h1, .lst (SqL.of upd_same) (h5.same sz)⟩
    · rw [List.getElem?_set_ne hj] at q
      obtain ⟨v, g1, g2⟩ := h.fz j d q
      exact ⟨v, g1, g2.same sz⟩
  · by_cases hj : i = j
    · subst hj
      rw [List.getElem?_set_self hl] at q
      cases q
    · rw [List.getElem?_set_ne hj] at q
      obtain ⟨b, ws, g1, g2, g3, g4, g5⟩ := h.ow j d q
      have : b ≠ a := fun z => by subst z; exact h.dj i j ds d b hj e q h1 g1
      exact ⟨b, ws, g1, g2, by rw [upd_ne this]; exact g3, g4, g5.same sz⟩
  · by_cases hj : i = j
    · subst hj
      rw [List.getElem?_set_self hl] at q1
      cases q1
    · by_cases hk : i = k
      · subst hk
        rw [List.getElem?_set_self hl] at q2
        cases q2
      · rw [List.getElem?_set_ne hj] at q1
        rw [List.getElem?_set_ne hk] at q2
        exact h.dj j k d1 d2 b hjk q1 q2
end

/-! ### readings by plain functions -/
noncomputable def tV (K : Fg) (f : Dv → Option D) : TE := fun σ H Q => ∃ H₀ Z₀ Z δ d, Hold K H₀ Z₀ Z δ σ H ∧ f δ = some d ∧ ∀ v Z' H', Hold K H₀ Z₀ Z' δ σ H' → Same Z Z' → Rep K Z' v d → Q v H'
noncomputable def tVT (K : Fg) (f : Dv → Option Bool) : TT := fun σ H Q => ∃ H₀ Z₀ Z δ b, Hold K H₀ Z₀ Z δ σ H ∧ f δ = some b ∧ ∀ Z' H', Hold K H₀ Z₀ Z' δ σ H' → Same Z Z' → Q b H'
noncomputable def tVA (K : Fg) (f : Dv → Option (List D)) : TA := fun σ H Q => ∃ H₀ Z₀ Z δ ds, Hold K H₀ Z₀ Z δ σ H ∧ f δ = some ds ∧ ∀ vs Z' H', Hold K H₀ Z₀ Z' δ σ H' → Same Z Z' → Reps K Z' vs ds → Q vs H'
noncomputable def Fl.to (K : Fg) (Z : Hp) (D : Ends) (σ : St) (H : Hp) : Fl → Prop
  | .nx => D.nx σ H
  | .bk => D.bk σ H
  | .ct => D.ct σ H
  | .rt d => ∀ v, Rep K Z v d → D.rt v H
noncomputable def tVS (K : Fg) (f : Dv → Option (Fl × Dv)) : TS := fun D σ H => ∃ H₀ Z₀ Z δ r, Hold K H₀ Z₀ Z δ σ H ∧ f δ = some r ∧ ∀ σ' H' Z', Hold K H₀ Z₀ Z' r.2 σ' H' → Same Z Z' → r.1.to K Z' D σ' H'
noncomputable def EV (X : Cx) (e : Expr) (f : Dv → Option D) : Prop := PE X e (tV X.K f)
noncomputable def TV (X : Cx) (e : Expr) (f : Dv → Option Bool) : Prop := PT X e (tVT X.K f)
noncomputable def AV (X : Cx) (es : List Expr) (f : Dv → Option (List D)) : Prop := PA X es (tVA X.K f)
noncomputable def SV (X : Cx) (st : Stmt) (f : Dv → Option (Fl × Dv)) : Prop := PS X st (tVS X.K f)
noncomputable def BV (X : Cx) (st : List Stmt) (f : Dv → Option (Fl × Dv)) : Prop := PSs X st (tVS X.K f)

theorem PE.imp {X : Cx} {e : Expr} {t t' : TE} (h : PE X e t) (i : ∀ σ H Q, t' σ H Q → t σ H Q) : PE X e t' := fun pins s σ H Q I hw => h pins s σ H Q I (i _ _ _ hw)
theorem PT.imp {X : Cx} {e : Expr} {t t' : TT} (h : PT X e t) (i : ∀ σ H Q, t' σ H Q → t σ H Q) : PT X e t' := fun pins s σ H Q I hw => h pins s σ H Q I (i _ _ _ hw)
theorem PA.imp {X : Cx} {es : List Expr} {t t' : TA} (h : PA X es t) (i : ∀ σ H Q, t' σ H Q → t σ H Q) : PA X es t' := fun pos pins s σ H Q I hw => h pos pins s σ H Q I (i _ _ _ hw)
theorem PS.imp {X : Cx} {st : Stmt} {t t' : TS} (h : PS X st t) (i : ∀ D σ H, t' D σ H → t D σ H) : PS X st t' := fun pins s σ H D I hw => h pins s σ H D I (i _ _ _ hw)
theorem PSs.imp {X : Cx} {st : List Stmt} {t t' : TS} (h : PSs X st t) (i : ∀ D σ H, t' D σ H → t D σ H) : PSs X st t' := fun pins s σ H D I hw => h pins s σ H D I (i _ _ _ hw)
theorem OpR.imp {X : Cx} {f : Value → Value → Sem Value} {r r' : R2} (h : OpR X f r) (i : ∀ x y H Q, r' x y H Q → r x y H Q) : OpR X f r' := fun pins s σ H x y v u Q I rx ry q => h pins s σ H x y v u Q I rx ry (i _ _ _ _ q)
theorem CallR.imp {X : Cx} {f : Value} {r r' : List V → Hp → VK → Prop} (h : CallR X f r) (i : ∀ xs H Q, r' xs H Q → r xs H Q) : CallR X f r' := fun pins s σ H xs us Q I rx q => h pins s σ H xs us Q I rx (i _ _ _ q)

/-! ### operations on known values -/
noncomputable def rD (K : Fg) (g : D → D → Option D) : R2 := fun x y H Q => ∃ Z a b d, Same Z H ∧ Rep K Z x a ∧ Rep K Z y b ∧ g a b = some d ∧ ∀ v Z' H', New Z H Z' H' → Rep K Z' v d → Q v H'
noncomputable def rD1 (K : Fg) (g : D → Option D) : V → Hp → VK → Prop := fun x H Q => ∃ Z a d, Same Z H ∧ Rep K Z x a ∧ g a = some d ∧ ∀ v Z' H', New Z H Z' H' → Rep K Z' v d → Q v H'
noncomputable def rDs (K : Fg) (g : List D → Option D) : List V → Hp → VK → Prop := fun xs H Q => ∃ Z as d, Same Z H ∧ Reps K Z xs as ∧ g as = some d ∧ ∀ v Z' H', New Z H Z' H' → Rep K Z' v d → Q v H'
noncomputable def spD (K : Fg) (g : List D → Option D) : Sp := fun vs H Q _ => rDs K g vs H Q
section
variable {X : Cx} {a b c e : Expr} {es : List Expr} {pos p : Pos} {f f1 f2 f3 : Dv → Option D} {fs : Dv → Option (List D)} {ft fu : Dv → Option Bool}
theorem bind_some {α β : Type} {o : Option α} {k : α → Option β} {r : β} (h : o.bind k = some r) : ∃ a, o = some a ∧ k a = some r := by
  cases o with
  | none => cases h
  | some a => exact ⟨a, rfl, h⟩
/-- two in a row -/
theorem two {K : Fg} {g : D → D → Option D} {σ : St} {H : Hp} {Q : VK} {r : R2} (hr : ∀ x y H Q, rD K g x y H Q → r x y H Q) (h : tV K (o2 f1 f2 g) σ H Q) : tOp r (tV K f1) (tV K f2) σ H Q := by
  obtain ⟨H₀, Z₀, Z, δ, d, hh, e, k⟩ := h
  obtain ⟨x, e1, e⟩ := bind_some e
  obtain ⟨y, e2, e⟩ := bind_some e
  refine ⟨H₀, Z₀, Z, δ, x, hh, e1, fun v Z1 H1 hh1 s1 r1 => ⟨H₀, Z₀, Z1, δ, y, hh1, e2, fun u Z2 H2 hh2 s2 r2 => hr _ _ _ _ ⟨Z2, x, y, d, hh2.zh, r1.same s2, r2, e, fun w Z3 H3 n r3 => ?_⟩⟩⟩
  exact k w Z3 H3 (hh2.new n) ((s1.trans s2).trans n.z) r3
theorem ev_op {op : Operator} {g : D → D → Option D} (ho : OpR X (binaryOp op) (rD X.K g)) (ha : EV X a f1) (hb : EV X b f2) : EV X (.BinOp a op b pos) (o2 f1 f2 g) :=
  PE.imp (pe_op ho ha hb) fun _ _ _ h => two (fun _ _ _ _ q => q) h
theorem ev_un {op : UnaryOp} {g : D → Option D} (ho : UnR X (unaryOp op) (rD1 X.K g)) (ha : EV X a f) : EV X (.UnaryOp op a pos) (o1 f g) :=
  PE.imp (pe_un ho ha) fun σ H Q h => by
    obtain ⟨H₀, Z₀, Z, δ, d, hh, e, k⟩ := h
    obtain ⟨x, e1, e⟩ := bind_some e
    exact ⟨H₀, Z₀, Z, δ, x, hh, e1, fun v Z1 H1 hh1 s1 r1 => ⟨Z1, x, d, hh1.zh, r1, e, fun w Z3 H3 n r3 => k w Z3 H3 (hh1.new n) (s1.trans n.z) r3⟩⟩
theorem ev_cmp {op : CmpOp} {g : D → D → Option D} (ho : OpR X (compareOp op) (rD X.K g)) (ha : EV X a f1) (hb : EV X b f2) (hm : behindInMarks op b = false) : EV X (.Compare a [op] [b] pos) (o2 f1 f2 g) :=
  PE.imp (pe_cmpR ho ha hb hm) fun _ _ _ h => two (fun _ _ _ _ q => q) h
/-- a value's bool -/
theorem asB_eq {d : D} {b : Bool} (h : asB d = some b) : d = .bool b := by
  cases d <;> simp [asB] at h
  subst h; rfl
theorem toB {K : Fg} {σ : St} {H : Hp} {Q : Bool → Hp → Prop} (h : tVT K (ob f) σ H Q) : tV K f σ H fun x H1 => ∃ c, x = .bl c ∧ Q c H1 := by
  obtain ⟨H₀, Z₀, Z, δ, d, hh, e, k⟩ := h
  obtain ⟨x, e1, e⟩ := bind_some e
  have := asB_eq e
  subst this
  exact ⟨H₀, Z₀, Z, δ, _, hh, e1, fun v Z1 H1 hh1 s1 r1 => ⟨_, r1.bl_eq, k Z1 H1 hh1 s1⟩⟩
theorem tv_cmp {op : CmpOp} {g : D → D → Option D} (ho : OpR X (compareOp op) (rD X.K g)) (ha : EV X a f1) (hb : EV X b f2) (hm : behindInMarks op b = false) : TV X (.Compare a [op] [b] pos) (ob (o2 f1 f2 g)) :=
  PT.imp (pt_cmpR ho ha hb hm) fun σ H Q h => by
    have h' := toB h
    exact two (f1 := f1) (f2 := f2) (g := g) (fun _ _ _ _ q => q) h'
theorem tv_val (ha : EV X a f) (he : ∀ whole, isTrue a X.env whole = (do let v ← whole; standAt a.pos; holding [v] (truthy v)) := by intro _; rfl) : TV X a (ob f) :=
  PT.imp (pt_val ha he) fun _ _ _ h => toB h
noncomputable def WV (X : Cx) (e : Expr) (f : Dv → Option Bool) : Prop := PW X e (tVT X.K f)
theorem PW.imp {X : Cx} {e : Expr} {t t' : TT} (h : PW X e t) (i : ∀ σ H Q, t' σ H Q → t σ H Q) : PW X e t' := fun whole pins s σ H Q I hw => h whole pins s σ H Q I (i _ _ _ hw)
theorem wv_and1 (ha : TV X a ft) : WV X (.BoolOp .And [a] pos) ft := pw_and1 ha
theorem wv_or1 (ha : TV X a ft) : WV X (.BoolOp .Or [a] pos) ft := pw_or1 ha
theorem wv_and {rest : List Expr} (ha : TV X a ft) (hb : WV X (.BoolOp .And (b :: rest) pos) fu) : WV X (.BoolOp .And (a :: b :: rest) pos) (oAnd ft fu) :=
  PW.imp (pw_and ha hb) fun σ H Q h => by
    obtain ⟨H₀, Z₀, Z, δ, d, hh, e, k⟩ := h
    obtain ⟨x, e1, e⟩ := bind_some e
    refine ⟨H₀, Z₀, Z, δ, x, hh, e1, fun Z1 H1 hh1 s1 => ?_⟩
    cases x with
    | true => exact ⟨H₀, Z₀, Z1, δ, d, hh1, e, fun Z2 H2 hh2 s2 => k Z2 H2 hh2 (s1.trans s2)⟩
    | false => cases e; exact k Z1 H1 hh1 s1
theorem wv_or {rest : List Expr} (ha : TV X a ft) (hb : WV X (.BoolOp .Or (b :: rest) pos) fu) : WV X (.BoolOp .Or (a :: b :: rest) pos) (oOr ft fu) :=
  PW.imp (pw_or ha hb) fun σ H Q h => by
    obtain ⟨H₀, Z₀, Z, δ, d, hh, e, k⟩ := h
    obtain ⟨x, e1, e⟩ := bind_some e
    refine ⟨H₀, Z₀, Z, δ, x, hh, e1, fun Z1 H1 hh1 s1 => ?_⟩
    cases x with
    | true => cases e; exact k Z1 H1 hh1 s1
    | false => exact ⟨H₀, Z₀, Z1, δ, d, hh1, e, fun Z2 H2 hh2 s2 => k Z2 H2 hh2 (s1.trans s2)⟩
theorem WV.tv (h : WV X a ft) : TV X a ft := PW.pt h
theorem tv_not (ha : TV X a ft) : TV X (.UnaryOp .Not a pos) (oNot ft) :=
  PT.imp (pt_not ha) fun σ H Q h => by
    obtain ⟨H₀, Z₀, Z, δ, d, hh, e, k⟩ := h
    cases e1 : ft δ with
    | none => unfold oNot at e; rw [e1] at e; cases e
    | some x =>
      unfold oNot at e
      rw [e1] at e
      cases e
      exact ⟨H₀, Z₀, Z, δ, x, hh, e1, fun Z1 H1 hh1 s1 => k Z1 H1 hh1 s1⟩
/-- and, or, not as values (bools) -/
theorem ev_one {op} (h : EV X a f) : EV X (.BoolOp op [a] pos) f := pe_one h
theorem ev_and {rest : List Expr} (ha : EV X a f1) (hb : EV X (.BoolOp .And (b :: rest) pos) f2) : EV X (.BoolOp .And (a :: b :: rest) pos) (oAndV f1 f2) :=
  PE.imp (pe_and ha hb) fun σ H Q h => by
    obtain ⟨H₀, Z₀, Z, δ, d, hh, e, k⟩ := h
    obtain ⟨x, e1, e⟩ := bind_some e
    obtain ⟨c, e2, e⟩ := bind_some e
    have := asB_eq e2
    subst this
    refine ⟨H₀, Z₀, Z, δ, _, hh, e1, fun v Z1 H1 hh1 s1 r1 => ⟨c, r1.bl_eq, ?_⟩⟩
    cases c with
    | true => exact ⟨H₀, Z₀, Z1, δ, d, hh1, e, fun v Z2 H2 hh2 s2 r2 => k v Z2 H2 hh2 (s1.trans s2) r2⟩
    | false => cases e; exact k _ Z1 H1 hh1 s1 (.bl false)
theorem ev_not (ha : EV X a f) : EV X (.UnaryOp .Not a pos) (o1 f notD) :=
  PE.imp (pe_not ha) fun σ H Q h => by
    obtain ⟨H₀, Z₀, Z, δ, d, hh, e, k⟩ := h
    obtain ⟨x, e1, e⟩ := bind_some e
    cases e2 : asB x with
    | none => unfold notD at e; rw [e2] at e; cases e
    | some c =>
      unfold notD at e
      rw [e2] at e
      cases e
      have := asB_eq e2
      subst this
      exact ⟨H₀, Z₀, Z, δ, _, hh, e1, fun v Z1 H1 hh1 s1 r1 => ⟨c, r1.bl_eq, k _ Z1 H1 hh1 s1 (.bl _)⟩⟩
theorem ev_ifx (hc : TV X c ft) (ha : EV X a f1) (hb : EV X b f2) : EV X (.IfExp c a b pos) (oIf ft f1 f2) :=
  PE.imp (pe_ifExp hc ha hb) fun σ H Q h => by
    obtain ⟨H₀, Z₀, Z, δ, d, hh, e, k⟩ := h
    obtain ⟨x, e1, e⟩ := bind_some e
    refine ⟨H₀, Z₀, Z, δ, x, hh, e1, fun Z1 H1 hh1 s1 => ?_⟩
    cases x with
    | true => exact ⟨H₀, Z₀, Z1, δ, d, hh1, e, fun v Z2 H2 hh2 s2 r2 => k v Z2 H2 hh2 (s1.trans s2) r2⟩
    | false => exact ⟨H₀, Z₀, Z1, δ, d, hh1, e, fun v Z2 H2 hh2 s2 r2 => k v Z2 H2 hh2 (s1.trans s2) r2⟩

/-! ### names, constants, argument lists, displays -/
theorem oV_eq {i : Nat} {δ : Dv} {d : D} (h : oV i δ = some d) : δ[i]? = some (.fz d) := by
  unfold oV at h
  cases q : δ[i]? with
  | none => rw [q] at h; cases h
  | some x =>
    rw [q] at h
    cases x with
    | fz e => cases h; rfl
    | un => cases h
    | ow _ => cases h
theorem ev_var (i : Nat) {x : Str} (hN : X.N[i]? = some x := by rfl) (hv : Vis X.env.scope x := by first | exact Or.inl rfl | exact Or.inr (Or.inl rfl) | exact Or.inr (Or.inr rfl)) (hd : (x == ("__debug__" : Str)) = false := by decide) (hcd : (x == ("__classdict__" : Str)) = false := by decide) :
    EV X (.Name x pos) (oV i) :=
  PE.imp (pe_var hN hv hd hcd) fun σ H Q h => by
    obtain ⟨H₀, Z₀, Z, δ, d, hh, e, k⟩ := h
    obtain ⟨v, q, r⟩ := hh.fz i d (oV_eq e)
    exact ⟨v, q, k v Z H hh (Same.refl _) r⟩
theorem ev_c {d : D} {v : V} (h : PE X e (tC v)) (r : ∀ Z, Rep X.K Z v d) : EV X e (oC d) :=
  PE.imp h fun σ H Q h => by
    obtain ⟨H₀, Z₀, Z, δ, d', hh, e, k⟩ := h
    cases e
    exact k v Z H hh (Same.refl _) (r Z)
theorem ev_int {i j} : EV X (.Constant (.int i) j pos) (oC (.int i)) := ev_c pe_int fun _ => .int i
theorem ev_bl {i j} : EV X (.Constant (.bool i) j pos) (oC (.bool i)) := ev_c pe_bl fun _ => .bl i
theorem ev_non {j} : EV X (.Constant .none j pos) (oC .none) := ev_c pe_non fun _ => .non
theorem ev_str {i j} : EV X (.Constant (.str i) j pos) (oC (.str i)) := ev_c pe_str fun _ => .str i
theorem av_nil : AV X [] oNil :=
  PA.imp pa_nil fun σ H Q h => by
    obtain ⟨H₀, Z₀, Z, δ, d, hh, e, k⟩ := h
    cases e
    exact k [] Z H hh (Same.refl _) .nil
theorem av_cons (ha : EV X e f) (hr : AV X es fs) (hs : starEach (e :: es) X.env = (false, eval e X.env) :: starEach es X.env := by rfl) : AV X (e :: es) (oCons f fs) :=
  PA.imp (pa_cons ha hr hs) fun σ H Q h => by
    obtain ⟨H₀, Z₀, Z, δ, d, hh, e, k⟩ := h
    obtain ⟨x, e1, e⟩ := bind_some e
    obtain ⟨xs, e2, e⟩ := bind_some e
    cases e
    exact ⟨H₀, Z₀, Z, δ, x, hh, e1, fun v Z1 H1 hh1 s1 r1 => ⟨H₀, Z₀, Z1, δ, xs, hh1, e2, fun vs Z2 H2 hh2 s2 r2 => k _ Z2 H2 hh2 (s1.trans s2) (.cons (r1.same s2) r2)⟩⟩
theorem ev_tup {x1} (h : AV X es fs) : EV X (.Tuple es x1 pos) (os fs tupD) :=
  PE.imp (pe_tup h) fun σ H Q h => by
    obtain ⟨H₀, Z₀, Z, δ, d, hh, e, k⟩ := h
    obtain ⟨xs, e1, e⟩ := bind_some e
    refine ⟨H₀, Z₀, Z, δ, xs, hh, e1, fun vs Z1 H1 hh1 s1 r1 => ?_⟩
    by_cases hl : xs.length ≤ sizeLine
    · rw [tupD, if_pos hl] at e
      cases e
      refine ⟨by rw [r1.length]; exact hl, fun p hp => ?_⟩
      have n := New.add hh1.zh hp (.tup vs)
      exact k _ _ _ (hh1.new n) (s1.trans n.z) (.tup (SqT.of upd_same) (r1.same n.z))
    · rw [tupD, if_neg hl] at e; cases e
theorem ev_lst (h : AV X es fs) : EV X (.List es pos) (os fs lstD) :=
  PE.imp (pe_lst h) fun σ H Q h => by
    obtain ⟨H₀, Z₀, Z, δ, d, hh, e, k⟩ := h
    obtain ⟨xs, e1, e⟩ := bind_some e
    refine ⟨H₀, Z₀, Z, δ, xs, hh, e1, fun vs Z1 H1 hh1 s1 r1 => ?_⟩
    by_cases hl : xs.length ≤ sizeLine
    · rw [lstD, if_pos hl] at e
      cases e
      refine ⟨by rw [r1.length]; exact hl, fun p hp => ?_⟩
      have n := New.add hh1.zh hp (.lst vs)
      exact k _ _ _ (hh1.new n) (s1.trans n.z) (.lst (SqL.of upd_same) (r1.same n.z))
    · rw [lstD, if_neg hl] at e; cases e
/-! ### calls -/
theorem args {K : Fg} {g : List D → Option D} {σ : St} {H : Hp} {Q : VK} (h : tV K (os fs g) σ H Q) : tVA K fs σ H fun vs H1 => rDs K g vs H1 Q := by
  obtain ⟨H₀, Z₀, Z, δ, d, hh, e, k⟩ := h
  obtain ⟨xs, e1, e⟩ := bind_some e
  exact ⟨H₀, Z₀, Z, δ, xs, hh, e1, fun vs Z1 H1 hh1 s1 r1 => ⟨Z1, xs, d, hh1.zh, r1, e, fun w Z3 H3 n r3 => k w Z3 H3 (hh1.new n) (s1.trans n.z) r3⟩⟩
theorem ev_callB {x : Str} {id : String} {g : List D → Option D} (hc : CallR X (.builtin id) (rDs X.K g)) (hg : Gl X x) (hm : X.mg x = none) (hv : bootBuiltins x = some (.builtin id)) (ha : AV X (e :: es) fs) (hn : x ≠ "__name__" := by decide) (hdb : (x == ("__debug__" : Str)) = false := by decide)
    (he : starEach (e :: es) X.env = (false, eval e X.env) :: starEach es X.env := by rfl) (hpl : (backTo pos (starEach es X.env)).any (·.1) = false := by rfl) : EV X (.Call (.Name x p) (e :: es) [] pos) (os fs g) :=
  PE.imp (pe_callB hc hg hm hv ha hn hdb he hpl) fun _ _ _ h => args h
theorem ev_callTy {x : Str} {id : String} {g : List D → Option D} (hc : CallR X (.type id) (rDs X.K g)) (hg : Gl X x) (hm : X.mg x = none) (hv : bootBuiltins x = some (.type id)) (ha : AV X (e :: es) fs) (hn : x ≠ "__name__" := by decide) (hdb : (x == ("__debug__" : Str)) = false := by decide)
    (he : starEach (e :: es) X.env = (false, eval e X.env) :: starEach es X.env := by rfl) (hpl : (backTo pos (starEach es X.env)).any (·.1) = false := by rfl) : EV X (.Call (.Name x p) (e :: es) [] pos) (os fs g) :=
  PE.imp (pe_callTy hc hg hm hv ha hn hdb he hpl) fun _ _ _ h => args h
/-- a def of the text: dd the defaults that fill up (plain) -/
theorem ev_call {k : Nat} {fa : Addr} {fd : FuncData} {ps : List Str} {x : Str} {g : List D → Option D} {dd : List D} {dv : List V} {ds : List Value} (F : FnOk X.prog X.w X.K X.mg X.base CX0 k fa fd ps (spD X.K g)) (hr : Room k X.A) (hg : Gl X x) (hm : X.mg x = some (.ref fa)) (hk : PySem.W.keepIn X.K (.ref fa) = true)
    (hb : Binds X.K fd ps ds) (hd : Vals dv ds) (hdd : ∀ Z, Reps X.K Z dv dd) (hx : Passes CX0 X E0) (ha : AV X (e :: es) fs) (hdb : (x == ("__debug__" : Str)) = false := by decide) (he : starEach (e :: es) X.env = (false, eval e X.env) :: starEach es X.env := by rfl) (hpl : (backTo pos (starEach es X.env)).any (·.1) = false := by rfl) :
    EV X (.Call (.Name x p) (e :: es) [] pos) (os fs fun as => g (as ++ dd)) :=
  PE.imp (pe_call F hr hg hm hk hb hd hx ha hdb he hpl) fun σ H Q h => by
    obtain ⟨H₀, Z₀, Z, δ, xs, hh, e1, q⟩ := args h
    refine ⟨H₀, Z₀, Z, δ, xs, hh, e1, fun vs Z1 H1 hh1 s1 r1 => ?_⟩
    obtain ⟨Z2, as, d, zh, ra, eg, kk⟩ := q vs Z1 H1 hh1 s1 r1
    exact ⟨Z2, as ++ dd, d, zh, ra.append (hdd Z2), eg, kk⟩
/-! ### subscripts -/
theorem IxR.imp {r r' : R2} (h : IxR X r) (i : ∀ x y H Q, r' x y H Q → r x y H Q) : IxR X r' := fun value slice pins s σ H x y v u Q I rx ry q hs => h value slice pins s σ H x y v u Q I rx ry (i _ _ _ _ q) hs
theorem ev_ix {g : D → D → Option D} (ho : IxR X (rD X.K g)) (ha : EV X a f1) (hb : EV X b f2) (hs : PlainIx b) : EV X (.Subscript a b pos) (o2 f1 f2 g) :=
  PE.imp (pe_ix ho ha hb hs) fun _ _ _ h => two (fun _ _ _ _ q => q) h
end
end VL

set_option Elab.async false
set_option linter.all false
set_option maxRecDepth 100000
set_option maxHeartbeats 4000000
namespace VL
open PySem PySem.Spec PyProof.Rows L2
section
variable {X : Cx} {a b c e tg : Expr} {es : List Expr} {pos p : Pos} {f f1 f2 f3 : Dv → Option D} {fs : Dv → Option (List D)} {ft fu : Dv → Option Bool} {st : Stmt} {sts body : List Stmt} {s1 s2 : Dv → Option (Fl × Dv)}

/-! ### ints -/
theorem op_iI {F : Value → Value → Sem Value} {g : Int → Int → Int} (h : OpR X F (rI0 fun i j => .int (g i j))) : OpR X F (rD X.K (iI g)) :=
  OpR.imp h fun x y H Q q => by
    obtain ⟨Z, a, b, d, zh, ra, rb, e, k⟩ := q
    cases ra <;> cases rb <;> simp [iI] at e
    subst e
    exact ⟨_, _, rfl, rfl, k _ Z H (New.refl zh) (.int _)⟩
theorem op_iB {F : Value → Value → Sem Value} {g : Int → Int → Bool} (h : OpR X F (rI0 fun i j => .bl (g i j))) : OpR X F (rD X.K (iB g)) :=
  OpR.imp h fun x y H Q q => by
    obtain ⟨Z, a, b, d, zh, ra, rb, e, k⟩ := q
    cases ra <;> cases rb <;> simp [iB] at e
    subst e
    exact ⟨_, _, rfl, rfl, k _ Z H (New.refl zh) (.bl _)⟩
theorem op_iC {F : Value → Value → Sem Value} {P : Int → Int → Prop} {C : Int → Int → Bool} {g : Int → Int → Int} (h : OpR X F (rI P fun i j => .int (g i j))) (hc : ∀ i j, C i j = true → P i j) : OpR X F (rD X.K (iC C g)) :=
  OpR.imp h fun x y H Q q => by
    obtain ⟨Z, a, b, d, zh, ra, rb, e, k⟩ := q
    cases ra with
    | int i =>
      cases rb with
      | int j =>
        by_cases hh : C i j = true
        · simp only [iC, if_pos hh] at e
          cases e
          exact ⟨_, _, rfl, rfl, hc _ _ hh, k _ Z H (New.refl zh) (.int _)⟩
        · simp only [iC, if_neg hh] at e
          cases e
      | _ => simp [iC] at e
    | _ => simp [iC] at e
theorem d_sub : OpR X (binaryOp .Sub) (rD X.K subD) := op_iI op_sub
theorem d_mulI : OpR X (binaryOp .Mult) (rD X.K mulI) := op_iC (P := fun i j => IntMulOk i j) (opI fun _ _ _ _ _ _ _ hc q => mul_int q hc) fun i j h => of_decide_eq_true h
theorem d_div : OpR X (binaryOp .FloorDiv) (rD X.K divD) := op_iC op_fdiv fun i j h => (of_decide_eq_true h : 0 < j ∧ j < 1073741824)
theorem d_mod : OpR X (binaryOp .Mod) (rD X.K modD) := op_iC op_mod fun i j h => of_decide_eq_true h
theorem d_shl : OpR X (binaryOp .LShift) (rD X.K shlD) := op_iC (P := fun i j => 0 ≤ j ∧ (Builtin.Int.intBits i : Int) + j ≤ 2 ^ 27) (opI fun _ _ _ _ _ _ _ hc q => lshift_int hc.1 hc.2 q) fun i j h => of_decide_eq_true h
theorem d_shr : OpR X (binaryOp .RShift) (rD X.K shrD) := op_iC op_shr fun i j h => of_decide_eq_true h
theorem d_and : OpR X (binaryOp .BitAnd) (rD X.K andD) := op_iI op_and
theorem d_or : OpR X (binaryOp .BitOr) (rD X.K orD) := op_iI op_or
theorem d_xor : OpR X (binaryOp .BitXor) (rD X.K xorD) := op_iI op_xor
theorem d_lt : OpR X (compareOp .Lt) (rD X.K ltD) := op_iB op_lt
theorem d_gt : OpR X (compareOp .Gt) (rD X.K gtD) := op_iB op_gt
theorem d_neg : UnR X (unaryOp .USub) (rD1 X.K negD) := by
  intro pins s σ H x v Q I rx q
  obtain ⟨Z, a, d, zh, ra, e, k⟩ := q
  cases ra <;> simp [negD] at e
  subst e
  exact un_neg pins s σ H _ v Q I rx ⟨_, rfl, k _ Z H (New.refl zh) (.int _)⟩
/-! ### + -/
theorem Rep.str_eq {K : Fg} {Z : Hp} {v : V} {x : Str} (h : Rep K Z v (.str x)) : v = .str x := by cases h; rfl
theorem Rep.tup_ex {K : Fg} {Z : Hp} {v : V} {ds : List D} (h : Rep K Z v (.tuple ds)) : ∃ a xs, v = .ref a ∧ SqT K Z a xs ∧ Reps K Z xs ds := by
  cases h with
  | tup p q => exact ⟨_, _, rfl, p, q⟩
theorem Rep.lst_ex {K : Fg} {Z : Hp} {v : V} {ds : List D} (h : Rep K Z v (.list ds)) : ∃ a xs, v = .ref a ∧ SqL K Z a xs ∧ Reps K Z xs ds := by
  cases h with
  | lst p q => exact ⟨_, _, rfl, p, q⟩
theorem ite_some {p : Prop} [Decidable p] {α : Type} {x y : α} (h : (if p then some x else none) = some y) : p ∧ x = y := by
  by_cases q : p
  · rw [if_pos q] at h; exact ⟨q, Option.some.inj h⟩
  · rw [if_neg q] at h; cases h
theorem addD_k {a b d : D} (h : addD a b = some d) : (∃ i, a = .int i) ∨ (∃ x, a = .str x) ∨ (∃ xs, a = .list xs) ∨ ∃ xs, a = .tuple xs := by
  cases a with
  | int i => exact .inl ⟨_, rfl⟩
  | str i => exact .inr (.inl ⟨_, rfl⟩)
  | list i => exact .inr (.inr (.inl ⟨_, rfl⟩))
  | tuple i => exact .inr (.inr (.inr ⟨_, rfl⟩))
  | _ => cases h
theorem addD_i {i : Int} {b d : D} (h : addD (.int i) b = some d) : ∃ j, b = .int j ∧ d = .int (i + j) := by
  cases b with
  | int j => exact ⟨j, rfl, (Option.some.inj h).symm⟩
  | _ => cases h
theorem addD_s {i : Str} {b d : D} (h : addD (.str i) b = some d) : ∃ j, b = .str j ∧ i.length + j.length ≤ sizeLine ∧ d = .str (i ++ j) := by
  cases b with
  | str j => obtain ⟨p, q⟩ := ite_some h; exact ⟨j, rfl, p, q.symm⟩
  | _ => cases h
theorem addD_l {i : List D} {b d : D} (h : addD (.list i) b = some d) : ∃ j, b = .list j ∧ i.length + j.length ≤ sizeLine ∧ d = .list (i ++ j) := by
  cases b with
  | list j => obtain ⟨p, q⟩ := ite_some h; exact ⟨j, rfl, p, q.symm⟩
  | _ => cases h
theorem addD_t {i : List D} {b d : D} (h : addD (.tuple i) b = some d) : ∃ j, b = .tuple j ∧ i.length + j.length ≤ sizeLine ∧ d = .tuple (i ++ j) := by
  cases b with
  | tuple j => obtain ⟨p, q⟩ := ite_some h; exact ⟨j, rfl, p, q.symm⟩
  | _ => cases h
theorem d_add : OpR X (binaryOp .Add) (rD X.K addD) := by
  intro pins s σ H x y v u Q I rx ry q
  obtain ⟨Z, a, b, d, zh, ra, rb, e, k⟩ := q
  rcases addD_k e with ⟨i, rfl⟩ | ⟨i, rfl⟩ | ⟨ds, rfl⟩ | ⟨ds, rfl⟩
  · obtain ⟨j, rfl, rfl⟩ := addD_i e
    cases ra.int_eq
    cases rb.int_eq
    exact op_add pins s σ H _ _ v u Q I rx ry ⟨_, _, rfl, rfl, k _ Z H (New.refl zh) (.int _)⟩
  · obtain ⟨j, rfl, hl, rfl⟩ := addD_s e
    cases ra.str_eq
    cases rb.str_eq
    exact op_add_str pins s σ H _ _ v u Q I rx ry ⟨_, _, rfl, rfl, hl, k _ Z H (New.refl zh) (.str _)⟩
  · obtain ⟨es, rfl, hl, rfl⟩ := addD_l e
    obtain ⟨a, xs, rfl, h1, q1⟩ := ra.lst_ex
    obtain ⟨b, ys, rfl, h2, q2⟩ := rb.lst_ex
    cases rx
    cases ry
    obtain ⟨its, r1, p1, z1⟩ := I.list (SqL.same h1 zh)
    obtain ⟨its2, r2, p2, z2⟩ := I.list (SqL.same h2 zh)
    obtain ⟨⟨cls, dd, data, sl⟩, n1, ho, hc, hdd, hd⟩ := p1
    obtain ⟨⟨cls2, dd2, data2, sl2⟩, n2, ho2, hc2, hdd2, hd2⟩ := p2
    simp only at hc hd hc2 hd2
    subst hc hd hc2 hd2
    have hl1 := r1.length
    have hl2 := r2.length
    have ql1 := q1.length
    have ql2 := q2.length
    refine concat_meets ⟨_, ho, rfl⟩ ⟨_, ho2, rfl⟩ noFill_list_add seq_list_add PySem.F.slot_list_add PySem.F.entry_list_add (PySem.F.args_list_add_2 _ _) (list_addW a b its.toArray its2.toArray n1 n2 dd dd2 sl sl2 (by simp; lia)) ⟨ho, ho2, ?_⟩
    have ea : its.toArray ++ its2.toArray = (its ++ its2).toArray := by simp
    rw [ea]
    have n := New.add zh I.fresh (.lst (xs ++ ys))
    exact ⟨.ref _, _, I.lnew (t' := s.toks) (r1.append r2) (by rw [List.length_append]; lia), rfl, k _ _ _ n (.lst (SqL.of upd_same) ((q1.append q2).same n.z))⟩
  · obtain ⟨es, rfl, hl, rfl⟩ := addD_t e
    obtain ⟨a, xs, rfl, h1, q1⟩ := ra.tup_ex
    obtain ⟨b, ys, rfl, h2, q2⟩ := rb.tup_ex
    by_cases h0 : ds.length = 0
    · have hd0 : ds = [] := List.eq_nil_of_length_eq_zero h0
      subst hd0
      cases q1
      cases rx
      cases ry
      obtain ⟨its, r1, p1, z1⟩ := I.tuple (SqT.same h1 zh)
      obtain ⟨its2, r2, p2, z2⟩ := I.tuple (SqT.same h2 zh)
      cases r1
      obtain ⟨⟨cls, dd, data, sl⟩, ho, hc, n, hd⟩ := id p1
      obtain ⟨⟨cls2, dd2, data2, sl2⟩, ho2, hc2, n2, hd2⟩ := id p2
      simp only at hc hd hc2 hd2
      subst hc hd hc2 hd2
      exact concat_meets ⟨_, ho, rfl⟩ ⟨_, ho2, rfl⟩ noFill_tuple_add seq_tuple_add PySem.F.slot_tuple_add PySem.F.entry_tuple_add (PySem.F.args_tuple_add_2 _ _)
        (tuple_addW0 a b _ its2.toArray n n2 dd dd2 sl sl2 (by simp)) ⟨ho, ho2, ⟨.ref b, H, I, rfl, k _ Z H (New.refl zh) (.tup h2 q2)⟩⟩
    refine op_catT pins s σ H _ _ v u Q I rx ry ⟨a, b, xs, ys, rfl, rfl, SqT.same h1 zh, SqT.same h2 zh, fun z => h0 (by rw [← q1.length, z]; rfl), by rw [q1.length, q2.length]; exact hl, fun z => ?_, fun z p hp => ?_⟩
    · subst z
      cases q2
      rw [List.append_nil] at k
      exact k _ Z H (New.refl zh) (.tup h1 q1)
    · have n := New.add zh hp (.tup (xs ++ ys))
      exact k _ _ _ n (.tup (SqT.of upd_same) ((q1.append q2).same n.z))

/-! ### == -/
theorem shp_lay {d : D} (h : shp d = true) : d.canLay0 = true := (Bool.and_eq_true_iff.mp h).1
theorem d_eq (hu : X.A.units + 64 < cLine) : OpR X (compareOp .Eq) (rD X.K eqD) := by
  intro pins s σ H x y v u Q I rx ry q
  obtain ⟨Z, a, b, d, zh, ra, rb, e, k⟩ := q
  by_cases hs : shp a = true ∧ shp b = true
  · rw [eqD, if_pos hs] at e
    cases e
    obtain ⟨as, r1⟩ := ra.reads I zh rx (shp_lay hs.1)
    obtain ⟨bs, r2⟩ := rb.reads I zh ry (shp_lay hs.2)
    exact eq_dataH r1 r2 hs.1 hs.2 hu ⟨.bl _, H, I, rfl, k _ Z H (New.refl zh) (.bl _)⟩
  · rw [eqD, if_neg hs] at e; cases e
theorem d_ne (hu : X.A.units + 64 < cLine) : OpR X (compareOp .NotEq) (rD X.K neD) := by
  intro pins s σ H x y v u Q I rx ry q
  obtain ⟨Z, a, b, d, zh, ra, rb, e, k⟩ := q
  by_cases hs : shp a = true ∧ shp b = true
  · rw [neD, if_pos hs] at e
    cases e
    obtain ⟨as, r1⟩ := ra.reads I zh rx (shp_lay hs.1)
    obtain ⟨bs, r2⟩ := rb.reads I zh ry (shp_lay hs.2)
    exact ne_dataH r1 r2 hs.1 hs.2 hu ⟨.bl _, H, I, rfl, k _ Z H (New.refl zh) (.bl _)⟩
  · rw [neD, if_neg hs] at e; cases e
theorem isN_eq {K : Fg} {Z : Hp} {v : V} {d : D} (r : Rep K Z v d) : decide (v = .non) = isN d := by cases r <;> rfl
theorem d_is : OpR X (compareOp .Is) (rD X.K isD) :=
  OpR.imp op_isN fun x y H Q q => by
    obtain ⟨Z, a, b, d, zh, ra, rb, e, k⟩ := q
    cases rb <;> simp [isD] at e
    subst e
    exact ⟨rfl, by rw [isN_eq ra]; exact k _ Z H (New.refl zh) (.bl _)⟩
theorem d_isnt : OpR X (compareOp .IsNot) (rD X.K isntD) :=
  OpR.imp op_notN fun x y H Q q => by
    obtain ⟨Z, a, b, d, zh, ra, rb, e, k⟩ := q
    cases rb <;> simp [isntD] at e
    subst e
    exact ⟨rfl, by rw [isN_eq ra]; exact k _ Z H (New.refl zh) (.bl _)⟩
/-! ### items -/
theorem Reps.at {K : Fg} {Z : Hp} {vs : List V} {ds : List D} {i : Int} {d : D} (r : Reps K Z vs ds) (h : atI ds i = some d) : ∃ v, atI vs i = some v ∧ Rep K Z v d := by
  unfold atI at h ⊢
  rw [r.length]
  obtain ⟨j, e, h⟩ := bind_some h
  obtain ⟨v, q, rr⟩ := r.get h
  exact ⟨v, by rw [e]; exact q, rr⟩
theorem ixD_k {a b d : D} (h : ixD a b = some d) : (∃ xs, a = .list xs) ∨ ∃ xs, a = .tuple xs := by
  cases a with
  | list i => exact .inl ⟨_, rfl⟩
  | tuple i => exact .inr ⟨_, rfl⟩
  | _ => cases h
theorem ixD_l {xs : List D} {b d : D} (h : ixD (.list xs) b = some d) : ∃ i, b = .int i ∧ atI xs i = some d := by
  cases b with
  | int i => exact ⟨i, rfl, h⟩
  | _ => cases h
theorem d_ix : IxR X (rD X.K ixD) :=
  IxR.imp (ix_list.or ix_tup) fun x y H Q q => by
    obtain ⟨Z, a, b, d, zh, ra, rb, e, k⟩ := q
    rcases ixD_k e with ⟨xs, rfl⟩ | ⟨xs, rfl⟩
    · obtain ⟨i, rfl, e⟩ := ixD_l e
      obtain ⟨a, vs, rfl, h1, q1⟩ := ra.lst_ex
      cases rb.int_eq
      obtain ⟨v, ev, rv⟩ := q1.at e
      exact .inl ⟨_, _, _, v, rfl, rfl, SqL.same h1 zh, ev, k v Z H (New.refl zh) rv⟩
    · obtain ⟨i, rfl, e⟩ := ixD_l (xs := xs) (b := b) (by cases b <;> exact e)
      obtain ⟨a, vs, rfl, h1, q1⟩ := ra.tup_ex
      cases rb.int_eq
      obtain ⟨v, ev, rv⟩ := q1.at e
      exact .inr ⟨_, _, _, v, rfl, rfl, SqT.same h1 zh, ev, k v Z H (New.refl zh) rv⟩
/-! ### builtins -/
theorem c_len : CallR X (.builtin "len") (rDs X.K lenD) :=
  CallR.imp call_len fun xs H Q q => by
    obtain ⟨Z, as, d, zh, ra, e, k⟩ := q
    cases ra with
    | nil => cases e
    | cons r1 r2 =>
      cases r2 with
      | cons _ _ => cases r1 <;> cases e
      | nil =>
        cases r1 with
        | lst h1 q1 => cases e; exact ⟨_, _, rfl, .inl ⟨_, SqL.same h1 zh, rfl⟩, k _ Z H (New.refl zh) (by rw [q1.length]; exact .int _)⟩
        | tup h1 q1 => cases e; exact ⟨_, _, rfl, .inr ⟨_, SqT.same h1 zh, rfl⟩, k _ Z H (New.refl zh) (by rw [q1.length]; exact .int _)⟩
        | _ => cases e
theorem two_ints {K : Fg} {Z : Hp} {xs : List V} {as : List D} {d : D} {g : List D → Option D} {h : Int → Int → Int} (hg : ∀ as d, g as = some d → ∃ i j, as = [.int i, .int j] ∧ d = .int (h i j)) (r : Reps K Z xs as) (e : g as = some d) :
    ∃ i j, xs = [.int i, .int j] ∧ d = .int (h i j) := by
  obtain ⟨i, j, rfl, rfl⟩ := hg _ _ e
  cases r with
  | cons r1 r2 =>
    cases r2 with
    | cons r3 r4 =>
      cases r4
      exact ⟨i, j, by rw [r1.int_eq, r3.int_eq], rfl⟩
theorem c_min (hc : X.calm = true) : CallR X (.builtin "min") (rDs X.K minD) :=
  CallR.imp (call_min2 hc) fun xs H Q q => by
    obtain ⟨Z, as, d, zh, ra, e, k⟩ := q
    obtain ⟨i, j, rfl, rfl⟩ := two_ints (h := fun i j => if j < i then j else i) (fun as d h => by unfold minD at h; split at h <;> cases h; exact ⟨_, _, rfl, rfl⟩) ra e
    exact ⟨i, j, rfl, k _ Z H (New.refl zh) (.int _)⟩
theorem c_max (hc : X.calm = true) : CallR X (.builtin "max") (rDs X.K maxD) :=
  CallR.imp (call_max2 hc) fun xs H Q q => by
    obtain ⟨Z, as, d, zh, ra, e, k⟩ := q
    obtain ⟨i, j, rfl, rfl⟩ := two_ints (h := fun i j => if j > i then j else i) (fun as d h => by unfold maxD at h; split at h <;> cases h; exact ⟨_, _, rfl, rfl⟩) ra e
    exact ⟨i, j, rfl, k _ Z H (New.refl zh) (.int _)⟩
theorem c_tuple : CallR X (.type "tuple") (rDs X.K tupleD) :=
  CallR.imp call_tuple_of fun xs H Q q => by
    obtain ⟨Z, as, d, zh, ra, e, k⟩ := q
    cases ra with
    | nil => cases e
    | cons r1 r2 =>
      cases r2 with
      | cons _ _ => cases r1 <;> cases e
      | nil =>
        cases r1 with
        | lst h1 q1 => cases e; exact ⟨_, _, rfl, .inl ⟨SqL.same h1 zh, fun l hl => let n := New.add zh hl (.tup _); k _ _ _ n (.tup (SqT.of upd_same) (q1.same n.z))⟩⟩
        | tup h1 q1 => cases e; exact ⟨_, _, rfl, .inr ⟨SqT.same h1 zh, k _ Z H (New.refl zh) (.tup h1 q1)⟩⟩
        | _ => cases e
/-- n.bit_length() -/
theorem mt_bits : MtR X "int.bit_length" (fun x xs H Q => ∃ i, x = .int i ∧ xs = [] ∧ Q (.int (Builtin.Int.intBits i)) H) := by
  intro pins s σ H x xs v us Q I rx rs q
  obtain ⟨i, rfl, rfl, q⟩ := q
  obtain ⟨t, rfl⟩ := rx
  cases rs
  exact call_int_bit_length ⟨.int _, H, I.tok _, ⟨_, rfl⟩, q⟩
theorem ev_bits {apos : Pos} (ha : EV X a f) (hbase : attributeBase a "bit_length" X.env (eval a X.env) = eval a X.env := by rfl) (hline : (apos.endLine == pos.line) = true := by rfl) : EV X (.Call (.Attribute a "bit_length" apos) [] [] pos) (o1 f bitsD) :=
  PE.imp (pe_bm0 PySem.F.plainAttrs_int PySem.F.slot_int_bit_length PySem.F.type_int_bit_length mt_bits ha hbase hline) fun σ H Q h => by
    obtain ⟨H₀, Z₀, Z, δ, d, hh, e, k⟩ := h
    obtain ⟨x, e1, e⟩ := bind_some e
    refine ⟨H₀, Z₀, Z, δ, x, hh, e1, fun v Z1 H1 hh1 s1 r1 => ?_⟩
    cases r1 <;> simp [bitsD] at e
    subst e
    exact ⟨rfl, _, rfl, rfl, k _ Z1 H1 hh1 s1 (.int _)⟩
/-! ### isinstance -/
theorem kit_ok (K : Fg) {t T : String} (ht : t = "NoneType" ∨ t = "bool" ∨ t = "int" ∨ t = "str" ∨ t = "list" ∨ t = "tuple") (hT : T = "int" ∨ T = "bool" ∨ T = "str" ∨ T = "list" ∨ T = "tuple") : PySem.W.kitOne K (.type t) (.type T) = some (isiB t T) := by
  rcases ht with rfl | rfl | rfl | rfl | rfl | rfl <;> rcases hT with rfl | rfl | rfl | rfl | rfl <;> rfl
theorem Rep.ty {K : Fg} {Z H : Hp} {v : V} {d : D} (zh : Same Z H) (r : Rep K Z v d) (hD : ¬isDct d = true) : (tyN d = "NoneType" ∨ tyN d = "bool" ∨ tyN d = "int" ∨ tyN d = "str" ∨ tyN d = "list" ∨ tyN d = "tuple") := by
  cases r <;> simp [tyN]
  exact absurd rfl hD
theorem isi_ok {pins : List (Addr × Obj)} {σ : St} {H Z : Hp} {s : Shared} {x : V} {u : Value} {d : D} {T : String} {A : Around} {E : Value → Shared → Prop} {Q : Value → Shared → Prop} (I : Inv X pins σ H s) (zh : Same Z H) (rx : RelV x u) (r : Rep X.K Z x d) (hD : ¬isDct d = true)
    (hT : T = "int" ∨ T = "bool" ∨ T = "str" ∨ T = "list" ∨ T = "tuple") (h : ∀ tk, Q (.bool (isiB (tyN d) T)) { s with toks := tk }) : wpAny (model X.prog X.w) A (call (.builtin "isinstance") [u, .type T]) Q E s := by
  have ko := kit_ok X.K (Rep.ty zh r hD) hT
  cases r with
  | non => exact isinst_ok I rx (.non) ko h
  | bl b => exact isinst_ok I rx (.bl b) ko h
  | int b => exact isinst_ok I rx (.int b) ko h
  | str b => exact isinst_ok I rx (.str b) ko h
  | @tup a xs ds h1 q1 =>
    cases (show u = Value.ref a from rx)
    obtain ⟨its, _, p, _⟩ := I.tuple (SqT.same h1 zh)
    obtain ⟨o, h1, h2, _⟩ := p
    exact PySem.W.kia_one PySem.W.kitx_tuple I.kIn ⟨o, h1, h2⟩ ko (fun z => nomatch z) h
  | @lst a xs ds h1 q1 =>
    cases (show u = Value.ref a from rx)
    obtain ⟨its, _, p, _⟩ := I.list (SqL.same h1 zh)
    obtain ⟨o, n, h1, h2, _⟩ := p
    exact PySem.W.kia_one PySem.W.kitx_list I.kIn ⟨o, h1, h2⟩ ko (fun z => nomatch z) h
  | opq h1 => exact absurd rfl hD
theorem c_isi (T : String) : CallR X (.builtin "isinstance") (fun xs H Q => ∃ x Z d r, xs = [x, .ty T] ∧ Same Z H ∧ Rep X.K Z x d ∧ isiD T d = some r ∧ ∃ b, r = .bool b ∧ Q (.bl b) H) := by
  intro pins s σ H xs us Q I rv h
  obtain ⟨x, Z, d, r, rfl, zh, rr, e, b, rfl, q⟩ := h
  obtain ⟨u, w', rfl, r1, r2⟩ := vals2 rv
  cases (show w' = Value.type T from r2)
  by_cases hD : isDct d = true
  · rw [isiD, if_pos hD] at e; cases e
  by_cases hT : T = "int" ∨ T = "bool" ∨ T = "str" ∨ T = "list" ∨ T = "tuple"
  · rw [isiD, if_neg hD, if_pos hT] at e
    cases e
    exact isi_ok I zh r1 rr hD hT fun tk => ⟨.bl _, H, I.tok _, rfl, q⟩
  · rw [isiD, if_neg hD, if_neg hT] at e; cases e
theorem ev_isi {x : Str} {T : String} {p2 : Pos} (hg : Gl X "isinstance") (hm : X.mg "isinstance" = none) (hgT : Gl X x) (hmT : X.mg x = none) (hvT : bootBuiltins x = some (.type T)) (hnT : x ≠ "__name__") (hdT : (x == ("__debug__" : Str)) = false) (ha : EV X a f)
    (he : starEach (a :: [.Name x p2]) X.env = (false, eval a X.env) :: starEach [.Name x p2] X.env := by rfl) (he2 : starEach ((.Name x p2) :: []) X.env = (false, eval (.Name x p2) X.env) :: starEach [] X.env := by rfl) (hpl : (backTo pos (starEach [.Name x p2] X.env)).any (·.1) = false := by rfl) :
    EV X (.Call (.Name "isinstance" p) [a, .Name x p2] [] pos) (o1 f (isiD T)) :=
  PE.imp (pe_callB (c_isi T) hg hm PyProof.Rows.boot_isinstance (pa_cons ha (pa_cons (pe_bltn (v := .ty T) hgT hmT hvT rfl hnT hdT) pa_nil he2) he) (by decide) (by decide) he hpl) fun σ H Q h => by
    obtain ⟨H₀, Z₀, Z, δ, d, hh, e, k⟩ := h
    obtain ⟨y, e1, e⟩ := bind_some e
    refine ⟨H₀, Z₀, Z, δ, y, hh, e1, fun v Z1 H1 hh1 s1 r1 => ⟨v, Z1, y, d, rfl, hh1.zh, r1, e, ?_⟩⟩
    have : ∃ b, d = .bool b := by
      unfold isiD at e
      split at e
      · cases e
      · split at e
        · cases e; exact ⟨_, rfl⟩
        · cases e
    obtain ⟨b, rfl⟩ := this
    exact ⟨b, rfl, k _ Z1 H1 hh1 s1 (.bl b)⟩
end
end VL

set_option Elab.async false
set_option linter.all false
set_option maxRecDepth 100000
set_option maxHeartbeats 4000000
namespace VL
open PySem PySem.Spec PyProof.Rows L2
section
variable {X : Cx} {a b c e tg iter : Expr} {es : List Expr} {pos p : Pos} {f f1 f2 f3 : Dv → Option D} {fs : Dv → Option (List D)} {ft fu : Dv → Option Bool} {st : Stmt} {sts body orelse : List Stmt} {s1 s2 s3 : Sf}

/-! ### statements -/
theorem sv_ret (he : EV X e f) : SV X (.Return (some e) pos) (sRet f) :=
  PS.imp (ps_ret he) fun D σ H h => by
    obtain ⟨H₀, Z₀, Z, δ, r, hh, e, k⟩ := h
    obtain ⟨x, e1, e⟩ := bind_some e
    cases e
    exact ⟨H₀, Z₀, Z, δ, x, hh, e1, fun v Z1 H1 hh1 s1 r1 => k σ H1 Z1 hh1 s1 v r1⟩
theorem sv_set (i : Nat) {x : Str} {pos' : Pos} (hN : X.N.Nodup) (he : EV X e f) (hi : X.N[i]? = some x := by rfl) (hx : Loc X.env.scope x := by first | exact Or.inl rfl | exact Or.inr rfl) (hs : swapsWith e (some (.Name x pos')) pos.line X.env = pure false := by rfl)
    (hf : X.fn x = true ∨ X.env.scope.names.lookup x = some .local := by first | exact .inl rfl | exact .inr rfl | assumption) : SV X (.Assign [.Name x pos'] e pos) (sSet i f) :=
  PS.imp (ps_set hN hi hx he hs hf) fun D σ H h => by
    obtain ⟨H₀, Z₀, Z, δ, r, hh, e, k⟩ := h
    obtain ⟨x, e1, e⟩ := bind_some e
    cases e
    exact ⟨H₀, Z₀, Z, δ, x, hh, e1, fun v Z1 H1 hh1 s1 r1 => k _ H1 Z1 (hh1.set r1) s1⟩
theorem sv_expr (he : EV X e f) (hs : swapsWith e none pos.line X.env = pure false := by rfl) : SV X (.Expr e pos) (sDrop f) :=
  PS.imp (ps_expr he hs) fun D σ H h => by
    obtain ⟨H₀, Z₀, Z, δ, r, hh, e, k⟩ := h
    obtain ⟨x, e1, e⟩ := bind_some e
    cases e
    exact ⟨H₀, Z₀, Z, δ, x, hh, e1, fun v Z1 H1 hh1 s1 r1 => k σ H1 Z1 hh1 s1⟩
theorem nx_ok {D : Ends} {σ : St} {H : Hp} {K : Fg} (h : tVS K sNx D σ H) : D.nx σ H := by
  obtain ⟨H₀, Z₀, Z, δ, r, hh, e, k⟩ := h
  cases e
  exact k σ H Z hh (Same.refl _)
theorem bv_nil : BV X [] sNx := PSs.imp pss_nil fun D σ H h => nx_ok h
theorem bv_cons (h1 : SV X st s1) (h2 : BV X sts s2) : BV X (st :: sts) (sSeq s1 s2) :=
  PSs.imp (pss_cons h1 h2) fun D σ H h => by
    obtain ⟨H₀, Z₀, Z, δ, r, hh, e, k⟩ := h
    obtain ⟨⟨fl, δ'⟩, e1, e⟩ := bind_some e
    refine ⟨H₀, Z₀, Z, δ, (fl, δ'), hh, e1, fun σ' H' Z' hh' s' => ?_⟩
    cases fl with
    | nx => exact ⟨H₀, Z₀, Z', δ', r, hh', e, fun σ2 H2 Z2 hh2 s2 => by
        have := k σ2 H2 Z2 hh2 (s'.trans s2)
        obtain ⟨fl, δ2⟩ := r
        cases fl <;> exact this⟩
    | bk => cases e; exact k σ' H' Z' hh' s'
    | ct => cases e; exact k σ' H' Z' hh' s'
    | rt d => cases e; exact k σ' H' Z' hh' s'
theorem bv_one (h1 : SV X st s1) : BV X [st] s1 := pss_one h1
theorem sv_if (hc : TV X c ft) (ha : BV X body s1) (hb : BV X orelse s2) : SV X (.If c body orelse pos) (sIf ft s1 s2) :=
  PS.imp (ps_if hc ha hb) fun D σ H h => by
    obtain ⟨H₀, Z₀, Z, δ, r, hh, e, k⟩ := h
    obtain ⟨x, e1, e⟩ := bind_some e
    refine ⟨H₀, Z₀, Z, δ, x, hh, e1, fun Z1 H1 hh1 t1 => ?_⟩
    cases x with
    | true => exact ⟨H₀, Z₀, Z1, δ, r, hh1, e, fun σ2 H2 Z2 hh2 t2 => k σ2 H2 Z2 hh2 (t1.trans t2)⟩
    | false => exact ⟨H₀, Z₀, Z1, δ, r, hh1, e, fun σ2 H2 Z2 hh2 t2 => k σ2 H2 Z2 hh2 (t1.trans t2)⟩
/-- a list of one's own is known for good from here -/
theorem fz_ok {K : Fg} (i : Nat) {D : Ends} {σ : St} {H : Hp} (h : tVS K (fun δ => s1 (dFz i δ)) D σ H) : tVS K s1 D σ H := by
  obtain ⟨H₀, Z₀, Z, δ, r, hh, e, k⟩ := h
  have e : s1 (dFz i δ) = some r := e
  unfold dFz at e
  split at e
  · rename_i ds q
    obtain ⟨Z1, t1, hh1⟩ := hh.frz q
    exact ⟨H₀, Z₀, Z1, _, r, hh1, e, fun σ2 H2 Z2 hh2 t2 => k σ2 H2 Z2 hh2 (t1.trans t2)⟩
  · exact ⟨H₀, Z₀, Z, _, r, hh, e, k⟩
theorem sv_fz (i : Nat) (h : SV X st s1) : SV X st (fun δ => s1 (dFz i δ)) := PS.imp h fun D σ H q => fz_ok i q

/-! ### targets -/
noncomputable def tVG (K : Fg) (g : D → Dv → Option Dv) : TG := fun v σ H Q => ∃ H₀ Z₀ Z δ d δ', Hold K H₀ Z₀ Z δ σ H ∧ Rep K Z v d ∧ g d δ = some δ' ∧ ∀ σ' H' Z', Hold K H₀ Z₀ Z' δ' σ' H' → Same Z Z' → Q σ' H'
noncomputable def GV (X : Cx) (tg : Expr) (g : D → Dv → Option Dv) : Prop := PG X tg (tVG X.K g)
theorem PG.imp {t t' : TG} (h : PG X tg t) (i : ∀ v σ H Q, t' v σ H Q → t v σ H Q) : PG X tg t' := fun pins s σ H x v Q I r q => h pins s σ H x v Q I r (i _ _ _ _ q)
theorem gv_name (i : Nat) {x : Str} (hN : X.N.Nodup) (hi : X.N[i]? = some x := by rfl) (hx : Loc X.env.scope x := by first | exact Or.inl rfl | exact Or.inr rfl)
    (hf : X.fn x = true ∨ X.env.scope.names.lookup x = some .local := by first | exact .inl rfl | exact .inr rfl | assumption) : GV X (.Name x pos) (gN i) :=
  PG.imp (pg_name hN hi hx hf) fun v σ H Q h => by
    obtain ⟨H₀, Z₀, Z, δ, d, δ', hh, r, e, k⟩ := h
    cases e
    exact k _ H Z (hh.set r) (Same.refl _)
/-! ### loops -/
structure ItOk (K : Fg) (Z : Hp) (J : It) (ds : List D) : Prop where
  go : ∀ (i : Nat) (H : Hp), Same Z H → i < ds.length → J.go i H
  yld : ∀ (i : Nat) (H : Hp) x H' d, Same Z H → ds[i]? = some d → J.yld i H x H' → H' = H ∧ Rep K Z x d
  stop : ∀ (i : Nat) (H : Hp), Same Z H → ds.length ≤ i → J.stop i H
noncomputable def tVI (K : Fg) (f : Dv → Option (List D)) : TI := fun σ H R => ∃ H₀ Z₀ Z δ ds, Hold K H₀ Z₀ Z δ σ H ∧ f δ = some ds ∧ ∀ J Z' H', Hold K H₀ Z₀ Z' δ σ H' → Same Z Z' → ItOk K Z' J ds → R J H'
noncomputable def IV (X : Cx) (tg iter : Expr) (f : Dv → Option (List D)) : Prop := PI X tg iter (tVI X.K f)
theorem PI.imp {t t' : TI} (h : PI X tg iter t) (i : ∀ σ H R, t' σ H R → t σ H R) : PI X tg iter t' := fun pins s σ H R I q => h pins s σ H R I (i _ _ _ q)
theorem sv_for {g : D → Dv → Option Dv} (hp : PassesOwn (model X.prog X.w) X.A X.env X.xe) (hc : X.calm = true) (hi : IV X tg iter fs) (hg : GV X tg g) (hb : BV X body s1)
    (hs : ∀ x, foldedSetIterable iter X.env x = pure x := by intro _; rfl) : SV X (.For tg iter body [] pos) (sFor fs g s1) :=
  PS.imp (ps_for hp hc hi hg hb hs) fun D σ H h => by
    obtain ⟨H₀, Z₀, Z, δ, r, hh, e, k⟩ := h
    obtain ⟨ds, e1, e⟩ := bind_some e
    refine ⟨H₀, Z₀, Z, δ, ds, hh, e1, fun J Z1 H1 hh1 t1 ok => ?_⟩
    refine ⟨fun i m σ H => m = ds.length - i ∧ i ≤ ds.length ∧ ∃ Zc δc, Hold X.K H₀ Z₀ Zc δc σ H ∧ Same Z1 Zc ∧ loop g s1 (ds.drop i) δc = some r, ⟨ds.length, by simp, Nat.zero_le _, Z1, δ, hh1, Same.refl _, e⟩, ?_⟩
    rintro i m σ2 H2 ⟨rfl, hi2, Zc, δc, hhc, tc, ec⟩
    have zh : Same Z1 H2 := tc.trans hhc.zh
    by_cases hlt : i < ds.length
    · refine .inr ⟨ok.go i H2 zh hlt, fun σ3 H3 => ∃ Zc δc, Hold X.K H₀ Z₀ Zc δc σ3 H3 ∧ Same Z1 Zc ∧ loop g s1 (ds.drop (i + 1)) δc = some r, fun σ3 H3 q => ⟨ds.length - (i + 1), by omega, rfl, hlt, q⟩, fun x H3 y => ?_⟩
      have ed : ds[i]? = some ds[i] := by simp [hlt]
      obtain ⟨rfl, rx⟩ := ok.yld i H2 x H3 _ zh ed y
      rw [List.drop_eq_getElem_cons hlt] at ec
      obtain ⟨δ1, g1, ec⟩ := bind_some ec
      obtain ⟨⟨fl, δ2⟩, g2, ec⟩ := bind_some ec
      refine ⟨H₀, Z₀, Zc, δc, _, δ1, hhc, rx.same tc, g1, fun σ4 H4 Z4 hh4 t4 => ⟨H₀, Z₀, Z4, δ1, (fl, δ2), hh4, g2, fun σ5 H5 Z5 hh5 t5 => ?_⟩⟩
      cases fl with
      | nx => exact ⟨Z5, δ2, hh5, (tc.trans t4).trans t5, ec⟩
      | ct => exact ⟨Z5, δ2, hh5, (tc.trans t4).trans t5, ec⟩
      | bk => cases ec; exact k σ5 H5 Z5 hh5 (((t1.trans tc).trans t4).trans t5)
      | rt d => cases ec; exact k σ5 H5 Z5 hh5 (((t1.trans tc).trans t4).trans t5)
    · have e2 : ds.drop i = [] := List.drop_eq_nil_iff.mpr (by omega)
      rw [e2] at ec
      cases ec
      exact .inl ⟨ok.stop i H2 zh (by omega), k σ2 H2 Zc hhc (t1.trans tc)⟩
/-! ### what is walked -/
theorem itok_rng {K : Fg} {Z : Hp} {lo : Int} {n : Nat} : ItOk K Z (Itr lo n) (rngL lo n) where
  go := fun i H _ h => by simpa [rngL, Itr] using h
  yld := fun i H x H' d _ e y => by
    obtain ⟨rfl, rfl⟩ := y
    refine ⟨rfl, ?_⟩
    unfold rngL at e
    rw [List.getElem?_map] at e
    cases q : (List.range n)[i]? with
    | none => rw [q] at e; cases e
    | some k =>
      rw [q] at e
      cases e
      have : k = i := by
        obtain ⟨h, h2⟩ := List.getElem?_eq_some_iff.mp q
        simpa using h2.symm
      subst this
      exact .int _
  stop := fun i H _ h => by simpa [rngL, Itr] using h
theorem iv_range1 (hg : Gl X "range") (hm : X.mg "range" = none) (ha : AV X [a] fs) (hs : starEach [a] X.env = [(false, eval a X.env)] := by rfl) : IV X tg (.Call (.Name "range" p) [a] [] pos) (oL fs rng1D) :=
  PI.imp (pi_range1 hg hm ha hs) fun σ H R h => by
    obtain ⟨H₀, Z₀, Z, δ, ds, hh, e, k⟩ := h
    obtain ⟨as, e1, e⟩ := bind_some e
    refine ⟨H₀, Z₀, Z, δ, as, hh, e1, fun vs Z1 H1 hh1 t1 r1 => ?_⟩
    unfold rng1D at e
    split at e
    · rename_i j
      split at e
      · rename_i hj
        cases e
        cases r1 with
        | cons q1 q2 =>
          cases q2
          exact ⟨j, by rw [q1.int_eq], hj.2, hj.1, k _ Z1 H1 hh1 t1 itok_rng⟩
      · cases e
    · cases e
theorem iv_range2 (hg : Gl X "range") (hm : X.mg "range" = none) (ha : AV X [a, b] fs) (hs : starEach [a, b] X.env = [(false, eval a X.env), (false, eval b X.env)] := by rfl) (hs2 : starEach [b] X.env = [(false, eval b X.env)] := by rfl) : IV X tg (.Call (.Name "range" p) [a, b] [] pos) (oL fs rng2D) :=
  PI.imp (pi_range2 hg hm ha hs hs2) fun σ H R h => by
    obtain ⟨H₀, Z₀, Z, δ, ds, hh, e, k⟩ := h
    obtain ⟨as, e1, e⟩ := bind_some e
    refine ⟨H₀, Z₀, Z, δ, as, hh, e1, fun vs Z1 H1 hh1 t1 r1 => ?_⟩
    unfold rng2D at e
    split at e
    · rename_i i j
      split at e
      · rename_i hj
        cases e
        cases r1 with
        | cons q1 q2 =>
          cases q2 with
          | cons q2 q3 =>
            cases q3
            exact ⟨i, j, by rw [q1.int_eq, q2.int_eq], ⟨hj.1.2, hj.1.1, hj.2.2, hj.2.1⟩, k _ Z1 H1 hh1 t1 itok_rng⟩
      · cases e
    · cases e
/-- a list or a tuple -/
theorem iv_list (ha : EV X a f) : IV X tg a (oI f lstI) :=
  PI.imp (pi_list ha) fun σ H R h => by
    obtain ⟨H₀, Z₀, Z, δ, ds, hh, e, k⟩ := h
    obtain ⟨y, e1, e⟩ := bind_some e
    refine ⟨H₀, Z₀, Z, δ, y, hh, e1, fun v Z1 H1 hh1 t1 r1 => ?_⟩
    cases r1 with
    | @lst l xs ds' h1 q1 =>
      cases e
      refine ⟨l, rfl, ⟨xs, SqL.same h1 hh1.zh⟩, k _ Z1 H1 hh1 t1 ⟨fun i H2 z hi => ?_, fun i H2 x H3 d z ed y => ?_, fun i H2 z hi => ⟨xs, SqL.same h1 z, by rw [q1.length]; exact hi⟩⟩⟩
      · have hi' : i < xs.length := by rw [q1.length]; exact hi
        exact ⟨xs, xs[i], SqL.same h1 z, by simp [hi']⟩
      · obtain ⟨rfl, y⟩ := y
        obtain ⟨v, ev, rv⟩ := q1.get ed
        have := y xs (SqL.same h1 z)
        rw [ev] at this
        cases this
        exact ⟨rfl, rv⟩
    | _ => cases e
theorem iv_tup (ha : EV X a f) : IV X tg a (oI f tupI) :=
  PI.imp (pi_tup ha) fun σ H R h => by
    obtain ⟨H₀, Z₀, Z, δ, ds, hh, e, k⟩ := h
    obtain ⟨y, e1, e⟩ := bind_some e
    refine ⟨H₀, Z₀, Z, δ, y, hh, e1, fun v Z1 H1 hh1 t1 r1 => ?_⟩
    cases r1 with
    | @tup l xs ds' h1 q1 =>
      cases e
      refine ⟨l, rfl, ⟨xs, SqT.same h1 hh1.zh⟩, k _ Z1 H1 hh1 t1 ⟨fun i H2 z hi => ?_, fun i H2 x H3 d z ed y => ?_, fun i H2 z hi => ⟨xs, SqT.same h1 z, by rw [q1.length]; exact hi⟩⟩⟩
      · have hi' : i < xs.length := by rw [q1.length]; exact hi
        exact ⟨xs, xs[i], SqT.same h1 z, by simp [hi']⟩
      · obtain ⟨rfl, y⟩ := y
        obtain ⟨v, ev, rv⟩ := q1.get ed
        have := y xs (SqT.same h1 z)
        rw [ev] at this
        cases this
        exact ⟨rfl, rv⟩
    | _ => cases e
end
/-! ### range(a, b, c) -/
section
variable {X : Cx} {a b c tg : Expr} {ta : TA} {p pos : Pos} {fs : Dv → Option (List D)}
end
/-! ### slices -/
section
variable {X : Cx} {e : Expr} {lo hi : Option Expr} {p2 pos : Pos} {f : Dv → Option D}
noncomputable def tVO (K : Fg) (f : Dv → Option (Option Int)) : TO := fun σ H Q => ∃ H₀ Z₀ Z δ d, Hold K H₀ Z₀ Z δ σ H ∧ f δ = some d ∧ ∀ Z' H', Hold K H₀ Z₀ Z' δ σ H' → Same Z Z' → Q d H'
noncomputable def OV (X : Cx) (e : Option Expr) (f : Dv → Option (Option Int)) : Prop := PO X e (tVO X.K f)
theorem PO.imp {eo : Option Expr} {t t' : TO} (h : PO X eo t) (i : ∀ σ H Q, t' σ H Q → t σ H Q) : PO X eo t' := fun pins s σ H Q I q => h pins s σ H Q I (i _ _ _ q)
theorem ov_none : OV X none oNo := PO.imp po_none fun σ H Q h => by
  obtain ⟨H₀, Z₀, Z, δ, d, hh, e, k⟩ := h
  cases e
  exact k Z H hh (Same.refl _)
theorem ov_some (h : EV X e f) : OV X (some e) (oP f) := PO.imp (po_some h) fun σ H Q h => by
  obtain ⟨H₀, Z₀, Z, δ, d, hh, e, k⟩ := h
  obtain ⟨x, e1, e⟩ := bind_some e
  refine ⟨H₀, Z₀, Z, δ, x, hh, e1, fun v Z1 H1 hh1 t1 r1 => ?_⟩
  cases r1 <;> simp [asI] at e
  subst e
  exact ⟨_, rfl, k Z1 H1 hh1 t1⟩
/-- the items of xs[lo:hi] -/
theorem Reps.cut {K : Fg} {Z : Hp} {vs : List V} {ds : List D} (r : Reps K Z vs ds) (lo hi : Option Int) : Reps K Z (cutV vs lo hi) (cutD ds lo hi) := by
  unfold cutV cutD
  rw [r.length]
  exact (r.drop _).take _
/-- t[lo:hi], the whole of it: t itself -/
theorem cutD_whole {ds : List D} {lo hi : Option Int} (h1 : HT.sIx ds.length 0 lo = 0) (h2 : HT.sIx ds.length ds.length hi = ds.length) : cutD ds lo hi = ds := by
  unfold cutD
  rw [h1, h2]
  simp
section
variable {prog : Program} {w : World} {A : Around} {E : Value → Shared → Prop} {s : Shared}
theorem tupCut_whole {t sl : Addr} {items : Array Value} {vl vu : Value} {lo hi : Option Int} {Q : Value → Shared → Prop} (ht : IsTup s.heap t items) (hs : s.heap.IsSliceOf sl vl vu .none) (pl : IsPart vl lo) (pu : IsPart vu hi)
    (h1 : HT.sIx items.size 0 lo = 0) (h2 : HT.sIx items.size items.size hi = items.size) (h : Q (.ref t) s) : wpAny (model prog w) A (getItem (.ref t) (.ref sl)) Q E s := by
  obtain ⟨osl, hos, hcs, hds⟩ := id hs
  have ty : s.TypeIs (.ref sl) "slice" := ⟨osl, hos, hcs⟩
  unfold getItem
  try with_reducible refine wpAny_holding ?_
  first | refine wpAny_bind (wpAny_pure ?_) | skip
  refine wpAny_bind (wpAny_sequenceKey ht.typeIs (by decide) ?_)
  refine wpAny_bind (wpAny_callSpecial?_slot (name := Str.ofString "__getitem__") ht.typeIs PyProof.Rows.slot_tuple_getitem
    (wpAny_call_entry PyProof.Rows.slot_tuple_getitem ht.typeIs PyProof.Rows.entry_tuple_getitem ?_ (PyProof.Rows.args_tuple_getitem _ _)))
  show wpAny _ _ (Builtin.Tuple.tupleItemsOf (.ref t) >>= _) _ _ s
  refine wpAny_bind (tupleItemsOf_ ht ?_)
  refine wpAny_bind (wpAny_typeOf ty ?_)
  rw [if_pos (by decide)]
  refine wpAny_bind (HT.sliceApplied_gen hs pl pu ?_)
  have yes : (((((HT.sIx items.size 0 lo : Nat) : Int) == 0) && ((1 : Int) == 1)) && ((HT.sIx items.size items.size hi - HT.sIx items.size 0 lo) == items.size)) = true := by
    rw [h1, h2]; simp
  show wpAny _ _ (if (((((HT.sIx items.size 0 lo : Nat) : Int) == 0) && ((1 : Int) == 1)) && ((HT.sIx items.size items.size hi - HT.sIx items.size 0 lo) == items.size)) = true then _ else _) _ _ s
  rw [if_pos yes]
  unfold Builtin.Tuple.tupleIsExact
  refine wpAny_bind (wpAny_bind (wpAny_typeOf ht.typeIs (wpAny_pure ?_)))
  rw [if_pos (by decide)]
  exact wpAny_bind (wpAny_rule (wpAny_pure ⟨_, rfl, wpAny_pure h⟩))
end
noncomputable def rSlW (K : PySem.W.Frag) : V → Option Int → Option Int → Hp → VK → Prop := fun x lo hi H Q => ∃ a xs, x = .ref a ∧ SqT K H a xs ∧ HT.sIx xs.length 0 lo = 0 ∧ HT.sIx xs.length xs.length hi = xs.length ∧ Q (.ref a) H
theorem sl_tupW : SlR X (rSlW X.K) := by
  intro pins s σ H x v vl vu lo hi sl Q I rx hs pl pu h
  obtain ⟨a, xs, rfl, hx, w1, w2, q⟩ := h
  cases rx
  obtain ⟨its, r, ht, hz⟩ := I.tuple hx
  have hlen : its.toArray.size = xs.length := by rw [List.size_toArray]; exact r.length.symm
  refine ⟨"tuple", _, PyProof.Rows.slot_tuple_getitem.lookup, ht.typeIs, ?_⟩
  exact tupCut_whole ht hs pl pu (by rw [hlen]; exact w1) (by rw [hlen]; exact w2) ⟨.ref a, H, I, rfl, q⟩
theorem ev_slice {fl fu : Dv → Option (Option Int)} (he : EV X e f) (hl : OV X lo fl) (hu : OV X hi fu) : EV X (.Subscript e (.Slice lo hi none p2) pos) (oSl f fl fu) :=
  PE.imp (pe_slice (sl_list.or (sl_tup.or sl_tupW)) he hl hu) fun σ H Q h => by
    obtain ⟨H₀, Z₀, Z, δ, d, hh, e, k⟩ := h
    obtain ⟨x, e1, e⟩ := bind_some e
    obtain ⟨i, e2, e⟩ := bind_some e
    obtain ⟨j, e3, e⟩ := bind_some e
    refine ⟨H₀, Z₀, Z, δ, x, hh, e1, fun v Z1 H1 hh1 t1 r1 => ⟨H₀, Z₀, Z1, δ, i, hh1, e2, fun Z2 H2 hh2 t2 => ⟨H₀, Z₀, Z2, δ, j, hh2, e3, fun Z3 H3 hh3 t3 => ?_⟩⟩⟩
    have r3 := (r1.same t2).same t3
    have tt := (t1.trans t2).trans t3
    cases r3 with
    | @lst a xs ds h1 q1 =>
      cases e
      refine .inl ⟨_, _, rfl, SqL.same h1 hh3.zh, fun p hp => ?_⟩
      have n := New.add hh3.zh hp (.lst (cutV xs i j))
      exact k _ _ _ (hh3.new n) (tt.trans n.z) (.lst (SqL.of upd_same) ((q1.cut i j).same n.z))
    | @tup a xs ds h1 q1 =>
      simp only [slD] at e
      cases e
      by_cases hw : HT.sIx ds.length 0 i = 0 ∧ HT.sIx ds.length ds.length j = ds.length
      · refine .inr (.inr ⟨_, _, rfl, SqT.same h1 hh3.zh, by rw [q1.length]; exact hw.1, by rw [q1.length]; exact hw.2, ?_⟩)
        refine k _ _ _ hh3 tt ?_
        rw [cutD_whole hw.1 hw.2]
        exact .tup h1 q1
      · refine .inr (.inl ⟨_, _, rfl, SqT.same h1 hh3.zh, by rw [q1.length]; exact hw, fun p hp => ?_⟩)
        have n := New.add hh3.zh hp (.tup (cutV xs i j))
        exact k _ _ _ (hh3.new n) (tt.trans n.z) (.tup (SqT.of upd_same) ((q1.cut i j).same n.z))
    | _ => cases e
end
/-! ### defs -/
structure FunV (K : PySem.W.Frag) (x qual : Str) (st : Stmt) (f : Addr) (fd : FuncData) (dV : Value) : Prop where
  ex : ∃ (oc : Value) (od : Option Addr) (kV doc pm : Value) (an : Option Addr) (cdv ct : Value) (osl : Array (Option Value)),
    fd = PySem.W.fnOf x qual (defArgs st) (defBody st) (defScope st) dV kV doc pm an cdv ct ∧ K.lookup f = some ⟨oc, od, .func fd, osl⟩ ∧ PySem.W.codeIn K cdv qual = true
  kp : PySem.W.keepIn K (.ref f) = true
section
variable {P : Program} {w : World} {K : PySem.W.Frag} {mg : Str → Option Value} {base : Heap}
theorem start_get {N : List Str} {vs : List V} {as : List D} {Z : Hp} (r : Reps K Z vs as) : ∀ (i : Nat) d, (startD N as)[i]? = some (.fz d) → ∃ v, (start N vs)[i]? = some (some v) ∧ Rep K Z v d := by
  intro i d e
  unfold startD at e
  unfold L2.start
  by_cases hi : i < as.length
  · rw [List.getElem?_append_left (by simpa using hi), List.getElem?_map] at e
    cases q : as[i]? with
    | none => rw [q] at e; cases e
    | some d' =>
      rw [q] at e
      cases e
      obtain ⟨v, ev, rv⟩ := r.get q
      exact ⟨v, by rw [List.getElem?_append_left (by simpa [r.length] using hi), List.getElem?_map, ev]; rfl, rv⟩
  · rw [List.getElem?_append_right (by simpa using hi), List.getElem?_replicate] at e
    split at e <;> cases e
theorem start_now {N : List Str} {as : List D} : ∀ (i : Nat) ds, (startD N as)[i]? ≠ some (.ow ds) := by
  intro i ds e
  unfold startD at e
  by_cases hi : i < as.length
  · rw [List.getElem?_append_left (by simpa using hi), List.getElem?_map] at e
    cases q : as[i]? with
    | none => rw [q] at e; cases e
    | some d' => rw [q] at e; cases e
  · rw [List.getElem?_append_right (by simpa using hi), List.getElem?_replicate] at e
    split at e <;> cases e
theorem hold_start {N : List Str} {vs : List V} {as : List D} {Z H : Hp} (zh : Same Z H) (r : Reps K Z vs as) : Hold K H Z Z (startD N as) (start N vs) H :=
  ⟨zh, Same.refl _, Same.refl _, fun _ _ => rfl, by simp [startD, L2.start, r.length], start_get r, fun i ds e => absurd e (start_now i ds), fun i j ds es a _ e => absurd e (start_now i ds)⟩
/-- THE RULE for a def: g what it is worth, b its body as a function -/
theorem fn_v {x qual : Str} {st : Stmt} {f : Addr} {fd : FuncData} {dV : Value} {N ps : List Str} {k : Nat} {g : List D → Option D} {b : Sf} (F : FunV K x qual st f fd dV) (S : FnScope N ps (defScope st)) (len : ∀ as d, g as = some d → as.length = ps.length)
    (hb : ∀ (cdv : Value) (A : Around) (outer : List Env) (s : Shared) (H : Hp) (E : XK), Room k (A.deeper (envOfC qual (defScope st) s.heap.objs.size f cdv)) → BV (cxOf CX0 P w K mg base N qual (defScope st) f cdv A outer s H E).nox (defBody st) b)
    (hg : ∀ as d, g as = some d → ∃ δ', b (startD N as) = some (.rt d, δ') ∨ (d = .none ∧ b (startD N as) = some (.nx, δ'))) : FnOk P w K mg base CX0 (k + 1) f fd ps (spD K g) := by
  obtain ⟨oc, od, kV, doc, pm, an, cdv, ct, osl, rfl, lk, hcd⟩ := F.ex
  refine fn_of lk hcd S (fun vs H Q E h => ?_) fun A outer s H vs Q E hr hsp => ?_
  · obtain ⟨Z, as, d, zh, r, e, _⟩ := h
    rw [r.length]
    exact len as d e
  · refine ⟨_, PSs.nox (hb cdv A outer s H E hr), ?_⟩
    obtain ⟨Z, as, d, zh, r, e, kk⟩ := hsp
    have hh := hold_start (N := N) zh r
    have fin : ∀ {σ' : St} {H' Z' : Hp} {δ' : Dv}, Hold K H Z Z' δ' σ' H' → Same Z Z' → New Z H Z' H' := fun h' z' => ⟨z', h'.h0, h'.zh, h'.zb⟩
    obtain ⟨δ', e2 | ⟨rfl, e2⟩⟩ := hg as d e
    · exact ⟨H, Z, Z, _, _, hh, e2, fun σ' H' Z' h' z' v rv => kk v Z' H' (fin h' z') rv⟩
    · exact ⟨H, Z, Z, _, _, hh, e2, fun σ' H' Z' h' z' => kk _ Z' H' (fin h' z') .non⟩
theorem FunV.binds {x qual : Str} {st : Stmt} {f : Addr} {fd : FuncData} {ps : List Str} (F : FunV K x qual st f fd .none)
    (h : ∀ (kV doc pm : Value) (an : Option Addr) (cdv ct : Value) (us : List Value), us.length = ps.length → bindArgs (PySem.W.fnOf x qual (defArgs st) (defBody st) (defScope st) .none kV doc pm an cdv ct) ⟨us, []⟩ = pure (ps.zip us)) : Binds K fd ps [] := by
  obtain ⟨oc, od, kV, doc, pm, an, cdv, ct, osl, rfl, lk, hcd⟩ := F.ex
  exact .all (h kV doc pm an cdv ct)
/-- with defaults: ds of them fill up -/
theorem FunV.bindsD {x qual : Str} {st : Stmt} {f T : Addr} {fd : FuncData} {ps : List Str} {o : Obj} {items : Array Value} {n : Nat} {ds : List Value} (F : FunV K x qual st f fd (.ref T)) (ho : K.lookup T = some o) (hs : o.data = .seq items n) (nu : Nat) (hn : nu + ds.length = ps.length)
    (h : ∀ (kV doc pm : Value) (an : Option Addr) (cdv ct : Value) (us : List Value), us.length = nu → ∃ kk, bindArgs (PySem.W.fnOf x qual (defArgs st) (defBody st) (defScope st) (.ref T) kV doc pm an cdv ct) ⟨us, []⟩ = seqItems? (.ref T) >>= kk ∧ kk (some items) = pure (ps.zip (us ++ ds))) : Binds K fd ps ds := by
  obtain ⟨oc, od, kV, doc, pm, an, cdv, ct, osl, rfl, lk, hcd⟩ := F.ex
  intro s us KX hl
  obtain ⟨kk, h1, h2⟩ := h kV doc pm an cdv ct us (by rw [List.length_append] at hl; lia)
  exact BindsTo.of_defaults rfl (KX _ _ ho) hs h1 h2
theorem funV_mk {x qual : Str} {st : Stmt} {f : Addr} {dV oc : Value} {od an : Option Addr} {osl : Array (Option Value)} {kV doc pm cdv ct : Value} (l : K.lookup f = some ⟨oc, od, .func (PySem.W.fnOf x qual (defArgs st) (defBody st) (defScope st) dV kV doc pm an cdv ct), osl⟩)
    (c : PySem.W.codeIn K cdv qual = true) (k : PySem.W.keepIn K (.ref f) = true) : FunV K x qual st f (PySem.W.fnOf x qual (defArgs st) (defBody st) (defScope st) dV kV doc pm an cdv ct) dV := ⟨⟨oc, od, kV, doc, pm, an, cdv, ct, osl, rfl, l, c⟩, k⟩
/-- law's: a list of at most 63 ints is handed in, True comes out -/
noncomputable def spLaw (K : PySem.W.Frag) : Sp := fun vs H Q _ => ∃ (a : Addr) (ns : List Int), vs = [.ref a] ∧ SqL K H a (ns.map V.int) ∧ ns.length ≤ 63 ∧ ∀ H', Q (.bl true) H'
theorem law_v {g : List D → Option D} {k : Nat} {f : Addr} {fd : FuncData} (F : FnOk P w K mg base CX0 k f fd ["script"] (spD K g)) (hg : ∀ ns : List Int, ns.length ≤ 63 → g [.list (ns.map .int)] = some (.bool true)) : FnOk P w K mg base CX0 k f fd ["script"] (spLaw K) :=
  F.imp fun vs H Q E h => by
    obtain ⟨a, ns, rfl, hS, hl, q⟩ := h
    exact ⟨H, [.list (ns.map .int)], .bool true, Same.refl _, .cons (.lst hS (Reps.ints ns)) .nil, hg ns hl, fun v Z' H' _ r => by cases r; exact q H'⟩
end
theorem walkV {k : Nat} {l : PySem.W.OpenLaw} {q : Program} {loose : List Str} {XP : (Str → Option Value) → Heap → Prop} {YP : World → Heap → Prop} {d : DefRec} {K : Params → PySem.W.Frag} (hn : l.most = some 63) (hr : Room k callerA) (hdf : d.params.defaults = [])
    (hY : ∀ (w : World) (h : Heap), YP w h → (K w.params).In h)
    (F : ∀ (w : World) (mg : Str → Option Value) (fa : Addr) (h : Heap), (K w.params).In h → h.Ns mainGlobals mg → mg d.name = some (.ref fa) →
      ∃ fd : FuncData, (∀ (s : Shared) (u : Value), BindsTo s fd ⟨[u], []⟩ [("script", u)]) ∧ ∀ base : Heap, (K w.params).In base → base.Ns mainGlobals mg → FnOk l.prog w (K w.params) mg base CX0 k fa fd ["script"] (spLaw (K w.params))) :
    PySem.W.WalkO q loose XP YP l.row.toRowW d [] (fun f vs => PySem.call f vs) :=
  L2.walk_of (n := 63) (k := k) (x := "script") (CX := fun _ => CX0) (sp := fun w => spLaw (K w.params)) hn (by decide) hdf hr hY F (fun _ _ a ns hl _ hS => ⟨a, ns, rfl, hS, hl, fun _ => rfl⟩) fun _ _ _ _ _ z => z
/-! ### a def by its own body -/
section
variable {P : Program} {w : World} {K : PySem.W.Frag} {mg : Str → Option Value} {base : Heap}
theorem fn_b {x qual : Str} {st : Stmt} {f : Addr} {fd : FuncData} {dV : Value} {N ps : List Str} {k : Nat} {b : Sf} (F : FunV K x qual st f fd dV) (S : FnScope N ps (defScope st))
    (hb : ∀ (cdv : Value) (A : Around) (outer : List Env) (s : Shared) (H : Hp) (E : XK), Room k (A.deeper (envOfC qual (defScope st) s.heap.objs.size f cdv)) → BV (cxOf CX0 P w K mg base N qual (defScope st) f cdv A outer s H E).nox (defBody st) b) :
    FnOk P w K mg base CX0 (k + 1) f fd ps (spD K (runB N ps.length b)) := by
  refine fn_v F S (fun as d h => ?_) hb fun as d h => ?_
  · unfold runB at h
    split at h
    · assumption
    · cases h
  · unfold runB at h
    split at h
    · obtain ⟨⟨fl, δ'⟩, e, h⟩ := bind_some h
      cases fl with
      | nx => cases h; exact ⟨δ', .inr ⟨rfl, e⟩⟩
      | rt d => cases h; exact ⟨δ', .inl e⟩
      | bk => cases h
      | ct => cases h
    · cases h
/-- a def that may be called: g what it is worth, dd the defaults that fill up -/
structure Cal (P : Program) (w : World) (K : PySem.W.Frag) (mg : Str → Option Value) (base : Heap) (x : Str) (k : Nat) (g : List D → Option D) (dd : List D) : Prop where
  ex : ∃ (fa : Addr) (fd : FuncData) (ps : List Str) (ds : List Value) (dv : List V), FnOk P w K mg base CX0 k fa fd ps (spD K g) ∧ mg x = some (.ref fa) ∧ PySem.W.keepIn K (.ref fa) = true ∧ Binds K fd ps ds ∧ Vals dv ds ∧ ∀ Z, Reps K Z dv dd
theorem Cal.mk0 {x : Str} {k : Nat} {g : List D → Option D} {fa : Addr} {fd : FuncData} {ps : List Str} (F : FnOk P w K mg base CX0 k fa fd ps (spD K g)) (hm : mg x = some (.ref fa)) (hk : PySem.W.keepIn K (.ref fa) = true) (hb : Binds K fd ps []) : Cal P w K mg base x k g [] :=
  ⟨⟨fa, fd, ps, [], [], F, hm, hk, hb, .nil, fun _ => .nil⟩⟩
end
section
variable {X : Cx} {e : Expr} {es : List Expr} {p pos : Pos} {fs : Dv → Option (List D)}
theorem ev_def {k : Nat} {x : Str} {g : List D → Option D} {dd : List D} (C : Cal X.prog X.w X.K X.mg X.base x k g dd) (hr : Room k X.A) (hg : Gl X x) (ha : AV X (e :: es) fs) (hdb : (x == ("__debug__" : Str)) = false := by decide) (he : starEach (e :: es) X.env = (false, eval e X.env) :: starEach es X.env := by rfl)
    (hpl : (backTo pos (starEach es X.env)).any (·.1) = false := by rfl) : EV X (.Call (.Name x p) (e :: es) [] pos) (os fs fun as => g (as ++ dd)) := by
  obtain ⟨fa, fd, ps, ds, dv, F, hm, hk, hb, hd, hdd⟩ := C.ex
  exact ev_call F hr hg hm hk hb hd hdd pass0 ha hdb he hpl
variable {tg a : Expr} {f : Dv → Option D}
theorem iv_seq (ha : EV X a f) : IV X tg a (oI f itsD) := by
  intro pins s σ H R I h
  obtain ⟨H₀, Z₀, Z, δ, ds, hh, e, k⟩ := h
  obtain ⟨y, e1, e⟩ := bind_some e
  cases y with
  | list xs => exact iv_list ha pins s σ H R I ⟨H₀, Z₀, Z, δ, ds, hh, by unfold oI; rw [e1]; exact e, k⟩
  | tuple xs => exact iv_tup ha pins s σ H R I ⟨H₀, Z₀, Z, δ, ds, hh, by unfold oI; rw [e1]; exact e, k⟩
  | _ => cases e
end
end VL

set_option Elab.async false
set_option linter.all false
set_option maxRecDepth 100000
set_option maxHeartbeats 4000000
namespace VL
open PySem PySem.Spec PyProof.Rows L2
/-! ### comprehensions -/
/-- the cells that a block takes along -/
noncomputable def clos (env : Env) : List (Str × NameKind) → List (Str × Addr) → List (Str × Addr)
  | [], cs => cs
  | (n, k) :: r, cs => if k == .free then clos env r ((n, (env.cells.lookup n).getD 0) :: cs) else clos env r cs
theorem forIn_clos {env : Env} : ∀ (l : List (Str × NameKind)) (cs : List (Str × Addr)), (∀ y ∈ l, y.2 = .free → ∃ c, env.cells.lookup y.1 = some c) →
    (forIn l cs fun (x : Str × NameKind) (r : List (Str × Addr)) => (if (x.2 == NameKind.free) = true then do let c ← cellOf env x.1; pure (ForInStep.yield ((x.1, c) :: r)) else pure (ForInStep.yield r) : Sem (ForInStep (List (Str × Addr))))) = pure (clos env l cs)
  | [], cs, _ => rfl
  | (n, k) :: r, cs, h => by
    have ih := fun cs' => forIn_clos r cs' fun y hy => h y (List.mem_cons_of_mem _ hy)
    rw [List.forIn_cons]
    cases hk : k == NameKind.free with
    | true =>
      have hk' : k = .free := by simpa using hk
      obtain ⟨c, ec⟩ := h (n, k) List.mem_cons_self hk'
      have e1 : cellOf env n = pure c := by unfold cellOf; rw [ec]
      simp only [hk, if_true, e1, pure_bind, clos, ec, Option.getD_some]
      exact ih _
    | false =>
      simp only [hk, Bool.false_eq_true, if_false, pure_bind, clos]
      exact ih _
theorem closureFor_eq {scope : Scope} {env : Env} (h : ∀ y ∈ scope.names, y.2 = .free → ∃ c, env.cells.lookup y.1 = some c) : closureFor scope env = pure (clos env scope.names []) := by
  simp only [closureFor]
  have := forIn_clos (env := env) scope.names [] h
  first
    | (rw [this]; rfl)
    | (simp only [this]; rfl)
    | (unfold closureFor; simp_all)
theorem clos_lookup {env : Env} : ∀ (l : List (Str × NameKind)) (cs : List (Str × Addr)) (y : Str) (c : Addr), (∀ z ∈ l, z.2 = .free → ∃ c, env.cells.lookup z.1 = some c) → (clos env l cs).lookup y = some c → cs.lookup y = some c ∨ env.cells.lookup y = some c
  | [], cs, y, c, _, e => .inl e
  | (n, k) :: r, cs, y, c, h, e => by
    unfold clos at e
    have hr := fun z hz => h z (List.mem_cons_of_mem _ hz)
    split at e
    · rename_i hk
      rcases clos_lookup r _ y c hr e with q | q
      · rw [List.lookup_cons] at q
        cases hy : y == n with
        | true =>
          have hy' : y = n := by simpa using hy
          subst hy'
          rw [hy] at q
          obtain ⟨c', ec⟩ := h (y, k) List.mem_cons_self (by simpa using hk)
          simp only [ec, Option.getD_some] at q
          cases q
          exact .inr ec
        | false => rw [hy] at q; exact .inl q
      · exact .inr q
    · exact clos_lookup r cs y c hr e
theorem clos_has {env : Env} : ∀ (l : List (Str × NameKind)) (cs : List (Str × Addr)) (y : Str), ((y, NameKind.free) ∈ l ∨ (cs.lookup y).isSome = true) → ((clos env l cs).lookup y).isSome = true
  | [], cs, y, h => by
    rcases h with h | h
    · cases h
    · exact h
  | (n, k) :: r, cs, y, h => by
    unfold clos
    split
    · rename_i hk
      refine clos_has r _ y ?_
      rcases h with h | h
      · rcases List.mem_cons.mp h with e | e
        · cases e; exact .inr (by simp [List.lookup_cons])
        · exact .inl e
      · refine .inr ?_
        rw [List.lookup_cons]
        cases hy : y == n with
        | true => rfl
        | false => exact h
    · rename_i hk
      refine clos_has r cs y ?_
      rcases h with h | h
      · rcases List.mem_cons.mp h with e | e
        · cases e; exact absurd rfl hk
        · exact .inl e
      · exact .inr h
theorem relabel_lookup {env : Env} {y : Str} : ∀ (l : List (Str × NameKind)), (∀ z ∈ l, z.2 ≠ .cell) →
    (((l.map fun (n, k) => if (k == NameKind.free && env.scope.kind == .function && env.kindOf n == some .cell) then (n, NameKind.cell) else (n, k)).lookup y = some .cell ∨ (l.map fun (n, k) => if (k == NameKind.free && env.scope.kind == .function && env.kindOf n == some .cell) then (n, NameKind.cell) else (n, k)).lookup y = some .free) ↔ l.lookup y = some .free)
  | [], _ => by simp
  | (n, k) :: r, h => by
    have ih := relabel_lookup (env := env) (y := y) r fun z hz => h z (List.mem_cons_of_mem _ hz)
    have hk : k ≠ .cell := h (n, k) List.mem_cons_self
    rw [List.map_cons]
    cases hy : y == n with
    | true =>
      by_cases hc : (k == NameKind.free && env.scope.kind == .function && env.kindOf n == some .cell) = true
      · have hf : k = .free := by
          simp only [Bool.and_eq_true] at hc
          simpa using hc.1.1
        simp only [if_pos hc, List.lookup_cons, hy]
        simp [hf]
      · simp only [if_neg hc, List.lookup_cons, hy]
        simp [hk]
    | false =>
      by_cases hc : (k == NameKind.free && env.scope.kind == .function && env.kindOf n == some .cell) = true
      · simp only [if_pos hc, List.lookup_cons, hy]; exact ih
      · simp only [if_neg hc, List.lookup_cons, hy]; exact ih
/-- the context of a comprehension's block -/
noncomputable def blk (X : Cx) (scope : Scope) (N : List Str) (C : Addr) (s₀ : Shared) (H₀ : Hp) (ex : List Addr) : Cx :=
  { X with N := N, s₀ := s₀, H₀ := H₀, env := compEnvC scope (clos X.env scope.names []) C X.env, outer := X.stack, stack := X.stack, ex := ex, fn := fun _ => false, pn := [], xe := fun _ _ => False }
/-- what must be seen of the block's text: on the names of the code around, ON its slots -/
structure BlkOk (on : List (Str × NameKind)) (ON : List Str) (scope : Scope) (vars : List Str) (caps : List (Nat × Str)) : Prop where
  kind : scope.kind = .function
  cell : ∀ y ∈ scope.names, y.2 ≠ .cell
  names : ∀ y ∈ scope.names, y.2 = .local → scope.names.lookup y.1 = some .local
  free : ∀ y ∈ scope.names, y.2 = .free → on.lookup y.1 = some .cell ∨ on.lookup y.1 = some .free
  cap : ∀ p ∈ caps, ON[p.1]? = some p.2 ∧ scope.names.lookup p.2 = some .free
section
variable {X : Cx} {pins : List (Addr × Obj)} {σ : St} {H H' : Hp} {s s' : Shared} {scope : Scope} {vars : List Str} {caps : List (Nat × Str)} {fp : List Addr} {C : Addr}
noncomputable def capV (σ : St) (caps : List (Nat × Str)) : St := caps.map fun p => (σ[p.1]?).getD none
theorem BlkOk.cells (B : BlkOk X.env.scope.names X.N scope vars caps) (I : Inv X pins σ H s) : ∀ y ∈ scope.names, y.2 = .free → ∃ c, X.env.cells.lookup y.1 = some c := fun y hy e => I.ok.has y.1 (B.free y hy e)
theorem blk_ok (B : BlkOk X.env.scope.names X.N scope vars caps) (I : Inv X pins σ H s) (hf : ∀ b ∈ fp, FpOk X pins H b) (hlt : ∀ b ∈ fp, b < s.heap.objs.size) (hC : s.heap.objs.size ≤ C) : (blk X scope (vars ++ caps.map (·.2)) C s H fp).Ok where
  mod := I.ok.mod
  kind := B.kind
  glob := I.ok.glob
  blt := I.ok.blt
  above := hC
  inj := fun x y c e1 e2 => by
    rcases clos_lookup _ _ _ _ (B.cells I) e1 with q1 | q1
    · cases q1
    · rcases clos_lookup _ _ _ _ (B.cells I) e2 with q2 | q2
      · cases q2
      · exact I.ok.inj x y c q1 q2
  has := fun x e => by
    have : scope.names.lookup x = some .free := (relabel_lookup scope.names B.cell).mp e
    have := clos_has (env := X.env) scope.names [] x (.inl (PySem.mem_of_lookup this))
    exact Option.isSome_iff_exists.mp this
  cab := fun x c e => nomatch e
  hd := I.ok.hd
  frames := I.ok.frames
  stk := .inl rfl
  exf := fun b hb => ⟨Nat.ne_of_lt (Nat.lt_of_lt_of_le (hlt b hb) hC), fun x c e => by
    rcases clos_lookup _ _ _ _ (B.cells I) e with q | q
    · cases q
    · exact (hf b hb).2.2.2.2.1 x c q⟩
  bs := I.bs
  bsz := Nat.le_trans I.ok.bsz I.sz
  noex := fun b o e hb => by
    rcases (hf b hb).2.2.2.1 with z | z
    · exact I.ok.noex b o e z
    · exact absurd (Nat.lt_of_lt_of_le (Heap.lt_size e) (Nat.le_trans I.ok.bsz z)) (Nat.lt_irrefl _)
  exfs := fun b hb z => by
    rcases List.mem_cons.mp (I.stkSub b z) with q | q
    · exact (hf b hb).2.1 q
    · exact (hf b hb).2.2.1 q
  funs := I.stack
  frf := I.stkFree
/-- the block is entered -/
theorem blk_inv (B : BlkOk X.env.scope.names X.N scope vars caps) (I : Inv X pins σ H s) (hf : ∀ b ∈ fp, FpOk X pins H b) (hlt : ∀ b ∈ fp, b < s.heap.objs.size) (hC : s.heap.objs.size ≤ C) {h₁ : Heap} {m : Str → Option Value} {tk : Nat} (hns : h₁.Ns C m) (old : ∀ b o, s.heap.get? b = some o → h₁.get? b = some o) :
    Inv (blk X scope (vars ++ caps.map (·.2)) C s H fp) [] (vars.map (fun _ => none) ++ capV σ caps) H { s with heap := h₁, toks := tk } := by
  refine ⟨blk_ok B I hf hlt hC, rfl, I.bare, Un.kept old, ⟨m, hns, fun i x v e1 e2 e3 => ?_⟩, fun x c e => ?_, I.hok.fresh hC, fun x c e => ?_, fun p hp => absurd (show p ∈ ([] : List (Addr × Obj)) from hp) (by simp), I.hok.kept old, ?_⟩
  · have e1 : (vars ++ caps.map (·.2))[i]? = some x := e1
    by_cases hi : i < vars.length
    · rw [List.getElem?_append_left (by simpa using hi), List.getElem?_map] at e2
      cases q : vars[i]? <;> rw [q] at e2 <;> cases e2
    · rw [List.getElem?_append_right (by simpa using hi)] at e1 e2
      simp only [List.length_map] at e2
      unfold capV at e2
      rw [List.getElem?_map] at e1 e2
      cases q : caps[i - vars.length]? with
      | none => rw [q] at e1; cases e1
      | some p =>
        rw [q] at e1 e2
        cases e1
        have hp := List.mem_of_getElem? q
        obtain ⟨g1, g2⟩ := B.cap p hp
        have gf : X.env.scope.names.lookup p.2 = some .cell ∨ X.env.scope.names.lookup p.2 = some .free := B.free (p.2, .free) (PySem.mem_of_lookup g2) rfl
        have ev : σ[p.1]? = some (some v) := by
          have e2 : (σ[p.1]?).getD none = some v := Option.some.inj e2
          cases z : σ[p.1]? with
          | none => rw [z] at e2; cases e2
          | some w => rw [z] at e2; rw [show w = some v from e2]
        obtain ⟨m', _, hl⟩ := I.loc
        obtain ⟨u, r, l⟩ := hl p.1 p.2 v g1 ev (gf.elim (fun z => .inr (.inl z)) fun z => .inr (.inr z))
        refine ⟨u, r, .inr ⟨?_, ?_⟩⟩
        · exact (relabel_lookup scope.names B.cell).mpr g2
        · rcases l with ⟨z, _⟩ | ⟨_, c, ec, hc⟩
          · have z : X.env.scope.names.lookup p.2 = some .local := z
            rcases gf with w | w <;> rw [z] at w <;> cases w
          · obtain ⟨c', q'⟩ := Option.isSome_iff_exists.mp (clos_has (env := X.env) scope.names [] p.2 (.inl (PySem.mem_of_lookup g2)))
            rcases clos_lookup _ _ _ _ (B.cells I) q' with w | w
            · cases w
            · rw [ec] at w
              cases w
              obtain ⟨o, ho, hd⟩ := hc
              exact ⟨c, q', o, old c o ho, hd⟩
  · rcases clos_lookup _ _ _ _ (B.cells I) e with q | q
    · cases q
    · obtain ⟨v, o, ho, hd⟩ := I.cell x c q
      exact ⟨v, o, old c o ho, hd⟩
  · rcases clos_lookup _ _ _ _ (B.cells I) e with q | q
    · cases q
    · exact I.freeC x c q
  · simp [blk, capV]
/-- the block is left: its list is told -/
theorem blk_out (I : Inv X pins σ H s) (hf : ∀ b ∈ fp, FpOk X pins H b) {D : Addr} {s' : Shared} {σ' : St} {N : List Str} {ys : List V} {its : List Value} (hC : s.heap.objs.size ≤ C) (hD : s.heap.objs.size ≤ D) (hDC : D ≠ C)
    (J : Inv (blk X scope N C s H fp) [] σ' H' s') (hD' : H' D = none) (hp : s'.heap.PlainList D its.toArray) (hv : Vals ys its) (hz : ys.length ≤ sizeLine) {h' : Heap} (hs : Heap.SameBut C s'.heap h') :
    Inv X pins σ (upd H' D (.lst ys)) { s' with heap := h' } := by
  have U : Un (frs X.stack) fp H H' s.heap s'.heap := J.base
  have neC : ∀ b o, s.heap.get? b = some o → b ≠ C := fun b o e => Nat.ne_of_lt (Nat.lt_of_lt_of_le (Heap.lt_size e) hC)
  have neD : ∀ b o, s.heap.get? b = some o → b ≠ D := fun b o e => Nat.ne_of_lt (Nat.lt_of_lt_of_le (Heap.lt_size e) hD)
  have mv : ∀ b o, b ≠ C → s'.heap.get? b = some o → h'.get? b = some o := fun b o hb e => hs.extBut b o hb e
  have tD : ∀ b o, H' b = some o → (upd H' D (.lst ys)) b = some o := fun b o e => by rw [upd_ne (ne_of_none e hD')]; exact e
  refine I.call' (s' := { s' with heap := h' }) (ch := fp) J.os ⟨fun b o e n h1 h2 => mv b o (neC b o e) (U.keep b o e n h1 h2), fun b o e n h1 h2 => ?_, fun b o e n h2 => ?_, fun b o e h2 => ?_, fun b xs e => tD _ _ (U.tups b xs e), fun b o xs e => tD _ _ (U.frzs b o xs e), fun b ps e => ?_⟩ (fun b o e => ?_) J.bare
    (fun b hb => ⟨(hf b hb).2.2.2.1, (hf b hb).2.1, (hf b hb).2.2.2.2.1, (hf b hb).2.2.2.2.2⟩)
  · obtain ⟨sl, q⟩ := U.slot b o e n h1 h2
    exact ⟨sl, mv b _ (neC b o e) q⟩
  · rw [upd_ne (neD b o e)]; exact U.free b o e n h2
  · obtain ⟨o', q⟩ := U.there b o e h2
    exact ⟨o', mv b _ (neC b o e) q⟩
  · obtain ⟨more, q⟩ := U.tbls b ps e
    exact ⟨more, tD _ _ q⟩
  · by_cases hb : b = D
    · subst hb
      rw [upd_same] at e
      cases e
      obtain ⟨n, q⟩ := hp
      exact ⟨hz, its, n, hv, mv _ _ hDC q⟩
    · rw [upd_ne hb] at e
      refine (J.hok b o e).stay (fun c v hc q => mv c v ?_ q) (fun c q => tD _ _ q) fun c xs q => tD _ _ q
      intro z
      have fc : H' C = none := J.free
      rcases hc with w | w
      · rw [← w, z, fc] at e; cases e
      · rw [z, fc] at w; cases w
theorem compTurn_go (elt target iter : Expr) (scope : Scope) (pos : Pos) (it acc : Value) (env : Env) :
    compTurn (.ListComp elt [⟨target, iter, [], 0⟩] scope pos) 0 it acc env = (standAt iter.pos >>= fun _ => pyNext it >>= fun r => match r with
      | none => pure (.done .next)
      | some v => letOwnedTupleGo target it v >>= fun _ => assign target env v >>= fun _ =>
        (eval elt env >>= fun x => call (.builtin "list.append") [acc, x] >>= fun _ => pure ()) >>= fun _ =>
          again (.compLoop (.ListComp elt [⟨target, iter, [], 0⟩] scope pos) 0 it acc env)) := by rfl
/-- what is wanted of a comprehension, turn by turn: W the invariant by the turn, a measure, the items so far -/
noncomputable def KeepS (σ σ' : St) : Prop := σ.length = σ'.length ∧ ∀ (i : Nat) v, σ[i]? = some (some v) → σ'[i]? = some (some v)
noncomputable def tComp (wi : TI) (g : TG) (te : TE) (vars : List Str) (caps : List (Nat × Str)) : TE := fun σ H Q => wi σ H fun J H1 => ∃ W : Nat → Nat → List V → Hp → Prop, (∃ m, W 0 m [] H1) ∧ ∀ i m ys H, W i m ys H →
  (J.stop i H ∧ ys.length ≤ sizeLine ∧ ∀ p, H p = none → Q (.ref p) (upd H p (.lst ys))) ∨
  (J.go i H ∧ ys.length < sizeLine ∧ ∀ x H', J.yld i H x H' → g x (vars.map (fun _ => none) ++ capV σ caps) H' fun σ2 H2 => KeepS (vars.map (fun _ => none) ++ capV σ caps) σ2 ∧ te σ2 H2 fun y H3 => ∃ m', m' < m ∧ W (i + 1) m' (ys ++ [y]) H3)
theorem Inv.weaken {X : Cx} {pins : List (Addr × Obj)} {σ σ' : St} {H : Hp} {s : Shared} (I : Inv X pins σ H s) (hl : σ'.length = σ.length) (w : ∀ (i : Nat) v, σ'[i]? = some (some v) → σ[i]? = some (some v)) : Inv X pins σ' H s := I.weak hl w
theorem codeAny_comp_go {prog : Program} {w : World} {A : Around} {R : Result → Shared → Prop} {s : Shared} {elt target iter : Expr} {scope : Scope} {pos : Pos} {it acc : Value} {env : Env} (I : Nat → Shared → Prop)
    (turn : ∀ n s, I n s → wpAny (model prog w) A (pyNext it) (fun r s₁ => match r with
      | none => R (.ok .next) s₁
      | some v => wpAny (model prog w) A (letOwnedTupleGo target it v) (fun _ s₁ => wpAny (model prog w) A (assign target env v) (fun _ s₂ => wpAny (model prog w) A (eval elt env) (fun x s₃ =>
          wpAny (model prog w) A (call (.builtin "list.append") [acc, x]) (fun _ s₄ => ∃ m, m < n ∧ I m s₄) (fun _ _ => False) s₃) (fun _ _ => False) s₂) (fun _ _ => False) s₁) (fun _ _ => False) s₁) (fun _ _ => False) s)
    (n : Nat) (h : I n s) : codeAny (model prog w) A (.compLoop (.ListComp elt [⟨target, iter, [], 0⟩] scope pos) 0 it acc env) R s := by
  refine codeAny_loop rfl I (fun n s hI => ?_) n h
  show wpAny _ _ ((compTurn (.ListComp elt [⟨target, iter, [], 0⟩] scope pos) 0 it acc env).onRaise (fun x => do noteFrame x env; theTreesLotGoes x)) _ _ s
  refine wpAny_noted ?_
  rw [compTurn_go]
  refine wpAny_bind (wpAny_standAt (wpAny_bind (wpAny_mono (turn n s hI) (fun r s₁ h₁ => ?_) fun _ _ h' => h'.elim)))
  cases r with
  | none => exact wpAny_pure h₁
  | some v =>
    refine wpAny_bind (wpAny_mono h₁ (fun _ s₁ h₁ => ?_) fun _ _ h' => h'.elim)
    exact wpAny_bind (wpAny_mono h₁ (fun _ s₂ h₂ => wpAny_bind (wpAny_bind (wpAny_mono h₂ (fun x s₃ h₃ => wpAny_bind (wpAny_mono h₃
      (fun _ s₄ h₄ => wpAny_pure (wpAny_pure ⟨rfl, h₄⟩)) fun _ _ h' => h'.elim)) fun _ _ h' => h'.elim))) fun _ _ h' => h'.elim)
end
section
variable {X : Cx} {scope : Scope} {vars : List Str} {caps : List (Nat × Str)} {elt tg iter : Expr} {pos : Pos} {wi : TI} {g : TG} {te : TE}
/-- the walk of the block -/
theorem comp_block (B : BlkOk X.env.scope.names X.N scope vars caps) (hc : X.calm = true)
    (hg : ∀ C s₀ H₀ ex, PG (blk X scope (vars ++ caps.map (·.2)) C s₀ H₀ ex) tg g) (he : ∀ C s₀ H₀ ex, PE (blk X scope (vars ++ caps.map (·.2)) C s₀ H₀ ex) elt te)
    {pins : List (Addr × Obj)} {σ : St} {H2 : Hp} {s2 : Shared} {Q : VK} {it : Addr} {fp : List Addr} {tn : Nat → Heap → Prop} {J : It} (I2 : Inv X pins σ H2 s2) (T : Turn X.prog X.w X.K tg J fp it tn) (st2 : tn 0 s2.heap) (f2 : ∀ b ∈ fp, FpOk X pins H2 b)
    {W : Nat → Nat → List V → Hp → Prop} {m0 : Nat} (w0 : W 0 m0 [] H2) (turn : ∀ i m ys H, W i m ys H →
      (J.stop i H ∧ ys.length ≤ sizeLine ∧ ∀ p, H p = none → Q (.ref p) (upd H p (.lst ys))) ∨
      (J.go i H ∧ ys.length < sizeLine ∧ ∀ x H', J.yld i H x H' → g x (vars.map (fun _ => none) ++ capV σ caps) H' fun σ2 H2 => KeepS (vars.map (fun _ => none) ++ capV σ caps) σ2 ∧ te σ2 H2 fun y H3 => ∃ m', m' < m ∧ W (i + 1) m' (ys ++ [y]) H3))
    {RR : Value → Addr → Result → Shared → Prop} {E : Value → Shared → Prop}
    (hRR : ∀ D C s' m, s'.heap.Ns C m → D ≠ C → s2.heap.objs.size ≤ D → s2.heap.objs.size ≤ C → ∀ H', H' C = none → (∀ h', Heap.SameBut C s'.heap h' → Inv X pins σ H' { s' with heap := h' }) → Q (.ref D) H' → RR (.ref D) C (.ok .next) s') :
    wpAny (model X.prog X.w) X.A (newList []) (fun acc s₃ => wpAny (model X.prog X.w) X.A (newFunctionEnv scope X.env.globals (clos X.env scope.names []) [] X.env.qual none .none (some X.env)) (fun cenv s₄ =>
      codeAny (model X.prog X.w) X.A (.compStart (.ListComp elt [⟨tg, iter, [], 0⟩] scope pos) 0 (.ref it) acc { cenv with scope := relabel scope X.env }) (RR acc cenv.locals) s₄) E s₃) E s2 := by
  refine wpAny_newObj_type (wpAny_newFunctionEnv B.cell (by intro y hy; simp at hy) (fun h₁ hns₁ hsb₁ => ?_) B.kind)
  dsimp only at hns₁ hsb₁ ⊢
  generalize hP : s2.heap.push { cls := .type "list", dict := none, data := .seq ([] : List Value).toArray } = HP at hns₁ hsb₁ ⊢
  have hCs : HP.objs.size = s2.heap.objs.size + 1 := by rw [← hP, Heap.size_push]
  have hDC : s2.heap.objs.size ≠ HP.objs.size := by rw [hCs]; exact Nat.ne_of_lt (Nat.lt_succ_self _)
  have hCle : s2.heap.objs.size ≤ HP.objs.size := by rw [hCs]; exact Nat.le_succ _
  have old : ∀ b o, s2.heap.get? b = some o → h₁.get? b = some o := fun b o e => hsb₁.extBut b o (Nat.ne_of_lt (Nat.lt_of_lt_of_le (Heap.lt_size e) hCle)) (Heap.get?_push_of_some _ (hP ▸ Heap.get?_push_of_some _ e))
  have hacc : h₁.PlainList s2.heap.objs.size #[] := ⟨_, hsb₁.extBut _ _ hDC (Heap.get?_push_of_some _ (hP ▸ Heap.get?_push_size _ rfl))⟩
  have flt : ∀ b ∈ fp, b < s2.heap.objs.size := fun b hb => by
    obtain ⟨o, e, _⟩ := T.obj _ _ st2 b hb
    exact Heap.lt_size e
  have st1 : tn 0 h₁ := T.keep _ _ _ st2 fun b _ o e => old b o e
  -- the loop
  have loop : ∀ s3 : Shared, s3 = { s2 with heap := h₁, toks := s2.toks + ([] : List (Str × Value)).length } →
      codeAny (model X.prog X.w) X.A (.compLoop (.ListComp elt [⟨tg, iter, [], 0⟩] scope pos) 0 (.ref it) (.ref s2.heap.objs.size) (compEnvC scope (clos X.env scope.names []) HP.objs.size X.env))
        (RR (.ref s2.heap.objs.size) HP.objs.size) s3 := by
    rintro s3 rfl
    have X' := blk X scope (vars ++ caps.map (·.2)) HP.objs.size s2 H2 fp
    have fpo : ∀ {H' : Hp}, (∀ b ∈ fp, H' b = none) → ∀ b ∈ fp, FpOk (blk X scope (vars ++ caps.map (·.2)) HP.objs.size s2 H2 fp) [] H' b := fun hn b hb => by
      have ok := blk_ok B I2 f2 flt hCle
      exact ⟨hn b hb, (ok.exf b hb).1, ok.exfs b hb, .inl hb, (ok.exf b hb).2, fun p hp => absurd (show p ∈ ([] : List (Addr × Obj)) from hp) (by simp)⟩
    refine codeAny_comp_go (fun n s => ∃ i ys H its, Inv (blk X scope (vars ++ caps.map (·.2)) HP.objs.size s2 H2 fp) [] (vars.map (fun _ => none) ++ capV σ caps) H s ∧ tn i s.heap ∧ (∀ b ∈ fp, H b = none) ∧ s.heap.PlainList s2.heap.objs.size (List.toArray its) ∧ H s2.heap.objs.size = none ∧ Vals ys its ∧ W i n ys H) ?_ m0
      ⟨0, [], H2, [], blk_inv B I2 f2 flt hCle hns₁ old, st1, fun b hb => (f2 b hb).1, hacc, I2.hok.fresh (Nat.le_refl _), .nil, w0⟩
    rintro n s4 ⟨i, ys, H4, its, I4, st4, fr4, pl4, nD4, v4, w4⟩
    obtain ⟨nn, eD⟩ := id pl4
    have DnL : s2.heap.objs.size ≠ (blk X scope (vars ++ caps.map (·.2)) HP.objs.size s2 H2 fp).env.locals := hDC
    have Dfs : s2.heap.objs.size ∉ (blk X scope (vars ++ caps.map (·.2)) HP.objs.size s2 H2 fp).fs := fun z => by
      rcases List.mem_cons.mp (I2.stkSub _ z) with q | q
      · have := I2.lt; rw [← q] at this; exact Nat.lt_irrefl _ this
      · exact I2.nofs (Nat.le_refl _) q
    have Dfp : ∀ b ∈ fp, s2.heap.objs.size ≠ b := fun b hb z => by have := flt b hb; rw [← z] at this; exact Nat.lt_irrefl _ this
    have DnC : ∀ x c, (blk X scope (vars ++ caps.map (·.2)) HP.objs.size s2 H2 fp).env.cells.lookup x = some c → c ≠ s2.heap.objs.size := fun x c e z => by
      rcases clos_lookup _ _ _ _ (B.cells I2) e with q | q
      · cases q
      · obtain ⟨v, o, ho, _⟩ := I2.cell x c q
        have := Heap.lt_size ho
        rw [z] at this
        exact Nat.lt_irrefl _ this
    have pinD : ∀ {σ' : St} {H' : Hp} {s' : Shared}, Inv (blk X scope (vars ++ caps.map (·.2)) HP.objs.size s2 H2 fp) [(s2.heap.objs.size, { cls := .type "list", data := .seq its.toArray nn })] σ' H' s' → s'.heap.PlainList s2.heap.objs.size its.toArray ∧ H' s2.heap.objs.size = none := fun {σ' H' s'} I' => by
      obtain ⟨q1, q2, _⟩ := I'.pin (s2.heap.objs.size, { cls := .type "list", data := .seq its.toArray nn }) (by simp [blk])
      exact ⟨⟨nn, q1⟩, q2⟩
    have I4p : Inv (blk X scope (vars ++ caps.map (·.2)) HP.objs.size s2 H2 fp) [(s2.heap.objs.size, { cls := .type "list", data := .seq its.toArray nn })] (vars.map (fun _ => none) ++ capV σ caps) H4 s4 :=
      I4.pins_of fun p hp => by
        have e : p = (s2.heap.objs.size, { cls := .type "list", data := .seq its.toArray nn }) := by simpa [blk] using hp
        subst e
        exact ⟨eD, nD4, DnL, Dfs, fun v z => by cases z⟩
    have fpo' : ∀ {H' : Hp}, (∀ b ∈ fp, H' b = none) → ∀ b ∈ fp, FpOk (blk X scope (vars ++ caps.map (·.2)) HP.objs.size s2 H2 fp) [(s2.heap.objs.size, { cls := .type "list", data := .seq its.toArray nn })] H' b := fun hn b hb => by
      obtain ⟨q1, q2, q3, q4, q5, _⟩ := fpo hn b hb
      exact ⟨q1, q2, q3, q4, q5, fun p hp => by
        have e : p = (s2.heap.objs.size, { cls := .type "list", data := .seq its.toArray nn }) := by simpa [blk] using hp
        subst e
        exact Dfp b hb⟩
    have unp : ∀ {pl : List (Addr × Obj)} {σ' : St} {H' : Hp} {s' : Shared}, Inv (blk X scope (vars ++ caps.map (·.2)) HP.objs.size s2 H2 fp) pl σ' H' s' → Inv (blk X scope (vars ++ caps.map (·.2)) HP.objs.size s2 H2 fp) [] σ' H' s' := fun {pl σ' H' s'} I' =>
      I'.pins_of fun p hp => absurd (show p ∈ ([] : List (Addr × Obj)) from hp) (by simp)
    rcases turn i n ys H4 w4 with ⟨stop, hz, qn⟩ | ⟨go, hz, step⟩
    · refine thn (T.done (blk X scope (vars ++ caps.map (·.2)) HP.objs.size s2 H2 fp) rfl rfl rfl hc i _ s4 _ H4 _ I4p (fpo' fr4) st4 stop) fun r s5 ⟨hr, I5⟩ => ?_
      subst hr
      obtain ⟨p5, n5⟩ := pinD I5
      obtain ⟨m5, ns5, _⟩ := I5.loc
      refine hRR _ _ s5 m5 ns5 hDC (Nat.le_refl _) hCle _ ?_ (fun h' hs' => blk_out I2 f2 hCle (Nat.le_refl _) hDC (unp I5) n5 p5 v4 hz hs') (qn _ n5)
      rw [upd_ne hDC.symm]
      exact I5.free
    · refine thn (T.item (blk X scope (vars ++ caps.map (·.2)) HP.objs.size s2 H2 fp) rfl rfl rfl hc i _ s4 _ H4 _ I4p (fpo' fr4) st4 go) fun r s5 ⟨u, hr, h5⟩ => ?_
      subst hr
      refine thn h5 fun _ s6 ⟨x, H6, I6, rx, yx, st6, fr6⟩ => ?_
      have I6p := I6.pinned (fpo' fr6) (T.obj _ _ st6)
      refine thn (hg _ _ _ _ _ s6 _ H6 x u _ I6p rx (step x H6 yx)) fun _ s7 ⟨σ7, H7, I7, kp, q7⟩ => ?_
      refine thn (he _ _ _ _ _ s7 σ7 H7 _ I7 q7) fun v s8 ⟨y, H8, I8, ry, m', hm, w8⟩ => ?_
      obtain ⟨p8, n8⟩ := pinD I8.unpinned
      have st8 : tn (i + 1) s8.heap := T.keep _ _ _ st6 fun b hb o e => (I8.pin (b, o) (List.mem_append_right _ (List.mem_append_right _ (mem_pinsAt hb e)))).1
      have fr8 : ∀ b ∈ fp, H8 b = none := fun b hb => by
        obtain ⟨o, e, d⟩ := T.obj _ _ st6 b hb
        exact (I8.pin (b, o) (List.mem_append_right _ (List.mem_append_right _ (mem_pinsAt hb e)))).2.1
      have hl := v4.length
      refine wpAny_list_append_plain p8 (fun h9 p9 sb9 => ⟨m', hm, i + 1, ys ++ [y], H8, its ++ [v], ?_, ?_, fr8, by simpa using p9, n8, v4.append (.cons ry .nil), w8⟩) (by simp; lia)
      · have I9 : Inv (blk X scope (vars ++ caps.map (·.2)) HP.objs.size s2 H2 fp) [] σ7 H8 { s8 with heap := h9, toks := s8.toks } :=
          (unp I8).turned (it := s2.heap.objs.size) (fun b o hb e => sb9.extBut b o hb e) n8 DnL (.inr (Nat.le_refl _)) DnC fun p hp => absurd (show p ∈ ([] : List (Addr × Obj)) from hp) (by simp)
        exact I9.weak kp.1 kp.2
      · exact T.keep _ _ _ st8 fun b hb o e => sb9.extBut b o (Dfp b hb).symm e
  exact codeAny_compStart_list (loop _ rfl) (T.self _ 0 _ _ _ st1 (loop _ rfl))
theorem pe_comp (B : BlkOk X.env.scope.names X.N scope vars caps) (hc : X.calm = true) (hi : PI X tg iter wi)
    (hg : ∀ C s₀ H₀ ex, PG (blk X scope (vars ++ caps.map (·.2)) C s₀ H₀ ex) tg g) (he : ∀ C s₀ H₀ ex, PE (blk X scope (vars ++ caps.map (·.2)) C s₀ H₀ ex) elt te) (hs : ∀ x, foldedSetIterable iter X.env x = pure x := by intro _; rfl) :
    PE X (.ListComp elt [⟨tg, iter, [], 0⟩] scope pos) (tComp wi g te vars caps) := by
  intro pins s σ H Q I h
  rw [eval_ListComp]
  refine wpAny_comprehension_free (use := none) rfl hs (closureFor_eq (B.cells I)) B.kind B.names ?_
  show wpAny _ _ (eval iter X.env) _ _ s
  refine thn (hi pins s σ H _ I h) fun v s1 h1 => thn h1 fun itv s2 h2 => ?_
  obtain ⟨it, fp, tn, J, H2, e, I2, T, st2, f2, W, ⟨m0, w0⟩, turn⟩ := h2
  subst e
  exact comp_block B hc hg he I2 T st2 f2 w0 turn (RR := fun acc C => compPost (model X.prog X.w) X.A X.xe none (EP X pins σ Q) acc C) fun D C s' m ns _ _ _ H' _ k q => ⟨m, ns, fun h' hs' => ⟨.ref D, H', k h' hs', rfl, q⟩⟩
/-- y = [..]: the store is exchanged with the block's own names -/
theorem ps_comp {i : Nat} {y : Str} {py spos : Pos} (B : BlkOk X.env.scope.names X.N scope vars caps) (hc : X.calm = true) (hi : PI X tg iter wi)
    (hg : ∀ C s₀ H₀ ex, PG (blk X scope (vars ++ caps.map (·.2)) C s₀ H₀ ex) tg g) (he : ∀ C s₀ H₀ ex, PE (blk X scope (vars ++ caps.map (·.2)) C s₀ H₀ ex) elt te)
    (hN : X.N.Nodup) (hy : X.N[i]? = some y) (hx : Loc X.env.scope y) (hsw : swapsWith (.ListComp elt [⟨tg, iter, [], 0⟩] scope pos) (some (.Name y py)) spos.line X.env = pure true)
    (hf : X.fn y = true ∨ X.env.scope.names.lookup y = some .local) (hs : ∀ x, foldedSetIterable iter X.env x = pure x := by intro _; rfl) :
    PS X (.Assign [.Name y py] (.ListComp elt [⟨tg, iter, [], 0⟩] scope pos) spos) (fun D σ H => tComp wi g te vars caps σ H fun v H1 => D.nx (σ.set i (some v)) H1) := by
  intro pins s σ H DE I h
  rw [exec_Assign_Name_used _ _ _ _ hsw]
  refine wpAny_bind (wpAny_standAt (wpAny_bind ?_))
  show wpAny _ X.A (do let _ ← comprehension (.ListComp elt [⟨tg, iter, [], 0⟩] scope pos) scope X.env _ (newList []) false (eval iter X.env) (some (assign (.Name y py) X.env))) _ _ s
  refine wpAny_bind (wpAny_mono (wpAny_comprehension_free (use := some (assign (.Name y py) X.env)) (Q := fun _ s' => SP X pins DE .next s') rfl hs (closureFor_eq (B.cells I)) B.kind B.names
    (thn (hi pins s σ H _ I h) fun v s1 h1 => thn h1 fun itv s2 h2 => ?_)) (fun _ s' hq => wpAny_pure (wpAny_pure hq)) fun _ _ e => e)
  obtain ⟨it, fp, tn, J, H2, e, I2, T, st2, f2, W, ⟨m0, w0⟩, turn⟩ := h2
  subst e
  refine comp_block (Q := fun v H1 => DE.nx (σ.set i (some v)) H1) B hc hg he I2 T st2 f2 w0 turn (RR := fun acc C => compPost (model X.prog X.w) X.A X.xe (some (assign (.Name y py) X.env)) (fun _ s' => SP X pins DE .next s') acc C) ?_
  intro D C s' m ns hDC hD hC H' hHC k q
  obtain ⟨oC, es, ep, eC, dC, rC⟩ := ns
  have I' : Inv X pins σ H' s' := k s'.heap (Heap.SameBut.refl ..)
  have nL : C ≠ X.env.locals := fun z => by have := I2.lt; rw [← z] at this; exact absurd (Nat.lt_of_lt_of_le this hC) (Nat.lt_irrefl _)
  have nF : C ∉ X.fs := I2.nofs hC
  have nCell : ∀ x c, X.env.cells.lookup x = some c → c ≠ C := fun x c e z => by
    obtain ⟨v, o, ho, _⟩ := I2.cell x c e
    have := Heap.lt_size ho
    rw [z] at this
    exact absurd (Nat.lt_of_lt_of_le this hC) (Nat.lt_irrefl _)
  have nPin : ∀ p ∈ X.pn ++ pins, p.1 ≠ C := fun p hp z => by
    have := Heap.lt_size (I2.pin p hp).1
    rw [z] at this
    exact absurd (Nat.lt_of_lt_of_le this hC) (Nat.lt_irrefl _)
  have Ip : Inv X (pins ++ [(C, oC)]) σ H' s' := I'.pins_of fun p hp => by
    rcases List.mem_append.mp hp with z | z
    · exact I'.pin p (List.mem_append_right _ z)
    · have e : p = (C, oC) := by simpa using z
      subst e
      exact ⟨eC, hHC, nL, nF, fun v z => by rw [dC] at z; cases z⟩
  refine thn (pg_name (pos := py) hN hy hx hf _ s' σ H' (.ref D) (.ref D) (fun σ' H'' => σ' = σ.set i (some (.ref D)) ∧ H'' = H' ∧ DE.nx σ' H'') Ip rfl ⟨rfl, rfl, q⟩) fun _ s'' ⟨σ'', H'', I'', e1, e2, q''⟩ => ?_
  subst e1 e2
  have eC'' : s''.heap.get? C = some oC := (I''.pin (C, oC) (List.mem_append_right _ (List.mem_append_right _ (by simp)))).1
  refine ⟨m, ⟨oC, es, ep, eC'', dC, rC⟩, fun h' hs' => ⟨_, H'', ?_, q''⟩⟩
  exact I''.unpinned.turned (t' := s''.toks) (it := C) (fun b o hb e => hs'.extBut b o hb e) hHC nL (.inr (Nat.le_trans I2.sz hC)) nCell nPin
end
/-! ### comprehensions by plain functions -/
noncomputable def slF : Option Sl → Sl
  | some (.fz d) => .fz d
  | _ => .un
@[simp] theorem slF_fz (d : D) : slF (some (.fz d)) = .fz d := rfl
noncomputable def capS (δ : Dv) (caps : List (Nat × Str)) : Dv := caps.map fun p => slF δ[p.1]?
noncomputable def mapO (f : D → Option D) : List D → Option (List D)
  | [] => some []
  | d :: ds => (f d).bind fun e => (mapO f ds).bind fun es => some (e :: es)
noncomputable def oComp (fi : Dv → Option (List D)) (caps : List (Nat × Str)) (bv : D → Option (List D)) (fe : Dv → Option D) : Dv → Option D := fun δ => (fi δ).bind fun ds => if ds.length ≤ sizeLine then (mapO (fun d => (bv d).bind fun vs => fe (vs.map .fz ++ capS δ caps)) ds).bind fun es => some (.list es) else none
noncomputable def bv1 : D → Option (List D) := fun d => some [d]
theorem mapO_length {f : D → Option D} : ∀ {ds es : List D}, mapO f ds = some es → es.length = ds.length
  | [], es, h => by cases h; rfl
  | d :: ds, es, h => by
    obtain ⟨e, _, h⟩ := bind_some h
    obtain ⟨es', h2, h⟩ := bind_some h
    cases h
    exact congrArg (· + 1) (mapO_length h2)
theorem mapO_get {f : D → Option D} : ∀ {ds es : List D} {i : Nat} {d : D}, mapO f ds = some es → ds[i]? = some d → ∃ e, f d = some e ∧ es[i]? = some e
  | [], es, i, d, h, q => by simp at q
  | d :: ds, es, i, d', h, q => by
    obtain ⟨e, h1, h⟩ := bind_some h
    obtain ⟨es', h2, h⟩ := bind_some h
    cases h
    cases i with
    | zero => simp at q; subst q; exact ⟨e, h1, rfl⟩
    | succ i => simp at q; obtain ⟨e', g1, g2⟩ := mapO_get (i := i) h2 q; exact ⟨e', g1, by simpa using g2⟩
/-- how a target of the block binds -/
noncomputable def TgOk (K : Fg) (g : TG) (n : Nat) (bv : D → Option (List D)) : Prop := ∀ (x : V) (Z : Hp) (d : D) (vs : List D) (σc : St) (H : Hp) (R : St → Hp → Prop), Rep K Z x d → Same Z H → bv d = some vs → (∀ us, Reps K Z us vs → us.length = n → R (us.map some ++ σc) H) → g x (List.replicate n none ++ σc) H R
theorem tg_one {K : Fg} : TgOk K (gName 0) 1 bv1 := fun x Z d vs σc H R r zh e k => by
  cases e
  exact k [x] (.cons r .nil) rfl
section
variable {X : Cx} {scope : Scope} {vars : List Str} {caps : List (Nat × Str)} {elt tg iter : Expr} {pos : Pos} {g : TG} {fi : Dv → Option (List D)} {fe : Dv → Option D} {bv : D → Option (List D)}
theorem capV_get {σ : St} {δ : Dv} {K : Fg} {H₀ Z₀ Z H : Hp} (hh : Hold K H₀ Z₀ Z δ σ H) : ∀ (j : Nat) d, (capS δ caps)[j]? = some (.fz d) → ∃ v, (capV σ caps)[j]? = some (some v) ∧ Rep K Z v d := fun j d e => by
  unfold capS at e
  unfold capV
  rw [List.getElem?_map] at e ⊢
  cases q : caps[j]? with
  | none => rw [q] at e; cases e
  | some p =>
    rw [q] at e
    have e : slF δ[p.1]? = .fz d := Option.some.inj e
    cases z : δ[p.1]? with
    | none => rw [z] at e; cases e
    | some sl =>
      rw [z] at e
      cases sl with
      | fz d' =>
        cases e
        obtain ⟨v, g1, g2⟩ := hh.fz p.1 _ z
        exact ⟨v, by show some ((σ[p.1]?).getD none) = _; rw [g1]; rfl, g2⟩
      | un => cases e
      | ow _ => cases e
theorem capS_ow {δ : Dv} : ∀ (j : Nat) ds, (capS δ caps)[j]? ≠ some (.ow ds) := fun j ds e => by
  unfold capS at e
  rw [List.getElem?_map] at e
  cases q : caps[j]? with
  | none => rw [q] at e; cases e
  | some p =>
    rw [q] at e
    have e : slF δ[p.1]? = .ow ds := Option.some.inj e
    cases z : δ[p.1]? with
    | none => rw [z] at e; cases e
    | some sl => rw [z] at e; cases sl <;> cases e
/-- a block's slots hold -/
theorem blk_hold {σ : St} {δ : Dv} {K : Fg} {H₀ Z₀ Z H : Hp} (hh : Hold K H₀ Z₀ Z δ σ H) {us : List V} {vs : List D} (r : Reps K Z us vs) : Hold K H Z Z (vs.map .fz ++ capS δ caps) (us.map some ++ capV σ caps) H := by
  have hl := r.length
  refine ⟨hh.zh, Same.refl _, Same.refl _, fun _ _ => rfl, by simp [capS, capV, hl], fun i d e => ?_, fun i ds e => ?_, fun i j ds es a _ e => ?_⟩
  · by_cases hi : i < vs.length
    · rw [List.getElem?_append_left (by simpa using hi), List.getElem?_map] at e
      cases q : vs[i]? with
      | none => rw [q] at e; cases e
      | some d' =>
        rw [q] at e
        cases e
        obtain ⟨v, g1, g2⟩ := r.get q
        exact ⟨v, by rw [List.getElem?_append_left (by simpa [hl] using hi), List.getElem?_map, g1]; rfl, g2⟩
    · rw [List.getElem?_append_right (by simpa using hi)] at e
      obtain ⟨v, g1, g2⟩ := capV_get hh _ d e
      refine ⟨v, ?_, g2⟩
      rw [List.getElem?_append_right (by simpa [hl] using hi)]
      simp only [List.length_map] at g1 ⊢
      rw [hl]; exact g1
  all_goals
    exfalso
    by_cases hi : i < vs.length
    · rw [List.getElem?_append_left (by simpa using hi), List.getElem?_map] at e
      cases q : vs[i]? <;> rw [q] at e <;> cases e
    · rw [List.getElem?_append_right (by simpa using hi)] at e
      exact capS_ow _ _ e
theorem comp_read (tk : TgOk X.K g vars.length bv) {σ : St} {H : Hp} {Q : VK} (h : tV X.K (oComp fi caps bv fe) σ H Q) : tComp (tVI X.K fi) g (tV X.K fe) vars caps σ H Q := by
  obtain ⟨H₀, Z₀, Z, δ, d, hh, e, k⟩ := h
  obtain ⟨ds, e1, e⟩ := bind_some e
  by_cases hz : ds.length ≤ sizeLine
  · rw [if_pos hz] at e
    obtain ⟨es, e2, e⟩ := bind_some e
    cases e
    have le := mapO_length e2
    have hv : vars.map (fun _ => (none : Option V)) = List.replicate vars.length none := by rw [List.map_const']
    refine ⟨H₀, Z₀, Z, δ, ds, hh, e1, fun J Z1 H1 hh1 t1 ok => ?_⟩
    refine ⟨fun i m ys H => m = ds.length - i ∧ i ≤ ds.length ∧ ∃ Zc, Hold X.K H₀ Z₀ Zc δ σ H ∧ Same Z1 Zc ∧ Reps X.K Zc ys (es.take i), ⟨ds.length, by simp, Nat.zero_le _, Z1, hh1, Same.refl _, by simpa using .nil⟩, ?_⟩
    rintro i m ys H2 ⟨rfl, hi2, Zc, hhc, tc, rc⟩
    have zh : Same Z1 H2 := tc.trans hhc.zh
    have ly := rc.length
    rw [List.length_take] at ly
    by_cases hlt : i < ds.length
    · refine .inr ⟨ok.go i H2 zh hlt, by lia, fun x H3 y => ?_⟩
      have ed : ds[i]? = some ds[i] := by simp [hlt]
      obtain ⟨rfl, rx⟩ := ok.yld i H2 x H3 _ zh ed y
      obtain ⟨ei, f1, f2⟩ := mapO_get e2 ed
      obtain ⟨vs, f3, f1⟩ := bind_some f1
      rw [hv]
      refine tk x Zc ds[i] vs (capV σ caps) H3 _ (rx.same tc) hhc.zh f3 fun us ru hn => ⟨⟨by simp [hn], fun j v q => ?_⟩, ?_⟩
      · by_cases hj : j < vars.length
        · rw [List.getElem?_append_left (by simpa using hj), List.getElem?_replicate] at q
          split at q <;> cases q
        · rw [List.getElem?_append_right (by simpa using hj)] at q
          rw [List.getElem?_append_right (by simpa [hn] using hj)]
          simpa [hn] using q
      · refine ⟨H3, Zc, Zc, _, ei, blk_hold hhc ru, f1, fun v Z4 H4 h4 t4 r4 => ⟨ds.length - (i + 1), by lia, rfl, hlt, Z4, hhc.new ⟨t4, h4.h0, h4.zh, h4.zb⟩, tc.trans t4, ?_⟩⟩
        have : es.take (i + 1) = es.take i ++ [ei] := by
          rw [List.take_add_one, f2]; rfl
        rw [this]
        exact (rc.same t4).append (.cons r4 .nil)
    · have hie : i = ds.length := by lia
      subst hie
      refine .inl ⟨ok.stop _ H2 zh (Nat.le_refl _), by lia, fun p hp => ?_⟩
      rw [← le, List.take_length] at rc
      have n := New.add hhc.zh hp (.lst ys)
      exact k _ _ _ (hhc.new n) ((t1.trans tc).trans n.z) (.lst (SqL.of upd_same) (rc.same n.z))
  · rw [if_neg hz] at e; cases e
theorem ev_comp (B : BlkOk X.env.scope.names X.N scope vars caps) (hc : X.calm = true) (hi : IV X tg iter fi) (tk : TgOk X.K g vars.length bv)
    (hg : ∀ C s₀ H₀ ex, PG (blk X scope (vars ++ caps.map (·.2)) C s₀ H₀ ex) tg g) (he : ∀ C s₀ H₀ ex, EV (blk X scope (vars ++ caps.map (·.2)) C s₀ H₀ ex) elt fe) (hs : ∀ x, foldedSetIterable iter X.env x = pure x := by intro _; rfl) :
    EV X (.ListComp elt [⟨tg, iter, [], 0⟩] scope pos) (oComp fi caps bv fe) :=
  PE.imp (pe_comp (te := tV X.K fe) B hc hi hg he hs) fun _ _ _ h => comp_read tk h
theorem sv_comp (i : Nat) {y : Str} {py spos : Pos} (hN : X.N.Nodup) (B : BlkOk X.env.scope.names X.N scope vars caps) (hc : X.calm = true) (hi : IV X tg iter fi) (tk : TgOk X.K g vars.length bv)
    (hg : ∀ C s₀ H₀ ex, PG (blk X scope (vars ++ caps.map (·.2)) C s₀ H₀ ex) tg g) (he : ∀ C s₀ H₀ ex, EV (blk X scope (vars ++ caps.map (·.2)) C s₀ H₀ ex) elt fe)
    (hy : X.N[i]? = some y := by rfl) (hx : Loc X.env.scope y := by first | exact Or.inl rfl | exact Or.inr rfl) (hsw : swapsWith (.ListComp elt [⟨tg, iter, [], 0⟩] scope pos) (some (.Name y py)) spos.line X.env = pure true := by rfl)
    (hf : X.fn y = true ∨ X.env.scope.names.lookup y = some .local := by first | exact .inl rfl | exact .inr rfl | assumption) (hs : ∀ x, foldedSetIterable iter X.env x = pure x := by intro _; rfl) :
    SV X (.Assign [.Name y py] (.ListComp elt [⟨tg, iter, [], 0⟩] scope pos) spos) (sSet i (oComp fi caps bv fe)) :=
  PS.imp (ps_comp (te := tV X.K fe) B hc hi hg he hN hy hx hsw hf hs) fun D σ H h => by
    obtain ⟨H₀, Z₀, Z, δ, r, hh, e, k⟩ := h
    obtain ⟨x, e1, e⟩ := bind_some e
    cases e
    exact comp_read tk ⟨H₀, Z₀, Z, δ, x, hh, e1, fun v Z1 H1 hh1 s1 r1 => k _ H1 Z1 (hh1.set r1) s1⟩
end
end VL

set_option Elab.async false
set_option linter.all false
set_option maxRecDepth 100000
set_option maxHeartbeats 4000000
namespace VL
open PySem PySem.Spec PyProof.Rows L2
section
variable {X : Cx} {e : Expr} {es : List Expr} {p pos : Pos} {fs : Dv → Option (List D)}
/-- a def of the text, every argument given -/
theorem ev_def0 {k : Nat} {x : Str} {g : List D → Option D} (C : Cal X.prog X.w X.K X.mg X.base x k g []) (hr : Room k X.A) (hg : Gl X x) (ha : AV X (e :: es) fs) (hdb : (x == ("__debug__" : Str)) = false := by decide) (he : starEach (e :: es) X.env = (false, eval e X.env) :: starEach es X.env := by rfl)
    (hpl : (backTo pos (starEach es X.env)).any (·.1) = false := by rfl) : EV X (.Call (.Name x p) (e :: es) [] pos) (os fs g) := by
  have h := ev_def C hr hg ha hdb he hpl (p := p) (pos := pos)
  have e : (fun as => g (as ++ [])) = g := by funext as; rw [List.append_nil]
  rw [e] at h
  exact h
end
/-- a plain value at the module's top -/
structure TopV (K : Fg) (mg : Str → Option Value) (x : Str) (d : D) : Prop where
  ex : ∃ v u, mg x = some u ∧ RelV v u ∧ ∀ Z, Rep K Z v d
theorem TopV.tup {K : Fg} {mg : Str → Option Value} {x : Str} {a : Addr} {td : Option Addr} {its : Array Value} {tn : Nat} {ts : Array (Option Value)} {xs : List V} {ds : List D} (hm : mg x = some (.ref a)) (hk : K.lookup a = some ⟨.type "tuple", td, .seq its tn, ts⟩)
    (hz : its.size ≤ sizeLine) (hv : Vals xs its.toList) (hr : ∀ Z, Reps K Z xs ds) : TopV K mg x (.tuple ds) := ⟨.ref a, .ref a, hm, rfl, fun Z => .tup (.inr ⟨_, its, tn, hk, rfl, rfl, hz, hv⟩) (hr Z)⟩
theorem TopV.int {K : Fg} {mg : Str → Option Value} {x : Str} {i : Int} {t : Tok} (hm : mg x = some (.int i t)) : TopV K mg x (.int i) := ⟨.int i, .int i t, hm, ⟨t, rfl⟩, fun _ => .int i⟩
theorem ev_topV {X : Cx} {x : Str} {pos : Pos} {d : D} (T : TopV X.K X.mg x d) (hg : Gl X x) (hd : (x == ("__debug__" : Str)) = false := by decide) : EV X (.Name x pos) (oC d) := by
  obtain ⟨v, u, hm, r, h⟩ := T.ex
  exact ev_c (pe_glob hg hm r hd) h
/-! ### lists of one's own -/
noncomputable def slO : Option Sl → Option (List D)
  | some (.ow ds) => some ds
  | _ => none
@[simp] theorem slO_ow (ds : List D) : slO (some (.ow ds)) = some ds := rfl
theorem slO_eq {o : Option Sl} {ds : List D} (h : slO o = some ds) : o = some (.ow ds) := by
  cases o with
  | none => cases h
  | some s => cases s <;> cases h; rfl
/-- x = [..] -/
@[simp] noncomputable def sOwn (i : Nat) (fs : Dv → Option (List D)) : Sf := fun δ => (fs δ).bind fun ds => if ds.length ≤ sizeLine then some (.nx, δ.set i (.ow ds)) else none
/-- x[k] of one's own -/
@[simp] noncomputable def oIxO (i : Nat) (f : Dv → Option D) : Dv → Option D := fun δ => (slO δ[i]?).bind fun ds => (f δ).bind fun k => ixD (.list ds) k
@[simp] noncomputable def oLenO (i : Nat) : Dv → Option D := fun δ => (slO δ[i]?).bind fun ds => some (.int ds.length)
noncomputable def putD (ds : List D) (k v : D) : Option (List D) := match k with
  | .int j => (ixN ds.length j).map fun n => ds.set n v
  | _ => none
@[simp] theorem putD_int (ds : List D) (j : Int) (v : D) : putD ds (.int j) v = (ixN ds.length j).map fun n => ds.set n v := rfl
/-- x[k] = v -/
@[simp] noncomputable def sPut (i : Nat) (fk fv : Dv → Option D) : Sf := fun δ => (fv δ).bind fun v => (fk δ).bind fun k => (slO δ[i]?).bind fun ds => (putD ds k v).bind fun ds' => some (.nx, δ.set i (.ow ds'))
/-- x.append(v) -/
@[simp] noncomputable def sApp (i : Nat) (f : Dv → Option D) : Sf := fun δ => (f δ).bind fun v => (slO δ[i]?).bind fun ds => if ds.length < sizeLine then some (.nx, δ.set i (.ow (ds ++ [v]))) else none
section
variable {X : Cx} {e b : Expr} {es : List Expr} {p pos tpos apos : Pos} {fs : Dv → Option (List D)} {f fk fv : Dv → Option D}
theorem sv_own (i : Nat) {x : Str} {pos' : Pos} (hN : X.N.Nodup) (ha : AV X es fs) (hi : X.N[i]? = some x := by rfl) (hx : Loc X.env.scope x := by first | exact Or.inl rfl | exact Or.inr rfl) (hs : swapsWith (.List es p) (some (.Name x pos')) pos.line X.env = pure false := by rfl)
    (hf : X.fn x = true ∨ X.env.scope.names.lookup x = some .local := by first | exact .inl rfl | exact .inr rfl | assumption) : SV X (.Assign [.Name x pos'] (.List es p) pos) (sOwn i fs) :=
  PS.imp (ps_set hN hi hx (pe_lst ha) hs hf) fun D σ H h => by
    obtain ⟨H₀, Z₀, Z, δ, r, hh, e, k⟩ := h
    obtain ⟨ds, e1, e⟩ := bind_some e
    by_cases hl : ds.length ≤ sizeLine
    · rw [if_pos hl] at e
      cases e
      exact ⟨H₀, Z₀, Z, δ, ds, hh, e1, fun vs Z1 H1 hh1 t1 r1 => ⟨by rw [r1.length]; exact hl, fun p hp => k _ _ Z1 (hh1.setO hp r1) t1⟩⟩
    · rw [if_neg hl] at e; cases e
theorem ow_at {K : Fg} {H₀ Z₀ Z : Hp} {δ : Dv} {σ : St} {H : Hp} (hh : Hold K H₀ Z₀ Z δ σ H) {i : Nat} {ds : List D} (h : slO δ[i]? = some ds) : ∃ a xs, σ[i]? = some (some (V.ref a)) ∧ H a = some (.lst xs) ∧ Reps K Z xs ds := by
  obtain ⟨a, xs, h1, _, _, h4, h5⟩ := hh.ow i ds (slO_eq h)
  exact ⟨a, xs, h1, h4, h5⟩
theorem ev_ixO (i : Nat) {x : Str} (hb : EV X b f) (hs : PlainIx b) (hN : X.N[i]? = some x := by rfl) (hv : Vis X.env.scope x := by first | exact Or.inl rfl | exact Or.inr (Or.inl rfl) | exact Or.inr (Or.inr rfl)) (hd : (x == ("__debug__" : Str)) = false := by decide) (hcd : (x == ("__classdict__" : Str)) = false := by decide) :
    EV X (.Subscript (.Name x p) b pos) (oIxO i f) :=
  PE.imp (pe_ix ix_list (pe_var hN hv hd hcd) hb hs) fun σ H Q h => by
    obtain ⟨H₀, Z₀, Z, δ, d, hh, e, k⟩ := h
    obtain ⟨ds, e1, e⟩ := bind_some e
    obtain ⟨y, e2, e⟩ := bind_some e
    obtain ⟨a, xs, h1, h4, h5⟩ := ow_at hh e1
    refine ⟨_, h1, H₀, Z₀, Z, δ, y, hh, e2, fun v Z1 H1 hh1 t1 r1 => ?_⟩
    obtain ⟨a', xs', g1, g4, g5⟩ := ow_at hh1 e1
    rw [h1] at g1
    cases g1
    cases r1 with
    | int j =>
      obtain ⟨w, ew, rw'⟩ := g5.at e
      exact ⟨_, _, _, w, rfl, rfl, SqL.of g4, ew, k w Z1 H1 hh1 t1 rw'⟩
    | _ => cases e
theorem ev_lenO (i : Nat) {x : Str} {p2 : Pos} (hg : Gl X "len") (hm : X.mg "len" = none) (hN : X.N[i]? = some x := by rfl) (hv : Vis X.env.scope x := by first | exact Or.inl rfl | exact Or.inr (Or.inl rfl) | exact Or.inr (Or.inr rfl)) (hd : (x == ("__debug__" : Str)) = false := by decide) (hcd : (x == ("__classdict__" : Str)) = false := by decide)
    (he : starEach [.Name x p2] X.env = (false, eval (.Name x p2) X.env) :: starEach [] X.env := by rfl) (hpl : (backTo pos (starEach [] X.env)).any (·.1) = false := by rfl) : EV X (.Call (.Name "len" p) [.Name x p2] [] pos) (oLenO i) :=
  PE.imp (pe_callB call_len hg hm PySem.boot_len (pa_cons (pe_var hN hv hd hcd) pa_nil he) (by decide) (by decide) he hpl) fun σ H Q h => by
    obtain ⟨H₀, Z₀, Z, δ, d, hh, e, k⟩ := h
    obtain ⟨ds, e1, e⟩ := bind_some e
    cases e
    obtain ⟨a, xs, h1, h4, h5⟩ := ow_at hh e1
    exact ⟨_, h1, _, _, rfl, .inl ⟨xs, SqL.of h4, rfl⟩, k _ Z H hh (Same.refl _) (by rw [h5.length]; exact .int _)⟩
theorem sv_put (i : Nat) {x : Str} (hb : EV X b fk) (hv' : EV X e fv) (hN : X.N[i]? = some x := by rfl) (hv : Vis X.env.scope x := by first | exact Or.inl rfl | exact Or.inr (Or.inl rfl) | exact Or.inr (Or.inr rfl)) (hd : (x == ("__debug__" : Str)) = false := by decide) (hcd : (x == ("__classdict__" : Str)) = false := by decide)
    (hs : swapsWithSole [.Subscript (.Name x p) b tpos] e pos.line X.env = pure false := by rfl) (hw : swappedStores [.Subscript (.Name x p) b tpos] e X.env = pure none := by rfl)
    (ha : ∀ v, assign (.Subscript (.Name x p) b tpos) X.env v = (do
      let ov ← holding [v] (eval (.Name x p) X.env)
      let iv ← holding [v, ov] (eval b X.env)
      standAt tpos
      holding [v, ov, iv] (setItem ov iv v)
      release [v, ov, iv] []) := by intro _; rfl) : SV X (.Assign [.Subscript (.Name x p) b tpos] e pos) (sPut i fk fv) :=
  PS.imp (ps_asg hv' (pg_sub (pe_var hN hv hd hcd) hb set_list ha) hs hw) fun D σ H h => by
    obtain ⟨H₀, Z₀, Z, δ, r, hh, e, k⟩ := h
    obtain ⟨v, e1, e⟩ := bind_some e
    obtain ⟨y, e2, e⟩ := bind_some e
    obtain ⟨ds, e3, e⟩ := bind_some e
    obtain ⟨ds', e4, e⟩ := bind_some e
    cases e
    refine ⟨H₀, Z₀, Z, δ, v, hh, e1, fun w Z1 H1 hh1 t1 r1 => ?_⟩
    obtain ⟨a, xs, h1, h4, h5⟩ := ow_at hh1 e3
    refine ⟨_, h1, H₀, Z₀, Z1, δ, y, hh1, e2, fun u Z2 H2 hh2 t2 r2 => ?_⟩
    obtain ⟨a', xs', g1, g4, g5⟩ := ow_at hh2 e3
    rw [h1] at g1
    cases g1
    cases r2 with
    | int j =>
      rw [putD_int] at e4
      cases q : ixN ds.length j with
      | none => rw [q] at e4; cases e4
      | some n =>
        rw [q] at e4
        cases e4
        refine ⟨a, xs', j, n, rfl, rfl, g4, by rw [g5.length]; exact q, ?_⟩
        exact k σ _ Z2 (hh2.chg (xs := xs') (slO_eq e3) h1 (g5.set (r1.same t2) n)) (t1.trans t2)
    | _ => cases e4
theorem sv_app (i : Nat) {x : Str} {cpos : Pos} (hv' : EV X e f) (hN : X.N[i]? = some x := by rfl) (hv : Vis X.env.scope x := by first | exact Or.inl rfl | exact Or.inr (Or.inl rfl) | exact Or.inr (Or.inr rfl)) (hd : (x == ("__debug__" : Str)) = false := by decide) (hcd : (x == ("__classdict__" : Str)) = false := by decide)
    (hbase : attributeBase (.Name x p) "append" X.env (eval (.Name x p) X.env) = eval (.Name x p) X.env := by rfl)
    (hfew : ((backTo cpos (starEach [e] X.env)).all (fun x => !x.1) && (backToKw cpos (keywordEach [] X.env)).all (fun x => x.1.isSome)
      && decide ([e].length + ([] : List Keyword).length + (if ([] : List Keyword).isEmpty then 0 else 1) < 30)) = true := by rfl)
    (hline : (apos.endLine == cpos.line) = true := by rfl) (hs : starEach [e] X.env = (false, eval e X.env) :: starEach [] X.env := by rfl) (hplain : (backTo cpos (starEach [] X.env)).any (·.1) = false := by rfl)
    (hsw : swapsWith (.Call (.Attribute (.Name x p) "append" apos) [e] [] cpos) none pos.line X.env = pure false := by rfl) : SV X (.Expr (.Call (.Attribute (.Name x p) "append" apos) [e] [] cpos) pos) (sApp i f) :=
  PS.imp (ps_expr (pe_bm PySem.F.plainAttrs_list PySem.F.slot_list_append PySem.F.type_list_append mt_append (pe_var hN hv hd hcd) (pa_cons hv' pa_nil hs) hbase hfew hline hs hplain) hsw) fun D σ H h => by
    obtain ⟨H₀, Z₀, Z, δ, r, hh, e, k⟩ := h
    obtain ⟨v, e1, e⟩ := bind_some e
    obtain ⟨ds, e2, e⟩ := bind_some e
    by_cases hl : ds.length < sizeLine
    · rw [if_pos hl] at e
      cases e
      obtain ⟨a, xs, h1, h4, h5⟩ := ow_at hh e2
      refine ⟨_, h1, .inl ⟨rfl, xs, SqL.of h4⟩, H₀, Z₀, Z, δ, v, hh, e1, fun w Z1 H1 hh1 t1 r1 => ?_⟩
      obtain ⟨a', xs', g1, g4, g5⟩ := ow_at hh1 e2
      rw [h1] at g1
      cases g1
      exact ⟨a, xs', w, rfl, rfl, g4, by rw [g5.length]; exact hl, k σ _ Z1 (hh1.chg (xs := xs') (slO_eq e2) h1 (g5.append (.cons r1 .nil))) t1⟩
    · rw [if_neg hl] at e; cases e
end
end VL

set_option Elab.async false
set_option linter.all false
set_option maxRecDepth 100000
set_option maxHeartbeats 4000000
namespace VL
open PySem PySem.Spec PyProof.Rows L2
/-! ### comprehensions with a test -/
section
noncomputable def tCompI (wi : TI) (g : TG) (tt : TT) (te : TE) (vars : List Str) (caps : List (Nat × Str)) : TE := fun σ H Q => wi σ H fun J H1 => ∃ W : Nat → Nat → List V → Hp → Prop, (∃ m, W 0 m [] H1) ∧ ∀ i m ys H, W i m ys H →
  (J.stop i H ∧ ys.length ≤ sizeLine ∧ ∀ p, H p = none → Q (.ref p) (upd H p (.lst ys))) ∨
  (J.go i H ∧ ys.length < sizeLine ∧ ∀ x H', J.yld i H x H' → g x (vars.map (fun _ => none) ++ capV σ caps) H' fun σ2 H2 => KeepS (vars.map (fun _ => none) ++ capV σ caps) σ2 ∧ tt σ2 H2 fun b H3 => if b = true then te σ2 H3 fun y H4 => ∃ m', m' < m ∧ W (i + 1) m' (ys ++ [y]) H4 else ∃ m', m' < m ∧ W (i + 1) m' ys H3)
theorem codeAny_comp_goI {prog : Program} {w : World} {A : Around} {R : Result → Shared → Prop} {s : Shared} {elt target iter cnd : Expr} {scope : Scope} {pos : Pos} {it acc : Value} {env : Env} (I : Nat → Shared → Prop)
    (turn : ∀ n s, I n s → wpAny (model prog w) A (pyNext it) (fun r s₁ => match r with
      | none => R (.ok .next) s₁
      | some v => wpAny (model prog w) A (letOwnedTupleGo target it v) (fun _ s₁ => wpAny (model prog w) A (assign target env v) (fun _ s₂ => wpAny (model prog w) A (isTrue cnd env (eval cnd env)) (fun ok s₂ => if ok = true then wpAny (model prog w) A (eval elt env) (fun x s₃ =>
          wpAny (model prog w) A (call (.builtin "list.append") [acc, x]) (fun _ s₄ => ∃ m, m < n ∧ I m s₄) (fun _ _ => False) s₃) (fun _ _ => False) s₂ else ∃ m, m < n ∧ I m s₂) (fun _ _ => False) s₂) (fun _ _ => False) s₁) (fun _ _ => False) s₁) (fun _ _ => False) s)
    (n : Nat) (h : I n s) : codeAny (model prog w) A (.compLoop (.ListComp elt [⟨target, iter, [cnd], 0⟩] scope pos) 0 it acc env) R s := by
  refine codeAny_loop rfl I (fun n s hI => ?_) n h
  show wpAny _ _ ((compTurn (.ListComp elt [⟨target, iter, [cnd], 0⟩] scope pos) 0 it acc env).onRaise (fun x => do noteFrame x env; theTreesLotGoes x)) _ _ s
  refine wpAny_noted ?_
  rw [compTurn_list]
  refine wpAny_bind (wpAny_standAt (wpAny_bind (wpAny_mono (turn n s hI) (fun r s₁ h₁ => ?_) fun _ _ h' => h'.elim)))
  cases r with
  | none => exact wpAny_pure h₁
  | some v =>
    refine wpAny_bind (wpAny_mono h₁ (fun _ s₁ h₁ => ?_) fun _ _ h' => h'.elim)
    refine wpAny_bind (wpAny_mono h₁ (fun _ s₂ h₂ => ?_) fun _ _ h' => h'.elim)
    refine wpAny_bind (wpAny_tests_one (wpAny_mono h₂ (fun okb s₃ h₃ => ?_) fun _ _ h' => h'.elim))
    cases okb with
    | false => exact wpAny_pure ⟨rfl, h₃⟩
    | true => exact wpAny_bind (wpAny_bind (wpAny_mono h₃ (fun x s₄ h₄ => wpAny_bind (wpAny_mono h₄ (fun _ s₅ h₅ => wpAny_pure (wpAny_pure ⟨rfl, h₅⟩)) fun _ _ h' => h'.elim)) fun _ _ h' => h'.elim))
end
section
variable {X : Cx} {scope : Scope} {vars : List Str} {caps : List (Nat × Str)} {elt tg iter cnd : Expr} {pos : Pos} {wi : TI} {g : TG} {tt : TT} {te : TE}
/-- the walk of the block -/
theorem comp_blockI (B : BlkOk X.env.scope.names X.N scope vars caps) (hc : X.calm = true)
    (hg : ∀ C s₀ H₀ ex, PG (blk X scope (vars ++ caps.map (·.2)) C s₀ H₀ ex) tg g) (hb : ∀ C s₀ H₀ ex, PT (blk X scope (vars ++ caps.map (·.2)) C s₀ H₀ ex) cnd tt) (he : ∀ C s₀ H₀ ex, PE (blk X scope (vars ++ caps.map (·.2)) C s₀ H₀ ex) elt te)
    {pins : List (Addr × Obj)} {σ : St} {H2 : Hp} {s2 : Shared} {Q : VK} {it : Addr} {fp : List Addr} {tn : Nat → Heap → Prop} {J : It} (I2 : Inv X pins σ H2 s2) (T : Turn X.prog X.w X.K tg J fp it tn) (st2 : tn 0 s2.heap) (f2 : ∀ b ∈ fp, FpOk X pins H2 b)
    {W : Nat → Nat → List V → Hp → Prop} {m0 : Nat} (w0 : W 0 m0 [] H2) (turn : ∀ i m ys H, W i m ys H →
      (J.stop i H ∧ ys.length ≤ sizeLine ∧ ∀ p, H p = none → Q (.ref p) (upd H p (.lst ys))) ∨
      (J.go i H ∧ ys.length < sizeLine ∧ ∀ x H', J.yld i H x H' → g x (vars.map (fun _ => none) ++ capV σ caps) H' fun σ2 H2 => KeepS (vars.map (fun _ => none) ++ capV σ caps) σ2 ∧ tt σ2 H2 fun b H3 => if b = true then te σ2 H3 fun y H4 => ∃ m', m' < m ∧ W (i + 1) m' (ys ++ [y]) H4 else ∃ m', m' < m ∧ W (i + 1) m' ys H3))
    {RR : Value → Addr → Result → Shared → Prop} {E : Value → Shared → Prop}
    (hRR : ∀ D C s' m, s'.heap.Ns C m → D ≠ C → s2.heap.objs.size ≤ D → s2.heap.objs.size ≤ C → ∀ H', H' C = none → (∀ h', Heap.SameBut C s'.heap h' → Inv X pins σ H' { s' with heap := h' }) → Q (.ref D) H' → RR (.ref D) C (.ok .next) s') :
    wpAny (model X.prog X.w) X.A (newList []) (fun acc s₃ => wpAny (model X.prog X.w) X.A (newFunctionEnv scope X.env.globals (clos X.env scope.names []) [] X.env.qual none .none (some X.env)) (fun cenv s₄ =>
      codeAny (model X.prog X.w) X.A (.compStart (.ListComp elt [⟨tg, iter, [cnd], 0⟩] scope pos) 0 (.ref it) acc { cenv with scope := relabel scope X.env }) (RR acc cenv.locals) s₄) E s₃) E s2 := by
  refine wpAny_newObj_type (wpAny_newFunctionEnv B.cell (by intro y hy; simp at hy) (fun h₁ hns₁ hsb₁ => ?_) B.kind)
  dsimp only at hns₁ hsb₁ ⊢
  generalize hP : s2.heap.push { cls := .type "list", dict := none, data := .seq ([] : List Value).toArray } = HP at hns₁ hsb₁ ⊢
  have hCs : HP.objs.size = s2.heap.objs.size + 1 := by rw [← hP, Heap.size_push]
  have hDC : s2.heap.objs.size ≠ HP.objs.size := by rw [hCs]; exact Nat.ne_of_lt (Nat.lt_succ_self _)
  have hCle : s2.heap.objs.size ≤ HP.objs.size := by rw [hCs]; exact Nat.le_succ _
  have old : ∀ b o, s2.heap.get? b = some o → h₁.get? b = some o := fun b o e => hsb₁.extBut b o (Nat.ne_of_lt (Nat.lt_of_lt_of_le (Heap.lt_size e) hCle)) (Heap.get?_push_of_some _ (hP ▸ Heap.get?_push_of_some _ e))
  have hacc : h₁.PlainList s2.heap.objs.size #[] := ⟨_, hsb₁.extBut _ _ hDC (Heap.get?_push_of_some _ (hP ▸ Heap.get?_push_size _ rfl))⟩
  have flt : ∀ b ∈ fp, b < s2.heap.objs.size := fun b hb => by
    obtain ⟨o, e, _⟩ := T.obj _ _ st2 b hb
    exact Heap.lt_size e
  have st1 : tn 0 h₁ := T.keep _ _ _ st2 fun b _ o e => old b o e
  -- the loop
  have loop : ∀ s3 : Shared, s3 = { s2 with heap := h₁, toks := s2.toks + ([] : List (Str × Value)).length } →
      codeAny (model X.prog X.w) X.A (.compLoop (.ListComp elt [⟨tg, iter, [cnd], 0⟩] scope pos) 0 (.ref it) (.ref s2.heap.objs.size) (compEnvC scope (clos X.env scope.names []) HP.objs.size X.env))
        (RR (.ref s2.heap.objs.size) HP.objs.size) s3 := by
    rintro s3 rfl
    have X' := blk X scope (vars ++ caps.map (·.2)) HP.objs.size s2 H2 fp
    have fpo : ∀ {H' : Hp}, (∀ b ∈ fp, H' b = none) → ∀ b ∈ fp, FpOk (blk X scope (vars ++ caps.map (·.2)) HP.objs.size s2 H2 fp) [] H' b := fun hn b hb => by
      have ok := blk_ok B I2 f2 flt hCle
      exact ⟨hn b hb, (ok.exf b hb).1, ok.exfs b hb, .inl hb, (ok.exf b hb).2, fun p hp => absurd (show p ∈ ([] : List (Addr × Obj)) from hp) (by simp)⟩
    refine codeAny_comp_goI (fun n s => ∃ i ys H its, Inv (blk X scope (vars ++ caps.map (·.2)) HP.objs.size s2 H2 fp) [] (vars.map (fun _ => none) ++ capV σ caps) H s ∧ tn i s.heap ∧ (∀ b ∈ fp, H b = none) ∧ s.heap.PlainList s2.heap.objs.size (List.toArray its) ∧ H s2.heap.objs.size = none ∧ Vals ys its ∧ W i n ys H) ?_ m0
      ⟨0, [], H2, [], blk_inv B I2 f2 flt hCle hns₁ old, st1, fun b hb => (f2 b hb).1, hacc, I2.hok.fresh (Nat.le_refl _), .nil, w0⟩
    rintro n s4 ⟨i, ys, H4, its, I4, st4, fr4, pl4, nD4, v4, w4⟩
    obtain ⟨nn, eD⟩ := id pl4
    have DnL : s2.heap.objs.size ≠ (blk X scope (vars ++ caps.map (·.2)) HP.objs.size s2 H2 fp).env.locals := hDC
    have Dfs : s2.heap.objs.size ∉ (blk X scope (vars ++ caps.map (·.2)) HP.objs.size s2 H2 fp).fs := fun z => by
      rcases List.mem_cons.mp (I2.stkSub _ z) with q | q
      · have := I2.lt; rw [← q] at this; exact Nat.lt_irrefl _ this
      · exact I2.nofs (Nat.le_refl _) q
    have Dfp : ∀ b ∈ fp, s2.heap.objs.size ≠ b := fun b hb z => by have := flt b hb; rw [← z] at this; exact Nat.lt_irrefl _ this
    have DnC : ∀ x c, (blk X scope (vars ++ caps.map (·.2)) HP.objs.size s2 H2 fp).env.cells.lookup x = some c → c ≠ s2.heap.objs.size := fun x c e z => by
      rcases clos_lookup _ _ _ _ (B.cells I2) e with q | q
      · cases q
      · obtain ⟨v, o, ho, _⟩ := I2.cell x c q
        have := Heap.lt_size ho
        rw [z] at this
        exact Nat.lt_irrefl _ this
    have pinD : ∀ {σ' : St} {H' : Hp} {s' : Shared}, Inv (blk X scope (vars ++ caps.map (·.2)) HP.objs.size s2 H2 fp) [(s2.heap.objs.size, { cls := .type "list", data := .seq its.toArray nn })] σ' H' s' → s'.heap.PlainList s2.heap.objs.size its.toArray ∧ H' s2.heap.objs.size = none := fun {σ' H' s'} I' => by
      obtain ⟨q1, q2, _⟩ := I'.pin (s2.heap.objs.size, { cls := .type "list", data := .seq its.toArray nn }) (by simp [blk])
      exact ⟨⟨nn, q1⟩, q2⟩
    have I4p : Inv (blk X scope (vars ++ caps.map (·.2)) HP.objs.size s2 H2 fp) [(s2.heap.objs.size, { cls := .type "list", data := .seq its.toArray nn })] (vars.map (fun _ => none) ++ capV σ caps) H4 s4 :=
      I4.pins_of fun p hp => by
        have e : p = (s2.heap.objs.size, { cls := .type "list", data := .seq its.toArray nn }) := by simpa [blk] using hp
        subst e
        exact ⟨eD, nD4, DnL, Dfs, fun v z => by cases z⟩
    have fpo' : ∀ {H' : Hp}, (∀ b ∈ fp, H' b = none) → ∀ b ∈ fp, FpOk (blk X scope (vars ++ caps.map (·.2)) HP.objs.size s2 H2 fp) [(s2.heap.objs.size, { cls := .type "list", data := .seq its.toArray nn })] H' b := fun hn b hb => by
      obtain ⟨q1, q2, q3, q4, q5, _⟩ := fpo hn b hb
      exact ⟨q1, q2, q3, q4, q5, fun p hp => by
        have e : p = (s2.heap.objs.size, { cls := .type "list", data := .seq its.toArray nn }) := by simpa [blk] using hp
        subst e
        exact Dfp b hb⟩
    have unp : ∀ {pl : List (Addr × Obj)} {σ' : St} {H' : Hp} {s' : Shared}, Inv (blk X scope (vars ++ caps.map (·.2)) HP.objs.size s2 H2 fp) pl σ' H' s' → Inv (blk X scope (vars ++ caps.map (·.2)) HP.objs.size s2 H2 fp) [] σ' H' s' := fun {pl σ' H' s'} I' =>
      I'.pins_of fun p hp => absurd (show p ∈ ([] : List (Addr × Obj)) from hp) (by simp)
    rcases turn i n ys H4 w4 with ⟨stop, hz, qn⟩ | ⟨go, hz, step⟩
    · refine thn (T.done (blk X scope (vars ++ caps.map (·.2)) HP.objs.size s2 H2 fp) rfl rfl rfl hc i _ s4 _ H4 _ I4p (fpo' fr4) st4 stop) fun r s5 ⟨hr, I5⟩ => ?_
      subst hr
      obtain ⟨p5, n5⟩ := pinD I5
      obtain ⟨m5, ns5, _⟩ := I5.loc
      refine hRR _ _ s5 m5 ns5 hDC (Nat.le_refl _) hCle _ ?_ (fun h' hs' => blk_out I2 f2 hCle (Nat.le_refl _) hDC (unp I5) n5 p5 v4 hz hs') (qn _ n5)
      rw [upd_ne hDC.symm]
      exact I5.free
    · refine thn (T.item (blk X scope (vars ++ caps.map (·.2)) HP.objs.size s2 H2 fp) rfl rfl rfl hc i _ s4 _ H4 _ I4p (fpo' fr4) st4 go) fun r s5 ⟨u, hr, h5⟩ => ?_
      subst hr
      refine thn h5 fun _ s6 ⟨x, H6, I6, rx, yx, st6, fr6⟩ => ?_
      have I6p := I6.pinned (fpo' fr6) (T.obj _ _ st6)
      refine thn (hg _ _ _ _ _ s6 _ H6 x u _ I6p rx (step x H6 yx)) fun _ s7 ⟨σ7, H7, I7, kp, q7⟩ => ?_
      refine thn (hb _ _ _ _ _ s7 σ7 H7 _ I7 q7) fun okb s7' q7' => ?_
      obtain ⟨H7', I7', q7'⟩ := q7'
      cases okb with
      | false =>
        obtain ⟨m', hm, w8⟩ := q7'
        rw [if_neg (by decide)]
        obtain ⟨p8, n8⟩ := pinD I7'.unpinned
        have st8 : tn (i + 1) s7'.heap := T.keep _ _ _ st6 fun b hb o e => (I7'.pin (b, o) (List.mem_append_right _ (List.mem_append_right _ (mem_pinsAt hb e)))).1
        have fr8 : ∀ b ∈ fp, H7' b = none := fun b hb => by
          obtain ⟨o, e, d⟩ := T.obj _ _ st6 b hb
          exact (I7'.pin (b, o) (List.mem_append_right _ (List.mem_append_right _ (mem_pinsAt hb e)))).2.1
        exact ⟨m', hm, i + 1, ys, H7', its, (unp I7').weak kp.1 kp.2, st8, fr8, p8, n8, v4, w8⟩
      | true =>
      rw [if_pos rfl]
      rw [if_pos rfl] at q7'
      refine thn (he _ _ _ _ _ s7' σ7 H7' _ I7' q7') fun v s8 ⟨y, H8, I8, ry, m', hm, w8⟩ => ?_
      obtain ⟨p8, n8⟩ := pinD I8.unpinned
      have st8 : tn (i + 1) s8.heap := T.keep _ _ _ st6 fun b hb o e => (I8.pin (b, o) (List.mem_append_right _ (List.mem_append_right _ (mem_pinsAt hb e)))).1
      have fr8 : ∀ b ∈ fp, H8 b = none := fun b hb => by
        obtain ⟨o, e, d⟩ := T.obj _ _ st6 b hb
        exact (I8.pin (b, o) (List.mem_append_right _ (List.mem_append_right _ (mem_pinsAt hb e)))).2.1
      have hl := v4.length
      refine wpAny_list_append_plain p8 (fun h9 p9 sb9 => ⟨m', hm, i + 1, ys ++ [y], H8, its ++ [v], ?_, ?_, fr8, by simpa using p9, n8, v4.append (.cons ry .nil), w8⟩) (by simp; lia)
      · have I9 : Inv (blk X scope (vars ++ caps.map (·.2)) HP.objs.size s2 H2 fp) [] σ7 H8 { s8 with heap := h9, toks := s8.toks } :=
          (unp I8).turned (it := s2.heap.objs.size) (fun b o hb e => sb9.extBut b o hb e) n8 DnL (.inr (Nat.le_refl _)) DnC fun p hp => absurd (show p ∈ ([] : List (Addr × Obj)) from hp) (by simp)
        exact I9.weak kp.1 kp.2
      · exact T.keep _ _ _ st8 fun b hb o e => sb9.extBut b o (Dfp b hb).symm e
  exact codeAny_compStart_list (loop _ rfl) (T.self _ 0 _ _ _ st1 (loop _ rfl))
theorem pe_compI (B : BlkOk X.env.scope.names X.N scope vars caps) (hc : X.calm = true) (hi : PI X tg iter wi)
    (hg : ∀ C s₀ H₀ ex, PG (blk X scope (vars ++ caps.map (·.2)) C s₀ H₀ ex) tg g) (hb : ∀ C s₀ H₀ ex, PT (blk X scope (vars ++ caps.map (·.2)) C s₀ H₀ ex) cnd tt) (he : ∀ C s₀ H₀ ex, PE (blk X scope (vars ++ caps.map (·.2)) C s₀ H₀ ex) elt te) (hs : ∀ x, foldedSetIterable iter X.env x = pure x := by intro _; rfl) :
    PE X (.ListComp elt [⟨tg, iter, [cnd], 0⟩] scope pos) (tCompI wi g tt te vars caps) := by
  intro pins s σ H Q I h
  rw [eval_ListComp]
  refine wpAny_comprehension_free (use := none) rfl hs (closureFor_eq (B.cells I)) B.kind B.names ?_
  show wpAny _ _ (eval iter X.env) _ _ s
  refine thn (hi pins s σ H _ I h) fun v s1 h1 => thn h1 fun itv s2 h2 => ?_
  obtain ⟨it, fp, tn, J, H2, e, I2, T, st2, f2, W, ⟨m0, w0⟩, turn⟩ := h2
  subst e
  exact comp_blockI B hc hg hb he I2 T st2 f2 w0 turn (RR := fun acc C => compPost (model X.prog X.w) X.A X.xe none (EP X pins σ Q) acc C) fun D C s' m ns _ _ _ H' _ k q => ⟨m, ns, fun h' hs' => ⟨.ref D, H', k h' hs', rfl, q⟩⟩
/-- y = [..]: the store is exchanged with the block's own names -/
theorem ps_compI {i : Nat} {y : Str} {py spos : Pos} (B : BlkOk X.env.scope.names X.N scope vars caps) (hc : X.calm = true) (hi : PI X tg iter wi)
    (hg : ∀ C s₀ H₀ ex, PG (blk X scope (vars ++ caps.map (·.2)) C s₀ H₀ ex) tg g) (hb : ∀ C s₀ H₀ ex, PT (blk X scope (vars ++ caps.map (·.2)) C s₀ H₀ ex) cnd tt) (he : ∀ C s₀ H₀ ex, PE (blk X scope (vars ++ caps.map (·.2)) C s₀ H₀ ex) elt te)
    (hN : X.N.Nodup) (hy : X.N[i]? = some y) (hx : Loc X.env.scope y) (hsw : swapsWith (.ListComp elt [⟨tg, iter, [cnd], 0⟩] scope pos) (some (.Name y py)) spos.line X.env = pure true)
    (hf : X.fn y = true ∨ X.env.scope.names.lookup y = some .local) (hs : ∀ x, foldedSetIterable iter X.env x = pure x := by intro _; rfl) :
    PS X (.Assign [.Name y py] (.ListComp elt [⟨tg, iter, [cnd], 0⟩] scope pos) spos) (fun D σ H => tCompI wi g tt te vars caps σ H fun v H1 => D.nx (σ.set i (some v)) H1) := by
  intro pins s σ H DE I h
  rw [exec_Assign_Name_used _ _ _ _ hsw]
  refine wpAny_bind (wpAny_standAt (wpAny_bind ?_))
  show wpAny _ X.A (do let _ ← comprehension (.ListComp elt [⟨tg, iter, [cnd], 0⟩] scope pos) scope X.env _ (newList []) false (eval iter X.env) (some (assign (.Name y py) X.env))) _ _ s
  refine wpAny_bind (wpAny_mono (wpAny_comprehension_free (use := some (assign (.Name y py) X.env)) (Q := fun _ s' => SP X pins DE .next s') rfl hs (closureFor_eq (B.cells I)) B.kind B.names
    (thn (hi pins s σ H _ I h) fun v s1 h1 => thn h1 fun itv s2 h2 => ?_)) (fun _ s' hq => wpAny_pure (wpAny_pure hq)) fun _ _ e => e)
  obtain ⟨it, fp, tn, J, H2, e, I2, T, st2, f2, W, ⟨m0, w0⟩, turn⟩ := h2
  subst e
  refine comp_blockI (Q := fun v H1 => DE.nx (σ.set i (some v)) H1) B hc hg hb he I2 T st2 f2 w0 turn (RR := fun acc C => compPost (model X.prog X.w) X.A X.xe (some (assign (.Name y py) X.env)) (fun _ s' => SP X pins DE .next s') acc C) ?_
  intro D C s' m ns hDC hD hC H' hHC k q
  obtain ⟨oC, es, ep, eC, dC, rC⟩ := ns
  have I' : Inv X pins σ H' s' := k s'.heap (Heap.SameBut.refl ..)
  have nL : C ≠ X.env.locals := fun z => by have := I2.lt; rw [← z] at this; exact absurd (Nat.lt_of_lt_of_le this hC) (Nat.lt_irrefl _)
  have nF : C ∉ X.fs := I2.nofs hC
  have nCell : ∀ x c, X.env.cells.lookup x = some c → c ≠ C := fun x c e z => by
    obtain ⟨v, o, ho, _⟩ := I2.cell x c e
    have := Heap.lt_size ho
    rw [z] at this
    exact absurd (Nat.lt_of_lt_of_le this hC) (Nat.lt_irrefl _)
  have nPin : ∀ p ∈ X.pn ++ pins, p.1 ≠ C := fun p hp z => by
    have := Heap.lt_size (I2.pin p hp).1
    rw [z] at this
    exact absurd (Nat.lt_of_lt_of_le this hC) (Nat.lt_irrefl _)
  have Ip : Inv X (pins ++ [(C, oC)]) σ H' s' := I'.pins_of fun p hp => by
    rcases List.mem_append.mp hp with z | z
    · exact I'.pin p (List.mem_append_right _ z)
    · have e : p = (C, oC) := by simpa using z
      subst e
      exact ⟨eC, hHC, nL, nF, fun v z => by rw [dC] at z; cases z⟩
  refine thn (pg_name (pos := py) hN hy hx hf _ s' σ H' (.ref D) (.ref D) (fun σ' H'' => σ' = σ.set i (some (.ref D)) ∧ H'' = H' ∧ DE.nx σ' H'') Ip rfl ⟨rfl, rfl, q⟩) fun _ s'' ⟨σ'', H'', I'', e1, e2, q''⟩ => ?_
  subst e1 e2
  have eC'' : s''.heap.get? C = some oC := (I''.pin (C, oC) (List.mem_append_right _ (List.mem_append_right _ (by simp)))).1
  refine ⟨m, ⟨oC, es, ep, eC'', dC, rC⟩, fun h' hs' => ⟨_, H'', ?_, q''⟩⟩
  exact I''.unpinned.turned (t' := s''.toks) (it := C) (fun b o hb e => hs'.extBut b o hb e) hHC nL (.inr (Nat.le_trans I2.sz hC)) nCell nPin
end
/-! ### by plain functions -/
noncomputable def filO (t : D → Option Bool) (f : D → Option D) : List D → Option (List D)
  | [] => some []
  | d :: ds => (t d).bind fun b => if b = true then (f d).bind fun e => (filO t f ds).bind fun es => some (e :: es) else filO t f ds
@[simp] theorem filO_nil {t : D → Option Bool} {f : D → Option D} : filO t f [] = some [] := rfl
noncomputable def oCompI (fi : Dv → Option (List D)) (caps : List (Nat × Str)) (bv : D → Option (List D)) (ft : Dv → Option Bool) (fe : Dv → Option D) : Dv → Option D := fun δ => (fi δ).bind fun ds => if ds.length ≤ sizeLine then (filO (fun d => (bv d).bind fun vs => ft (vs.map .fz ++ capS δ caps)) (fun d => (bv d).bind fun vs => fe (vs.map .fz ++ capS δ caps)) ds).bind fun es => some (.list es) else none
theorem filO_snoc {t : D → Option Bool} {f : D → Option D} : ∀ {ds es : List D} {i : Nat} {d : D}, filO t f ds = some es → ds[i]? = some d → ∃ xs, filO t f (ds.take i) = some xs ∧ ∃ b, t d = some b ∧ (b = false → filO t f (ds.take (i + 1)) = some xs) ∧ (b = true → ∃ e, f d = some e ∧ filO t f (ds.take (i + 1)) = some (xs ++ [e]))
  | [], es, i, d, h, q => by simp at q
  | d :: ds, es, i, d', h, q => by
    obtain ⟨b, h1, h⟩ := bind_some h
    cases i with
    | zero =>
      simp at q; subst q
      refine ⟨[], rfl, b, h1, fun hb => ?_, fun hb => ?_⟩
      · subst hb; simp [filO, h1]
      · subst hb
        rw [if_pos rfl] at h
        obtain ⟨e, h2, h⟩ := bind_some h
        exact ⟨e, h2, by simp [filO, h1, h2]⟩
    | succ i =>
      simp at q
      cases b with
      | false =>
        rw [if_neg (by decide)] at h
        obtain ⟨xs, g1, b', g2, g3, g4⟩ := filO_snoc (i := i) h q
        refine ⟨xs, by simp [filO, h1, g1], b', g2, fun hb => by simpa [filO, h1] using g3 hb, fun hb => ?_⟩
        obtain ⟨e, k1, k2⟩ := g4 hb
        exact ⟨e, k1, by simpa [filO, h1] using k2⟩
      | true =>
        rw [if_pos rfl] at h
        obtain ⟨e0, h2, h⟩ := bind_some h
        obtain ⟨es', h3, h⟩ := bind_some h
        obtain ⟨xs, g1, b', g2, g3, g4⟩ := filO_snoc (i := i) h3 q
        refine ⟨e0 :: xs, by simp [filO, h1, h2, g1], b', g2, fun hb => by simp [filO, h1, h2, g3 hb], fun hb => ?_⟩
        obtain ⟨e, k1, k2⟩ := g4 hb
        exact ⟨e, k1, by simp [filO, h1, h2, k2]⟩
theorem filO_le {t : D → Option Bool} {f : D → Option D} : ∀ {ds es : List D}, filO t f ds = some es → es.length ≤ ds.length
  | [], es, h => by cases h; exact Nat.le_refl _
  | d :: ds, es, h => by
    obtain ⟨b, h1, h⟩ := bind_some h
    cases b with
    | false => rw [if_neg (by decide)] at h; exact Nat.le_succ_of_le (filO_le h)
    | true =>
      rw [if_pos rfl] at h
      obtain ⟨e0, h2, h⟩ := bind_some h
      obtain ⟨es', h3, h⟩ := bind_some h
      cases h
      exact Nat.succ_le_succ (filO_le h3)
section
variable {X : Cx} {scope : Scope} {vars : List Str} {caps : List (Nat × Str)} {elt tg iter cnd : Expr} {pos : Pos} {g : TG} {fi : Dv → Option (List D)} {ft : Dv → Option Bool} {fe : Dv → Option D} {bv : D → Option (List D)}
theorem comp_readI (tk : TgOk X.K g vars.length bv) {σ : St} {H : Hp} {Q : VK} (h : tV X.K (oCompI fi caps bv ft fe) σ H Q) : tCompI (tVI X.K fi) g (tVT X.K ft) (tV X.K fe) vars caps σ H Q := by
  obtain ⟨H₀, Z₀, Z, δ, d, hh, e, k⟩ := h
  obtain ⟨ds, e1, e⟩ := bind_some e
  by_cases hz : ds.length ≤ sizeLine
  · rw [if_pos hz] at e
    obtain ⟨es, e2, e⟩ := bind_some e
    cases e
    have hv : vars.map (fun _ => (none : Option V)) = List.replicate vars.length none := by rw [List.map_const']
    refine ⟨H₀, Z₀, Z, δ, ds, hh, e1, fun J Z1 H1 hh1 t1 ok => ?_⟩
    refine ⟨fun i m ys H => m = ds.length - i ∧ i ≤ ds.length ∧ ∃ Zc xs, Hold X.K H₀ Z₀ Zc δ σ H ∧ Same Z1 Zc ∧ filO (fun d => (bv d).bind fun vs => ft (vs.map .fz ++ capS δ caps)) (fun d => (bv d).bind fun vs => fe (vs.map .fz ++ capS δ caps)) (ds.take i) = some xs ∧ Reps X.K Zc ys xs, ⟨ds.length, by simp, Nat.zero_le _, Z1, [], hh1, Same.refl _, rfl, .nil⟩, ?_⟩
    rintro i m ys H2 ⟨rfl, hi2, Zc, xs, hhc, tc, fx, rc⟩
    have zh : Same Z1 H2 := tc.trans hhc.zh
    have ly := rc.length
    have lx := filO_le fx
    rw [List.length_take] at lx
    by_cases hlt : i < ds.length
    · refine .inr ⟨ok.go i H2 zh hlt, by lia, fun x H3 y => ?_⟩
      have ed : ds[i]? = some ds[i] := by simp [hlt]
      obtain ⟨rfl, rx⟩ := ok.yld i H2 x H3 _ zh ed y
      obtain ⟨xs', f0, b, fb, ff, ftr⟩ := filO_snoc e2 ed
      rw [fx] at f0
      cases f0
      obtain ⟨vs, f3, f1⟩ := bind_some fb
      rw [hv]
      refine tk x Zc ds[i] vs (capV σ caps) H3 _ (rx.same tc) hhc.zh f3 fun us ru hn => ⟨⟨by simp [hn], fun j v q => ?_⟩, ?_⟩
      · by_cases hj : j < vars.length
        · rw [List.getElem?_append_left (by simpa using hj), List.getElem?_replicate] at q
          split at q <;> cases q
        · rw [List.getElem?_append_right (by simpa using hj)] at q
          rw [List.getElem?_append_right (by simpa [hn] using hj)]
          simpa [hn] using q
      · refine ⟨H3, Zc, Zc, _, b, blk_hold hhc ru, f1, fun Z3 H3' h3 t3 => ?_⟩
        have hh3 := hhc.new ⟨t3, h3.h0, h3.zh, h3.zb⟩
        cases b with
        | false =>
          dsimp only
          rw [if_neg (by decide)]
          exact ⟨ds.length - (i + 1), by lia, rfl, hlt, Z3, xs, hh3, tc.trans t3, ff rfl, rc.same t3⟩
        | true =>
          dsimp only
          rw [if_pos rfl]
          obtain ⟨ei, f2, f4⟩ := ftr rfl
          rw [f3] at f2
          refine ⟨H3, Zc, Z3, _, ei, h3, f2, fun v Z4 H4 h4 t4 r4 => ⟨ds.length - (i + 1), by lia, rfl, hlt, Z4, xs ++ [ei], ?_, (tc.trans t3).trans t4, f4, ((rc.same t3).same t4).append (.cons r4 .nil)⟩⟩
          exact hhc.new ⟨t3.trans t4, h4.h0, h4.zh, h4.zb⟩
    · have hie : i = ds.length := by lia
      subst hie
      refine .inl ⟨ok.stop _ H2 zh (Nat.le_refl _), by lia, fun p hp => ?_⟩
      rw [List.take_length, e2] at fx
      cases fx
      have n := New.add hhc.zh hp (.lst ys)
      exact k _ _ _ (hhc.new n) ((t1.trans tc).trans n.z) (.lst (SqL.of upd_same) (rc.same n.z))
  · rw [if_neg hz] at e; cases e
theorem ev_compI (B : BlkOk X.env.scope.names X.N scope vars caps) (hc : X.calm = true) (hi : IV X tg iter fi) (tk : TgOk X.K g vars.length bv)
    (hg : ∀ C s₀ H₀ ex, PG (blk X scope (vars ++ caps.map (·.2)) C s₀ H₀ ex) tg g) (hb : ∀ C s₀ H₀ ex, TV (blk X scope (vars ++ caps.map (·.2)) C s₀ H₀ ex) cnd ft) (he : ∀ C s₀ H₀ ex, EV (blk X scope (vars ++ caps.map (·.2)) C s₀ H₀ ex) elt fe) (hs : ∀ x, foldedSetIterable iter X.env x = pure x := by intro _; rfl) :
    EV X (.ListComp elt [⟨tg, iter, [cnd], 0⟩] scope pos) (oCompI fi caps bv ft fe) :=
  PE.imp (pe_compI (tt := tVT X.K ft) (te := tV X.K fe) B hc hi hg hb he hs) fun _ _ _ h => comp_readI tk h
theorem sv_compI (i : Nat) {y : Str} {py spos : Pos} (hN : X.N.Nodup) (B : BlkOk X.env.scope.names X.N scope vars caps) (hc : X.calm = true) (hi : IV X tg iter fi) (tk : TgOk X.K g vars.length bv)
    (hg : ∀ C s₀ H₀ ex, PG (blk X scope (vars ++ caps.map (·.2)) C s₀ H₀ ex) tg g) (hb : ∀ C s₀ H₀ ex, TV (blk X scope (vars ++ caps.map (·.2)) C s₀ H₀ ex) cnd ft) (he : ∀ C s₀ H₀ ex, EV (blk X scope (vars ++ caps.map (·.2)) C s₀ H₀ ex) elt fe)
    (hy : X.N[i]? = some y := by rfl) (hx : Loc X.env.scope y := by first | exact Or.inl rfl | exact Or.inr rfl) (hsw : swapsWith (.ListComp elt [⟨tg, iter, [cnd], 0⟩] scope pos) (some (.Name y py)) spos.line X.env = pure true := by rfl)
    (hf : X.fn y = true ∨ X.env.scope.names.lookup y = some .local := by first | exact .inl rfl | exact .inr rfl | assumption) (hs : ∀ x, foldedSetIterable iter X.env x = pure x := by intro _; rfl) :
    SV X (.Assign [.Name y py] (.ListComp elt [⟨tg, iter, [cnd], 0⟩] scope pos) spos) (sSet i (oCompI fi caps bv ft fe)) :=
  PS.imp (ps_compI (tt := tVT X.K ft) (te := tV X.K fe) B hc hi hg hb he hN hy hx hsw hf hs) fun D σ H h => by
    obtain ⟨H₀, Z₀, Z, δ, r, hh, e, k⟩ := h
    obtain ⟨x, e1, e⟩ := bind_some e
    cases e
    exact comp_readI tk ⟨H₀, Z₀, Z, δ, x, hh, e1, fun v Z1 H1 hh1 s1 r1 => k _ H1 Z1 (hh1.set r1) s1⟩
end
end VL

set_option Elab.async false
set_option linter.all false
set_option maxRecDepth 100000
set_option maxHeartbeats 4000000
namespace VL
open PySem PySem.Spec PyProof.Rows L2
/-! ### a op b op c -/
section
variable {X : Cx} {a b c : Expr} {pos : Pos} {f1 f2 f3 : Dv → Option D}
end
/-! ### in, not in: flat items -/
noncomputable def flD : D → Bool
  | .none => true
  | .bool _ => true
  | .int _ => true
  | .str _ => true
  | _ => false
noncomputable def inL (x : D) (ds : List D) : Bool := ds.any fun y => PyData.eqv y x
noncomputable def inD (neg : Bool) : D → D → Option D := fun a b => (itsD b).bind fun ds => if flD a = true ∧ ds.all flD = true then some (.bool (if neg = true then !inL a ds else inL a ds)) else none
theorem Rep.flat {K : Fg} {Z : Hp} {v : V} {d : D} (r : Rep K Z v d) : flatV v = flD d := by cases r <;> rfl
theorem Rep.eqF {K : Fg} {Z : Hp} {v u : V} {d e : D} (r : Rep K Z v d) (q : Rep K Z u e) (h1 : flD d = true) (h2 : flD e = true) : eqV v u = PyData.eqv d e := by
  cases r <;> first | (cases q <;> first | rfl | cases h2) | cases h1
theorem Reps.allF {K : Fg} {Z : Hp} : ∀ {vs : List V} {ds : List D}, Reps K Z vs ds → vs.all flatV = ds.all flD
  | _, _, .nil => rfl
  | _, _, .cons r t => by rw [List.all_cons, List.all_cons, r.flat, t.allF]
theorem Reps.inF {K : Fg} {Z : Hp} {x : V} {a : D} (q : Rep K Z x a) (h : flD a = true) : ∀ {vs : List V} {ds : List D}, Reps K Z vs ds → ds.all flD = true → inV x vs = inL a ds
  | _, _, .nil, _ => rfl
  | _, _, .cons r t, f => by
    rw [List.all_cons, Bool.and_eq_true] at f
    show (eqV _ x || inV x _) = (PyData.eqv _ a || inL a _)
    rw [r.eqF q f.1 h, t.inF q h f.2]
theorem in_read {K : Fg} {neg : Bool} {x y : V} {H : Hp} {Q : VK} (h : rD K (inD neg) x y H Q) : rIn K neg x y H Q := by
  obtain ⟨Z, a, b, d, zh, ra, rb, e, k⟩ := h
  obtain ⟨ds, e1, e⟩ := bind_some e
  by_cases c : flD a = true ∧ ds.all flD = true
  · rw [if_pos c] at e
    cases e
    have go : ∀ (xs : List V), Reps K Z xs ds → (∃ p, y = .ref p ∧ (SqL K H p xs ∨ SqT K H p xs)) → rIn K neg x y H Q := fun xs r ⟨p, ey, hq⟩ => by
      refine ⟨p, xs, ey, hq, by rw [ra.flat]; exact c.1, by rw [r.allF]; exact c.2, ?_⟩
      have := r.inF ra c.1 c.2
      rw [this]
      exact k _ Z H (New.refl zh) (.bl _)
    cases rb with
    | lst h q => cases e1; exact go _ q ⟨_, rfl, .inl (SqL.same h zh)⟩
    | tup h q => cases e1; exact go _ q ⟨_, rfl, .inr (SqT.same h zh)⟩
    | _ => cases e1
  · rw [if_neg c] at e; cases e
theorem d_in {X : Cx} : OpR X (compareOp .In) (rD X.K (inD false)) := OpR.imp op_in_seq fun _ _ _ _ h => in_read h
/-! ### targets that are tuples -/
noncomputable def gT : List (D → Dv → Option Dv) → List D → Dv → Option Dv
  | [], [], δ => some δ
  | g :: gs, d :: ds, δ => (g d δ).bind fun δ1 => gT gs ds δ1
  | _, _, _ => none
noncomputable def gTu (gs : List (D → Dv → Option Dv)) : D → Dv → Option Dv
  | .tuple ds, δ => gT gs ds δ
  | _, _ => none
@[simp] theorem gT_nil (δ : Dv) : gT [] [] δ = some δ := rfl
@[simp] theorem gT_cons (g : D → Dv → Option Dv) (gs : List (D → Dv → Option Dv)) (d : D) (ds : List D) (δ : Dv) : gT (g :: gs) (d :: ds) δ = (g d δ).bind fun δ1 => gT gs ds δ1 := rfl
@[simp] theorem gTu_tup (gs : List (D → Dv → Option Dv)) (ds : List D) (δ : Dv) : gTu gs (.tuple ds) δ = gT gs ds δ := rfl
section
variable {X : Cx} {pos : Pos} {e : Expr} {es : List Expr} {g : D → Dv → Option Dv} {gs : List (D → Dv → Option Dv)}
theorem PGs.imp {t t' : TGs} (h : PGs X es t) (i : ∀ v σ H Q, t' v σ H Q → t v σ H Q) : PGs X es t' := fun pins s σ H x v Q I r q => h pins s σ H x v Q I r (i _ _ _ _ q)
end
/-! ### a block's target that is a tuple of names -/
/-! ### while -/
theorem loop_step {g : D → Dv → Option Dv} {b : Sf} {d : D} {ds : List D} {δ δ1 δ2 : Dv} (h1 : g d δ = some δ1) (h2 : b δ1 = some (.nx, δ2)) : loop g b (d :: ds) δ = loop g b ds δ2 := by
  show ((g d δ).bind fun δ1 => _) = _
  rw [h1, Option.bind_some, h2]; rfl
theorem loop_ret {g : D → Dv → Option Dv} {b : Sf} {d x : D} {ds : List D} {δ δ1 δ2 : Dv} (h1 : g d δ = some δ1) (h2 : b δ1 = some (.rt x, δ2)) : loop g b (d :: ds) δ = some (.rt x, δ2) := by
  show ((g d δ).bind fun δ1 => _) = _
  rw [h1, Option.bind_some, h2]; rfl
/-! ### a def that calls itself -/
end VL

set_option Elab.async false
set_option linter.all false
set_option maxRecDepth 100000
set_option maxHeartbeats 4000000
namespace VL
open PySem PySem.Spec PyProof.Rows L2
/-! ### an expression whose value is a list of one's own -/
noncomputable def tO (K : Fg) (f : Dv → Option (List D)) : TE := fun σ H Q => ∃ H₀ Z₀ Z δ ds, Hold K H₀ Z₀ Z δ σ H ∧ f δ = some ds ∧ ∀ p vs Z' H', Hold K H₀ Z₀ Z' δ σ H' → Same Z Z' → H' p = none → Reps K Z' vs ds → Q (.ref p) (upd H' p (.lst vs))
noncomputable def EO (X : Cx) (e : Expr) (f : Dv → Option (List D)) : Prop := PE X e (tO X.K f)
/-- the items of a list -/
noncomputable def oLi (f : Dv → Option D) : Dv → Option (List D) := fun δ => (f δ).bind lstI
@[simp] noncomputable def sOwnE (i : Nat) (f : Dv → Option (List D)) : Sf := fun δ => (f δ).bind fun ds => some (.nx, δ.set i (.ow ds))
section
variable {X : Cx} {e : Expr} {es : List Expr} {p pos : Pos} {f : Dv → Option (List D)} {fs : Dv → Option (List D)}
theorem own_read {K : Fg} {D : Ends} {i : Nat} {σ : St} {H : Hp} (h : tVS K (sOwnE i f) D σ H) : tO K f σ H fun v H1 => D.nx (σ.set i (some v)) H1 := by
  obtain ⟨H₀, Z₀, Z, δ, r, hh, e, k⟩ := h
  obtain ⟨ds, e1, e⟩ := bind_some e
  cases e
  exact ⟨H₀, Z₀, Z, δ, ds, hh, e1, fun p vs Z1 H1 hh1 t1 hp r1 => k _ _ Z1 (hh1.setO hp r1) t1⟩
theorem sv_ownE (i : Nat) {x : Str} {pos' : Pos} (hN : X.N.Nodup) (ha : EO X e f) (hi : X.N[i]? = some x := by rfl) (hx : Loc X.env.scope x := by first | exact Or.inl rfl | exact Or.inr rfl) (hs : swapsWith e (some (.Name x pos')) pos.line X.env = pure false := by rfl)
    (hf : X.fn x = true ∨ X.env.scope.names.lookup x = some .local := by first | exact .inl rfl | exact .inr rfl | assumption) : SV X (.Assign [.Name x pos'] e pos) (sOwnE i f) :=
  PS.imp (ps_set hN hi hx ha hs hf) fun D σ H h => own_read h
/-- list(x) -/
noncomputable def oLs (fs : Dv → Option (List D)) : Dv → Option (List D) := fun δ => (fs δ).bind fun as => match as with
  | [d] => itsD d
  | _ => none
theorem eo_list (hg : Gl X "list") (hm : X.mg "list" = none) (ha : AV X (e :: es) fs) (he : starEach (e :: es) X.env = (false, eval e X.env) :: starEach es X.env := by rfl) (hpl : (backTo pos (starEach es X.env)).any (·.1) = false := by rfl) : EO X (.Call (.Name "list" p) (e :: es) [] pos) (oLs fs) :=
  PE.imp (pe_callTy call_list_of hg hm (by decide +kernel) ha (by decide) (by decide) he hpl) fun σ H Q h => by
    obtain ⟨H₀, Z₀, Z, δ, ds, hh, e, k⟩ := h
    obtain ⟨as, e1, e⟩ := bind_some e
    refine ⟨H₀, Z₀, Z, δ, as, hh, e1, fun vs Z1 H1 hh1 t1 r1 => ?_⟩
    cases r1 with
    | nil => cases e
    | cons r1 r2 =>
      cases r2 with
      | cons _ _ => cases e
      | nil =>
        cases r1 with
        | lst h1 q1 => cases e; exact ⟨_, _, rfl, .inl (SqL.same h1 hh1.zh), fun l hl => k l _ Z1 H1 hh1 t1 hl q1⟩
        | tup h1 q1 => cases e; exact ⟨_, _, rfl, .inr (SqT.same h1 hh1.zh), fun l hl => k l _ Z1 H1 hh1 t1 hl q1⟩
        | _ => cases e
end
section
variable {X : Cx} {scope : Scope} {vars : List Str} {caps : List (Nat × Str)} {elt tg iter cnd : Expr} {pos : Pos} {g : TG} {fi : Dv → Option (List D)} {ft : Dv → Option Bool} {fe : Dv → Option D} {bv : D → Option (List D)}
end
/-! ### evaluation without the dead ways -/
noncomputable def seqK (t : Sf) : Fl × Dv → Option (Fl × Dv)
  | (.nx, δ) => t δ
  | r => some r
@[simp] theorem seqK_nx (t : Sf) (δ : Dv) : seqK t (.nx, δ) = t δ := rfl
@[simp] theorem seqK_rt (t : Sf) (d : D) (δ : Dv) : seqK t (.rt d, δ) = some (.rt d, δ) := rfl
@[simp] theorem seqK_bk (t : Sf) (δ : Dv) : seqK t (.bk, δ) = some (.bk, δ) := rfl
@[simp] theorem seqK_ct (t : Sf) (δ : Dv) : seqK t (.ct, δ) = some (.ct, δ) := rfl
noncomputable def ifK (u w : Sf) (δ : Dv) : Bool → Option (Fl × Dv)
  | true => u δ
  | false => w δ
@[simp] theorem ifK_t (u w : Sf) (δ : Dv) : ifK u w δ true = u δ := rfl
@[simp] theorem ifK_f (u w : Sf) (δ : Dv) : ifK u w δ false = w δ := rfl
theorem sSeq_k (s t : Sf) (δ : Dv) : sSeq s t δ = (s δ).bind (seqK t) := by
  unfold sSeq seqK
  congr 1
theorem sIf_k (t : Dv → Option Bool) (u w : Sf) (δ : Dv) : sIf t u w δ = (t δ).bind (ifK u w δ) := by
  unfold sIf
  congr 1
  funext c
  cases c <;> rfl
end VL

set_option Elab.async false
set_option linter.all false
set_option maxRecDepth 100000
set_option maxHeartbeats 4000000
namespace VL
open PySem PySem.Spec PyProof.Rows L2
/-! ### all, any, sum of a list; reversed; raise; extend -/
noncomputable def blsD : List D → Option (List Bool)
  | [] => some []
  | .bool b :: r => (blsD r).map (b :: ·)
  | _ => none
noncomputable def allD : List D → Option D
  | [.list xs] => (blsD xs).map fun bs => .bool (bs.all id)
  | _ => none
noncomputable def intsD : List D → Option (List Int)
  | [] => some []
  | .int b :: r => (intsD r).map (b :: ·)
  | _ => none
theorem blsD_map {α : Type} (f : α → Bool) : ∀ xs : List α, blsD (xs.map fun a => .bool (f a)) = some (xs.map f)
  | [] => rfl
  | a :: r => by simp [blsD, blsD_map f r]
theorem allD_map {α : Type} (f : α → Bool) (xs : List α) : allD [.list (xs.map fun a => .bool (f a))] = some (.bool (xs.all f)) := by
  simp [allD, blsD_map, List.all_map]
/-- list(reversed(x)) -/
noncomputable def revLD : D → Option D
  | .list xs => some (.list xs.reverse)
  | _ => none
@[simp] theorem revLD_list (xs : List D) : revLD (.list xs) = some (.list xs.reverse) := rfl
/-- for .. in reversed(x) -/
noncomputable def revI : D → Option (List D)
  | .list xs => some xs.reverse
  | .tuple xs => some xs.reverse
  | _ => none
@[simp] theorem revI_list (xs : List D) : revI (.list xs) = some xs.reverse := rfl
@[simp] theorem revI_tuple (xs : List D) : revI (.tuple xs) = some xs.reverse := rfl
@[simp] noncomputable def sNo : Sf := fun _ => none
/-- x.extend(v) -/
@[simp] noncomputable def sExt (i : Nat) (f : Dv → Option D) : Sf := fun δ => (f δ).bind fun v => (itsD v).bind fun es => (slO δ[i]?).bind fun ds => if ds.length + es.length ≤ sizeLine then some (.nx, δ.set i (.ow (ds ++ es))) else none

section
variable {X : Cx} {e : Expr} {es : List Expr} {p pos tpos apos : Pos} {f : Dv → Option D} {st : Stmt}
theorem bls_get {K : Fg} {Z : Hp} : ∀ {xs : List V} {ds : List D} {bs : List Bool} {its : List Value}, Reps K Z xs ds → Vals xs its → blsD ds = some bs → its.length = bs.length ∧ ∀ (i : Nat) (v : Value), its[i]? = some v → ∃ b, bs[i]? = some b ∧ v = .bool b
  | _, _, bs, _, .nil, .nil, h => by cases h; exact ⟨rfl, fun i v q => by simp at q⟩
  | _, _, bs, _, .cons r t, .cons q u, h => by
    cases r with
    | bl b =>
      unfold blsD at h
      cases g : blsD _ with
      | none => rw [g] at h; cases h
      | some cs =>
        rw [g] at h
        cases h
        obtain ⟨h1, h2⟩ := bls_get t u g
        refine ⟨by simp [h1], fun i v e => ?_⟩
        cases i with
        | zero => simp at e; subst e; exact ⟨b, rfl, q⟩
        | succ i => simp at e; simpa using h2 i v e
    | _ => cases h
theorem ints_get {K : Fg} {Z : Hp} : ∀ {xs : List V} {ds : List D} {bs : List Int} {its : List Value}, Reps K Z xs ds → Vals xs its → intsD ds = some bs → IntsAre its bs
  | _, _, bs, _, .nil, .nil, h => by cases h; exact .nil
  | _, _, bs, _, .cons r t, .cons q u, h => by
    cases r with
    | int b =>
      unfold intsD at h
      cases g : intsD _ with
      | none => rw [g] at h; cases h
      | some cs =>
        rw [g] at h
        cases h
        obtain ⟨tk, rfl⟩ := q
        exact .cons _ _ (ints_get t u g)
    | _ => cases h
theorem c_all (hc : X.calm = true) : CallR X (.builtin "all") (rDs X.K allD) := by
  intro pins s σ H xs us Q I rs q
  obtain ⟨Z, as, d, zh, ra, e, k⟩ := q
  cases ra with
  | nil => cases e
  | cons r1 r2 =>
    cases r2 with
    | cons _ _ => cases r1 <;> cases e
    | nil =>
      cases r1 with
      | @lst l ys ds h1 q1 =>
        have e : (blsD ds).map (fun bs => PyData.bool (bs.all id)) = some d := e
        cases g : blsD ds with
        | none => rw [g] at e; cases e
        | some bs =>
          rw [g] at e
          cases e
          obtain ⟨u, rfl, ru⟩ := vals1 rs
          cases ru
          obtain ⟨its, rv, pl, hz⟩ := I.list (SqL.same h1 zh)
          obtain ⟨hlen, hget⟩ := bls_get q1 rv g
          have hl := pl.isList
          have hlt : l < s.heap.objs.size := by obtain ⟨_, e, _⟩ := hl; exact Heap.lt_size e
          refine call_all_walk (wpAny_pyIter_list hl ?_)
          refine ⟨s.heap.objs.size, [s.heap.objs.size, l], [s.heap.objs.size], its.toArray.size, _, _, fun i => (bs[i]?).getD true, rfl, Walks.list (A := X.A.in1) (I.ok.hd hc) _ l (Nat.ne_of_lt hlt) its.toArray,
            ⟨⟨_, Heap.get?_push_size _ rfl, rfl, rfl⟩, hl.push _⟩, fun i v s' Q' E' hP hQ => ?_, fun h' tk hk => ?_⟩
          · obtain ⟨b, e, rfl⟩ := hget i v (by simpa using hP)
            simp only [e, Option.getD_some] at hQ
            exact wpAny_truthy_bool hQ
          · have e : ((List.range its.toArray.size).all fun i => (bs[i]?).getD true) = bs.all id := by
              rw [List.size_toArray, hlen]; exact LSm.range_all bs
            rw [e]
            exact ⟨.bl _, H, I.kept (t' := tk) (LSm.kept_iter hk), rfl, k _ Z H (New.refl zh) (.bl _)⟩
      | _ => cases e
theorem sv_no {st : Stmt} : SV X st sNo := fun pins s σ H D I h => by
  obtain ⟨_, _, _, _, _, _, e, _⟩ := h
  cases e
end
end VL

set_option Elab.async false
set_option linter.all false
set_option maxRecDepth 100000
set_option maxHeartbeats 4000000
namespace VL
open PySem PySem.Spec PyProof.Rows L2
/-! ### list(reversed(a list)) -/
section
variable {prog : Program} {w : World} {A : Around} {s : Shared} {R : Result → Shared → Prop}
variable {I : Addr} {fp wr : List Addr} {G : Array GenState → Array GenState → Prop} {n : Nat} {P : Nat → Value → Prop} {St : Nat → Shared → Prop}
end
section
variable {prog : Program} {w : World} {A : Around} {E : Value → Shared → Prop} {s : Shared}
variable {I : Addr} {fp wr : List Addr} {G : Array GenState → Array GenState → Prop} {n : Nat} {P : Nat → Value → Prop} {St : Nat → Shared → Prop}
end
section
variable {X : Cx} {e : Expr} {p p2 pos pos2 : Pos} {te : TE} {f : Dv → Option D}
end
end VL

set_option Elab.async false
set_option linter.all false
set_option maxRecDepth 100000
set_option maxHeartbeats 4000000
namespace VL
open PySem PySem.Spec PyProof.Rows L2
section
variable {prog : Program} {w : World} {A : Around} {E : Value → Shared → Prop} {s : Shared}
/-! the walk -/
noncomputable def IsRv (h : Heap) (a l : Addr) (i : Int) : Prop := ∃ o, h.get? a = some o ∧ o.cls = .type "reversed" ∧ o.data = .fields #[.ref l, rawInt i]
theorem IsRv.typeIs {a l : Addr} {i : Int} (x : IsRv s.heap a l i) : s.TypeIs (.ref a) "reversed" := let ⟨o, ho, hc, _⟩ := x; ⟨o, ho, hc⟩
theorem IsRv.at {h h' : Heap} {a l : Addr} {i : Int} (x : IsRv h a l i) (e : ∀ o, h.get? a = some o → h'.get? a = some o) : IsRv h' a l i := let ⟨o, ho, r⟩ := x; ⟨o, e _ ho, r⟩
end
/-! ### for x in reversed(a tuple) -/
noncomputable def revT : D → Option (List D)
  | .tuple xs => some xs.reverse
  | _ => none
@[simp] theorem revT_tuple (xs : List D) : revT (.tuple xs) = some xs.reverse := rfl
section
variable {X : Cx} {tg e : Expr} {p pos : Pos} {te : TE} {f : Dv → Option D}
end
end VL

set_option Elab.async false
set_option linter.all false
set_option maxRecDepth 100000
set_option maxHeartbeats 4000000
/-! Exceptions of the text's own classes: raised, passed on, caught, asked for their class. -/
namespace VL
open PySem PySem.Spec PyProof.Rows L2
/-! ### exceptions as plain data, and the functions of code that raises -/
noncomputable def exD (n : Str) : D := .dict [(.str "exc", .str n)]
noncomputable abbrev Xf := Dv → Option (Str × Dv)
@[simp] noncomputable def xNo : Xf := fun _ => none
@[simp] noncomputable def xRaise (n : Str) (f : Dv → Option D) : Xf := fun δ => (f δ).bind fun _ => some (n, δ)
@[simp] noncomputable def xE (f : Dv → Option Str) : Xf := fun δ => (f δ).bind fun n => some (n, δ)
@[simp] noncomputable def xIf (t : Dv → Option Bool) (u w : Xf) : Xf := fun δ => (t δ).bind fun c => if c = true then u δ else w δ
@[simp] noncomputable def xSeq (s : Sf) (u : Xf) : Xf := fun δ => (s δ).bind fun r => match r with
  | (.nx, δ') => u δ'
  | _ => none
@[simp] noncomputable def xBoth (u1 : Xf) (s : Sf) (u : Xf) : Xf := fun δ => match u1 δ with
  | some r => some r
  | none => xSeq s u δ
noncomputable def runX (N : List Str) (m : Nat) (fx : Xf) : List D → Option Str := fun as => if as.length = m then (fx (startD N as)).bind fun r => some r.1 else none
@[simp] noncomputable def osX (fs : Dv → Option (List D)) (g : List D → Option Str) : Dv → Option Str := fun δ => (fs δ).bind g
noncomputable def sTry (i : Nat) (ns : List Str) (b : Sf) (bx : Xf) (bs : Sf) : Sf := fun δ => match bx δ with
  | some (n, δ') => if ns.contains n = true then (bs (δ'.set i (.fz (exD n)))).bind fun r => some (r.1, r.2.set i .un) else none
  | none => b δ
noncomputable def isxL (t : List (Str × Bool)) (n : Str) : Option D := (t.lookup n).map .bool
noncomputable def isxD (t : List (Str × Bool)) : D → Option D
  | .dict [(.str k, .str n)] => if k = "exc" then isxL t n else none
  | _ => none
theorem isxD_ex (t : List (Str × Bool)) (n : Str) : isxD t (exD n) = isxL t n := by simp [isxD, exD]
theorem objOk_there {P : Program} {w : World} {H : Hp} {h : Heap} {a : Addr} {o : HO} (x : ObjOk P w H h a o) : ∃ ob, h.get? a = some ob := by
  cases o with
  | lst xs => obtain ⟨_, _, _, _, e⟩ := x; exact ⟨_, e⟩
  | tup xs => obtain ⟨_, _, _, ob, e, _⟩ := x; exact ⟨_, e⟩
  | dK kvs => obtain ⟨_, _, _, _, o, _, _, e, _⟩ := x; exact ⟨_, e⟩
  | dT kvs => obtain ⟨_, _, _, _, o, _, _, e, _⟩ := x; exact ⟨_, e⟩
  | set S n => obtain ⟨o, _, _, _, e, _⟩ := x; exact ⟨_, e⟩
  | ins C dx fs => obtain ⟨_, _, _, e, _⟩ := x; exact ⟨_, e⟩
  | own y => exact x
  | xd fs => obtain ⟨_, ⟨_, _, _, e, _⟩, _⟩ := x; exact ⟨_, e⟩
  | rng lo hi => obtain ⟨_, _, _, e⟩ := x; exact ⟨_, e⟩
  | frz ob u => exact ⟨_, x.1⟩
  | tbl ps => exact ⟨_, x⟩
  | met f y => exact ⟨_, x⟩
  | ext φ => exact x.2.1
theorem exO_ok {P : Program} {w : World} {H : Hp} {h : Heap} {x C : Addr} {o : Obj} (e : h.get? x = some o) (c : o.cls = .ref C) : ObjOk P w H h x (exO x C) :=
  ⟨⟨o, e, c⟩, ⟨o, e⟩, fun h1 h2 ⟨o', e', c'⟩ k => ⟨o', k o' e', c'⟩⟩
/-- on its way out of a call: outer the frames that run -/
structure Thrown (P : Program) (w : World) (outer : List Env) (H : Hp) (s : Shared) (x C : Addr) (H' : Hp) (s' : Shared) : Prop where
  os : s'.os = s.os
  bare : AllBare s'.gens
  un : Un (frs outer) [] H H' s.heap s'.heap
  hok : HOk P w H' s'.heap
  sm : Same H H'
  is : H' x = some (exO x C)
  fly : ∃ B t, Heap.FlyingW B outer x (.ref C) t s'.heap ∧ (∀ b o, H' b = some o → b ≠ x → ∃ ob, B.get? b = some ob) ∧ (∀ b o, s.heap.get? b = some o → H b = none → b ∉ frs outer → B.get? b = some o)
noncomputable def CXX (P : Program) (w : World) : CXT := fun outer H s E e s' => ∃ x C H', e = .ref x ∧ Thrown P w outer H s x C H' s' ∧ E (.ref C) (some x) H'
theorem hok_fly {P : Program} {w : World} {H2 : Hp} {B h2 h' : Heap} {l l' : List Env} {x C : Addr} {t t' : Value} (ok : HOk P w H2 h2) (is : H2 x = some (exO x C)) (k2 : B.StaysIn h2) (fl' : Heap.FlyingW B l' x (.ref C) t' h')
    (hB : ∀ b o, H2 b = some o → b ≠ x → ∃ ob, B.get? b = some ob) : HOk P w H2 h' := fun b o e => by
  by_cases hb : b = x
  · subst hb
    rw [is] at e; cases e
    obtain ⟨ob, h1, h2⟩ := fl'.there
    exact exO_ok h1 h2
  · refine (ok b o e).stay (fun c u hc q => ?_) (fun _ q => q) fun _ _ q => q
    have : ∃ ob, B.get? c = some ob := by
      rcases hc with rfl | hc
      · exact hB c o e hb
      · refine hB c _ hc fun z => ?_
        subst z; rw [is] at hc; cases hc
    obtain ⟨ob, hob⟩ := this
    have := k2 c ob hob
    rw [q] at this; cases this
    exact fl'.1 c _ hob
section
variable {P : Program} {w : World} {K : PySem.W.Frag} {mg : Str → Option Value} {base : Heap} {N : List Str} {qual : Str} {scope : Scope} {f : Addr} {cd : Value} {A : Around} {outer : List Env} {s : Shared} {H : Hp} {E : XK} {pins : List (Addr × Obj)} {σ : St} {H1 H2 : Hp} {s1 s2 : Shared} {x C : Addr}
/-- it leaves one frame more -/
theorem leave_on (I : Inv (cxOf (CXX P w) P w K mg base N qual scope f cd A outer s H E) pins σ H1 s1) (T : Thrown P w (cxOf (CXX P w) P w K mg base N qual scope f cd A outer s H E).stack H1 s1 x C H2 s2) (hE : E (.ref C) (some x) H2) (h0 : Same H H2) :
    (cxOf (CXX P w) P w K mg base N qual scope f cd A outer s H E).xe (.ref x) s2 := by
  obtain ⟨B, t, fl, hB1, hB2⟩ := T.fly
  have hfr := I.ok.frames
  have loc : ∀ b o, s.heap.get? b = some o → b ∉ frs outer → b ∉ frs (cxOf (CXX P w) P w K mg base N qual scope f cd A outer s H E).stack := fun b o q hb z => by
    rcases List.mem_cons.mp (I.stkSub b z) with e | e
    · exact absurd (Heap.lt_size q) (by rw [e]; exact Nat.not_lt.mpr I.ok.above)
    · exact hb e
  have keep : ∀ b o, s.heap.get? b = some o → H b = none → b ∉ frs outer → B.get? b = some o := fun b o q n hb =>
    hB2 b o (I.base.keep b o q n hb (fun z => nomatch z)) (I.base.free b o q n (fun z => nomatch z)) (loc b o q hb)
  refine wpAny_leaves_onW hfr rfl fl fun h' fl' sm => ?_
  have slot : ∀ b o, s.heap.get? b = some o → H b = none → b ∈ frs outer → ∃ sl, h'.get? b = some { o with slots := sl } := fun b o q n hb => by
    obtain ⟨sl, e1⟩ := I.base.slot b o q n hb (fun z => nomatch z)
    have hb' : b ∈ frs (cxOf (CXX P w) P w K mg base N qual scope f cd A outer s H E).stack := by
      show b ∈ List.filterMap _ (_ :: outer)
      exact List.mem_filterMap.mpr (by obtain ⟨env, he, hf⟩ := List.mem_filterMap.mp hb; exact ⟨env, List.mem_cons_of_mem _ he, hf⟩)
    obtain ⟨sl2, e2⟩ := T.un.slot b _ e1 (I.base.free b o q n (fun z => nomatch z)) hb' (fun z => nomatch z)
    obtain ⟨_, o', ho', hd⟩ := I.ok.funs.mem hb
    have ho2 : s.heap.get? b = some o' := ho'
    rw [q] at ho2; cases ho2
    obtain ⟨sl3, e3⟩ := sm b _ e2 hd
    exact ⟨sl3, e3⟩
  refine ⟨x, C, H2, rfl, ⟨T.os.trans I.os, T.bare, ⟨fun b o q n hb _ => fl'.1 b o (keep b o q n hb), fun b o q n hb _ => slot b o q n hb, fun b o q n _ => ?_, fun b o q _ => ?_, fun b xs e => T.un.tups b xs (I.base.tups b xs e), fun b o u e => T.un.frzs b o u (I.base.frzs b o u e), fun b ps e => ?_⟩, hok_fly (l := []) (t := t) T.hok T.is fl.1 fl' hB1, h0, T.is, ⟨B, t, fl', hB1, keep⟩⟩, hE⟩
  · obtain ⟨o1, e1⟩ := I.base.there b o q (fun z => nomatch z)
    exact T.un.free b o1 e1 (I.base.free b o q n (fun z => nomatch z)) (fun z => nomatch z)
  · cases q2 : H2 b with
    | some ho =>
      by_cases hb : b = x
      · subst hb; obtain ⟨ob, e1, _⟩ := fl'.there; exact ⟨ob, e1⟩
      · obtain ⟨ob, e1⟩ := hB1 b ho q2 hb; exact ⟨ob, fl'.1 b ob e1⟩
    | none =>
      have n : H b = none := by
        cases e : H b with
        | none => rfl
        | some z => rw [h0 b z e] at q2; cases q2
      by_cases hb : b ∈ frs outer
      · obtain ⟨sl, e⟩ := slot b o q n hb; exact ⟨_, e⟩
      · exact ⟨o, fl'.1 b o (keep b o q n hb)⟩
  · obtain ⟨m1, e1⟩ := I.base.tbls b ps e
    obtain ⟨m2, e2⟩ := T.un.tbls b _ e1
    exact ⟨m1 ++ m2, by rw [e2, Array.append_assoc]⟩
/-- it is made in this frame, and leaves it -/
theorem leave_made {vs : List Value} (I : Inv (cxOf (CXX P w) P w K mg base N qual scope f cd A outer s H E) pins σ H1 s1) (hs : s2 = { s1 with heap := s2.heap }) (hx : Heap.MadeExcOf s1.heap s2.heap x (.ref C) vs) (h0 : Same H H1) (hE : H1 x = none → E (.ref C) (some x) (upd H1 x (exO x C))) :
    (cxOf (CXX P w) P w K mg base N qual scope f cd A outer s H E).xe (.ref x) s2 := by
  have hfr := I.ok.frames
  have n1 : H1 x = none := by
    cases e : H1 x with
    | none => rfl
    | some o => obtain ⟨ob, h⟩ := objOk_there (I.hok x o e); rw [hx.new] at h; cases h
  have loc : ∀ b o, s.heap.get? b = some o → b ∉ frs outer → b ∉ frs (cxOf (CXX P w) P w K mg base N qual scope f cd A outer s H E).stack := fun b o q hb z => by
    rcases List.mem_cons.mp (I.stkSub b z) with e | e
    · exact absurd (Heap.lt_size q) (by rw [e]; exact Nat.not_lt.mpr I.ok.above)
    · exact hb e
  have hin : ∀ env ∈ (cxOf (CXX P w) P w K mg base N qual scope f cd A outer s H E).stack, ∀ b, env.frame = some b → b ∈ frs (cxOf (CXX P w) P w K mg base N qual scope f cd A outer s H E).stack := fun env he b hb => List.mem_filterMap.mpr ⟨env, he, hb⟩
  have keep : ∀ b o, s.heap.get? b = some o → H b = none → b ∉ frs outer → (PySem.W.hideAll s1.heap (frs (cxOf (CXX P w) P w K mg base N qual scope f cd A outer s H E).stack)).get? b = some o := fun b o q n hb =>
    PySem.W.hideAll_get _ (I.base.keep b o q n hb (fun z => nomatch z)) (loc b o q hb)
  have trk : ∀ b o, H1 b = some o → ∃ ob, (PySem.W.hideAll s1.heap (frs (cxOf (CXX P w) P w K mg base N qual scope f cd A outer s H E).stack)).get? b = some ob := fun b o e => by
    obtain ⟨ob, h⟩ := objOk_there (I.hok b o e)
    refine ⟨ob, PySem.W.hideAll_get _ h fun z => ?_⟩
    rw [I.stkFree b z] at e; cases e
  refine wpAny_leaves_madeW hfr rfl (fun b o q => PySem.W.of_hideAll _ q) (PySem.W.funFrames_hide I.stack hin) hx fun h' t fl _ _ sm => ?_
  have slot : ∀ b o, s.heap.get? b = some o → H b = none → b ∈ frs outer → ∃ sl, h'.get? b = some { o with slots := sl } := fun b o q n hb => by
    obtain ⟨sl, e1⟩ := I.base.slot b o q n hb (fun z => nomatch z)
    obtain ⟨_, o', ho', hd⟩ := I.ok.funs.mem hb
    have ho2 : s.heap.get? b = some o' := ho'
    rw [q] at ho2; cases ho2
    obtain ⟨sl3, e3⟩ := sm b _ (hx.keeps b _ e1) hd
    exact ⟨sl3, e3⟩
  have ne : ∀ b o, s1.heap.get? b = some o → b ≠ x := fun b o q z => by subst z; rw [hx.new] at q; cases q
  have os2 : s2.os = s1.os := by rw [hs]
  have g2 : s2.gens = s1.gens := by rw [hs]
  have hok2 : HOk P w (upd H1 x (exO x C)) h' := fun b o e => by
    by_cases hb : b = x
    · subst hb; rw [upd_same] at e; cases e; obtain ⟨ob, q1, q2⟩ := fl.there; exact exO_ok q1 q2
    · rw [upd_ne hb] at e
      refine (I.hok b o e).stay (fun c u hc q => ?_) (fun c q => ?_) fun c xs q => ?_
      · have : ∃ ho, H1 c = some ho := by rcases hc with rfl | hc; exact ⟨_, e⟩; exact ⟨_, hc⟩
        obtain ⟨ho, hc⟩ := this
        obtain ⟨ob, hob⟩ := trk c ho hc
        have := PySem.W.of_hideAll _ hob
        rw [q] at this; cases this
        exact fl.1 c _ hob
      · rw [upd_ne (ne_of_none q n1)]; exact q
      · rw [upd_ne (ne_of_none q n1)]; exact q
  refine ⟨x, C, upd H1 x (exO x C), rfl, ⟨os2.trans I.os, by rw [show ({ s2 with heap := h' } : Shared).gens = s1.gens from g2]; exact I.bare, ⟨fun b o q n hb _ => fl.1 b o (keep b o q n hb), fun b o q n hb _ => slot b o q n hb, fun b o q n _ => ?_, fun b o q _ => ?_, fun b xs e => ?_, fun b o u e => ?_, fun b ps e => ?_⟩, hok2, h0.trans (same_upd n1), upd_same, ⟨_, _, fl, fun b o e hb => ?_, keep⟩⟩, hE n1⟩
  · obtain ⟨o1, e1⟩ := I.base.there b o q (fun z => nomatch z)
    rw [upd_ne (ne b o1 e1)]
    exact I.base.free b o q n (fun z => nomatch z)
  · obtain ⟨o1, e1⟩ := I.base.there b o q (fun z => nomatch z)
    cases q2 : H1 b with
    | some ho => obtain ⟨ob, e⟩ := trk b ho q2; exact ⟨ob, fl.1 b ob e⟩
    | none =>
      have n : H b = none := by
        cases e : H b with
        | none => rfl
        | some z => rw [h0 b z e] at q2; cases q2
      by_cases hb : b ∈ frs outer
      · obtain ⟨sl, e⟩ := slot b o q n hb; exact ⟨_, e⟩
      · exact ⟨o, fl.1 b o (keep b o q n hb)⟩
  · have := I.base.tups b xs e
    rw [upd_ne (ne_of_none this n1)]; exact this
  · have := I.base.frzs b o u e
    rw [upd_ne (ne_of_none this n1)]; exact this
  · obtain ⟨m1, e1⟩ := I.base.tbls b ps e
    exact ⟨m1, by rw [upd_ne (ne_of_none e1 n1)]; exact e1⟩
  · rw [upd_ne hb] at e
    exact trk b o e
end
end VL

set_option Elab.async false
set_option linter.all false
set_option maxRecDepth 100000
set_option maxHeartbeats 4000000
namespace VL
open PySem PySem.Spec PyProof.Rows L2
/-! ### facts of a class -/
noncomputable abbrev vMro : List Value := [.type "ValueError", .type "Exception", .type "BaseException", .type "object"]
structure ExcC (K : Fg) (n : Str) (C : Addr) : Prop where
  nm : PySem.W.nsIn K mainGlobals n = some (some (.ref C))
  ex : PySem.W.excIn K C vMro "ValueError.__new__" = true
  ga : PySem.W.findIn K (.ref C) "__getattribute__" = some (some (.builtin "BaseException.__getattribute__"))
  gt : PySem.W.findIn K (.ref C) "__getattr__" = some none
  cl : PySem.W.findIn K (.ref C) "__class__" = some (some (.builtin "object.__class__"))
  mo : PySem.W.mroIn K C (.type "object") = some true
  be : PySem.W.mroIn K C (.type "BaseException") = some true
theorem exc_obj {K : Fg} {h : Heap} {C : Addr} {mB : List Value} {newId : String} (kin : K.In h) (q : PySem.W.excIn K C mB newId = true) :
    ∃ mr ns nm qn bs hd sn sub ab col dd a0 a1 a2 a3 a5 mN, h.get? C = some (excClassObj nm qn C ns bs mr hd sn sub ab col dd a0 a1 a2 a3 a5 newId) ∧ h.Ns ns mN ∧ mN "__init__" = none ∧ OwnTail h mB mr := by
  unfold PySem.W.excIn at q
  split at q
  · rename_i dct cda slo lk
    split at q
    · rename_i C2 mr a0 a1 a2 a3 nw a5 em es
      simp only [Bool.and_eq_true, beq_iff_eq, Bool.not_eq_true'] at q
      obtain ⟨⟨⟨⟨⟨rfl, rfl⟩, nodel⟩, tl⟩, okn⟩, noini⟩ := q
      obtain ⟨nm, bs, mro, ns, qn, hd, sn, sub, ab, col, del⟩ := cda
      dsimp only at em nodel okn noini
      subst em nodel
      have esl : slo = #[a0, a1, a2, a3, some (.builtin nw), a5] := by
        obtain ⟨ll⟩ := slo
        simp only at es
        rw [es]
      subst esl
      exact ⟨mr, ns, nm, qn, bs, hd, sn, sub, ab, col, dct, a0, a1, a2, a3, a5, _, kin _ _ lk, Heap.Ns.of_isNs (PySem.W.isNs_of_in kin okn), PySem.W.nsMap_none_of_in kin okn noini, PySem.W.tail_of_in kin tl⟩
    · cases q
  · cases q
section
variable {K : Fg} {n : Str} {C x : Addr}
theorem looks_ty {M : Model} {h : Heap} {o : Obj} (e : h.get? x = some o) (c : o.cls = .ref C) : PySem.W.Looks M h (typeOf (.ref x)) (.ref C) := c ▸ (PySem.W.Looks.ld e).andThen .now
variable {prog : Program} {w : World} {A : Around} {E : Value → Shared → Prop}
open Builtin Builtin.ObjectAttr Builtin.Getset_descriptor in
theorem exc_get {R : Result → Shared → Prop} {tp : Value} {o : Obj} {s : Shared} (F : ExcC K n C) (kin : K.In s.heap) (e : s.heap.get? x = some o) (c : o.cls = .ref C) (h : R (.ok (.ret (.ref C))) s) :
    codeAny (model prog w) A (.call (.builtin "getset_descriptor.__get__") ⟨[.builtin "object.__class__", .ref x, tp], []⟩) R s := by
  obtain ⟨hh, g, dr, t, os⟩ := s
  have L0 := looks_ty (M := model prog w) e c
  have L1 := PySem.W.looks_mroIn (M := model prog w) kin F.mo
  refine codeAny_call_builtin PySem.W.KF.slot_gs.plain PySem.W.KF.entry_gs (PySem.W.KF.slot_gs.check _ _ _ _ _ _ _ _ PySem.W.KF.type_class (PySem.W.KF.args_gs _ _ _) ?_)
  unfold Builtin.«getset_descriptor.__get__» descrGet
  rw [PySem.W.dga_obj]
  refine wpAny_bind (wpAny_pure ?_)
  unfold descrGetter descrCheckInstance descrNameAndClass isInstance
  simp only [PySem.W.KF.owner_class]
  repeat lk
  refine ⟨Code.quiet_builtin _ (by decide +kernel), codeAny_builtin PySem.W.KF.entry_class ?_⟩
  unfold Builtin.«object.__class__» shownTypeOf
  repeat lk
  exact h
theorem exc_check {M : Model} {o : Obj} {s : Shared} {nameV : Value} {Q : Unit → Shared → Prop} (F : ExcC K n C) (kin : K.In s.heap) (e : s.heap.get? x = some o) (c : o.cls = .ref C) (h : Q () s) :
    wpAny M A (checkBuiltinCall "BaseException.__getattribute__" ⟨[.ref x, nameV], []⟩) Q E s := by
  obtain ⟨hh, g, dr, t, os⟩ := s
  have L0 := looks_ty (M := M) e c
  have L1 := PySem.W.looks_mroIn (M := M) kin F.be
  have kd : builtinKind "BaseException.__getattribute__" = some .slot := by decide +kernel
  have sp : splitId "BaseException.__getattribute__" = some ("BaseException", "__getattribute__") := by decide +kernel
  have ao := PySem.F.args_bexc_ga (.ref x) nameV
  simp only [checkBuiltinCall, kd, sp]
  refine wpAny_bind ?_
  unfold isInstance
  refine wpAny_bind (L0.at (L1.at ?_))
  repeat wp_step
  exact h
theorem exc_entry {tk : Tok} {o : Obj} {s : Shared} {Q : Fin → Shared → Prop} (F : ExcC K n C) (kin : K.In s.heap) (e : s.heap.get? x = some o) (c : o.cls = .ref C) (h : Q (.done (.ret (.ref C))) s) :
    wpAny (model prog w) A (Builtin.«object.__getattribute__» ⟨[.ref x, .str "__class__" tk], []⟩) Q E s := by
  obtain ⟨hh, g, dr, t, os⟩ := s
  have L0 := looks_ty (M := model prog w) e c
  have L1 := PySem.W.looks_findIn (M := model prog w) kin F.cl
  have t5 : (⟨hh, g, dr, t, os⟩ : Shared).TypeIs (.builtin "object.__class__") "getset_descriptor" := PySem.F.typeOf_object_class
  have f5 := PySem.F.typeOf_object_class
  have f6 := PySem.F.slot_gs_get.lookup
  have f7 := PySem.F.slot_gs_set.lookup
  repeat (any_goals (first | assumption | with_reducible refine L0.at ?_ | with_reducible refine L1.at ?_ | wp_step))
  refine exc_get F kin e c ?_
  repeat (any_goals (first | assumption | wp_step))
end
end VL

set_option Elab.async false
set_option linter.all false
set_option maxRecDepth 100000
set_option maxHeartbeats 4000000
namespace VL
open PySem PySem.Spec PyProof.Rows L2
section
variable {K : Fg} {n : Str} {C x : Addr} {prog : Program} {w : World} {A : Around} {E : Value → Shared → Prop}
theorem exc_class {o : Obj} {s : Shared} {Q : Option Value → Shared → Prop} (F : ExcC K n C) (kin : K.In s.heap) (e : s.heap.get? x = some o) (c : o.cls = .ref C) (h : Q (some (.ref C)) { s with toks := s.toks + 1 }) :
    wpAny (model prog w) A (getAttr? (.ref x) "__class__") Q E s := by
  obtain ⟨hh, g, dr, t, os⟩ := s
  have L0 := looks_ty (M := model prog w) e c
  have L1 := PySem.W.looks_findIn (M := model prog w) kin F.ga
  have L2 := PySem.W.looks_findIn (M := model prog w) kin F.gt
  have b3 := PySem.F.attr_ValueError.ga.bind (.ref x)
  have n2 : (Value.builtin "BaseException.__getattribute__" == Value.builtin "object.__getattribute__") = false := by decide +kernel
  have n1 : (onTheHeap (Value.ref C) && Value.builtin "BaseException.__getattribute__" == Value.builtin "object.__getattribute__") = false := by rw [n2]; rfl
  have go : ∀ {tk : Tok} {R : Result → Shared → Prop} {A' : Around}, R (.ok (.ret (.ref C))) ⟨hh, g, dr, t + 1, os⟩ → codeAny (model prog w) A' (.call (.builtin "BaseException.__getattribute__") ⟨[.ref x, .str "__class__" tk], []⟩) R ⟨hh, g, dr, t + 1, os⟩ := fun {tk R A'} q =>
    codeAny_call_builtin PySem.F.attr_ValueError.ga.plain PySem.F.entry_bexc_ga (exc_check (s := ⟨hh, g, dr, t + 1, os⟩) F kin e c (exc_entry (s := ⟨hh, g, dr, t + 1, os⟩) F kin e c q))
  unfold getAttr? getAttrBy? getAttrBy
  repeat (any_goals (first | assumption | with_reducible refine L0.at ?_ | with_reducible refine L1.at ?_ | with_reducible refine L2.at ?_ | wp_step))
  refine go ?_
  repeat (any_goals (first | assumption | wp_step))
theorem looks_isType {M : Model} {h : Heap} (F : ExcC K n C) (kin : K.In h) : PySem.W.Looks M h (isType (.ref C)) true := by
  obtain ⟨_, _, _, _, _, _, _, _, _, _, _, _, _, _, _, _, _, hC, _⟩ := exc_obj kin F.ex
  intro A' Q' E' s' k q
  unfold isType loadHead
  exact wpAny_bind (wpAny_loadPart (k _ _ hC) (wpAny_pure q))
theorem kitx_exc (F : ExcC K n C) : PySem.W.KitX K (.ref x) (.ref C) (fun h => ∃ o, h.get? x = some o ∧ o.cls = .ref C) where
  ty := fun M h _ ⟨o, e, c⟩ => looks_ty e c
  it := fun M h kin _ => looks_isType F kin
  ne := fun h tp dd its m sl kin htp => by
    obtain ⟨_, _, _, _, _, _, _, _, _, _, _, _, _, _, _, _, _, hC, _⟩ := exc_obj kin F.ex
    refine Bool.eq_false_iff.mpr fun q => ?_
    have z : C = tp := Value.ref.inj (beq_iff_eq.mp q)
    subst z
    rw [htp] at hC
    have z2 := congrArg (fun z : Option Obj => z.map (·.cls)) hC
    simp [excClassObj] at z2
  ca := fun {_ _ _ _ _ s} kin ⟨o, e, c⟩ k => exc_class F kin e c k
end
/-! ### isinstance of an exception -/
inductive IsX (K : Fg) (D : Str) : List (Str × Bool) → Prop
  | nil : IsX K D []
  | cons {n : Str} {b : Bool} {t : List (Str × Bool)} {C dC : Addr} : ExcC K n C → PySem.W.nsIn K mainGlobals D = some (some (.ref dC)) → PySem.W.kitOne K (.ref C) (.ref dC) = some b → IsX K D t → IsX K D ((n, b) :: t)
inductive IsT (K : Fg) (D : String) : List (Str × Bool) → Prop
  | nil : IsT K D []
  | cons {n : Str} {b : Bool} {t : List (Str × Bool)} {C : Addr} : ExcC K n C → PySem.W.kitOne K (.ref C) (.type D) = some b → IsT K D t → IsT K D ((n, b) :: t)
theorem lookup_cons_some {n m : Str} {b c : Bool} {t : List (Str × Bool)} (h : List.lookup m ((n, b) :: t) = some c) : (m = n ∧ c = b) ∨ List.lookup m t = some c := by
  rw [List.lookup_cons] at h
  split at h
  · rename_i q; cases h; exact .inl ⟨by simpa using q, rfl⟩
  · exact .inr h
theorem IsX.get {K : Fg} {D : Str} {t : List (Str × Bool)} (h : IsX K D t) {n : Str} {b : Bool} (e : t.lookup n = some b) : ∃ C dC, ExcC K n C ∧ PySem.W.nsIn K mainGlobals D = some (some (.ref dC)) ∧ PySem.W.kitOne K (.ref C) (.ref dC) = some b := by
  induction h with
  | nil => cases e
  | cons h1 h2 h3 _ ih =>
    rcases lookup_cons_some e with ⟨rfl, rfl⟩ | e
    · exact ⟨_, _, h1, h2, h3⟩
    · exact ih e
theorem IsT.get {K : Fg} {D : String} {t : List (Str × Bool)} (h : IsT K D t) {n : Str} {b : Bool} (e : t.lookup n = some b) : ∃ C, ExcC K n C ∧ PySem.W.kitOne K (.ref C) (.type D) = some b := by
  induction h with
  | nil => cases e
  | cons h1 h3 _ ih =>
    rcases lookup_cons_some e with ⟨rfl, rfl⟩ | e
    · exact ⟨_, h1, h3⟩
    · exact ih e
theorem isxD_some {t : List (Str × Bool)} {d r : D} (h : isxD t d = some r) : ∃ n b, d = .dict [(.str "exc", .str n)] ∧ t.lookup n = some b ∧ r = .bool b := by
  unfold isxD at h
  split at h
  · rename_i k n
    split at h
    · rename_i hk
      subst hk
      unfold isxL at h
      cases e : List.lookup n t with
      | none => rw [e] at h; cases h
      | some b => rw [e] at h; cases h; exact ⟨n, b, rfl, e, rfl⟩
    · cases h
  · cases h
section
variable {X : Cx} {a : Expr} {f : Dv → Option D} {p pos : Pos}
theorem isx_call {pins : List (Addr × Obj)} {σ : St} {H Z : Hp} {s : Shared} {x : Addr} {n : Str} {C : Addr} {c : Value} {b : Bool} {A : Around} {E : Value → Shared → Prop} {Q : Value → Shared → Prop} (I : Inv X pins σ H s) (zh : Same Z H) (r : Rep X.K Z (.ref x) (.dict [(.str "exc", .str n)])) (F : ExcC X.K n C) (ko : PySem.W.kitOne X.K (.ref C) c = some b)
    (h : ∀ tk, Q (.bool b) { s with toks := tk }) : wpAny (model X.prog X.w) A (call (.builtin "isinstance") [.ref x, c]) Q E s := by
  cases r with
  | opq q =>
    cases q with
    | @exc _ C' h1 h2 =>
      have : C' = C := by have := h1.symm.trans F.nm; simpa using this
      subst this
      exact PySem.W.kia_one (kitx_exc F) I.kIn (I.hok x _ (zh _ _ h2)).1 ko (fun z => nomatch z) h
theorem ev_isx {x : Str} {t : List (Str × Bool)} {p2 : Pos} (T : IsX X.K x t) (hg : Gl X "isinstance") (hm : X.mg "isinstance" = none) (hgT : Gl X x) (ha : EV X a f) (hdT : (x == ("__debug__" : Str)) = false := by decide)
    (he : starEach (a :: [.Name x p2]) X.env = (false, eval a X.env) :: starEach [.Name x p2] X.env := by rfl) (he2 : starEach ((.Name x p2) :: []) X.env = (false, eval (.Name x p2) X.env) :: starEach [] X.env := by rfl) (hpl : (backTo pos (starEach [.Name x p2] X.env)).any (·.1) = false := by rfl) :
    EV X (.Call (.Name "isinstance" p) [a, .Name x p2] [] pos) (o1 f (isxD t)) := by
  intro pins s σ H Q I h
  obtain ⟨H₀, Z₀, Z, δ, d, hh, e, k⟩ := h
  obtain ⟨y, e1, e⟩ := bind_some e
  obtain ⟨n, b, rfl, e2, rfl⟩ := isxD_some e
  obtain ⟨C, dC, F, hD, ko⟩ := T.get e2
  have hmT := PySem.W.mg_of I.ok.mod.kin I.ok.mod.glob hD
  have cr : CallR X (.builtin "isinstance") (fun xs H Q => ∃ z Z, xs = [z, .ref dC] ∧ Same Z H ∧ Rep X.K Z z (.dict [(.str "exc", .str n)]) ∧ Q (.bl b) H) := by
    intro pins s σ H xs us Q I rv h
    obtain ⟨z, Z, rfl, zh, r, q⟩ := h
    obtain ⟨u, w', rfl, r1, r2⟩ := vals2 rv
    cases (show w' = Value.ref dC from r2)
    cases r with
    | @opq a' _ q' =>
      cases (show u = Value.ref a' from r1)
      exact isx_call I zh (.opq q') F ko fun tk => ⟨.bl b, H, I.tok _, rfl, q⟩
  exact pe_callB cr hg hm PyProof.Rows.boot_isinstance (pa_cons ha (pa_cons (pe_glob (v := .ref dC) hgT hmT rfl hdT) pa_nil he2) he) (by decide) (by decide) he hpl pins s σ H Q I
    ⟨H₀, Z₀, Z, δ, _, hh, e1, fun v Z1 H1 hh1 s1 r1 => ⟨v, Z1, rfl, hh1.zh, r1, k _ Z1 H1 hh1 s1 (.bl b)⟩⟩
end
end VL

set_option Elab.async false
set_option linter.all false
set_option maxRecDepth 100000
set_option maxHeartbeats 4000000
namespace VL
open PySem PySem.Spec PyProof.Rows L2
/-! ### code that raises -/
inductive Flung (m : Bool) (X : Cx) (n : Str) (Z H : Hp) (s : Shared) (e : Value) (s' : Shared) : Prop
  | made {x C : Addr} {vs : List Value} : m = true → PySem.W.nsIn X.K mainGlobals n = some (some (.ref C)) → e = .ref x → s' = { s with heap := s'.heap } → Heap.MadeExcOf s.heap s'.heap x (.ref C) vs → Flung m X n Z H s e s'
  | thrown {x C : Addr} {H' Z' : Hp} : PySem.W.nsIn X.K mainGlobals n = some (some (.ref C)) → e = .ref x → Thrown X.prog X.w X.stack H s x C H' s' → New Z H Z' H' → Z' x = some (exO x C) → Flung m X n Z H s e s'
noncomputable def tVX (m : Bool) (X : Cx) (f : Xf) : TS := fun _ σ H => ∃ H₀ Z₀ Z δ r, Hold X.K H₀ Z₀ Z δ σ H ∧ f δ = some r ∧ ∀ pins σ' H' Z' s e s', Hold X.K H₀ Z₀ Z' r.2 σ' H' → Same Z Z' → Inv X pins σ' H' s → Flung m X r.1 Z' H' s e s' → X.xe e s'
noncomputable def tEX (m : Bool) (X : Cx) (f : Dv → Option Str) : TE := fun σ H _ => ∃ H₀ Z₀ Z δ n, Hold X.K H₀ Z₀ Z δ σ H ∧ f δ = some n ∧ ∀ pins σ' H' Z' s e s', Hold X.K H₀ Z₀ Z' δ σ' H' → Same Z Z' → Inv X pins σ' H' s → Flung m X n Z' H' s e s' → X.xe e s'
noncomputable def SX (m : Bool) (X : Cx) (st : Stmt) (f : Xf) : Prop := PS X st (tVX m X f)
noncomputable def BX (m : Bool) (X : Cx) (st : List Stmt) (f : Xf) : Prop := PSs X st (tVX m X f)
noncomputable def EX (m : Bool) (X : Cx) (e : Expr) (f : Dv → Option Str) : Prop := PE X e (tEX m X f)
section
variable {m : Bool} {X : Cx} {e c : Expr} {es : List Expr} {f : Dv → Option D} {fs : Dv → Option (List D)} {ft : Dv → Option Bool} {fx : Dv → Option Str} {st : Stmt} {sts body orelse : List Stmt} {s1 : Sf} {u u1 u2 : Xf} {pos p : Pos}
theorem SV.lift (h : SV X.nox st s1) : SV X st s1 := fun pins s σ H D I hw =>
  wpAny_mono (h pins s σ H D (I.wish _) hw) (fun _ _ q => q.unwish) fun _ _ z => False.elim z
theorem BV.lift (h : BV X.nox sts s1) : BV X sts s1 := PSs.nox h
theorem EV.lift (h : EV X.nox e f) : EV X e f := PE.nox h
theorem TV.lift (h : TV X.nox e ft) : TV X e ft := PT.nox h
theorem AV.lift (h : AV X.nox es fs) : AV X es fs := fun pos pins s σ H Q I hw =>
  wpAny_mono (h pos pins s σ H Q (I.wish _) hw) (fun _ _ ⟨vs, H', I', r, q⟩ => ⟨vs, H', I'.unwish, r, q⟩) fun _ _ z => False.elim z
theorem bx_no : BX m X sts xNo := fun _ _ _ _ _ _ ⟨_, _, _, _, _, _, e, _⟩ => nomatch e
theorem sx_expr (h : EX m X e fx) (hs : swapsWith e none pos.line X.env = pure false := by rfl) : SX m X (.Expr e pos) (xE fx) :=
  PS.imp (ps_expr h hs) fun D σ H q => by
    obtain ⟨H₀, Z₀, Z, δ, r, hh, e, k⟩ := q
    obtain ⟨n, e1, e⟩ := bind_some e
    cases e
    exact ⟨H₀, Z₀, Z, δ, n, hh, e1, k⟩
theorem bx_here (h : SX m X st u) : BX m X (st :: sts) u :=
  PSs.imp (pss_cons h (u := fun _ _ _ => False) fun _ _ _ _ _ _ z => z.elim) fun D σ H q => q
theorem bx_next (h1 : SV X st s1) (h2 : BX m X sts u) : BX m X (st :: sts) (xSeq s1 u) :=
  PSs.imp (pss_cons h1 h2) fun D σ H q => by
    obtain ⟨H₀, Z₀, Z, δ, r, hh, e, k⟩ := q
    obtain ⟨⟨fl, δ'⟩, e1, e⟩ := bind_some e
    cases fl with
    | nx => exact ⟨H₀, Z₀, Z, δ, (.nx, δ'), hh, e1, fun σ' H' Z' hh' t' => ⟨H₀, Z₀, Z', δ', r, hh', e, fun pins σ2 H2 Z2 s e s' hh2 t2 I fl => k pins σ2 H2 Z2 s e s' hh2 (t'.trans t2) I fl⟩⟩
    | bk => cases e
    | ct => cases e
    | rt d => cases e
theorem bx_both (h : SX m X st u1) (h1 : SV X st s1) (h2 : BX m X sts u2) : BX m X (st :: sts) (xBoth u1 s1 u2) := fun pins s σ H D I q => by
  obtain ⟨H₀, Z₀, Z, δ, r, hh, e, k⟩ := q
  have e : (match u1 δ with | some r => some r | none => xSeq s1 u2 δ) = some r := e
  cases q1 : u1 δ with
  | some r1 => rw [q1] at e; cases e; exact bx_here h pins s σ H D I ⟨H₀, Z₀, Z, δ, r, hh, q1, k⟩
  | none => rw [q1] at e; exact bx_next h1 h2 pins s σ H D I ⟨H₀, Z₀, Z, δ, r, hh, e, k⟩
theorem sx_if (hc : TV X c ft) (ha : BX m X body u1) (hb : BX m X orelse u2) : SX m X (.If c body orelse pos) (xIf ft u1 u2) :=
  PS.imp (ps_if hc ha hb) fun D σ H q => by
    obtain ⟨H₀, Z₀, Z, δ, r, hh, e, k⟩ := q
    obtain ⟨x, e1, e⟩ := bind_some e
    refine ⟨H₀, Z₀, Z, δ, x, hh, e1, fun Z1 H1 hh1 t1 => ?_⟩
    cases x with
    | true => exact ⟨H₀, Z₀, Z1, δ, r, hh1, e, fun pins σ2 H2 Z2 s e s' hh2 t2 I fl => k pins σ2 H2 Z2 s e s' hh2 (t1.trans t2) I fl⟩
    | false => exact ⟨H₀, Z₀, Z1, δ, r, hh1, e, fun pins σ2 H2 Z2 s e s' hh2 t2 I fl => k pins σ2 H2 Z2 s e s' hh2 (t1.trans t2) I fl⟩
/-! ### raise -/
structure ExcX (K : Fg) (n : Str) : Prop where
  ex : ∃ C, ExcC K n C
theorem sx_raise {x : Str} {np cpos : Pos} (O : ExcX X.K x) (hg : Gl X x) (hc : X.calm = true) (ha : EV X e f) (hdb : (x == ("__debug__" : Str)) = false := by decide)
    (he : starEach (e :: []) X.env = (false, eval e X.env) :: starEach [] X.env := by rfl) (hpl : (backTo cpos (starEach [] X.env)).any (·.1) = false := by rfl) :
    SX true X (.Raise (some (.Call (.Name x np) [e] [] cpos)) none pos) (xRaise x f) := by
  intro pins s σ H D I h
  obtain ⟨H₀, Z₀, Z, δ, r, hh, e0, k⟩ := h
  obtain ⟨d, e1, e0⟩ := bind_some e0
  cases e0
  obtain ⟨C, F⟩ := O.ex
  obtain ⟨mr, ns, nm, qn, bs, hd, sn, sub, ab, col, dd, a0, a1, a2, a3, a5, mN, hC, hN, hni, TL⟩ := exc_obj I.ok.mod.kin F.ex
  have hm := PySem.W.mg_of I.ok.mod.kin I.ok.mod.glob F.nm
  refine wpAny_Raise_call_subU (C := C) (nm := nm) (q := qn) (N := ns) (bs := bs) (bm := mr) (hdct := hd) (sn := sn) (sub := sub) (ab := ab) (col := col) (dd := dd) (k0 := a0) (k1 := a1) (k2 := a2) (k3 := a3) (k5 := a5) (bmB := vMro)
    PySem.F.excBase_ValueError (by decide +kernel) PySem.F.excBase_ValueError (mN := mN) (TL.hasType (by decide +kernel)) (I.ok.hd hc) (by rw [he]; show (false || (backTo cpos (starEach [] X.env)).any (·.1)) = false; rw [hpl]; rfl) hni (ld_glob I hg hm ⟨rfl, ?_⟩ hdb)
  rw [he]
  have one : wpAny (model X.prog X.w) X.A (spliced (backTo cpos (starEach (e :: []) X.env))) (AP X pins σ fun vs H1 => vs.length = 1 ∧ ∃ Z1, Hold X.K H₀ Z₀ Z1 δ σ H1 ∧ Same Z Z1) X.xe s :=
    (pa_cons ha pa_nil he) cpos pins s σ H _ I ⟨H₀, Z₀, Z, δ, d, hh, e1, fun v Z1 H1 hh1 t1 r1 => ⟨rfl, Z1, hh1, t1⟩⟩
  rw [he] at one
  refine Calls.evalArgs_plain (wpAny_mono one (fun us s2 z => ?_) fun _ _ y => y)
  obtain ⟨vs, H1, I1, rv, hl, Z1, hh1, t1⟩ := z
  have lu : us.length = 1 := by rw [← rv.length]; exact hl
  refine ⟨rfl, by show us.length ≤ sizeLine; rw [lu]; decide, I1.bk _ _ hC, hN.keeps I1.bk, TL.keeps I1.bk, fun h' ex hmd => ?_⟩
  exact k pins σ H1 Z1 s2 _ _ hh1 t1 I1 (.made rfl F.nm rfl rfl hmd)
/-! ### a call that raises -/
noncomputable def spX (K : Fg) (g : List D → Option Str) : Sp := fun vs H _ E => ∃ Z as n, Same Z H ∧ Reps K Z vs as ∧ g as = some n ∧ ∀ C x Z' H', PySem.W.nsIn K mainGlobals n = some (some (.ref C)) → New Z H Z' H' → Z' x = some (exO x C) → E (.ref C) (some x) H'
structure CalX (P : Program) (w : World) (K : PySem.W.Frag) (mg : Str → Option Value) (base : Heap) (x : Str) (k : Nat) (g : List D → Option Str) (dd : List D) : Prop where
  ex : ∃ (fa : Addr) (fd : FuncData) (ps : List Str) (ds : List Value) (dv : List V), FnOk P w K mg base (CXX P w) k fa fd ps (spX K g) ∧ mg x = some (.ref fa) ∧ PySem.W.keepIn K (.ref fa) = true ∧ Binds K fd ps ds ∧ Vals dv ds ∧ ∀ Z, Reps K Z dv dd
theorem ex_def {k : Nat} {x : Str} {g : List D → Option Str} (Y : CalX X.prog X.w X.K X.mg X.base x k g []) (hr : Room k X.A) (hg : Gl X x) (ha : AV X (e :: es) fs) (hdb : (x == ("__debug__" : Str)) = false := by decide) (he : starEach (e :: es) X.env = (false, eval e X.env) :: starEach es X.env := by rfl)
    (hpl : (backTo pos (starEach es X.env)).any (·.1) = false := by rfl) : EX m X (.Call (.Name x p) (e :: es) [] pos) (osX fs g) := by
  obtain ⟨fa, fd, ps, ds, dv, F, hm, hk, hb, hd, hdd⟩ := Y.ex
  intro pins s σ H Q I h
  obtain ⟨H₀, Z₀, Z, δ, n, hh, e0, k⟩ := h
  obtain ⟨as, e1, e0⟩ := bind_some e0
  refine wpAny_Call_Name_kw (ld_glob I hg hm ?_ hdb)
  refine PySem.W.callWith_K (h₀ := X.base) I.ok.mod.kin hk (thn (ha pos pins s σ H (fun vs H1 => ∃ Z1, Hold X.K H₀ Z₀ Z1 δ σ H1 ∧ Same Z Z1 ∧ Reps X.K Z1 vs as) I ⟨H₀, Z₀, Z, δ, as, hh, e1, fun vs Z1 H1 hh1 t1 r1 => ⟨Z1, hh1, t1, r1⟩⟩) fun us s1 ⟨vs, H1, I1, r, Z1, hh1, t1, r1⟩ => ⟨I1.kIn, ?_⟩) he hpl
  have r2 : Vals (vs ++ dv) (us ++ ds) := r.append hd
  have sp : spX X.K g (vs ++ dv) H1 Q (fun c ox H2 => ∃ C xx Z2, c = .ref C ∧ ox = some xx ∧ PySem.W.nsIn X.K mainGlobals n = some (some (.ref C)) ∧ New Z1 H1 Z2 H2 ∧ Z2 xx = some (exO xx C)) := ⟨Z1, as ++ [], n, hh1.zh, r1.append (hdd Z1), by rw [List.append_nil]; exact e0, fun C xx Z2 H2 hC n2 h2 => ⟨C, xx, Z2, rfl, rfl, hC, n2, h2⟩⟩
  have hl : (us ++ ds).length = ps.length := by rw [← r2.length]; exact F.len _ _ _ _ sp
  refine wpAny_call (codeAny_mono (F.run X.A X.stack s1 H1 ⟨us, []⟩ (us ++ ds) (vs ++ dv) Q _ hr I1.env0 (hb s1 us I1.kIn hl) r2 sp) fun res s' hq => ?_)
  cases res with
  | error ee =>
    obtain ⟨xx, C', H2, rfl, T, C, xx', Z2, hC', hx', hC, n2, h2⟩ := hq
    cases hx'
    cases hC'
    exact k pins σ H1 Z1 s1 _ s' hh1 t1 I1 (.thrown hC rfl T n2 h2)
  | ok fl =>
    cases fl with
    | ret z => exact I1.after hq
    | next => exact False.elim hq
    | brk => exact False.elim hq
    | cont => exact False.elim hq
end
section
variable {P : Program} {w : World} {K : PySem.W.Frag} {mg : Str → Option Value} {base : Heap}
theorem fn_x {x qual : Str} {st : Stmt} {f : Addr} {fd : FuncData} {dV : Value} {N ps : List Str} {k : Nat} {fx : Xf} (F : FunV K x qual st f fd dV) (S : FnScope N ps (defScope st))
    (hb : ∀ (cdv : Value) (A : Around) (outer : List Env) (s : Shared) (H : Hp) (E : XK), Room k (A.deeper (envOfC qual (defScope st) s.heap.objs.size f cdv)) → BX true (cxOf (CXX P w) P w K mg base N qual (defScope st) f cdv A outer s H E) (defBody st) fx) :
    FnOk P w K mg base (CXX P w) (k + 1) f fd ps (spX K (runX N ps.length fx)) := by
  obtain ⟨oc, od, kV, doc, pm, an, cdv, ct, osl, rfl, lk, hcd⟩ := F.ex
  have some_of : ∀ {as : List D} {n : Str}, runX N ps.length fx as = some n → as.length = ps.length ∧ ∃ δ', fx (startD N as) = some (n, δ') := fun {as n} h => by
    unfold runX at h
    split at h
    · rename_i hl
      obtain ⟨⟨n', δ'⟩, e, h⟩ := bind_some h
      cases h
      exact ⟨hl, δ', e⟩
    · cases h
  refine fn_of lk hcd S (fun vs H Q E h => ?_) fun A outer s H vs Q E hr hsp => ?_
  · obtain ⟨Z, as, n, zh, r, e, _⟩ := h
    rw [r.length]
    exact (some_of e).1
  · refine ⟨_, hb cdv A outer s H E hr, ?_⟩
    obtain ⟨Z, as, n, zh, r, e, kk⟩ := hsp
    obtain ⟨_, δ', e2⟩ := some_of e
    have hh := hold_start (N := N) zh r
    refine ⟨H, Z, Z, _, (n, δ'), hh, e2, fun pins σ' H' Z' s1 ee s2 h' z' I fl => ?_⟩
    have nw : New Z H Z' H' := ⟨z', h'.h0, h'.zh, h'.zb⟩
    cases fl with
    | @made xx C' vs' _ hC' he hs hmd =>
      subst he
      exact leave_made I hs hmd h'.h0 fun hn => kk C' xx (upd Z' xx (exO xx C')) _ hC' (nw.trans (New.add h'.zh hn _)) upd_same
    | @thrown xx C' H2 Z2 hC' he T n2 hx =>
      subst he
      exact leave_on I T (kk C' xx Z2 H2 hC' (nw.trans n2) hx) (h'.h0.trans n2.h)
end
end VL

set_option Elab.async false
set_option linter.all false
set_option maxRecDepth 100000
set_option maxHeartbeats 4000000
namespace VL
open PySem PySem.Spec PyProof.Rows L2
/-! ### try: body except W as n: suite -/
/-- of two exceptions' classes the handler's one is asked -/
theorem exc_match {K : Fg} {n : Str} {M : Model} {A : Around} {E : Value → Shared → Prop} {s : Shared} {x C W : Addr} {o : Obj} {Q : Bool → Shared → Prop} (kin : K.In s.heap) (F : ExcC K n C) (FW : PySem.W.excIn K W vMro "ValueError.__new__" = true) (hs : PySem.W.subIn K (.ref C) (.ref W) = some true)
    (e : s.heap.get? x = some o) (c : o.cls = .ref C) (h : Q true s) : wpAny M A (excMatches (.ref x) (.ref W)) Q E s := by
  obtain ⟨mr, ns, nm, qn, bs, hd, sn, sub, ab, col, dd, a0, a1, a2, a3, a5, mN, hW, hN, hni, TL⟩ := exc_obj kin FW
  obtain ⟨hh, g, d, t, os⟩ := s
  have cB : (Value.ref W :: mr).contains (.type "BaseException") = true := by rw [List.contains_cons, TL.hasType (b := true) (by decide +kernel), Bool.or_true]
  have L := PySem.W.looks_subIn (M := M) kin hs
  have L0 := looks_ty (M := M) e c
  have nt := tc_notTuple
  unfold excMatches
  repeat (first | with_reducible refine L0.at ?_ | with_reducible refine L.at ?_ | with_reducible refine wpAny_loadPart_at hW ?_ | (with_reducible refine wpAny_isSubtype_exc hW ?_; rw [cB]) | wp_step)
  exact h
inductive HndL (K : Fg) (W : Addr) : List Str → Prop
  | nil : HndL K W []
  | cons {n : Str} {t : List Str} {C : Addr} : ExcC K n C → PySem.W.subIn K (.ref C) (.ref W) = some true → HndL K W t → HndL K W (n :: t)
theorem HndL.get {K : Fg} {W : Addr} {t : List Str} (h : HndL K W t) {n : Str} (e : t.contains n = true) : ∃ C, ExcC K n C ∧ PySem.W.subIn K (.ref C) (.ref W) = some true := by
  induction h with
  | nil => cases e
  | cons h1 h2 _ ih =>
    rw [List.contains_cons, Bool.or_eq_true] at e
    rcases e with e | e
    · have := eq_of_beq e; subst this; exact ⟨_, h1, h2⟩
    · exact ih e
structure Hnd (K : Fg) (W : Str) (ns : List Str) : Prop where
  ex : ∃ wC, PySem.W.nsIn K mainGlobals W = some (some (.ref wC)) ∧ PySem.W.excIn K wC vMro "ValueError.__new__" = true ∧ HndL K wC ns
/-- the exception's own record has changed, else nothing but slots of frames -/
theorem Thrown.move {P : Program} {w : World} {l : List Env} {H H2 : Hp} {s s2 : Shared} {x C : Addr} (T : Thrown P w l H s x C H2 s2) (hf : ∀ b ∈ frs l, ∃ o, s.heap.get? b = some o ∧ ∀ vs, o.data ≠ .fields vs) (hn : ∀ b ∈ frs l, H b = none) :
    ∃ B t, Heap.FlyingW B l x (.ref C) t s2.heap ∧ ∀ h' t', Heap.FlyingW B l x (.ref C) t' h' → s2.heap.UpToSlots h' → Thrown P w l H s x C H2 { s2 with heap := h' } := by
  obtain ⟨B, t, fl, hB1, hB2⟩ := T.fly
  refine ⟨B, t, fl, fun h' t' fl' sm => ?_⟩
  have slot : ∀ b o, s.heap.get? b = some o → H b = none → b ∈ frs l → ∃ sl, h'.get? b = some { o with slots := sl } := fun b o q n hb => by
    obtain ⟨sl2, e2⟩ := T.un.slot b o q n hb (fun z => nomatch z)
    obtain ⟨o', ho', hd⟩ := hf b hb
    rw [q] at ho'; cases ho'
    obtain ⟨sl3, e3⟩ := sm b _ e2 hd
    exact ⟨sl3, e3⟩
  refine ⟨T.os, T.bare, ⟨fun b o q n hb _ => fl'.1 b o (hB2 b o q n hb), fun b o q n hb _ => slot b o q n hb, fun b o q n z => T.un.free b o q n z, fun b o q _ => ?_, T.un.tups, T.un.frzs, T.un.tbls⟩, hok_fly (l := []) (t := t) T.hok T.is fl.1 fl' hB1, T.sm, T.is, ⟨B, t', fl', hB1, hB2⟩⟩
  cases q2 : H2 b with
  | some ho =>
    by_cases hb : b = x
    · subst hb; obtain ⟨ob, e1, _⟩ := fl'.there; exact ⟨ob, e1⟩
    · obtain ⟨ob, e1⟩ := hB1 b ho q2 hb; exact ⟨ob, fl'.1 b ob e1⟩
  | none =>
    have n : H b = none := by
      cases e : H b with
      | none => rfl
      | some z => rw [T.sm b z e] at q2; cases q2
    by_cases hb : b ∈ frs l
    · obtain ⟨sl, e⟩ := slot b o q n hb; exact ⟨_, e⟩
    · exact ⟨o, fl'.1 b o (hB2 b o q n hb)⟩
section
variable {X : Cx} {pins : List (Addr × Obj)} {σ : St} {H : Hp} {s : Shared}
/-- a name goes -/
theorem del_ok {M : Model} {A : Around} {E : Value → Shared → Prop} {i : Nat} {x : Str} {v : V} {Q : Unit → Shared → Prop} (I : Inv X pins σ H s) (hN : X.N.Nodup) (hi : X.N[i]? = some x) (hk : X.env.scope.names.lookup x = some .local) (hv : σ[i]? = some (some v))
    (h : ∀ s', Inv X pins (σ.set i none) H s' → Q () s') : wpAny M A (unbindName X.env x) Q E s := by
  obtain ⟨m, hn, hl⟩ := id I.loc
  have hcls : (X.env.scope.kind == .class || (X.env.scope.kind == .module && X.env.locals != X.env.globals)) = false := by rw [I.ok.kind]; rfl
  have hiσ : i < σ.length := by rw [I.len]; exact (List.getElem?_eq_some_iff.mp hi).1
  have cne := I.cne
  obtain ⟨u, rv, lk⟩ := hl i x v hi hv (.inl hk)
  have hmx : m x = some u := by
    rcases lk with ⟨_, q⟩ | ⟨q, _⟩
    · exact q
    · rcases q with q | q
      · rw [show X.env.kindOf x = some .local from hk] at q; cases q
      · rw [show X.env.kindOf x = some .local from hk] at q; cases q
  refine wpAny_unbindName_local hk hn hmx hcls fun h' u' hn' hs => ?_
  obtain ⟨oL, _, _, hoL, _⟩ := id hn
  have tracked : HOk X.prog X.w H h' := fun b ob e => by
    refine (I.hok b ob e).stay (fun c w' hc q => (hs.2 c ?_).trans q) (fun _ q => q) fun _ _ q => q
    rintro rfl
    rcases hc with z | hc
    · rw [← z, I.free] at e; cases e
    · rw [I.free] at hc; cases hc
  refine h _ ⟨I.ok, I.os, I.bare, ⟨fun b o e n hb hx => ?_, fun b o e n hb hx => ?_, I.base.free, fun b o e hx => ?_, I.base.tups, I.base.frzs, I.base.tbls⟩, ⟨_, hn', fun j y v' e1 e2 e3 => ?_⟩, fun y c e => ?_, I.free, I.freeC, fun p hp => ?_, tracked, by simpa using I.len⟩
  · exact (hs.2 b (Nat.ne_of_lt (Nat.lt_of_lt_of_le (Heap.lt_size e) I.ok.above))).trans (I.base.keep b o e n hb hx)
  · obtain ⟨sl, e1⟩ := I.base.slot b o e n hb hx
    exact ⟨sl, (hs.2 b (Nat.ne_of_lt (Nat.lt_of_lt_of_le (Heap.lt_size e) I.ok.above))).trans e1⟩
  · obtain ⟨o', e1⟩ := I.base.there b o e hx
    exact ⟨o', (hs.2 b (Nat.ne_of_lt (Nat.lt_of_lt_of_le (Heap.lt_size e) I.ok.above))).trans e1⟩
  · by_cases hj : j = i
    · subst hj
      rw [List.getElem?_set_self hiσ] at e2
      cases e2
    · rw [List.getElem?_set_ne (Ne.symm hj)] at e2
      obtain ⟨z', r', q⟩ := hl j y v' e1 e2 e3
      refine ⟨z', r', ?_⟩
      rcases q with ⟨k, e⟩ | ⟨k, c, e, z⟩
      · refine .inl ⟨k, ?_⟩
        have : y ≠ x := fun e => hj (nodup_ix hN e1 (e ▸ hi))
        simp [this, e]
      · exact .inr ⟨k, c, e, z.sameBut hs (cne y c e)⟩
  · obtain ⟨w', z⟩ := I.cell y c e
    exact ⟨w', z.sameBut hs (cne y c e)⟩
  · obtain ⟨e, n, ne, nf, d⟩ := I.pin p hp
    exact ⟨(hs.2 p.1 ne).trans e, n, ne, nf, d⟩
/-- behind an except suite: its name goes -/
theorem unb_ok {M : Model} {A : Around} {E : Value → Shared → Prop} {i : Nat} {x : Str} {pos : Pos} {Q : Unit → Shared → Prop} (I : Inv X pins σ H s) (hN : X.N.Nodup) (hi : X.N[i]? = some x) (hk : X.env.scope.names.lookup x = some .local)
    (h : ∀ s', Inv X pins (σ.set i none) H s' → Q () s') : wpAny M A (do bindName X.env x .none; unbindBehindTheSuite X.env x pos) Q E s := by
  have hiσ : i < σ.length := by rw [I.len]; exact (List.getElem?_eq_some_iff.mp hi).1
  refine wpAny_bind (wpAny_bindName (store_ok I hN hi (.inl hk) (v := .non) (u := .none) rfl (fun s1 I1 => ?_) (.inr hk)))
  unfold unbindBehindTheSuite
  refine wpAny_onRaise ?_
  refine del_ok (v := .non) I1 hN hi hk (List.getElem?_set_self hiσ) fun s2 I2 => ?_
  rw [List.set_set] at I2
  exact h s2 I2
end
theorem Hold.unset {K : Fg} {H₀ Z₀ Z H : Hp} {δ : Dv} {σ : St} (h : Hold K H₀ Z₀ Z δ σ H) (i : Nat) : Hold K H₀ Z₀ Z (δ.set i .un) (σ.set i none) H where
  zh := h.zh
  h0 := h.h0
  z0 := h.z0
  zb := h.zb
  len := by simp [h.len]
  fz := fun j e q => by
    by_cases hj : i = j
    · subst hj
      have hl : i < δ.length := by have := (List.getElem?_eq_some_iff.mp q).1; simpa using this
      rw [List.getElem?_set_self hl] at q
      cases q
    · rw [List.getElem?_set_ne hj] at q
      obtain ⟨u, a, b⟩ := h.fz j e q
      exact ⟨u, by rw [List.getElem?_set_ne hj]; exact a, b⟩
  ow := fun j es q => by
    by_cases hj : i = j
    · subst hj
      have hl : i < δ.length := by have := (List.getElem?_eq_some_iff.mp q).1; simpa using this
      rw [List.getElem?_set_self hl] at q
      cases q
    · rw [List.getElem?_set_ne hj] at q ⊢
      exact h.ow j es q
  dj := fun j k ds es a hjk q1 q2 => by
    have f : ∀ {m : Nat} {ds : List D}, (δ.set i .un)[m]? = some (.ow ds) → i ≠ m ∧ δ[m]? = some (.ow ds) := fun {m ds} q => by
      by_cases hm : i = m
      · subst hm
        have hl : i < δ.length := by have := (List.getElem?_eq_some_iff.mp q).1; simpa using this
        rw [List.getElem?_set_self hl] at q
        cases q
      · rw [List.getElem?_set_ne hm] at q; exact ⟨hm, q⟩
    obtain ⟨a1, b1⟩ := f q1
    obtain ⟨a2, b2⟩ := f q2
    rw [List.getElem?_set_ne a1, List.getElem?_set_ne a2]
    exact h.dj j k ds es a hjk b1 b2
/-- the context of a try's body, of an except suite -/
noncomputable abbrev cxT (X : Cx) (pn : List (Addr × Obj)) (E : Value → Shared → Prop) : Cx := { X with pn := pn, xe := E }
noncomputable abbrev cxH (X : Cx) (x : Addr) : Cx := { X with A := X.A.mark (some (.ref x)), calm := false, xe := fun _ _ => False }
theorem Inv.toT {X : Cx} {pins : List (Addr × Obj)} {σ : St} {H : Hp} {s : Shared} (I : Inv X pins σ H s) (E : Value → Shared → Prop) : Inv (cxT X (X.pn ++ pins) E) [] σ H s :=
  ⟨⟨I.ok.mod, I.ok.kind, I.ok.glob, I.ok.blt, I.ok.above, I.ok.inj, I.ok.has, I.ok.cab, I.ok.hd, I.ok.frames, I.ok.stk, I.ok.exf, I.ok.bs, I.ok.bsz, I.ok.noex, I.ok.exfs, I.ok.funs, I.ok.frf⟩, I.os, I.bare, I.base, I.loc, I.cell, I.free, I.freeC, fun p hp => I.pin p (by simpa using hp), I.hok, I.len⟩
theorem Inv.ofT {X : Cx} {pins pins' : List (Addr × Obj)} {σ : St} {H : Hp} {s : Shared} {E : Value → Shared → Prop} (I : Inv (cxT X (X.pn ++ pins) E) pins' σ H s) : Inv X pins σ H s :=
  ⟨⟨I.ok.mod, I.ok.kind, I.ok.glob, I.ok.blt, I.ok.above, I.ok.inj, I.ok.has, I.ok.cab, I.ok.hd, I.ok.frames, I.ok.stk, I.ok.exf, I.ok.bs, I.ok.bsz, I.ok.noex, I.ok.exfs, I.ok.funs, I.ok.frf⟩, I.os, I.bare, I.base, I.loc, I.cell, I.free, I.freeC, fun p hp => I.pin p (List.mem_append_left _ hp), I.hok, I.len⟩
theorem Inv.toH {X : Cx} {pins : List (Addr × Obj)} {σ : St} {H : Hp} {s : Shared} (I : Inv X pins σ H s) (x : Addr) : Inv (cxH X x) pins σ H s :=
  ⟨⟨I.ok.mod, I.ok.kind, I.ok.glob, I.ok.blt, I.ok.above, I.ok.inj, I.ok.has, I.ok.cab, (fun z => (nomatch z)), I.ok.frames, I.ok.stk, I.ok.exf, I.ok.bs, I.ok.bsz, I.ok.noex, I.ok.exfs, I.ok.funs, I.ok.frf⟩, I.os, I.bare, I.base, I.loc, I.cell, I.free, I.freeC, I.pin, I.hok, I.len⟩
theorem Inv.ofH {X : Cx} {pins : List (Addr × Obj)} {σ : St} {H : Hp} {s : Shared} {x : Addr} (hc : X.A.handled = none) (I : Inv (cxH X x) pins σ H s) : Inv X pins σ H s :=
  ⟨⟨I.ok.mod, I.ok.kind, I.ok.glob, I.ok.blt, I.ok.above, I.ok.inj, I.ok.has, I.ok.cab, fun _ => hc, I.ok.frames, I.ok.stk, I.ok.exf, I.ok.bs, I.ok.bsz, I.ok.noex, I.ok.exfs, I.ok.funs, I.ok.frf⟩, I.os, I.bare, I.base, I.loc, I.cell, I.free, I.freeC, I.pin, I.hok, I.len⟩
section
variable {X : Cx} {body suite : List Stmt} {b₀ : Stmt} {b bs : Sf} {bx : Xf} {np hpos pos : Pos}
theorem sv_try (i : Nat) {n W : Str} {ns : List Str} (O : Hnd X.K W ns) (hgW : Gl X W) (hN : X.N.Nodup) (hi : X.N[i]? = some n) (hloc : X.env.scope.names.lookup n = some .local) (hcalm : X.calm = true) (hstk : X.stack = X.env :: X.outer)
    (hb : BV X.nox body b) (hx : ∀ pn E', BX false (cxT X pn E') body bx) (hs : ∀ x, BV (cxH X x) (b₀ :: suite) bs) (hfrm : X.env.frame = some X.env.locals := by rfl) (hdb : (W == ("__debug__" : Str)) = false := by decide) :
    SV X (.Try body [.ExceptHandler (some (.Name W np)) (some n) (b₀ :: suite) hpos] [] [] pos) (sTry i ns b bx bs) := by
  intro pins s σ H D I h
  obtain ⟨H₀, Z₀, Z, δ, r, hh, e, k⟩ := h
  unfold sTry at e
  cases hbx : bx δ with
  | none =>
    rw [hbx] at e
    refine wpAny_Try_except (wpAny_mono (hb pins s σ H D (I.wish _) ⟨H₀, Z₀, Z, δ, r, hh, e, k⟩) (fun f s1 q => ?_) fun _ _ z => False.elim z)
    have q := q.unwish
    cases f with
    | next => exact wpAny_execs_nil q
    | brk => exact q
    | cont => exact q
    | ret u => exact q
  | some pr =>
    obtain ⟨nm, δ'⟩ := pr
    rw [hbx] at e
    dsimp only at e
    split at e
    rotate_left
    · cases e
    rename_i hcn
    obtain ⟨⟨fl, δ2⟩, e2, e⟩ := bind_some e
    cases e
    obtain ⟨wC, hW, FW, L⟩ := O.ex
    obtain ⟨C, F, hsub⟩ := L.get hcn
    have hhd := I.ok.hd hcalm
    refine wpAny_Try_except (wpAny_mono (hx (X.pn ++ pins) _ [] s σ H ⟨fun _ _ => False, fun _ _ => False, fun _ _ => False, fun _ _ => False⟩ (Inv.toT I _) ⟨H₀, Z₀, Z, δ, (nm, δ'), hh, hbx, ?_⟩) (fun f s1 q => ?_) fun _ _ z => z)
    rotate_left
    · cases f with
      | next => obtain ⟨_, _, _, q⟩ := q; exact q.elim
      | brk => obtain ⟨_, _, _, q⟩ := q; exact q.elim
      | cont => obtain ⟨_, _, _, q⟩ := q; exact q.elim
      | ret u => obtain ⟨_, _, _, _, _, q⟩ := q; exact q.elim
    intro pins' σ' H' Z' s1 e1 s2 hh' sm I1 fg
    cases fg with
    | made hm _ _ _ _ => cases hm
    | @thrown x C' H2 Z2 hC' he T nw hx2 =>
      subst he
      have : C' = C := by have := hC'.symm.trans F.nm; simpa using this
      subst this
      have I1 : Inv X pins σ' H' s1 := Inv.ofT I1
      have T : Thrown X.prog X.w X.stack H' s1 x C' H2 s2 := T
      have ff : ∀ b ∈ frs X.stack, ∃ o, s1.heap.get? b = some o ∧ ∀ vs, o.data ≠ .fields vs := fun b hb => (I1.stack.mem hb).2
      obtain ⟨B, t, fl0, mv⟩ := T.move ff I1.stkFree
      have fl1 := fl0
      rw [hstk] at fl1
      refine wpAny_looks_onW (by rw [I1.ok.frames, hstk]) hfrm fl1 fun h4 held4 sm4 => ?_
      refine wpAny_landsW held4 fun h5 fl5 sm5 => ?_
      have fl5' := fl5
      rw [← hstk] at fl5'
      have T5 := mv h5 t fl5' (sm4.trans sm5)
      have I5 : Inv X pins σ' H2 { s2 with heap := h5 } := I1.call' T5.os T5.un T5.hok T5.bare (fun _ z => nomatch z)
      have hmW := PySem.W.mg_of I.ok.mod.kin I.ok.mod.glob hW
      refine wpAny_handleBy_cons (codeAny_handlers_test (ld_glob (X := cxH X x) (Inv.toH I5 x) hgW hmW ?_ hdb)) (by intro q; cases q)
      obtain ⟨oe, hoe, hoec⟩ := fl5.there
      refine exc_match I5.kIn F FW hsub hoe hoec (codeAny_handlers_suite_as ?_)
      refine lands_againW fl5 fun h6 fl6 sm6 => ?_
      have fl6' := fl6
      rw [← hstk] at fl6'
      have T6 := mv h6 t fl6' ((sm4.trans sm5).trans sm6)
      have I6 : Inv X pins σ' H2 { s2 with heap := h6 } := I1.call' T6.os T6.un T6.hok T6.bare (fun _ z => nomatch z)
      refine store_ok (X := cxH X x) (v := .ref x) (u := .ref x) (Inv.toH I6 x) hN hi (.inl hloc) rfl (fun s7 I7 => ?_) (.inr hloc)
      have hh7 : Hold X.K H₀ Z₀ Z2 (δ'.set i (.fz (exD nm))) (σ'.set i (some (.ref x))) H2 := (hh'.new nw).set (.opq (.exc hC' hx2))
      refine wpAny_mono (hs x pins s7 _ H2 ⟨fun σ8 H8 => D.nx (σ8.set i none) H8, D.rt, fun σ8 H8 => D.bk (σ8.set i none) H8, fun σ8 H8 => D.ct (σ8.set i none) H8⟩ I7 ⟨H₀, Z₀, Z2, _, (fl, δ2), hh7, e2, fun σ8 H8 Z8 hh8 t8 => ?_⟩) (fun f s8 q => ?_) fun _ _ z => False.elim z
      · have := k (σ8.set i none) H8 Z8 (hh8.unset i) ((sm.trans nw.z).trans t8)
        cases fl <;> exact this
      · cases f with
        | next =>
          obtain ⟨σ8, H8, I8, q⟩ := q
          exact unb_ok (Inv.ofH hhd I8) hN hi hloc fun s9 I9 => ⟨_, H8, I9, q⟩
        | brk =>
          obtain ⟨σ8, H8, I8, q⟩ := q
          exact unb_ok (Inv.ofH hhd I8) hN hi hloc fun s9 I9 => ⟨_, H8, I9, q⟩
        | cont =>
          obtain ⟨σ8, H8, I8, q⟩ := q
          exact unb_ok (Inv.ofH hhd I8) hN hi hloc fun s9 I9 => ⟨_, H8, I9, q⟩
        | ret u =>
          obtain ⟨v, σ8, H8, I8, rv, q⟩ := q
          exact unb_ok (Inv.ofH hhd I8) hN hi hloc fun s9 I9 => ⟨v, _, H8, I9, rv, q⟩
end
end VL

set_option Elab.async false
set_option linter.all false
set_option maxRecDepth 100000
set_option maxHeartbeats 4000000
namespace VL
open PySem PySem.Spec PyProof.Rows L2
/-! ### a test that looks at the one list of one's own -/
--PURE
noncomputable def isOw : Sl → Bool
  | .ow _ => true
  | _ => false
@[simp] theorem isOw_fz (d : D) : isOw (.fz d) = false := rfl
@[simp] theorem isOw_un : isOw .un = false := rfl
noncomputable def sole : Nat → Dv → Bool
  | _, [] => true
  | 0, _ :: r => r.all fun s => !isOw s
  | n + 1, s :: r => !isOw s && sole n r
@[simp] theorem sole_nil (n : Nat) : sole n [] = true := by cases n <;> rfl
@[simp] theorem sole_zero (s : Sl) (r : Dv) : sole 0 (s :: r) = r.all fun s => !isOw s := rfl
@[simp] theorem sole_succ (n : Nat) (s : Sl) (r : Dv) : sole (n + 1) (s :: r) = (!isOw s && sole n r) := rfl
noncomputable def oPeek (i : Nat) (ft : Dv → Option Bool) : Dv → Option Bool := fun δ => if sole i δ = true then ft (dFz i δ) else none
--END
theorem sole_get : ∀ (i : Nat) (δ : Dv), sole i δ = true → ∀ (j : Nat) (ds : List D), δ[j]? = some (.ow ds) → j = i
  | _, [], _, j, ds, e => by simp at e
  | 0, s :: r, h, 0, ds, e => rfl
  | 0, s :: r, h, j + 1, ds, e => by
    have := List.all_eq_true.mp h (.ow ds) (List.mem_of_getElem? (by simpa using e))
    cases this
  | i + 1, s :: r, h, 0, ds, e => by
    have h := (Bool.and_eq_true_iff.mp h).1
    have e : s = .ow ds := by simpa using e
    subst e; cases h
  | i + 1, s :: r, h, j + 1, ds, e => congrArg (· + 1) (sole_get i r (Bool.and_eq_true_iff.mp h).2 j ds (by simpa using e))
theorem tv_peek {X : Cx} {e : Expr} {ft : Dv → Option Bool} (i : Nat) (h : TV X e ft) : TV X e (oPeek i ft) :=
  PT.imp h fun σ H Q q => by
    obtain ⟨H₀, Z₀, Z, δ, b, hh, e, k⟩ := q
    unfold oPeek at e
    split at e
    rotate_left
    · cases e
    rename_i hso
    unfold dFz at e
    split at e
    · rename_i ds q
      obtain ⟨a, xs, h1, h2, h3, h4, h5⟩ := hh.ow i ds q
      have hl : i < δ.length := (List.getElem?_eq_some_iff.mp q).1
      have sz : Same Z (upd Z a (.lst xs)) := same_upd h3
      have hh1 : Hold X.K H₀ Z₀ (upd Z a (.lst xs)) (δ.set i (.fz (.list ds))) σ H := by
        refine ⟨fun b o q => ?_, hh.h0, hh.z0.trans sz, fun b hb => ?_, by simp [hh.len], fun j d q => ?_, fun j d q => ?_, fun j k d1 d2 b hjk q1 q2 => ?_⟩
        · by_cases hb : b = a
          · subst hb; rw [upd_same] at q; cases q; exact h4
          · rw [upd_ne hb] at q; exact hh.zh b o q
        · rw [upd_ne (fun z => hb (by rw [z]; exact h2))]; exact hh.zb b hb
        · by_cases hj : i = j
          · subst hj
            rw [List.getElem?_set_self hl] at q
            cases q
            exact ⟨.ref a, h1, .lst (SqL.of upd_same) (h5.same sz)⟩
          · rw [List.getElem?_set_ne hj] at q
            obtain ⟨v, g1, g2⟩ := hh.fz j d q
            exact ⟨v, g1, g2.same sz⟩
        · by_cases hj : i = j
          · subst hj
            rw [List.getElem?_set_self hl] at q
            cases q
          · rw [List.getElem?_set_ne hj] at q
            obtain ⟨b, ws, g1, g2, g3, g4, g5⟩ := hh.ow j d q
            have : b ≠ a := fun z => by subst z; rename_i q0; exact hh.dj i j ds d b hj q0 q h1 g1
            exact ⟨b, ws, g1, g2, by rw [upd_ne this]; exact g3, g4, g5.same sz⟩
        · by_cases hj : i = j
          · subst hj
            rw [List.getElem?_set_self hl] at q1
            cases q1
          · by_cases hk : i = k
            · subst hk
              rw [List.getElem?_set_self hl] at q2
              cases q2
            · rw [List.getElem?_set_ne hj] at q1
              rw [List.getElem?_set_ne hk] at q2
              exact hh.dj j k d1 d2 b hjk q1 q2
      refine ⟨H₀, Z₀, _, _, b, hh1, e, fun Z2 H2 hh2 t2 => ?_⟩
      have zl : Same Z (fun c => if c = a then none else Z2 c) := fun c o q => by
        have hc : c ≠ a := ne_of_none q h3
        show (if c = a then none else Z2 c) = some o
        rw [if_neg hc]
        exact t2 c o (sz c o q)
      have back : Hold X.K H₀ Z₀ (fun c => if c = a then none else Z2 c) δ σ H2 := by
        refine ⟨fun b o q => ?_, hh2.h0, hh.z0.trans zl, fun b hb => ?_, hh.len, fun j d q => ?_, fun j d q => ?_, hh.dj⟩
        · have q : (if b = a then none else Z2 b) = some o := q
          split at q
          · cases q
          · exact hh2.zh b o q
        · show (if b = a then none else Z2 b) = _
          rw [if_neg (fun z => hb (by rw [z]; exact h2))]
          exact hh2.zb b hb
        · obtain ⟨v, g1, g2⟩ := hh.fz j d q
          exact ⟨v, g1, g2.same zl⟩
        · by_cases hj : i = j
          · subst hj
            rename_i q0
            rw [q0] at q
            cases q
            refine ⟨a, xs, h1, h2, by simp, hh2.zh a _ (t2 a _ upd_same), h5.same zl⟩
          · exact absurd (sole_get i δ hso j d q) (Ne.symm hj)
      exact k _ H2 back zl
    · exact ⟨H₀, Z₀, Z, _, b, hh, e, k⟩
end VL

set_option Elab.async false
set_option linter.all false
set_option maxRecDepth 100000
set_option maxHeartbeats 4000000
namespace VL
open PySem PySem.Spec PyProof.Rows L2
/-! ### xs.count(x), xs.index(x) of flat items -/
--PURE
@[simp] noncomputable def xThen (f : Dv → Option D) (u : Dv → Option Str) : Dv → Option Str := fun δ => (f δ).bind fun _ => u δ
--END
section
variable {X : Cx} {a b : Expr} {f1 f2 : Dv → Option D} {pos apos : Pos}
/-! ### what raises within a tuple's display -/
variable {m : Bool} {e : Expr} {es : List Expr} {f : Dv → Option D} {fx : Dv → Option Str} {x1 : Nat}
end
end VL

set_option Elab.async false
set_option linter.all false
set_option maxRecDepth 100000
set_option maxHeartbeats 4000000
namespace VL
open PySem PySem.Spec PyProof.Rows L2
/-! ### defs of the text as values -/
--PURE
/-- x.extend(a list) -/
@[simp] noncomputable def sExtL (i : Nat) (f : Dv → Option D) : Sf := fun δ => (f δ).bind fun v => (lstI v).bind fun es => (slO δ[i]?).bind fun ds => if ds.length + es.length ≤ sizeLine then some (.nx, δ.set i (.ow (ds ++ es))) else none
--END
/-- a def of the text under its name -/
structure CalF (P : Program) (w : World) (K : PySem.W.Frag) (mg : Str → Option Value) (base : Heap) (x : Str) (k : Nat) (g : List D → Option D) : Prop where
  ex : ∃ (fa : Addr) (fd : FuncData) (ps : List Str), FnOk P w K mg base CX0 k fa fd ps (spD K g) ∧ PySem.W.nsIn K mainGlobals x = some (some (.ref fa)) ∧ mg x = some (.ref fa) ∧ PySem.W.keepIn K (.ref fa) = true ∧ Binds K fd ps []
structure Fnm (K : PySem.W.Frag) (mg : Str → Option Value) (x : Str) : Prop where
  ex : ∃ fa, PySem.W.nsIn K mainGlobals x = some (some (.ref fa)) ∧ mg x = some (.ref fa)
section
variable {X : Cx} {e : Expr} {es : List Expr} {p pos : Pos} {fs : Dv → Option (List D)}
end
section
variable {X : Cx}
end
section
variable {X : Cx} {e : Expr} {f : Dv → Option D} {p pos apos : Pos}
end
/-- a comprehension that takes nothing from around it -/
theorem BlkOk.none {on : List (Str × NameKind)} {ON : List Str} {scope : Scope} {vars : List Str} (hk : scope.kind = .function) (hc : ∀ y ∈ scope.names, y.2 ≠ .cell) (hn : ∀ y ∈ scope.names, y.2 = .local → scope.names.lookup y.1 = some .local) (hf : ∀ y ∈ scope.names, y.2 ≠ .free) : BlkOk on ON scope vars [] :=
  ⟨hk, hc, hn, fun y hy e => absurd e (hf y hy), fun p hp => (nomatch hp)⟩
end VL

set_option Elab.async false
set_option linter.all false
set_option maxRecDepth 100000
set_option maxHeartbeats 4000000
namespace VL
open PySem PySem.Spec PyProof.Rows L2
/-! ### a list times an int -/
--PURE
noncomputable def mulL : D → D → Option D
  | .list xs, .int k => if -(2 ^ 63) ≤ k ∧ k < 2 ^ 63 ∧ xs.length * k.toNat ≤ 16777216 then some (.list (List.replicate k.toNat xs).flatten) else none
  | _, _ => none
theorem mulL_eq {xs : List D} {k : Int} (h1 : -9223372036854775808 ≤ k) (h2 : k < 9223372036854775808) (h3 : xs.length * k.toNat ≤ 16777216) : mulL (.list xs) (.int k) = some (.list (List.replicate k.toNat xs).flatten) := if_pos ⟨h1, h2, h3⟩
--END
theorem Reps.rep {K : Fg} {Z : Hp} {xs : List V} {us : List D} (h : Reps K Z xs us) : ∀ k : Nat, Reps K Z (List.replicate k xs).flatten (List.replicate k us).flatten
  | 0 => .nil
  | k + 1 => by
    rw [List.replicate_succ, List.replicate_succ, List.flatten_cons, List.flatten_cons]
    exact h.append (Reps.rep h k)
theorem mulW (l : Addr) (items : Array Value) (n : Nat) (sl : Array (Option Value)) (x : Int) (u : Tok) (hc0 : ¬(!Builtin.List.listFitsIndex x) = true) (hc1 : ¬items.size * x.toNat > (2 ^ 63 - 1) / 8) (hc2 : ¬Builtin.List.listTooLong (items.size * x.toNat) = true) :
    Meets (Builtin.«list.__mul__» ⟨[.ref l, .int x u], []⟩) (fun _ R s => s.heap.get? l = some { cls := .type "list", dict := none, data := .seq items n, slots := sl } ∧ R (.ok (.ret (Value.ref s.heap.objs.size))) { s with heap := s.heap.push { cls := Value.type "list", data := Data.seq (List.foldl (fun x1 x2 => x1 ++ x2) #[] (List.replicate (if items.isEmpty = true then 0 else x.toNat) items)) }, toks := s.toks }) :=
  .of_wp fun prog w A R s h => by
    obtain ⟨hp, g, d, tk, os⟩ := s; obtain ⟨hl, h⟩ := h
    have hsz := AutoListH.joined_fits hc2
    wp_walk; refine wpAny_ite_false (decide_eq_false (Nat.not_lt.mpr hsz)) ?_; wp_walk; exact ⟨_, rfl, h⟩
theorem rmulW (a : Int) (t : Tok) (l : Addr) (items : Array Value) (n : Nat) (sl : Array (Option Value)) :
    Meets (Builtin.«int.__rmul__» ⟨[.int a t, .ref l], []⟩) (fun _ R s => s.heap.get? l = some { cls := .type "list", dict := none, data := .seq items n, slots := sl } ∧ R (.ok (.ret Value.notImplemented)) s) :=
  .of_wp fun prog w A R s h => by obtain ⟨hp, g, d, tk, os⟩ := s; obtain ⟨hl, h⟩ := h; wp_walk; exact ⟨_, rfl, h⟩
section
variable {X : Cx}
/-- an operation whose value is a list of one's own -/
noncomputable def rO (K : Fg) (g : D → D → Option D) : R2 := fun x y H Q => ∃ Z a b ds, Same Z H ∧ Rep K Z x a ∧ Rep K Z y b ∧ g a b = some (.list ds) ∧ ∀ p vs, H p = none → Reps K Z vs ds → Q (.ref p) (upd H p (.lst vs))
theorem mulL_ex {a b : D} {es : List D} (h : mulL a b = some (.list es)) : ∃ ds k, a = .list ds ∧ b = .int k ∧ (-(2 ^ 63) ≤ k ∧ k < 2 ^ 63 ∧ ds.length * k.toNat ≤ 16777216) ∧ (List.replicate k.toNat ds).flatten = es := by
  cases a with
  | list xs =>
    cases b with
    | int i => obtain ⟨p, q⟩ := ite_some h; exact ⟨_, _, rfl, rfl, p, PyData.list.inj q⟩
    | _ => cases h
  | _ => cases h
theorem d_mulO : OpR X (binaryOp .Mult) (rO X.K mulL) := by
  intro pins s σ H x y v u Q I rx ry q
  obtain ⟨Z, a, b, d, zh, ra, rb, e, kk⟩ := q
  obtain ⟨ds, k, rfl, rfl, hl, rfl⟩ := mulL_ex e
  obtain ⟨a, xs, rfl, h1, q1⟩ := ra.lst_ex
  cases rb.int_eq
  obtain ⟨h63, h63', hz⟩ := hl
  cases rx
  obtain ⟨t, rfl⟩ := ry
  obtain ⟨its, r1, p1, z1⟩ := I.list (SqL.same h1 zh)
  obtain ⟨⟨cls, dd, data, sl⟩, n1, ho, hc, hdd, hd⟩ := p1
  simp only at hc hd hdd
  subst hc hd hdd
  have hl1 := r1.length
  have ql1 := q1.length
  have hlen : its.toArray.size * k.toNat ≤ sizeLine := by rw [List.size_toArray, ← hl1, ql1]; exact hz
  have hcap : ¬ its.toArray.size * k.toNat > (2 ^ 63 - 1) / 8 := by
    have : (sizeLine : Nat) ≤ (2 ^ 63 - 1) / 8 := by decide
    lia
  have hfit : ¬ (!Builtin.List.listFitsIndex k) = true := by
    rw [fitsIndex_both h63 h63']
    exact Bool.false_ne_true
  have hlong : ¬ Builtin.List.listTooLong (its.toArray.size * k.toNat) = true := by
    rw [notLongL hlen]
    exact Bool.false_ne_true
  have hnew : List.foldl (fun x1 x2 => x1 ++ x2) #[] (List.replicate (if its.toArray.isEmpty = true then 0 else k.toNat) its.toArray) = (List.replicate k.toNat its).flatten.toArray := by
    have f0 : ∀ m : Nat, List.foldl (fun x1 x2 => x1 ++ x2) #[] (List.replicate m its.toArray) = (List.replicate m its).flatten.toArray := fun m => by
      have := foldl_rep its m []
      rw [List.nil_append] at this
      exact this
    rw [f0]
    cases its with
    | nil => simp
    | cons a r' => rw [if_neg (by simp)]
  refine wpAny_binaryOp_repeat_ref (T := "list") (U := "int") (by decide) ⟨_, ho, rfl⟩ (fun s' => typeIs_int s' k t) noFill_list_mul F.fills_int_mul F.slot_int_rmul repeat_list F.slot_int_index.lookup
    (call_meets F.slot_int_rmul (typeIs_int s k t) F.entry_int_rmul (F.args_int_rmul_2 _ _) (rmulW k t a its.toArray n1 sl)
      ⟨ho, rfl, ⟨_, ho, rfl⟩, call_meets F.slot_list_mul ⟨_, ho, rfl⟩ F.entry_list_mul (F.args_list_mul_2 _ _) (mulW a its.toArray n1 sl k t hfit hcap hlong) ⟨ho, ?_⟩⟩)
  rw [hnew]
  exact ⟨.ref _, _, I.lnew (t' := s.toks) (r1.rep k.toNat) (by rw [len_rep, Nat.mul_comm, ql1]; exact hz), rfl, kk _ _ I.fresh (Reps.rep q1 k.toNat)⟩
theorem mulL_lst {a b d : D} (h : mulL a b = some d) : ∃ ds, d = .list ds := by
  unfold mulL at h
  split at h
  · split at h
    · cases h; exact ⟨_, rfl⟩
    · cases h
  · cases h
variable {a b : Expr} {pos : Pos} {f1 f2 : Dv → Option D}
theorem eo_mul (ha : EV X a f1) (hb : EV X b f2) : EO X (.BinOp a .Mult b pos) (oLi (o2 f1 f2 mulL)) :=
  PE.imp (pe_op d_mulO ha hb) fun σ H Q h => by
    obtain ⟨H₀, Z₀, Z, δ, ds, hh, e, k⟩ := h
    obtain ⟨d, e, e3⟩ := bind_some e
    obtain ⟨x, e1, e⟩ := bind_some e
    obtain ⟨y, e2, e⟩ := bind_some e
    obtain ⟨es, rfl⟩ := mulL_lst e
    cases e3
    exact ⟨H₀, Z₀, Z, δ, x, hh, e1, fun v Z1 H1 hh1 s1 r1 => ⟨H₀, Z₀, Z1, δ, y, hh1, e2, fun u Z2 H2 hh2 s2 r2 => ⟨Z2, x, y, _, hh2.zh, r1.same s2, r2, e, fun p vs hp r => k p vs Z2 H2 hh2 (s1.trans s2) hp r⟩⟩⟩
end
end VL

set_option Elab.async false
set_option linter.all false
set_option maxRecDepth 100000
set_option maxHeartbeats 4000000
namespace VL
open PySem PySem.Spec PyProof.Rows L2
/-! ### a comprehension whose variable another comprehension within it takes along -/
structure BlkOkC (on : List (Str × NameKind)) (ON : List Str) (scope : Scope) (m : Str) (vars : List Str) (caps : List (Nat × Str)) : Prop where
  kind : scope.kind = .function
  one : (scope.names.filter fun y => y.2 == NameKind.cell) = [(m, NameKind.cell)]
  names : ∀ y ∈ scope.names, y.2 = .local → scope.names.lookup y.1 = some .local
  free : ∀ y ∈ scope.names, y.2 = .free → on.lookup y.1 = some .cell ∨ on.lookup y.1 = some .free
  cap : ∀ p ∈ caps, ON[p.1]? = some p.2 ∧ scope.names.lookup p.2 = some .free
  mc : scope.names.lookup m = some .cell
section
variable {X : Cx} {pins : List (Addr × Obj)} {σ : St} {H H' : Hp} {s s' : Shared} {scope : Scope} {m : Str} {vars : List Str} {caps : List (Nat × Str)} {fp : List Addr} {C : Addr}
theorem BlkOkC.cells (B : BlkOkC X.env.scope.names X.N scope m vars caps) (I : Inv X pins σ H s) : ∀ y ∈ scope.names, y.2 = .free → ∃ c, X.env.cells.lookup y.1 = some c := fun y hy e => I.ok.has y.1 (B.free y hy e)
end
section
variable {X : Cx} {scope : Scope} {m : Str} {vars : List Str} {caps : List (Nat × Str)} {elt tg iter : Expr} {pos : Pos} {wi : TI} {g : TG} {te : TE}
end
section
variable {X : Cx} {scope : Scope} {m : Str} {vars : List Str} {caps : List (Nat × Str)} {elt tg iter : Expr} {pos : Pos} {g : TG} {fi : Dv → Option (List D)} {fe : Dv → Option D} {bv : D → Option (List D)}
end
end VL

set_option Elab.async false
set_option linter.all false
set_option maxRecDepth 100000
set_option maxHeartbeats 4000000
namespace VL
open PySem PySem.Spec PyProof.Rows L2
/-! ### a def that tells a new list -/
noncomputable def spO (K : Fg) (g : List D → Option D) : Sp := fun vs H Q _ => ∃ Z as ds, Same Z H ∧ Reps K Z vs as ∧ g as = some (.list ds) ∧ ∀ p us Z' H', New Z H Z' H' → H' p = none → Reps K Z' us ds → Q (.ref p) (upd H' p (.lst us))
noncomputable def tNO (K : Fg) (f : Dv → Option (List D)) : TS := fun D σ H => ∃ H₀ Z₀ Z δ ds, Hold K H₀ Z₀ Z δ σ H ∧ f δ = some ds ∧ ∀ σ' H' Z' δ' p us, Hold K H₀ Z₀ Z' δ' σ' H' → Same Z Z' → H' p = none → Reps K Z' us ds → D.rt (.ref p) (upd H' p (.lst us))
noncomputable def BO (X : Cx) (sts : List Stmt) (f : Dv → Option (List D)) : Prop := PSs X sts (tNO X.K f)
noncomputable def sqO (s : Sf) (f : Dv → Option (List D)) : Dv → Option (List D) := fun δ => (s δ).bind fun r => match r.1 with
  | .nx => f r.2
  | _ => none
/-- a statement that always goes on -/
noncomputable def Nxt (s : Sf) : Prop := ∀ δ r, s δ = some r → r.1 = .nx
theorem nxt_set (i : Nat) (f : Dv → Option D) : Nxt (sSet i f) := fun δ r h => by
  obtain ⟨x, _, h⟩ := bind_some h
  cases h; rfl
section
variable {X : Cx} {e : Expr} {es : List Expr} {p pos : Pos} {st : Stmt} {sts : List Stmt} {f : Dv → Option (List D)} {fs : Dv → Option (List D)} {s : Sf}
theorem bo_cons (h1 : SV X st s) (hn : Nxt s) (h2 : BO X sts f) : BO X (st :: sts) (sqO s f) :=
  PSs.imp (pss_cons h1 h2) fun D σ H h => by
    obtain ⟨H₀, Z₀, Z, δ, ds, hh, e, k⟩ := h
    obtain ⟨⟨fl, δ'⟩, e1, e⟩ := bind_some e
    have hf : fl = .nx := hn δ _ e1
    subst hf
    refine ⟨H₀, Z₀, Z, δ, (.nx, δ'), hh, e1, fun σ' H' Z' hh' t' => ?_⟩
    exact ⟨H₀, Z₀, Z', δ', ds, hh', e, fun σ2 H2 Z2 δ2 p us hh2 t2 hp ru => k σ2 H2 Z2 δ2 p us hh2 (t'.trans t2) hp ru⟩
end
section
variable {P : Program} {w : World} {K : PySem.W.Frag} {mg : Str → Option Value} {base : Heap}
theorem fn_bO {x qual : Str} {st : Stmt} {f : Addr} {fd : FuncData} {dV : Value} {N ps : List Str} {k : Nat} {g : List D → Option D} {b : Dv → Option (List D)} (F : FunV K x qual st f fd dV) (S : FnScope N ps (defScope st))
    (hb : ∀ (cdv : Value) (A : Around) (outer : List Env) (s : Shared) (H : Hp) (E : XK), Room k (A.deeper (envOfC qual (defScope st) s.heap.objs.size f cdv)) → BO (cxOf CX0 P w K mg base N qual (defScope st) f cdv A outer s H E).nox (defBody st) b)
    (hg : ∀ as ds, g as = some (.list ds) → as.length = ps.length ∧ b (startD N as) = some ds) : FnOk P w K mg base CX0 (k + 1) f fd ps (spO K g) := by
  obtain ⟨oc, od, kV, doc, pm, an, cdv, ct, osl, rfl, lk, hcd⟩ := F.ex
  refine fn_of lk hcd S (fun vs H Q E h => ?_) fun A outer s H vs Q E hr hsp => ?_
  · obtain ⟨Z, as, ds, zh, r, e, _⟩ := h
    rw [r.length]
    exact (hg as ds e).1
  · refine ⟨_, PSs.nox (hb cdv A outer s H E hr), ?_⟩
    obtain ⟨Z, as, ds, zh, r, e, kk⟩ := hsp
    have hh := hold_start (N := N) zh r
    exact ⟨H, Z, Z, _, ds, hh, (hg as ds e).2, fun σ' H' Z' δ' p us h' z' hp ru => kk p us Z' H' ⟨z', h'.h0, h'.zh, h'.zb⟩ hp ru⟩
structure CalO (P : Program) (w : World) (K : PySem.W.Frag) (mg : Str → Option Value) (base : Heap) (x : Str) (k : Nat) (g : List D → Option D) (dd : List D) : Prop where
  ex : ∃ (fa : Addr) (fd : FuncData) (ps : List Str) (ds : List Value) (dv : List V), FnOk P w K mg base CX0 k fa fd ps (spO K g) ∧ mg x = some (.ref fa) ∧ PySem.W.keepIn K (.ref fa) = true ∧ Binds K fd ps ds ∧ Vals dv ds ∧ ∀ Z, Reps K Z dv dd
end
section
variable {X : Cx} {e : Expr} {es : List Expr} {p pos : Pos} {fs : Dv → Option (List D)}
theorem eo_def {k : Nat} {x : Str} {g : List D → Option D} {dd : List D} (C : CalO X.prog X.w X.K X.mg X.base x k g dd) (hr : Room k X.A) (hg : Gl X x) (ha : AV X (e :: es) fs) (hdb : (x == ("__debug__" : Str)) = false := by decide) (he : starEach (e :: es) X.env = (false, eval e X.env) :: starEach es X.env := by rfl)
    (hpl : (backTo pos (starEach es X.env)).any (·.1) = false := by rfl) : EO X (.Call (.Name x p) (e :: es) [] pos) (oLi (os fs fun as => g (as ++ dd))) := by
  obtain ⟨fa, fd, ps, ds, dv, F, hm, hk, hb, hd, hdd⟩ := C.ex
  refine PE.imp (pe_call F hr hg hm hk hb hd pass0 ha hdb he hpl) fun σ H Q h => ?_
  obtain ⟨H₀, Z₀, Z, δ, xs, hh, e0, q⟩ := h
  obtain ⟨d, e1, e2⟩ := bind_some e0
  obtain ⟨as, e4, e3⟩ := bind_some e1
  cases d with
  | list ys =>
    cases e2
    exact ⟨H₀, Z₀, Z, δ, as, hh, e4, fun vs Z1 H1 hh1 s1 r1 => ⟨Z1, as ++ dd, xs, hh1.zh, r1.append (hdd Z1), e3, fun p us Z' H' n hp ru => q p us Z' H' (hh1.new n) (s1.trans n.z) hp ru⟩⟩
  | _ => cases e2
theorem eo_def0 {k : Nat} {x : Str} {g : List D → Option D} (C : CalO X.prog X.w X.K X.mg X.base x k g []) (hr : Room k X.A) (hg : Gl X x) (ha : AV X (e :: es) fs) (hdb : (x == ("__debug__" : Str)) = false := by decide) (he : starEach (e :: es) X.env = (false, eval e X.env) :: starEach es X.env := by rfl)
    (hpl : (backTo pos (starEach es X.env)).any (·.1) = false := by rfl) : EO X (.Call (.Name x p) (e :: es) [] pos) (oLi (os fs g)) := by
  have h := eo_def C hr hg ha hdb he hpl (p := p) (pos := pos)
  have e : (fun as => g (as ++ [])) = g := by funext as; rw [List.append_nil]
  rw [e] at h
  exact h
end
section
variable {X : Cx} {scope : Scope} {m : Str} {vars : List Str} {caps : List (Nat × Str)} {elt tg iter : Expr} {pos : Pos} {g : TG} {fi : Dv → Option (List D)} {fe : Dv → Option D} {bv : D → Option (List D)}
end
/-! ### lists of so many -/
theorem len1 {α : Type} : ∀ {us : List α}, us.length = 1 → ∃ a, us = [a]
  | [a], _ => ⟨a, rfl⟩
theorem len2 {α : Type} {us : List α} (h : us.length = 2) : ∃ a b, us = [a, b] := by
  cases us with
  | nil => cases h
  | cons a r =>
    obtain ⟨b, rfl⟩ := len1 (Nat.succ.inj h)
    exact ⟨a, b, rfl⟩
theorem len3 {α : Type} {us : List α} (h : us.length = 3) : ∃ a b c, us = [a, b, c] := by
  cases us with
  | nil => cases h
  | cons a r =>
    obtain ⟨b, c, rfl⟩ := len2 (Nat.succ.inj h)
    exact ⟨a, b, c, rfl⟩
theorem len4 {α : Type} {us : List α} (h : us.length = 4) : ∃ a b c d, us = [a, b, c, d] := by
  cases us with
  | nil => cases h
  | cons a r =>
    obtain ⟨b, c, d, rfl⟩ := len3 (Nat.succ.inj h)
    exact ⟨a, b, c, d, rfl⟩
theorem len5 {α : Type} {us : List α} (h : us.length = 5) : ∃ a b c d e, us = [a, b, c, d, e] := by
  cases us with
  | nil => cases h
  | cons a r =>
    obtain ⟨b, c, d, e, rfl⟩ := len4 (Nat.succ.inj h)
    exact ⟨a, b, c, d, e, rfl⟩
end VL

set_option Elab.async false
set_option linter.all false
set_option maxRecDepth 100000
set_option maxHeartbeats 4000000
namespace VL
open PySem PySem.Spec PyProof.Rows L2
--PURE
/-! ### lists of one's own handed on -/
noncomputable def sRetO (i : Nat) : Sf := fun δ => (slO δ[i]?).bind fun ds => some (.rt (.list ds), dFz i δ)
noncomputable def oOw (i : Nat) : Dv → Option (List D) := fun δ => slO δ[i]?
--END
section
variable {X : Cx} {e : Expr} {es : List Expr} {p p' pos : Pos} {st : Stmt} {sts body : List Stmt} {f f1 f2 : Dv → Option (List D)} {s : Sf} {c : Expr} {ft : Dv → Option Bool}
theorem bo_retV (i : Nat) {x : Str} (hN : X.N[i]? = some x := by rfl) (hv : Vis X.env.scope x := by first | exact Or.inl rfl | exact Or.inr (Or.inl rfl) | exact Or.inr (Or.inr rfl)) (hd : (x == ("__debug__" : Str)) = false := by decide) (hcd : (x == ("__classdict__" : Str)) = false := by decide) : BO X [.Return (some (.Name x p)) pos] (oOw i) :=
  PSs.imp (pss_one (ps_ret (pe_var hN hv hd hcd))) fun D σ H h => by
    obtain ⟨H₀, Z₀, Z, δ, ds, hh, e, k⟩ := h
    obtain ⟨a, xs, h1, h2, h3, h4, h5⟩ := hh.ow i ds (slO_eq e)
    refine ⟨_, h1, ?_⟩
    have eH : upd (fun b => if b = a then none else H b) a (.lst xs) = H := funext fun b => by
      by_cases hb : b = a
      · subst hb; rw [upd_same, h4]
      · rw [upd_ne hb]; exact if_neg hb
    have := k σ (fun b => if b = a then none else H b) Z (List.replicate σ.length .un) a xs ⟨fun b o q => ?_, fun b o q => ?_, hh.z0, hh.zb, by simp, fun j d q => ?_, fun j d q => ?_, fun j l d d' b _ q => ?_⟩ (Same.refl _) (if_pos rfl) h5
    · rw [eH] at this; exact this
    · have : b ≠ a := fun z => by rw [z, h3] at q; cases q
      show (if b = a then none else H b) = some o
      rw [if_neg this]; exact hh.zh b o q
    · have : b ≠ a := fun z => by rw [z, h2] at q; cases q
      show (if b = a then none else H b) = some o
      rw [if_neg this]; exact hh.h0 b o q
    all_goals
      rw [List.getElem?_replicate] at q
      split at q <;> cases q
end
/-! ### statements that always go on -/
theorem nxt_own (i : Nat) (f : Dv → Option (List D)) : Nxt (sOwn i f) := fun δ r h => by
  obtain ⟨x, _, h⟩ := bind_some h
  split at h
  · cases h; rfl
  · cases h
theorem nxt_ownE (i : Nat) (f : Dv → Option (List D)) : Nxt (sOwnE i f) := fun δ r h => by
  obtain ⟨x, _, h⟩ := bind_some h
  cases h; rfl
theorem nxt_fz (i : Nat) {s : Sf} (hs : Nxt s) : Nxt (fun δ => s (dFz i δ)) := fun δ r h => hs _ r h
theorem nxt_seq {s t : Sf} (hs : Nxt s) (ht : Nxt t) : Nxt (sSeq s t) := fun δ r h => by
  obtain ⟨⟨fl, δ'⟩, e, h⟩ := bind_some h
  have : fl = .nx := hs _ _ e
  subst this
  exact ht _ r h
theorem nxt_loop {g : D → Dv → Option Dv} {b : Sf} (hb : Nxt b) : ∀ ds, Nxt (loop g b ds)
  | [], δ, r, h => by cases h; rfl
  | d :: ds, δ, r, h => by
    obtain ⟨δ1, e1, h⟩ := bind_some (show (g d δ).bind _ = _ from h)
    obtain ⟨⟨fl, δ2⟩, e2, h⟩ := bind_some h
    have : fl = .nx := hb _ _ e2
    subst this
    exact nxt_loop hb ds δ2 r h
theorem nxt_for {f : Dv → Option (List D)} {g : D → Dv → Option Dv} {b : Sf} (hb : Nxt b) : Nxt (sFor f g b) := fun δ r h => by
  obtain ⟨ds, e, h⟩ := bind_some h
  exact nxt_loop hb ds δ r h
theorem nxt_put (i : Nat) (fk fv : Dv → Option D) : Nxt (sPut i fk fv) := fun δ r h => by
  obtain ⟨_, _, h⟩ := bind_some h
  obtain ⟨_, _, h⟩ := bind_some h
  obtain ⟨_, _, h⟩ := bind_some h
  obtain ⟨_, _, h⟩ := bind_some h
  cases h; rfl
theorem nxt_app (i : Nat) (f : Dv → Option D) : Nxt (sApp i f) := fun δ r h => by
  obtain ⟨_, _, h⟩ := bind_some h
  obtain ⟨ds, _, h⟩ := bind_some h
  by_cases q : ds.length < sizeLine
  · rw [if_pos q] at h; cases h; rfl
  · rw [if_neg q] at h; cases h
/-- how a body's own end and its plain end go together -/
noncomputable def OEnd (b : Sf) (f : Dv → Option (List D)) : Prop := ∀ δ δ' ds, b δ = some (.rt (.list ds), δ') → f δ = some ds
theorem oe_cons {s t : Sf} {f : Dv → Option (List D)} (hs : Nxt s) (h : OEnd t f) : OEnd (sSeq s t) (sqO s f) := fun δ δ' ds e => by
  obtain ⟨⟨fl, δ1⟩, e1, e⟩ := bind_some e
  have : fl = .nx := hs _ _ e1
  subst this
  unfold sqO
  rw [e1, Option.bind_some]
  exact h _ _ _ e
theorem oe_retV (i : Nat) : OEnd (sRetO i) (oOw i) := fun δ δ' ds e => by
  obtain ⟨es, e1, e⟩ := bind_some e
  cases e
  exact e1
theorem SV.sub {X : Cx} {st : Stmt} {f f' : Sf} (h : SV X st f) (w : ∀ δ r, f' δ = some r → f δ = some r) : SV X st f' := PS.imp h fun D σ H q => by
  obtain ⟨H₀, Z₀, Z, δ, r, hh, e, k⟩ := q
  exact ⟨H₀, Z₀, Z, δ, r, hh, w _ _ e, k⟩
theorem sv_retO {X : Cx} {p pos : Pos} (i : Nat) {x : Str} (hN : X.N[i]? = some x := by rfl) (hv : Vis X.env.scope x := by first | exact Or.inl rfl | exact Or.inr (Or.inl rfl) | exact Or.inr (Or.inr rfl)) (hd : (x == ("__debug__" : Str)) = false := by decide) (hcd : (x == ("__classdict__" : Str)) = false := by decide) : SV X (.Return (some (.Name x p)) pos) (sRetO i) :=
  SV.sub (sv_fz i (sv_ret (ev_var i hN hv hd hcd))) fun δ r e => by
    obtain ⟨es, e1, e⟩ := bind_some e
    cases e
    have h := slO_eq e1
    have l := (List.getElem?_eq_some_iff.mp h).1
    have ef : dFz i δ = δ.set i (.fz (.list es)) := by unfold dFz; rw [h]
    show (oV i (dFz i δ)).bind _ = _
    rw [ef]
    unfold oV slV
    rw [List.getElem?_set_self l]
    rfl
theorem run_O {N : List Str} {n : Nat} {b : Sf} {f : Dv → Option (List D)} (h : OEnd b f) : ∀ as ds, runB N n b as = some (.list ds) → as.length = n ∧ f (startD N as) = some ds := fun as ds e => by
  unfold runB at e
  split at e
  · rename_i hl
    obtain ⟨⟨fl, δ'⟩, e1, e⟩ := bind_some e
    refine ⟨hl, ?_⟩
    cases fl with
    | rt d => cases e; exact h _ _ _ e1
    | nx => cases e
    | bk => cases e
    | ct => cases e
  · cases e
end VL

set_option Elab.async false
set_option linter.all false
set_option maxRecDepth 100000
set_option maxHeartbeats 4000000
namespace VL
open PySem PySem.Spec PyProof.Rows L2
--PURE
/-! ### max of a list of ints -/
noncomputable def topI : List Int → Option Int
  | [] => none
  | b :: bs => some (bs.foldl (fun m x => if x > m then x else m) b)
noncomputable def maxLD : List D → Option D
  | [.list xs] => (intsD xs).bind fun bs => (topI bs).map .int
  | _ => none
--END
theorem top_of {M : Int} : ∀ (bs : List Int) (b : Int), (M = b ∨ M ∈ bs) → b ≤ M → (∀ a ∈ bs, a ≤ M) → bs.foldl (fun m x => if x > m then x else m) b = M
  | [], b, h, hb, _ => by
    rcases h with h | h
    · exact h.symm
    · cases h
  | c :: bs, b, h, hb, hl => by
    have hc := hl c List.mem_cons_self
    have hr := fun a ha => hl a (List.mem_cons_of_mem _ ha)
    show bs.foldl _ (if c > b then c else b) = M
    by_cases q : c > b
    · rw [if_pos q]
      refine top_of bs c ?_ hc hr
      rcases h with h | h
      · exact .inl (by lia)
      · rcases List.mem_cons.mp h with h | h
        · exact .inl h
        · exact .inr h
    · rw [if_neg q]
      refine top_of bs b ?_ hb hr
      rcases h with h | h
      · exact .inl h
      · rcases List.mem_cons.mp h with h | h
        · exact .inl (by lia)
        · exact .inr h
section
variable {X : Cx}
theorem c_maxL (hc : X.calm = true) : CallR X (.builtin "max") (rDs X.K maxLD) := by
  intro pins s σ H xs us Q I rs q
  obtain ⟨Z, as, d, zh, ra, e, k⟩ := q
  cases ra with
  | nil => cases e
  | cons r1 r2 =>
    cases r2 with
    | cons _ _ => cases r1 <;> cases e
    | nil =>
      cases r1 with
      | @lst l ys ds h1 q1 =>
        obtain ⟨bs, g, e⟩ := bind_some (show (intsD ds).bind _ = some d from e)
        cases bs with
        | nil => cases e
        | cons b bs =>
          cases e
          obtain ⟨u, rfl, ru⟩ := vals1 rs
          cases ru
          obtain ⟨its, rv, pl, hz⟩ := I.list (SqL.same h1 zh)
          have hi := ints_get q1 rv g
          obtain ⟨zs, hx⟩ := hi.allInts.items
          have hl' : s.heap.IsList l (intItems zs) := hx ▸ pl.isList
          have e1 : b :: bs = zs.toList.map (·.1) := by
            rw [← nums_intItems, ← hx]
            exact (show numsOf its.toArray.toList = b :: bs from hi.numsOf).symm
          have hsz : 0 < zs.size := by
            have q : bs.length + 1 = zs.toList.length := by
              have q := congrArg List.length e1
              rw [List.length_map] at q
              exact q
            have z : zs.toList.length = zs.size := Array.length_toList
            lia
          refine max_intList (I.ok.hd hc) hl' hsz fun v h' tk hv hk => ?_
          obtain ⟨t, rfl⟩ := intItems_at hv
          obtain ⟨m1, m2⟩ := argBest_gt (numAt zs) (zs.size - 1)
          have hM : numAt zs (argBest (fun i j => decide (numAt zs i > numAt zs j)) (zs.size - 1)) ∈ b :: bs := by
            rw [e1, numAt_eq]; exact getD_mem (by rw [List.length_map, Array.length_toList]; lia)
          have hA : ∀ a ∈ b :: bs, a ≤ numAt zs (argBest (fun i j => decide (numAt zs i > numAt zs j)) (zs.size - 1)) := fun a ha => by
            rw [e1] at ha
            obtain ⟨j, hj, rfl⟩ := mem_getD ha
            rw [List.length_map, Array.length_toList] at hj
            rw [← numAt_eq]; exact m2 j (by lia)
          have := top_of bs b (List.mem_cons.mp hM) (hA b List.mem_cons_self) fun a ha => hA a (List.mem_cons_of_mem _ ha)
          exact ⟨.int _, H, I.kept (t' := tk) hk, ⟨t, rfl⟩, k _ Z H (New.refl zh) (by rw [this]; exact .int _)⟩
      | _ => cases e
end
end VL

set_option Elab.async false
set_option linter.all false
set_option maxRecDepth 100000
set_option maxHeartbeats 4000000
namespace VL
open PySem PySem.Spec PyProof.Rows L2
/-! ### a def without defaults, at the top -/
noncomputable def DefIn (K : PySem.W.Frag) (x y : Str) (st : Stmt) : Prop := ∃ f fd, PySem.W.nsIn K mainGlobals x = some (some (.ref f)) ∧ FunV K y y st f fd .none ∧ PySem.W.keepIn K (.ref f) = true
noncomputable def BindsAs (x : Str) (st : Stmt) (ps : List Str) : Prop := ∀ (kV doc pm : Value) (an : Option Addr) (cdv ct : Value) (us : List Value), us.length = ps.length → bindArgs (PySem.W.fnOf x x (defArgs st) (defBody st) (defScope st) .none kV doc pm an cdv ct) ⟨us, []⟩ = pure (ps.zip us)
section
variable {P : Program} {w : World} {K : PySem.W.Frag} {mg : Str → Option Value} {base h : Heap} {x y : Str} {st : Stmt} {k : Nat} {ps : List Str}
theorem DefIn.mk {f : Addr} {oc : Value} {od an : Option Addr} {osl : Array (Option Value)} {kV doc pm cdv ct : Value} (a : PySem.W.nsIn K mainGlobals x = some (some (.ref f))) (l : K.lookup f = some ⟨oc, od, .func (PySem.W.fnOf y y (defArgs st) (defBody st) (defScope st) .none kV doc pm an cdv ct), osl⟩)
    (c : PySem.W.codeIn K cdv y = true) (k : PySem.W.keepIn K (.ref f) = true) : DefIn K x y st := ⟨_, _, a, funV_mk l c k, k⟩
variable (D : DefIn K x y st) (X : K.In h) (G : h.Ns mainGlobals mg) (b : BindsAs y st ps)
include D X G
include b
theorem DefIn.cal {g : List VL.D → Option VL.D} (ok : ∀ f fd, FunV K y y st f fd .none → FnOk P w K mg base CX0 k f fd ps (spD K g)) : Cal P w K mg base x k g [] := by
  obtain ⟨f, fd, a, F, hk⟩ := D
  exact Cal.mk0 (ok f fd F) (PySem.W.mg_of X G a) hk (F.binds b)
theorem DefIn.calX {g : List VL.D → Option Str} (ok : ∀ f fd, FunV K y y st f fd .none → FnOk P w K mg base (CXX P w) k f fd ps (spX K g)) : CalX P w K mg base x k g [] := by
  obtain ⟨f, fd, a, F, hk⟩ := D
  exact ⟨⟨_, _, _, [], [], ok f fd F, PySem.W.mg_of X G a, hk, F.binds b, .nil, fun _ => .nil⟩⟩
theorem DefIn.calO {g : List VL.D → Option VL.D} (ok : ∀ f fd, FunV K y y st f fd .none → FnOk P w K mg base CX0 k f fd ps (spO K g)) : CalO P w K mg base x k g [] := by
  obtain ⟨f, fd, a, F, hk⟩ := D
  exact ⟨⟨_, _, _, [], [], ok f fd F, PySem.W.mg_of X G a, hk, F.binds b, .nil, fun _ => .nil⟩⟩
end
/-- what a def with defaults goes on with, once its defaults are read -/
noncomputable def bKw (fd : FuncData) (us : List Value) : {kk : Option (Array Value) → Sem (List (Str × Value)) // bindArgs fd ⟨us, []⟩ = seqItems? fd.defaults >>= kk} := ⟨_, rfl⟩
theorem FunV.bindsK {K : PySem.W.Frag} {x qual : Str} {st : Stmt} {f T : Addr} {fd : FuncData} {ps : List Str} {o : Obj} {items : Array Value} {n : Nat} {ds : List Value} (F : FunV K x qual st f fd (.ref T)) (ho : K.lookup T = some o) (hs : o.data = .seq items n) (nu : Nat) (hn : nu + ds.length = ps.length)
    (h : ∀ (kV doc pm : Value) (an : Option Addr) (cdv ct : Value) (us : List Value), us.length = nu → (bKw (PySem.W.fnOf x qual (defArgs st) (defBody st) (defScope st) (.ref T) kV doc pm an cdv ct) us).1 (some items) = pure (ps.zip (us ++ ds))) : Binds K fd ps ds :=
  F.bindsD ho hs nu hn fun kV doc pm an cdv ct us hl => ⟨_, (bKw (PySem.W.fnOf x qual (defArgs st) (defBody st) (defScope st) (.ref T) kV doc pm an cdv ct) us).2, h kV doc pm an cdv ct us hl⟩
end VL

set_option Elab.async false
set_option linter.all false
set_option maxRecDepth 100000
set_option maxHeartbeats 4000000
namespace VL
open PySem PySem.Spec PyProof.Rows L2
open AutoSeq1 (wpAny_loadPart')
/-! ### a tuple times an int -/
--PURE
noncomputable def mulT : D → D → Option D
  | .tuple xs, .int k => if 1 ≤ k ∧ k < 1000000 ∧ xs.length * k.toNat ≤ 1000000 then some (.tuple (List.replicate k.toNat xs).flatten) else none
  | _, _ => none
theorem mulT_eq {xs : List D} {k : Int} (h1 : 1 ≤ k) (h2 : k < 1000000) (h3 : xs.length * k.toNat ≤ 1000000) : mulT (.tuple xs) (.int k) = some (.tuple (List.replicate k.toNat xs).flatten) := if_pos ⟨h1, h2, h3⟩
--END
theorem tmulW1 (l : Addr) (items : Array Value) (n : Nat) (dd : Option Addr) (sl : Array (Option Value)) (x : Int) (u : Tok) (h1 : ¬(decide (x < -2 ^ 63) || decide (x ≥ 2 ^ 63)) = true) (hc : (items.isEmpty || x == 1) = true) :
    Meets (Builtin.«tuple.__mul__» ⟨[.ref l, .int x u], []⟩) (fun _ R s => s.heap.get? l = some { cls := .type "tuple", dict := dd, data := .seq items n, slots := sl } ∧ R (.ok (.ret (Value.ref l))) { s with heap := s.heap, toks := s.toks }) :=
  .of_wp fun prog w A R s h => by
    obtain ⟨hp, g, d, tk, os⟩ := s; obtain ⟨hl, h⟩ := h
    have f1 := AutoSeq1.idx_int; have f2 := AutoSeq1.sub_tuple_tuple
    wp_walk using wpAny_loadPart' hl
    refine wpAny_ite_false (decide_eq_false h1) ?_
    wp_walk using wpAny_loadPart' hl
    exact ⟨_, rfl, h⟩
theorem tmulW2 (l : Addr) (items : Array Value) (n : Nat) (dd : Option Addr) (sl : Array (Option Value)) (x : Int) (u : Tok) (h1 : ¬(decide (x < -2 ^ 63) || decide (x ≥ 2 ^ 63)) = true) (hc : ¬(items.isEmpty || x == 1) = true) (hc1 : ¬(decide (x ≤ 0) || items.isEmpty) = true) (hc2 : ¬((items.size : Int) * x > (2 ^ 63 - 1) / 8)) (hc3 : ¬Builtin.Tuple.tupleTooMany (items.size * x) = true) (hsz : (List.foldl (fun x1 x2 => x1 ++ x2) #[] (List.replicate x.toNat items)).size ≤ sizeLine) :
    Meets (Builtin.«tuple.__mul__» ⟨[.ref l, .int x u], []⟩) (fun _ R s => s.heap.get? l = some { cls := .type "tuple", dict := dd, data := .seq items n, slots := sl } ∧ R (.ok (.ret (Value.ref s.heap.objs.size))) { s with heap := s.heap.push { cls := Value.type "tuple", data := Data.seq (List.foldl (fun x1 x2 => x1 ++ x2) #[] (List.replicate x.toNat items)) }, toks := s.toks }) :=
  .of_wp fun prog w A R s h => by
    obtain ⟨hp, g, d, tk, os⟩ := s; obtain ⟨hl, h⟩ := h
    have f1 := AutoSeq1.idx_int; have f2 := AutoSeq1.sub_tuple_tuple
    wp_walk using wpAny_loadPart' hl
    refine wpAny_ite_false (decide_eq_false h1) ?_
    wp_walk using wpAny_loadPart' hl
    refine wpAny_ite_false (decide_eq_false hc2) ?_
    wp_walk using wpAny_loadPart' hl
    exact ⟨_, rfl, h⟩
theorem noFill_tuple_mul : fillsNumberSlot (.type "tuple") "mul" = pure false :=
  PySem.fillsNumberSlot_seq (id := "tuple.__mul__") (r := some (.builtin "tuple.__rmul__")) F.slot_tuple_mul.lookup (by decide +kernel) F.slot_tuple_rmul.lookup (by decide +kernel)
theorem repeat_tuple : seqRepeat? (.type "tuple") = pure (some (.builtin "tuple.__mul__")) := by
  unfold seqRepeat?
  rw [PySem.seqSlot_of (T := "tuple") (name := "__mul__") (id := "tuple.__mul__") F.slot_tuple_mul.lookup (by decide +kernel), PySem.seqSlot_of (T := "tuple") (name := "__rmul__") (id := "tuple.__rmul__") F.slot_tuple_rmul.lookup (by decide +kernel)]
  rfl
theorem rmulT (a : Int) (t : Tok) (l : Addr) (items : Array Value) (n : Nat) (dd : Option Addr) (sl : Array (Option Value)) :
    Meets (Builtin.«int.__rmul__» ⟨[.int a t, .ref l], []⟩) (fun _ R s => s.heap.get? l = some { cls := .type "tuple", dict := dd, data := .seq items n, slots := sl } ∧ R (.ok (.ret Value.notImplemented)) s) :=
  .of_wp fun prog w A R s h => by obtain ⟨hp, g, d, tk, os⟩ := s; obtain ⟨hl, h⟩ := h; wp_walk; exact ⟨_, rfl, h⟩
section
variable {X : Cx}
theorem d_mulT : OpR X (binaryOp .Mult) (rD X.K mulT) := by
  intro pins s σ H x y v u Q I rx ry q
  obtain ⟨Z, a, b, d, zh, ra, rb, e, kk⟩ := q
  cases ra with
  | @tup a xs ds h1 q1 =>
    cases rb with
    | int k =>
      by_cases hl : 1 ≤ k ∧ k < 1000000 ∧ ds.length * k.toNat ≤ 1000000
      · simp only [mulT, if_pos hl] at e
        cases e
        obtain ⟨k1, k2, hz⟩ := hl
        cases rx
        obtain ⟨t, rfl⟩ := ry
        obtain ⟨its, r1, p1, z1⟩ := I.tuple (SqT.same h1 zh)
        obtain ⟨⟨cls, dd, data, sl⟩, ho, hc, n1, hd⟩ := p1
        simp only at hc hd
        subst hc hd
        have hl1 := r1.length
        have ql1 := q1.length
        have hlen : its.toArray.size * k.toNat ≤ 1000000 := by rw [List.size_toArray, ← hl1, ql1]; exact hz
        have hA : ¬(decide (k < -2 ^ 63) || decide (k ≥ 2 ^ 63)) = true := by simp; lia
        have road : ∀ {R : Value → Shared → Prop}, wpAny (model X.prog X.w) X.A (call (.builtin "tuple.__mul__") [.ref a, .int k t]) R X.xe s → wpAny (model X.prog X.w) X.A (binaryOp .Mult (.ref a) (.int k t)) R X.xe s := fun hR =>
          wpAny_binaryOp_repeat_ref (T := "tuple") (U := "int") (by decide) ⟨_, ho, rfl⟩ (fun s' => typeIs_int s' k t) noFill_tuple_mul F.fills_int_mul F.slot_int_rmul repeat_tuple F.slot_int_index.lookup
            (call_meets F.slot_int_rmul (typeIs_int s k t) F.entry_int_rmul (F.args_int_rmul_2 _ _) (rmulT k t a its.toArray n1 dd sl) ⟨ho, rfl, ⟨_, ho, rfl⟩, hR⟩)
        refine road ?_
        by_cases hsame : (its.toArray.isEmpty || k == 1) = true
        · refine call_meets F.slot_tuple_mul ⟨_, ho, rfl⟩ F.entry_tuple_mul (F.args_tuple_mul_2 _ _) (tmulW1 a its.toArray n1 dd sl k t hA hsame) ⟨ho, ?_⟩
          have same : (List.replicate k.toNat ds).flatten = ds := by
            rcases Bool.or_eq_true_iff.mp hsame with q | q
            · have : its = [] := by simpa using q
              subst this
              have : ds = [] := by
                have : ds.length = 0 := by rw [← ql1, hl1]; rfl
                exact List.length_eq_zero_iff.mp this
              subst this
              simp
            · have : k = 1 := by simpa using q
              subst this
              simp
          rw [same] at kk
          exact ⟨.ref a, H, I, rfl, kk _ _ _ (New.refl zh) (.tup h1 q1)⟩
        · have hne : ¬ its.toArray.isEmpty = true := fun z => hsame (by rw [z]; rfl)
          have hB : ¬(decide (k ≤ 0) || its.toArray.isEmpty) = true := by
            rw [decide_eq_false (by lia)]
            exact hne
          have pr : (its.toArray.size : Int) * k = ((its.toArray.size * k.toNat : Nat) : Int) := by
            rw [Int.natCast_mul, Int.toNat_of_nonneg (by lia)]
          have hC : ¬((its.toArray.size : Int) * k > (2 ^ 63 - 1) / 8) := by rw [pr]; lia
          have hD : ¬Builtin.Tuple.tupleTooMany (its.toArray.size * k) = true := by
            rw [pr]
            intro z
            have z : ((its.toArray.size * k.toNat : Nat) : Int) > ((16777216 : Nat) : Int) := of_decide_eq_true z
            lia
          have hnew : List.foldl (fun x1 x2 => x1 ++ x2) #[] (List.replicate k.toNat its.toArray) = (List.replicate k.toNat its).flatten.toArray := by
            have := foldl_rep its k.toNat []
            rw [List.nil_append] at this
            exact this
          have hE : (List.foldl (fun x1 x2 => x1 ++ x2) #[] (List.replicate k.toNat its.toArray)).size ≤ sizeLine := by
            rw [hnew, List.size_toArray, len_rep, Nat.mul_comm]
            rw [List.size_toArray] at hlen
            exact Nat.le_trans hlen (by decide)
          refine call_meets F.slot_tuple_mul ⟨_, ho, rfl⟩ F.entry_tuple_mul (F.args_tuple_mul_2 _ _) (tmulW2 a its.toArray n1 dd sl k t hA hsame hB hC hD hE) ⟨ho, ?_⟩
          rw [hnew]
          have n := New.add zh I.fresh (.tup (List.replicate k.toNat xs).flatten)
          refine ⟨.ref _, _, I.laid (t' := s.toks) (o := .tup (List.replicate k.toNat xs).flatten) (fun b ob q => Heap.get?_push_of_some _ q) (Nat.le_refl _) ?_, rfl, kk _ _ _ n (.tup (SqT.of upd_same) ((Reps.rep q1 k.toNat).same n.z))⟩
          exact ⟨by rw [len_rep, Nat.mul_comm, ql1]; exact Nat.le_trans hz (by decide), _, r1.rep k.toNat, IsTup.new _ _⟩
      · simp only [mulT, if_neg hl] at e; cases e
    | _ => simp [mulT] at e
  | _ => cases rb <;> simp [mulT] at e
end
end VL

set_option Elab.async false
set_option linter.all false
set_option maxRecDepth 100000
set_option maxHeartbeats 4000000
namespace MA
open PySem
/-! ### or, the twos that are shared -/
theorem or_halves (x y : Int) : Builtin.bitOr x y = 2 * Builtin.bitOr (x / 2) (y / 2) + (if x % 2 = 0 ∧ y % 2 = 0 then 0 else 1) := by
  unfold Builtin.bitOr Builtin.bitNot
  have h := PySem.W.kbt_halves (-x - 1) (-y - 1)
  have hx : (-x - 1) / 2 = -(x / 2) - 1 := by lia
  have hy : (-y - 1) / 2 = -(y / 2) - 1 := by lia
  rw [hx, hy] at h
  rw [h]
  by_cases c : x % 2 = 0 ∧ y % 2 = 0
  · rw [if_pos c, if_pos (by lia)]; lia
  · rw [if_neg c, if_neg (by lia)]; lia
theorem pow_pos' (n : Nat) : (0 : Int) < 2 ^ n := by
  induction n with
  | zero => decide
  | succ n ih => rw [Int.pow_succ]; lia
theorem div_pow_succ (x : Int) (n : Nat) : x / 2 ^ (n + 1) = x / 2 / 2 ^ n := by
  rw [Int.pow_succ, Int.mul_comm, Int.ediv_ediv_of_nonneg (by decide)]
theorem dvd_pow_succ (x : Int) (n : Nat) : 2 ^ (n + 1) ∣ x ↔ x % 2 = 0 ∧ 2 ^ n ∣ x / 2 := by
  constructor
  · rintro ⟨c, rfl⟩
    rw [Int.pow_succ]
    refine ⟨?_, c, ?_⟩
    · rw [Int.mul_comm (2 ^ n) 2, Int.mul_assoc]; lia
    · rw [Int.mul_comm (2 ^ n) 2, Int.mul_assoc, Int.mul_ediv_cancel_left _ (by decide)]
  · rintro ⟨h, c, hc⟩
    refine ⟨c, ?_⟩
    rw [Int.pow_succ, Int.mul_comm (2 ^ n) 2, Int.mul_assoc, ← hc]
    lia
theorem or_pow (n : Nat) : ∀ x y : Int, (2 ^ n ∣ Builtin.bitOr x y ↔ 2 ^ n ∣ x ∧ 2 ^ n ∣ y) ∧ (2 ^ n ∣ Builtin.bitOr x y → Builtin.bitOr x y / 2 ^ n = Builtin.bitOr (x / 2 ^ n) (y / 2 ^ n)) := by
  induction n with
  | zero => intro x y; simp
  | succ n ih =>
    intro x y
    have h := or_halves x y
    have hd : Builtin.bitOr x y / 2 = Builtin.bitOr (x / 2) (y / 2) := by rw [h]; split <;> lia
    have hm : Builtin.bitOr x y % 2 = 0 ↔ x % 2 = 0 ∧ y % 2 = 0 := by
      rw [h]
      by_cases c : x % 2 = 0 ∧ y % 2 = 0
      · rw [if_pos c]; constructor
        · intro _; exact c
        · intro _; lia
      · rw [if_neg c]; constructor
        · intro z; lia
        · intro z; exact absurd z c
    obtain ⟨i1, i2⟩ := ih (x / 2) (y / 2)
    constructor
    · rw [dvd_pow_succ, dvd_pow_succ, dvd_pow_succ, hd, hm, i1]
      constructor
      · rintro ⟨⟨a, b⟩, c, d⟩; exact ⟨⟨a, c⟩, b, d⟩
      · rintro ⟨⟨a, c⟩, b, d⟩; exact ⟨⟨a, b⟩, c, d⟩
    · intro q
      rw [dvd_pow_succ, hd] at q
      rw [div_pow_succ, div_pow_succ, div_pow_succ, hd, i2 q.2]
theorem split2 : ∀ (n : Nat) (j : Int), j.natAbs ≤ n → j ≠ 0 → ∃ (t : Nat) (a : Int), j = 2 ^ t * (2 * a + 1)
  | 0, j, h, h0 => by lia
  | n + 1, j, h, h0 => by
    by_cases c : j % 2 = 0
    · obtain ⟨t, a, e⟩ := split2 n (j / 2) (by lia) (by lia)
      refine ⟨t + 1, a, ?_⟩
      rw [Int.pow_succ, Int.mul_comm (2 ^ t) 2, Int.mul_assoc, ← e]
      lia
    · exact ⟨0, j / 2, by simp; lia⟩
theorem bits_pow (t : Nat) : Builtin.Int.intBits (2 ^ t) = t + 1 := by
  unfold Builtin.Int.intBits
  have h : (2 : Int) ^ t ≠ 0 := Int.ne_of_gt (pow_pos' t)
  have e : ((2 : Int) ^ t).natAbs = 2 ^ t := by
    have : ((2 ^ t : Nat) : Int) = (2 : Int) ^ t := by simp
    rw [← this, Int.natAbs_natCast]
  rw [if_neg (by simpa using h), e, Nat.log2_two_pow]
/-- the number of twos, bounded: what twos_shared tells -/
noncomputable def twos (j most : Int) : Int := if j = 0 then most else if (Builtin.Int.intBits (Builtin.bitAnd j (-j)) : Int) - 1 < most then (Builtin.Int.intBits (Builtin.bitAnd j (-j)) : Int) - 1 else most
theorem twos_spec (j most : Int) (hm : 0 ≤ most) : ∃ t : Nat, twos j most = t ∧ (t : Int) ≤ most ∧ 2 ^ t ∣ j ∧ ((t : Int) < most → ¬ j / 2 ^ t % 2 = 0) := by
  unfold twos
  by_cases h : j = 0
  · subst h
    refine ⟨most.toNat, by rw [if_pos rfl]; lia, by lia, Int.dvd_zero _, fun z => by lia⟩
  · obtain ⟨t, a, e⟩ := split2 _ j (Nat.le_refl _) h
    have hb : Builtin.Int.intBits (Builtin.bitAnd j (-j)) = t + 1 := by rw [e, PySem.W.kbt_low, bits_pow]
    rw [if_neg h, hb]
    have q : ((t + 1 : Nat) : Int) - 1 = t := by lia
    rw [q]
    by_cases c : (t : Int) < most
    · refine ⟨t, by rw [if_pos c], by lia, ⟨_, e⟩, fun _ => ?_⟩
      rw [e, Int.mul_ediv_cancel_left _ (Int.ne_of_gt (pow_pos' t))]
      lia
    · refine ⟨most.toNat, by rw [if_neg c]; lia, by lia, ?_, fun z => by lia⟩
      refine Int.dvd_trans ?_ ⟨_, e⟩
      have : t = most.toNat + (t - most.toNat) := by lia
      rw [this, Int.pow_add]
      exact Int.dvd_mul_right _ _
/-! ### sizes -/
theorem bits_le {a : Int} {m : Nat} (h : a.natAbs < 2 ^ m) : Builtin.Int.intBits a ≤ m := by
  unfold Builtin.Int.intBits
  split
  · exact Nat.zero_le _
  · rename_i h0
    have h0 : a ≠ 0 := by simpa using h0
    have : a.natAbs.log2 < m := (Nat.log2_lt (by lia)).mpr h
    lia
/-! ### four parts -/
structure Q4 where
  a : Int
  b : Int
  c : Int
  d : Int
namespace Q4
theorem ext' {x y : Q4} (h1 : x.a = y.a) (h2 : x.b = y.b) (h3 : x.c = y.c) (h4 : x.d = y.d) : x = y := by
  cases x; cases y; simp at h1 h2 h3 h4; subst h1 h2 h3 h4; rfl
noncomputable def add (x y : Q4) : Q4 := ⟨x.a + y.a, x.b + y.b, x.c + y.c, x.d + y.d⟩
noncomputable def neg (x : Q4) : Q4 := ⟨-x.a, -x.b, -x.c, -x.d⟩
noncomputable def mul (x y : Q4) : Q4 := ⟨x.a * y.a - x.b * y.d - x.c * y.c - x.d * y.b, x.a * y.b + x.b * y.a - x.c * y.d - x.d * y.c, x.a * y.c + x.b * y.b + x.c * y.a - x.d * y.d, x.a * y.d + x.b * y.c + x.c * y.b + x.d * y.a⟩
/-- times the root of two -/
noncomputable def rt (x : Q4) : Q4 := ⟨x.b - x.d, x.a + x.c, x.b + x.d, x.c - x.a⟩
noncomputable def dbl (n : Int) (x : Q4) : Q4 := ⟨x.a * n, x.b * n, x.c * n, x.d * n⟩
noncomputable def mir (x : Q4) : Q4 := ⟨x.a, -x.d, -x.c, -x.b⟩
/-- an eighth turn -/
noncomputable def tn (x : Q4) : Q4 := ⟨-x.d, x.a, x.b, x.c⟩
noncomputable def rtn : Nat → Q4 → Q4
  | 0, x => x
  | n + 1, x => rtn n (rt x)
theorem rtn_succ (n : Nat) (x : Q4) : rtn (n + 1) x = rt (rtn n x) := by
  induction n generalizing x with
  | zero => rfl
  | succ n ih => exact ih (rt x)
theorem rtn_add (m n : Nat) (x : Q4) : rtn (m + n) x = rtn m (rtn n x) := by
  induction n generalizing x with
  | zero => rfl
  | succ n ih => exact ih (rt x)
theorem rt_rt (x : Q4) : rt (rt x) = dbl 2 x := by
  apply ext' <;> simp [rt, dbl] <;> lia
theorem dbl_dbl (m n : Int) (x : Q4) : dbl m (dbl n x) = dbl (n * m) x := by
  apply ext' <;> simp [dbl, Int.mul_assoc]
theorem rtn_two (t : Nat) (x : Q4) : rtn (2 * t) x = dbl (2 ^ t) x := by
  induction t generalizing x with
  | zero => apply ext' <;> simp [rtn, dbl]
  | succ t ih =>
    have e : 2 * (t + 1) = 2 * t + 1 + 1 := by lia
    rw [e]
    show rtn (2 * t) (rt (rt x)) = _
    rw [ih, rt_rt, dbl_dbl, Int.pow_succ, Int.mul_comm]
theorem rt_inj {x y : Q4} (h : rt x = rt y) : x = y := by
  have h1 := congrArg rt h
  rw [rt_rt, rt_rt] at h1
  have h2 := congrArg Q4.a h1
  have h3 := congrArg Q4.b h1
  have h4 := congrArg Q4.c h1
  have h5 := congrArg Q4.d h1
  simp only [dbl] at h2 h3 h4 h5
  apply ext' <;> lia
theorem rtn_inj {n : Nat} {x y : Q4} (h : rtn n x = rtn n y) : x = y := by
  induction n generalizing x y with
  | zero => exact h
  | succ n ih => exact rt_inj (ih h)
theorem rt_add (x y : Q4) : rt (add x y) = add (rt x) (rt y) := by apply ext' <;> simp [rt, add] <;> lia
theorem rtn_addQ (n : Nat) (x y : Q4) : rtn n (add x y) = add (rtn n x) (rtn n y) := by
  induction n generalizing x y with
  | zero => rfl
  | succ n ih => show rtn n (rt (add x y)) = _; rw [rt_add, ih]; rfl
theorem rt_mul (x y : Q4) : rt (mul x y) = mul (rt x) y := by apply ext' <;> simp only [rt, mul] <;> grind
theorem rtn_mul (n : Nat) (x y : Q4) : rtn n (mul x y) = mul (rtn n x) y := by
  induction n generalizing x with
  | zero => rfl
  | succ n ih => show rtn n (rt (mul x y)) = _; rw [rt_mul, ih]; rfl
theorem mul_comm (x y : Q4) : mul x y = mul y x := by apply ext' <;> simp only [mul] <;> grind
theorem mul_assoc (x y z : Q4) : mul (mul x y) z = mul x (mul y z) := by apply ext' <;> simp only [mul] <;> grind
theorem mul_add (x y z : Q4) : mul x (add y z) = add (mul x y) (mul x z) := by apply ext' <;> simp only [mul, add] <;> grind
theorem add_comm (x y : Q4) : add x y = add y x := by apply ext' <;> simp only [add] <;> lia
theorem add_assoc (x y z : Q4) : add (add x y) z = add x (add y z) := by apply ext' <;> simp only [add] <;> lia
theorem rtn_mul2 (m n : Nat) (x y : Q4) : rtn (m + n) (mul x y) = mul (rtn m x) (rtn n y) := by
  rw [rtn_add, mul_comm, rtn_mul, mul_comm, rtn_mul]
theorem tn_mul (x y : Q4) : tn (mul x y) = mul x (tn y) := by apply ext' <;> simp only [mul, tn] <;> grind
theorem tn_rt (x : Q4) : tn (rt x) = rt (tn x) := by apply ext' <;> simp only [rt, tn] <;> lia
/-- no root can be taken out -/
noncomputable def Odd (x : Q4) : Prop := ¬ ((x.a - x.c) % 2 = 0 ∧ (x.b - x.d) % 2 = 0)
theorem rt_even (x : Q4) : ¬ Odd (rt x) := by
  unfold Odd rt
  simp only
  lia
/-- least form -/
noncomputable def Least (x : Q4) (k : Int) : Prop := 0 ≤ k ∧ (0 < k → Odd x)
theorem Least.one {x y : Q4} {k l m : Nat} (hx : Least x k) (hy : Least y l) (h1 : k ≤ m) (h2 : l ≤ m) (h : rtn (m - k) x = rtn (m - l) y) : x = y ∧ k = l := by
  have key : ∀ {x y : Q4} {k l : Nat}, Least y l → k ≤ m → l ≤ m → k < l → rtn (m - k) x = rtn (m - l) y → False := by
    intro x y k l hy h1 h2 hlt h
    have e : m - k = (m - l) + (l - k) := by lia
    rw [e, rtn_add] at h
    have h3 := rtn_inj h
    obtain ⟨n, hn⟩ : ∃ n, l - k = n + 1 := ⟨l - k - 1, by lia⟩
    rw [hn, rtn_succ] at h3
    have := hy.2 (by lia)
    rw [← h3] at this
    exact rt_even _ this
  rcases Nat.lt_trichotomy k l with q | q | q
  · exact (key hy h1 h2 q h).elim
  · subst q; exact ⟨rtn_inj h, rfl⟩
  · exact (key hx h2 h1 q h.symm).elim
end Q4
/-- the four parts' twos -/
theorem twos_four (a b c d most : Int) (hm : 0 ≤ most) : ∃ t : Nat, twos (Builtin.bitOr (Builtin.bitOr (Builtin.bitOr a b) c) d) most = t ∧ (t : Int) ≤ most ∧ a = a / 2 ^ t * 2 ^ t ∧ b = b / 2 ^ t * 2 ^ t ∧ c = c / 2 ^ t * 2 ^ t ∧ d = d / 2 ^ t * 2 ^ t ∧
    ((t : Int) < most → ¬ (a / 2 ^ t % 2 = 0 ∧ b / 2 ^ t % 2 = 0 ∧ c / 2 ^ t % 2 = 0 ∧ d / 2 ^ t % 2 = 0)) := by
  obtain ⟨t, e, h1, h2, h3⟩ := twos_spec (Builtin.bitOr (Builtin.bitOr (Builtin.bitOr a b) c) d) most hm
  have o1 := or_pow t (Builtin.bitOr (Builtin.bitOr a b) c) d
  have d1 := o1.1.mp h2
  have o2 := or_pow t (Builtin.bitOr a b) c
  have d2 := o2.1.mp d1.1
  have o3 := or_pow t a b
  have d3 := o3.1.mp d2.1
  refine ⟨t, e, h1, (Int.ediv_mul_cancel d3.1).symm, (Int.ediv_mul_cancel d3.2).symm, (Int.ediv_mul_cancel d2.2).symm, (Int.ediv_mul_cancel d1.2).symm, fun z w => h3 z ?_⟩
  have ev : ∀ x y : Int, x % 2 = 0 → y % 2 = 0 → Builtin.bitOr x y % 2 = 0 := fun x y hx hy => by
    rw [or_halves, if_pos ⟨hx, hy⟩]; lia
  rw [o1.2 h2, o2.2 d1.1, o3.2 d2.1]
  exact ev _ _ (ev _ _ (ev _ _ w.1 w.2.1) w.2.2.1) w.2.2.2
/-- what number tells -/
noncomputable def num (x : Q4) (k : Int) : Q4 × Int :=
  let t := (twos (Builtin.bitOr (Builtin.bitOr (Builtin.bitOr x.a x.b) x.c) x.d) (k / 2)).toNat
  let y : Q4 := ⟨x.a / 2 ^ t, x.b / 2 ^ t, x.c / 2 ^ t, x.d / 2 ^ t⟩
  if k - 2 * t = 0 ∨ (y.a - y.c) % 2 = 1 ∨ (y.b - y.d) % 2 = 1 then (y, k - 2 * t) else (⟨(y.b - y.d) / 2, (y.a + y.c) / 2, (y.b + y.d) / 2, (y.c - y.a) / 2⟩, k - 2 * t - 1)
theorem half_s {p q : Int} (h : (p - q) % 2 = 0) : (p + q) / 2 - (q - p) / 2 = p ∧ (p + q) / 2 + (q - p) / 2 = q := by lia
theorem half_t {p q : Int} (h : (p - q) % 2 = 0) : (p - q) / 2 + (p + q) / 2 = p ∧ (p + q) / 2 - (p - q) / 2 = q := by lia
theorem par_of {x y : Int} (h : (x - y) % 2 = 0) (k : y % 2 = 0) : x % 2 = 0 := by lia
theorem par_of' {x y : Int} (h : (x - y) % 2 = 0) (k : x % 2 = 0) : y % 2 = 0 := by lia
theorem odd_half {a b c d : Int} (g1 : (a - c) % 2 = 0) (g2 : (b - d) % 2 = 0) (h : ¬ (a % 2 = 0 ∧ b % 2 = 0 ∧ c % 2 = 0 ∧ d % 2 = 0)) : Q4.Odd ⟨(b - d) / 2, (a + c) / 2, (b + d) / 2, (c - a) / 2⟩ := fun z => by
  have z1 : ((b - d) / 2 - (b + d) / 2) % 2 = 0 := z.1
  have z2 : ((a + c) / 2 - (c - a) / 2) % 2 = 0 := z.2
  rw [(half_s g1).1] at z2
  have e := (half_t g2).2
  have z3 : d % 2 = 0 := by lia
  exact h ⟨z2, par_of g2 z3, par_of' g1 z2, z3⟩
theorem num_spec (x : Q4) (k : Int) (hk : 0 ≤ k) : Q4.Least (num x k).1 (num x k).2 ∧ (num x k).2 ≤ k ∧ Q4.rtn (k - (num x k).2).toNat (num x k).1 = x := by
  obtain ⟨t, e, h1, ha, hb, hc, hd, h3⟩ := twos_four x.a x.b x.c x.d (k / 2) (by lia)
  have l2 : 2 * (t : Int) ≤ k := by lia
  unfold num
  simp only [e, Int.toNat_natCast]
  generalize x.a / 2 ^ t = a at *
  generalize x.b / 2 ^ t = b at *
  generalize x.c / 2 ^ t = c at *
  generalize x.d / 2 ^ t = d at *
  have e2 : Q4.dbl (2 ^ t) ⟨a, b, c, d⟩ = x := Q4.ext' ha.symm hb.symm hc.symm hd.symm
  split
  · rename_i h
    refine ⟨⟨Int.sub_nonneg_of_le l2, fun z => ?_⟩, Int.sub_le_self _ (by lia), ?_⟩
    · rcases h with h | h | h
      · exact absurd h (Int.ne_of_gt z)
      · exact fun w => absurd (h.symm.trans w.1) (by decide)
      · exact fun w => absurd (h.symm.trans w.2) (by decide)
    · have : (k - (k - 2 * (t : Int))).toNat = 2 * t := by lia
      simp only [this]
      rw [Q4.rtn_two, e2]
  · rename_i h
    have g0 : k - 2 * (t : Int) ≠ 0 := fun z => h (.inl z)
    have g1 : (a - c) % 2 = 0 := (Int.emod_two_eq (a - c)).resolve_right fun z => h (.inr (.inl z))
    have g2 : (b - d) % 2 = 0 := (Int.emod_two_eq (b - d)).resolve_right fun z => h (.inr (.inr z))
    refine ⟨⟨(by lia : 0 ≤ k - 2 * (t : Int) - 1), fun z => odd_half g1 g2 (h3 ?_)⟩, (by lia : k - 2 * (t : Int) - 1 ≤ k), ?_⟩
    · have z : 0 < k - 2 * (t : Int) - 1 := z
      lia
    · have : (k - (k - 2 * (t : Int) - 1)).toNat = 2 * t + 1 := by lia
      simp only [this]
      show Q4.rtn (2 * t) (Q4.rt _) = x
      rw [Q4.rtn_two]
      have e3 : Q4.rt ⟨(b - d) / 2, (a + c) / 2, (b + d) / 2, (c - a) / 2⟩ = ⟨a, b, c, d⟩ := Q4.ext' (half_s g1).1 (half_t g2).1 (half_s g1).2 (half_t g2).2
      rw [e3, e2]
/-- no part above a bound -/
noncomputable def Q4.Le (M : Nat) (x : Q4) : Prop := x.a.natAbs ≤ M ∧ x.b.natAbs ≤ M ∧ x.c.natAbs ≤ M ∧ x.d.natAbs ≤ M
theorem div_le (a : Int) (t : Nat) (h : a = a / 2 ^ t * 2 ^ t) : (a / 2 ^ t).natAbs ≤ a.natAbs := by
  have pw := pow_pos' t
  have : a.natAbs = (a / 2 ^ t).natAbs * ((2 : Int) ^ t).natAbs := by rw [← Int.natAbs_mul, ← h]
  rw [this]
  exact Nat.le_mul_of_pos_right _ (by lia)
theorem half_add_le {a b : Int} {M : Nat} (ha : a.natAbs ≤ M) (hb : b.natAbs ≤ M) : ((a + b) / 2).natAbs ≤ M := by omega
theorem half_sub_le {a b : Int} {M : Nat} (ha : a.natAbs ≤ M) (hb : b.natAbs ≤ M) : ((a - b) / 2).natAbs ≤ M := by omega
theorem num_le (x : Q4) (k : Int) (hk : 0 ≤ k) (M : Nat) (h : Q4.Le M x) : Q4.Le M (num x k).1 := by
  obtain ⟨t, e, h1, ha, hb, hc, hd, h3⟩ := twos_four x.a x.b x.c x.d (k / 2) (by lia)
  have la := Nat.le_trans (div_le _ _ ha) h.1
  have lb := Nat.le_trans (div_le _ _ hb) h.2.1
  have lc := Nat.le_trans (div_le _ _ hc) h.2.2.1
  have ld := Nat.le_trans (div_le _ _ hd) h.2.2.2
  unfold num Q4.Le
  simp only [e, Int.toNat_natCast]
  split
  · exact ⟨la, lb, lc, ld⟩
  · exact ⟨half_sub_le lb ld, half_add_le la lc, half_add_le lb ld, half_sub_le lc la⟩
theorem two_add_le {a b : Int} {M N : Nat} (ha : a.natAbs ≤ M) (hb : b.natAbs ≤ N) : (a + b).natAbs ≤ M + N := Nat.le_trans (Int.natAbs_add_le a b) (Nat.add_le_add ha hb)
theorem two_sub_le {a b : Int} {M N : Nat} (ha : a.natAbs ≤ M) (hb : b.natAbs ≤ N) : (a - b).natAbs ≤ M + N := Nat.le_trans (Int.natAbs_sub_le a b) (Nat.add_le_add ha hb)
theorem rt_le {x : Q4} {M : Nat} (h : Q4.Le M x) : Q4.Le (2 * M) (Q4.rt x) := by
  obtain ⟨g1, g2, g3, g4⟩ := h
  rw [Nat.two_mul]
  unfold Q4.Le Q4.rt
  exact ⟨two_sub_le g2 g4, two_add_le g1 g3, two_add_le g2 g4, two_sub_le g3 g1⟩
theorem rtn_le {x : Q4} {M : Nat} : ∀ (n : Nat), Q4.Le M x → Q4.Le (2 ^ n * M) (Q4.rtn n x)
  | 0, h => by simpa [Q4.rtn] using h
  | n + 1, h => by
    have := rt_le (rtn_le n h)
    rw [Q4.rtn_succ]
    rw [Nat.pow_succ, Nat.mul_comm (2 ^ n) 2, Nat.mul_assoc]
    exact this
theorem Q4.Le.mono {x : Q4} {M N : Nat} (h : Q4.Le M x) (hl : M ≤ N) : Q4.Le N x := ⟨Nat.le_trans h.1 hl, Nat.le_trans h.2.1 hl, Nat.le_trans h.2.2.1 hl, Nat.le_trans h.2.2.2 hl⟩
theorem add_le {x y : Q4} {M N : Nat} (h : Q4.Le M x) (h' : Q4.Le N y) : Q4.Le (M + N) (Q4.add x y) :=
  ⟨two_add_le h.1 h'.1, two_add_le h.2.1 h'.2.1, two_add_le h.2.2.1 h'.2.2.1, two_add_le h.2.2.2 h'.2.2.2⟩
/-- the sum and the product, as the program tells them -/
noncomputable def plusQ (x : Q4) (c : Int) (y : Q4) (d : Int) : Q4 × Int := num (Q4.add (Q4.rtn (max c d - c).toNat x) (Q4.rtn (max c d - d).toNat y)) (max c d)
/-- turned by eighths -/
noncomputable def tnn : Nat → Q4 → Q4
  | 0, x => x
  | n + 1, x => Q4.tn (tnn n x)
theorem tnn_le {x : Q4} {M : Nat} : ∀ n : Nat, Q4.Le M x → Q4.Le M (tnn n x)
  | 0, h => h
  | n + 1, h => by
    obtain ⟨a, b, c, d⟩ := tnn_le n h
    exact ⟨by simpa [tnn, Q4.tn] using d, a, b, c⟩
theorem tn_odd {x : Q4} : Q4.Odd (Q4.tn x) ↔ Q4.Odd x := by
  unfold Q4.Odd Q4.tn
  simp only
  lia
theorem tnn_odd {x : Q4} : ∀ n : Nat, Q4.Odd (tnn n x) ↔ Q4.Odd x
  | 0 => Iff.rfl
  | n + 1 => tn_odd.trans (tnn_odd n)
theorem tnn_least {x : Q4} {c : Int} (n : Nat) (h : Q4.Least x c) : Q4.Least (tnn n x) c := ⟨h.1, fun z => (tnn_odd n).mpr (h.2 z)⟩
/-- x over c roots is u over k roots, and it is in least form -/
noncomputable def Is (x : Q4) (c : Nat) (u : Q4) (k : Nat) : Prop := Q4.Least x c ∧ Q4.rtn k x = Q4.rtn c u
theorem rtn_swap (m n : Nat) (x : Q4) : Q4.rtn m (Q4.rtn n x) = Q4.rtn n (Q4.rtn m x) := by rw [← Q4.rtn_add, ← Q4.rtn_add, Nat.add_comm]
theorem Is.self {x : Q4} {c : Nat} (h : Q4.Least x c) : Is x c x c := ⟨h, rfl⟩
theorem Is.one {x y u v : Q4} {c d k l : Nat} (hx : Is x c u k) (hy : Is y d v l) (h : Q4.rtn l u = Q4.rtn k v) : x = y ∧ c = d := by
  have e : Q4.rtn d x = Q4.rtn c y := by
    refine Q4.rtn_inj (n := k + l) ?_
    rw [Q4.rtn_add, Q4.rtn_add, rtn_swap l d x, rtn_swap k d, rtn_swap k l, hx.2, rtn_swap l c u, h, rtn_swap l c y, hy.2, rtn_swap k c, rtn_swap k d v, rtn_swap d c]
  exact Q4.Least.one (m := c + d) hx.1 hy.1 (by lia) (by lia) (by rw [show c + d - c = d by lia, show c + d - d = c by lia]; exact e)
theorem num_is (u : Q4) (k : Nat) : ∃ c : Nat, (num u k).2 = c ∧ c ≤ k ∧ Is (num u k).1 c u k := by
  obtain ⟨s1, s2, s3⟩ := num_spec u k (by lia)
  obtain ⟨c, hc⟩ : ∃ c : Nat, (num u k).2 = c := ⟨(num u k).2.toNat, by have := s1.1; lia⟩
  rw [hc] at s1 s2 s3
  refine ⟨c, hc, by lia, s1, ?_⟩
  have e : ((k : Int) - c).toNat = k - c := by lia
  rw [e] at s3
  conv => rhs; rw [← s3]
  rw [← Q4.rtn_add]
  congr 1
  lia
theorem Is.trans {x u v : Q4} {c k l : Nat} (h : Is x c u k) (e : Q4.rtn l u = Q4.rtn k v) : Is x c v l := by
  refine ⟨h.1, Q4.rtn_inj (n := k) ?_⟩
  rw [rtn_swap, h.2, rtn_swap, e, rtn_swap]
theorem tn_rtn (n : Nat) (x : Q4) : Q4.tn (Q4.rtn n x) = Q4.rtn n (Q4.tn x) := by
  induction n generalizing x with
  | zero => rfl
  | succ n ih => show Q4.tn (Q4.rtn n (Q4.rt x)) = Q4.rtn n (Q4.rt (Q4.tn x)); rw [ih, Q4.tn_rt]
theorem tnn_rtn (m n : Nat) (x : Q4) : tnn m (Q4.rtn n x) = Q4.rtn n (tnn m x) := by
  induction m with
  | zero => rfl
  | succ m ih => show Q4.tn (tnn m (Q4.rtn n x)) = _; rw [ih, tn_rtn]; rfl
theorem tnn_add (m n : Nat) (x : Q4) : tnn (m + n) x = tnn m (tnn n x) := by
  induction m with
  | zero => rw [Nat.zero_add]; rfl
  | succ m ih => rw [Nat.succ_add]; show Q4.tn (tnn (m + n) x) = _; rw [ih]; rfl
theorem tnn8 (x : Q4) : tnn 8 x = x := by simp [tnn, Q4.tn]
theorem tnn_mod (n : Nat) (x : Q4) : tnn (n % 8) x = tnn n x := by
  conv => rhs; rw [← Nat.mod_add_div n 8]
  rw [tnn_add]
  congr 1
  generalize n / 8 = q
  induction q with
  | zero => rfl
  | succ q ih => rw [Nat.mul_succ, tnn_add, tnn8]; exact ih
theorem tnn_mul (n : Nat) (x y : Q4) : tnn n (Q4.mul x y) = Q4.mul x (tnn n y) := by
  induction n with
  | zero => rfl
  | succ n ih => show Q4.tn (tnn n (Q4.mul x y)) = _; rw [ih, Q4.tn_mul]; rfl
theorem plusQ_le {x y : Q4} {c d : Nat} {p r : Nat} (hx : Q4.Le (2 ^ p) x) (hy : Q4.Le (2 ^ p) y) (hc : c ≤ r) (hd : d ≤ r) : Q4.Le (2 ^ (p + r + 1)) (plusQ x c y d).1 := by
  have em : max (c : Int) d = ((max c d : Nat) : Int) := by lia
  unfold plusQ
  refine num_le _ _ (by lia) _ ?_
  have up : ∀ (n : Nat) (z : Q4), n ≤ r → Q4.Le (2 ^ p) z → Q4.Le (2 ^ (p + r)) (Q4.rtn n z) := fun n z hn hz => by
    refine (rtn_le n hz).mono ?_
    rw [← Nat.pow_add]
    exact Nat.pow_le_pow_right (by decide) (by lia)
  have := add_le (up (max (c : Int) d - c).toNat x (by lia) hx) (up (max (c : Int) d - d).toNat y (by lia) hy)
  rw [Nat.pow_succ, Nat.mul_two]
  exact this
/-! ### shares -/
structure S2 where
  p : Int
  q : Int
namespace S2
theorem ext' {x y : S2} (h1 : x.p = y.p) (h2 : x.q = y.q) : x = y := by
  cases x; cases y; simp at h1 h2; subst h1 h2; rfl
noncomputable def add (x y : S2) : S2 := ⟨x.p + y.p, x.q + y.q⟩
noncomputable def mul (x y : S2) : S2 := ⟨x.p * y.p + 2 * x.q * y.q, x.p * y.q + x.q * y.p⟩
noncomputable def sc (n : Nat) (x : S2) : S2 := ⟨x.p * 2 ^ n, x.q * 2 ^ n⟩
theorem sc_add (m n : Nat) (x : S2) : sc (m + n) x = sc m (sc n x) := by
  apply ext' <;> simp only [sc, Int.pow_add] <;> rw [Int.mul_assoc, Int.mul_comm (2 ^ n)]
theorem sc_swap (m n : Nat) (x : S2) : sc m (sc n x) = sc n (sc m x) := by rw [← sc_add, ← sc_add, Nat.add_comm]
theorem sc_inj {n : Nat} {x y : S2} (h : sc n x = sc n y) : x = y := by
  have pw := pow_pos' n
  have h1 := congrArg S2.p h
  have h2 := congrArg S2.q h
  simp only [sc] at h1 h2
  exact ext' (Int.eq_of_mul_eq_mul_right (by lia) h1) (Int.eq_of_mul_eq_mul_right (by lia) h2)
theorem sc_addS (n : Nat) (x y : S2) : sc n (add x y) = add (sc n x) (sc n y) := by apply ext' <;> simp only [sc, add, Int.add_mul]
noncomputable def Odd (x : S2) : Prop := ¬ (x.p % 2 = 0 ∧ x.q % 2 = 0)
theorem sc_even (n : Nat) (x : S2) : ¬ Odd (sc (n + 1) x) := by
  unfold Odd sc
  rw [Int.pow_succ, ← Int.mul_assoc, ← Int.mul_assoc]
  simp only
  lia
noncomputable def Least (x : S2) (c : Nat) : Prop := 0 < c → Odd x
theorem Least.one {x y : S2} {k l m : Nat} (hx : Least x k) (hy : Least y l) (h1 : k ≤ m) (h2 : l ≤ m) (h : sc (m - k) x = sc (m - l) y) : x = y ∧ k = l := by
  have key : ∀ {x y : S2} {k l : Nat}, Least y l → k ≤ m → l ≤ m → k < l → sc (m - k) x = sc (m - l) y → False := by
    intro x y k l hy h1 h2 hlt h
    have e : m - k = (m - l) + (l - k) := by lia
    rw [e, sc_add] at h
    have h3 := sc_inj h
    obtain ⟨n, hn⟩ : ∃ n, l - k = n + 1 := ⟨l - k - 1, by lia⟩
    rw [hn] at h3
    have := hy (by lia)
    rw [← h3] at this
    exact sc_even _ _ this
  rcases Nat.lt_trichotomy k l with q | q | q
  · exact (key hy h1 h2 q h).elim
  · subst q; exact ⟨sc_inj h, rfl⟩
  · exact (key hx h2 h1 q h.symm).elim
noncomputable def Le (M : Nat) (x : S2) : Prop := x.p.natAbs ≤ M ∧ x.q.natAbs ≤ M
theorem Le.mono {x : S2} {M N : Nat} (h : Le M x) (hl : M ≤ N) : Le N x := ⟨Nat.le_trans h.1 hl, Nat.le_trans h.2 hl⟩
theorem add_le {x y : S2} {M N : Nat} (h : Le M x) (h' : Le N y) : Le (M + N) (add x y) :=
  ⟨Nat.le_trans (Int.natAbs_add_le _ _) (Nat.add_le_add h.1 h'.1), Nat.le_trans (Int.natAbs_add_le _ _) (Nat.add_le_add h.2 h'.2)⟩
/-- x over c twos is u over k twos, in least form -/
noncomputable def Is (x : S2) (c : Nat) (u : S2) (k : Nat) : Prop := Least x c ∧ sc k x = sc c u
theorem Is.one {x y u v : S2} {c d k l : Nat} (hx : Is x c u k) (hy : Is y d v l) (h : sc l u = sc k v) : x = y ∧ c = d := by
  have e : sc d x = sc c y := by
    refine sc_inj (n := k + l) ?_
    rw [sc_add, sc_add, sc_swap l d x, sc_swap k d, sc_swap k l, hx.2, sc_swap l c u, h, sc_swap l c y, hy.2, sc_swap k c, sc_swap k d v, sc_swap d c]
  exact Least.one (m := c + d) hx.1 hy.1 (by lia) (by lia) (by rw [show c + d - c = d by lia, show c + d - d = c by lia]; exact e)
theorem Is.trans {x u v : S2} {c k l : Nat} (h : Is x c u k) (e : sc l u = sc k v) : Is x c v l := by
  refine ⟨h.1, sc_inj (n := k) ?_⟩
  rw [sc_swap, h.2, sc_swap, e, sc_swap]
end S2
/-- the size of four parts -/
noncomputable def nrm (x : Q4) : S2 := ⟨x.a * x.a + x.b * x.b + x.c * x.c + x.d * x.d, x.a * x.b + x.b * x.c + x.c * x.d - x.d * x.a⟩
theorem nrm_rt (x : Q4) : nrm (Q4.rt x) = S2.sc 1 (nrm x) := by apply S2.ext' <;> simp only [nrm, Q4.rt, S2.sc] <;> grind
theorem nrm_rtn (n : Nat) (x : Q4) : nrm (Q4.rtn n x) = S2.sc n (nrm x) := by
  induction n generalizing x with
  | zero => apply S2.ext' <;> simp [Q4.rtn, S2.sc]
  | succ n ih => show nrm (Q4.rtn n (Q4.rt x)) = _; rw [ih, nrm_rt, ← S2.sc_add]
theorem nrm_tn (x : Q4) : nrm (Q4.tn x) = nrm x := by apply S2.ext' <;> simp only [nrm, Q4.tn] <;> grind
theorem nrm_tnn (n : Nat) (x : Q4) : nrm (tnn n x) = nrm x := by
  induction n with
  | zero => rfl
  | succ n ih => show nrm (Q4.tn (tnn n x)) = _; rw [nrm_tn, ih]
theorem nrm_two (x y : Q4) : S2.add (nrm (Q4.add x y)) (nrm (Q4.add x (Q4.neg y))) = S2.add (S2.add (nrm x) (nrm y)) (S2.add (nrm x) (nrm y)) := by
  apply S2.ext' <;> simp only [nrm, Q4.add, Q4.neg, S2.add] <;> grind
theorem sq_nn (a : Int) : 0 ≤ a * a := by
  rcases Int.le_total 0 a with h | h
  · exact Int.mul_nonneg h h
  · have := Int.mul_nonneg (Int.neg_nonneg.mpr h) (Int.neg_nonneg.mpr h)
    rwa [Int.neg_mul_neg] at this
/-- a size is not below nought -/
theorem nrm_nn (x : Q4) : 0 ≤ (nrm x).p ∧ 2 * (nrm x).q * (nrm x).q ≤ (nrm x).p * (nrm x).p := by
  constructor
  · have := sq_nn x.a; have := sq_nn x.b; have := sq_nn x.c; have := sq_nn x.d
    simp only [nrm]
    lia
  · have e : (nrm x).p * (nrm x).p - 2 * (nrm x).q * (nrm x).q = (x.a * x.a - x.c * x.c + 2 * x.b * x.d) * (x.a * x.a - x.c * x.c + 2 * x.b * x.d) + (2 * x.a * x.c - x.b * x.b + x.d * x.d) * (2 * x.a * x.c - x.b * x.b + x.d * x.d) := by
      simp only [nrm]
      grind
    have h1 := sq_nn (x.a * x.a - x.c * x.c + 2 * x.b * x.d)
    have h2 := sq_nn (2 * x.a * x.c - x.b * x.b + x.d * x.d)
    lia
/-! ### states -/
noncomputable abbrev Nu := Q4 × Nat
inductive Row where
  | swing (j : Nat) | turn (j : Nat) (e : Nat) | flip (j : Nat) | tie (i j : Nat) | sign (i j : Nat) | cross (i j : Nat)
noncomputable def plusN (u v : Nu) : Nu := ((plusQ u.1 u.2 v.1 v.2).1, (plusQ u.1 u.2 v.1 v.2).2.toNat)
noncomputable def halfN (u : Nu) : Nu := ((num u.1 ((u.2 + 1 : Nat) : Int)).1, (num u.1 ((u.2 + 1 : Nat) : Int)).2.toNat)
noncomputable def turnN (e : Nat) (u : Nu) : Nu := (tnn (e % 8) u.1, u.2)
/-- what wire j's bit is worth -/
noncomputable def wt (n j : Nat) : Nat := 2 ^ (n - 1 - j)
noncomputable def bit (w p : Nat) : Nat := p / w % 2
noncomputable def flp (w p : Nat) : Nat := if bit w p = 0 then p + w else p - w
/-- where a flip, a tie, a cross take the number from -/
noncomputable def from_ (n : Nat) : Row → Nat → Nat
  | .flip j, p => flp (wt n j) p
  | .tie i j, p => if bit (wt n i) p = 0 then p else flp (wt n j) p
  | .cross i j, p => if bit (wt n i) p = bit (wt n j) p then p else flp (wt n j) (flp (wt n i) p)
  | _, p => p
noncomputable def doneAt (n : Nat) (f : Nat → Nu) : Row → Nat → Nu
  | .swing j, p => if bit (wt n j) p = 0 then halfN (plusN (f p) (f (p + wt n j))) else halfN (plusN (f (p - wt n j)) (turnN 4 (f p)))
  | .turn j e, p => turnN (e * bit (wt n j) p) (f p)
  | .sign i j, p => turnN (4 * bit (wt n i) p * bit (wt n j) p) (f p)
  | r, p => f (from_ n r p)
noncomputable def Row.ok (n : Nat) : Row → Prop
  | .swing j => j < n
  | .turn j e => j < n ∧ 1 ≤ e ∧ e ≤ 7
  | .flip j => j < n
  | .tie i j => i < n ∧ j < n ∧ i ≠ j
  | .sign i j => i < n ∧ j < n ∧ i ≠ j
  | .cross i j => i < n ∧ j < n ∧ i ≠ j
theorem wt_pos (n j : Nat) : 0 < wt n j := Nat.pow_pos (by decide)
theorem wt_two {n j : Nat} (h : j < n) : 2 ^ n = wt n j * 2 ^ (j + 1) := by
  unfold wt
  rw [← Nat.pow_add]; congr 1; omega
theorem bit_lt (w p : Nat) : bit w p < 2 := Nat.mod_lt _ (by decide)
/-- p = (2 q + bit) w + rest -/
theorem bit_split (w p : Nat) (hw : 0 < w) : ∃ q r, p = (2 * q + bit w p) * w + r ∧ r < w := by
  refine ⟨p / w / 2, p % w, ?_, Nat.mod_lt _ hw⟩
  unfold bit
  rw [Nat.div_add_mod, Nat.div_add_mod']
theorem bit_of {w q b r : Nat} (hb : b < 2) (hr : r < w) : bit w ((2 * q + b) * w + r) = b := by
  unfold bit
  rw [Nat.mul_comm, Nat.mul_add_div (by lia), Nat.div_eq_of_lt hr]
  lia
theorem bit1_le {w p : Nat} (hw : 0 < w) (h : bit w p = 1) : w ≤ p := by
  obtain ⟨q, r, e, _⟩ := bit_split w p hw
  rw [h] at e
  have : (2 * q + 1) * w = 2 * q * w + w := by rw [Nat.add_mul, Nat.one_mul]
  lia
theorem bit0_lt {n j p : Nat} (hj : j < n) (hp : p < 2 ^ n) (h : bit (wt n j) p = 0) : p + wt n j < 2 ^ n := by
  obtain ⟨q, r, e, hr⟩ := bit_split (wt n j) p (wt_pos n j)
  rw [h] at e
  have h2 := wt_two hj
  have hq : q < 2 ^ j := by
    refine Nat.lt_of_not_le fun z => ?_
    have : 2 * 2 ^ j * wt n j ≤ 2 * q * wt n j := Nat.mul_le_mul_right _ (by lia)
    have e2 : wt n j * 2 ^ (j + 1) = 2 * 2 ^ j * wt n j := by rw [Nat.pow_succ, Nat.mul_comm, Nat.mul_comm (2 ^ j) 2]
    rw [Nat.add_zero] at e
    lia
  have : (2 * q + 2) * wt n j ≤ 2 * 2 ^ j * wt n j := Nat.mul_le_mul_right _ (by lia)
  have e2 : wt n j * 2 ^ (j + 1) = 2 * 2 ^ j * wt n j := by rw [Nat.pow_succ, Nat.mul_comm, Nat.mul_comm (2 ^ j) 2]
  have e3 : (2 * q + 2) * wt n j = 2 * q * wt n j + 2 * wt n j := Nat.add_mul ..
  rw [Nat.add_zero] at e
  lia
theorem flp_lt {n j p : Nat} (hj : j < n) (hp : p < 2 ^ n) : flp (wt n j) p < 2 ^ n := by
  unfold flp
  split
  · exact bit0_lt hj hp (by assumption)
  · omega
theorem from_lt {n p : Nat} {r : Row} (hr : r.ok n) (hp : p < 2 ^ n) : from_ n r p < 2 ^ n := by
  cases r with
  | flip j => exact flp_lt hr hp
  | tie i j => show (if _ then _ else _) < _; split; exact hp; exact flp_lt hr.2.1 hp
  | cross i j => show (if _ then _ else _) < _; split; exact hp; exact flp_lt hr.2.1 (flp_lt hr.1 hp)
  | _ => exact hp
theorem flp_div {w p : Nat} (hw : 0 < w) : flp w p / (2 * w) = p / (2 * w) := by
  obtain ⟨q, r, e, hr⟩ := bit_split w p hw
  have h2 := bit_lt w p
  have e1 : (2 * q + bit w p) * w = 2 * w * q + bit w p * w := by rw [Nat.add_mul, Nat.mul_right_comm]
  have one : ∀ x, x < 2 * w → (2 * w * q + x) / (2 * w) = q := fun x hx => by rw [Nat.mul_add_div (by lia), Nat.div_eq_of_lt hx, Nat.add_zero]
  unfold flp
  split
  · rename_i h
    rw [h] at e e1
    have a := one (r + w) (by lia)
    have b := one r (by lia)
    rw [show p + w = 2 * w * q + (r + w) by lia, a, show p = 2 * w * q + r by lia, b]
  · rename_i h
    have h1 : bit w p = 1 := by lia
    rw [h1] at e e1
    have a := one (r + w) (by lia)
    have b := one r (by lia)
    rw [show p - w = 2 * w * q + r by lia, b, show p = 2 * w * q + (r + w) by lia, a]
theorem bit_shift (x p m : Nat) (hx : 0 < x) : bit x (p + 2 * x * m) = bit x p := by
  unfold bit
  rw [show p + 2 * x * m = p + x * (2 * m) by rw [Nat.mul_comm 2 x, Nat.mul_assoc], Nat.add_mul_div_left _ _ hx]
  lia
/-- the other bits stay -/
theorem bit_flp {n i j p : Nat} (hi : i < n) (hj : j < n) (hij : i ≠ j) : bit (wt n j) (flp (wt n i) p) = bit (wt n j) p := by
  have hw := wt_pos n i
  by_cases h : j < i
  · -- the flipped bit is worth less
    have e : wt n j = 2 * wt n i * 2 ^ (i - j - 1) := by
      unfold wt
      rw [show 2 * 2 ^ (n - 1 - i) = 2 ^ (n - 1 - i + 1) by rw [Nat.pow_succ, Nat.mul_comm], ← Nat.pow_add]
      congr 1; lia
    unfold bit
    rw [e, ← Nat.div_div_eq_div_mul (flp (wt n i) p) (2 * wt n i), ← Nat.div_div_eq_div_mul p (2 * wt n i), flp_div hw]
  · have e : wt n i = 2 * wt n j * 2 ^ (j - i - 1) := by
      unfold wt
      rw [show 2 * 2 ^ (n - 1 - j) = 2 ^ (n - 1 - j + 1) by rw [Nat.pow_succ, Nat.mul_comm], ← Nat.pow_add]
      congr 1; lia
    unfold flp
    split
    · rw [e]; exact bit_shift _ _ _ (wt_pos n j)
    · rename_i hb
      have h2 := bit_lt (wt n i) p
      have := bit1_le (w := wt n i) (p := p) hw (by lia)
      have := bit_shift (wt n j) (p - wt n i) (2 ^ (j - i - 1)) (wt_pos n j)
      rw [← this, ← e, Nat.sub_add_cancel (by assumption)]
theorem bit_flp_same {w p : Nat} (hw : 0 < w) : bit w (flp w p) = 1 - bit w p := by
  obtain ⟨q, r, e, hr⟩ := bit_split w p hw
  have h2 := bit_lt w p
  unfold flp
  split
  · rename_i h
    rw [h] at e
    rw [h, show p + w = (2 * q + 1) * w + r by rw [Nat.add_mul] at e ⊢; lia]
    exact bit_of (by decide) hr
  · rename_i h
    have h1 : bit w p = 1 := by lia
    rw [h1] at e
    rw [h1, show p - w = (2 * q + 0) * w + r by rw [Nat.add_mul] at e ⊢; lia]
    exact bit_of (by decide) hr
theorem flp_flp {w p : Nat} (hw : 0 < w) : flp w (flp w p) = p := by
  have h := bit_flp_same (p := p) hw
  have h2 := bit_lt w p
  by_cases c : bit w p = 0
  · have e : flp w p = p + w := if_pos c
    rw [c] at h
    rw [e] at h ⊢
    unfold flp
    rw [if_neg (by lia)]; lia
  · have c1 : bit w p = 1 := by lia
    have e : flp w p = p - w := if_neg c
    have := bit1_le hw c1
    rw [c1] at h
    rw [e] at h ⊢
    unfold flp
    rw [if_pos (by lia)]; lia
/-! ### bits of a whole number -/
theorem band (a b : Nat) : Builtin.bitAnd (a : Int) (b : Int) = ((a &&& b : Nat) : Int) := by
  unfold Builtin.bitAnd
  simp
theorem two_parts {x y z : Nat} (h : x / 2 = y / 2 + z / 2) (m : x % 2 = y % 2 + z % 2) : x = y + z := by lia
theorem mod_parts {u v w : Nat} {p q : Prop} (hu : u < 2) (hv : v < 2) (hw : w < 2) (m1 : u = 1 ↔ p ∨ q) (m2 : v = 1 ↔ ¬ (p ↔ q)) (m3 : w = 1 ↔ p ∧ q) : u = v + w := by
  have z : ∀ {x : Nat}, x < 2 → ¬ x = 1 → x = 0 := fun h k => by lia
  by_cases a : p <;> by_cases b : q
  · rw [m1.mpr (.inl a), m3.mpr ⟨a, b⟩, z hv fun e => m2.mp e ⟨fun _ => b, fun _ => a⟩]
  · rw [m1.mpr (.inl a), m2.mpr fun e => b (e.mp a), z hw fun e => b (m3.mp e).2]
  · rw [m1.mpr (.inr b), m2.mpr fun e => a (e.mpr b), z hw fun e => a (m3.mp e).1]
  · rw [z hu fun e => (m1.mp e).elim a b, z hv fun e => m2.mp e ⟨fun c => absurd c a, fun c => absurd c b⟩, z hw fun e => a (m3.mp e).1]
theorem and_or_nat : ∀ (k a b : Nat), a < 2 ^ k → b < 2 ^ k → (a ||| b) = (a ^^^ b) + (a &&& b)
  | 0, a, b, ha, hb => by
    have : a = 0 := by simpa using ha
    have : b = 0 := by simpa using hb
    subst a; subst b; rfl
  | k + 1, a, b, ha, hb => by
    have ih := and_or_nat k (a / 2) (b / 2) (by rw [Nat.pow_succ] at ha; lia) (by rw [Nat.pow_succ] at hb; lia)
    have h1 := @Nat.or_div_two a b
    have h2 := @Nat.xor_div_two a b
    have h3 := @Nat.and_div_two a b
    have m1 := @Nat.or_mod_two_eq_one a b
    have m2 := @Nat.xor_mod_two_eq_one a b
    have m3 := @Nat.and_mod_two_eq_one a b
    rw [← h1, ← h2, ← h3] at ih
    exact two_parts ih (mod_parts (Nat.mod_lt _ (by decide)) (Nat.mod_lt _ (by decide)) (Nat.mod_lt _ (by decide)) m1 m2 m3)
theorem bor (a b : Nat) : Builtin.bitOr (a : Int) (b : Int) = ((a ||| b : Nat) : Int) := by
  have h1 : ¬ (0 : Int) ≤ Builtin.bitNot (a : Int) := by unfold Builtin.bitNot; lia
  have h2 : ¬ (0 : Int) ≤ Builtin.bitNot (b : Int) := by unfold Builtin.bitNot; lia
  have e1 : (Builtin.bitNot (Builtin.bitNot (a : Int))).toNat = a := by unfold Builtin.bitNot; lia
  have e2 : (Builtin.bitNot (Builtin.bitNot (b : Int))).toNat = b := by unfold Builtin.bitNot; lia
  unfold Builtin.bitOr Builtin.bitAnd
  rw [decide_eq_false h1, decide_eq_false h2]
  dsimp only
  rw [e1, e2]
  unfold Builtin.bitNot
  lia
theorem bxor (a b : Nat) : Builtin.bitXor (a : Int) (b : Int) = ((a ^^^ b : Nat) : Int) := by
  unfold Builtin.bitXor
  rw [bor, band]
  have h : ∀ n : Nat, n < 2 ^ n := fun n => Nat.lt_two_pow_self
  have := and_or_nat (max a b) a b (Nat.lt_of_lt_of_le (h a) (Nat.pow_le_pow_right (by decide) (by lia))) (Nat.lt_of_lt_of_le (h b) (Nat.pow_le_pow_right (by decide) (by lia)))
  lia
/-- how many bits are 1 -/
noncomputable def cnt (n : Nat) : Nat := if n = 0 then 0 else n % 2 + cnt (n / 2)
termination_by n
decreasing_by lia
/-- is an odd number of bits 1? -/
noncomputable def par (n : Nat) : Nat := cnt n % 2
/-! ### words -/
structure Wd where
  x : Nat
  z : Nat
  s : Nat
noncomputable def Wd.ok (n : Nat) (w : Wd) : Prop := w.x < 2 ^ n ∧ w.z < 2 ^ n ∧ w.s < 4
/-! ### shapes: == of a thing with itself -/
noncomputable def Sh (k : Nat) (d : PyData) : Prop := d.canLay0 = true ∧ d.depth ≤ k
theorem Sh.int (k : Nat) (i : Int) : Sh k (.int i) := ⟨by simp [PyData.canLay0], by simp [PyData.depth]⟩
theorem Sh.all {k : Nat} : ∀ (xs : List PyData), (∀ x ∈ xs, Sh k x) → PyData.canLayAll0 xs = true ∧ PyData.depthAll xs ≤ k
  | [], _ => ⟨by simp [PyData.canLayAll0], by simp [PyData.depthAll]⟩
  | x :: xs, h => by
    obtain ⟨a, b⟩ := Sh.all xs fun y hy => h y (List.mem_cons_of_mem _ hy)
    obtain ⟨c, d⟩ := h x List.mem_cons_self
    refine ⟨by simp [PyData.canLayAll0, a, c], ?_⟩
    simp only [PyData.depthAll]
    lia
theorem Sh.tuple {k : Nat} {xs : List PyData} (h : ∀ x ∈ xs, Sh k x) : Sh (k + 1) (.tuple xs) := by
  obtain ⟨a, b⟩ := Sh.all xs h
  exact ⟨by simp [PyData.canLay0, a], by simp only [PyData.depth]; lia⟩
theorem Sh.list {k : Nat} {xs : List PyData} (h : ∀ x ∈ xs, Sh k x) : Sh (k + 1) (.list xs) := by
  obtain ⟨a, b⟩ := Sh.all xs h
  exact ⟨by simp [PyData.canLay0, a], by simp only [PyData.depth]; lia⟩
mutual
theorem eqv_self : ∀ d : PyData, d.canLay0 = true → PyData.eqv d d = true
  | .none, _ => by simp [PyData.eqv]
  | .bool _, _ => by simp [PyData.eqv]
  | .int _, _ => by simp [PyData.eqv]
  | .str _, _ => by simp [PyData.eqv]
  | .list xs, h => by
    simp only [PyData.eqv]
    exact eqvAll_self xs (by simpa [PyData.canLay0] using h)
  | .tuple xs, h => by
    simp only [PyData.eqv]
    exact eqvAll_self xs (by simpa [PyData.canLay0] using h)
  | .dict _, h => by simp [PyData.canLay0] at h
theorem eqvAll_self : ∀ xs : List PyData, PyData.canLayAll0 xs = true → PyData.eqvAll xs xs = true
  | [], _ => by simp [PyData.eqvAll]
  | x :: xs, h => by
    have h' : x.canLay0 = true ∧ PyData.canLayAll0 xs = true := by simpa [PyData.canLayAll0] using h
    simp only [PyData.eqvAll, eqv_self x h'.1, eqvAll_self xs h'.2, Bool.and_self]
end
/-! ### all numbers over one great r**M -/
noncomputable def val (M : Nat) (u : Nu) : Q4 := Q4.rtn (M - u.2) u.1
theorem num_rtn (x : Q4) (k M : Nat) (h : k ≤ M) : Q4.rtn (M - (num x k).2.toNat) (num x k).1 = Q4.rtn (M - k) x := by
  obtain ⟨s1, s2, s3⟩ := num_spec x k (by lia)
  have h0 := s1.1
  have e : M - (num x (k : Int)).2.toNat = (M - k) + ((k : Int) - (num x (k : Int)).2).toNat := by lia
  rw [e, Q4.rtn_add, s3]
theorem val_turn (M e : Nat) (u : Nu) : val M (turnN e u) = tnn (e % 8) (val M u) := by
  unfold val turnN
  rw [tnn_rtn]
theorem val_plus {M : Nat} {u v : Nu} (hu : u.2 ≤ M) (hv : v.2 ≤ M) : val M (plusN u v) = Q4.add (val M u) (val M v) := by
  unfold val plusN plusQ
  have hk : max (u.2 : Int) v.2 = ((max u.2 v.2 : Nat) : Int) := by omega
  rw [hk]
  simp only
  rw [num_rtn _ _ M (by omega), Q4.rtn_addQ, ← Q4.rtn_add, ← Q4.rtn_add]
  congr 2 <;> congr 1 <;> omega
theorem val_half {M : Nat} {u : Nu} (hu : u.2 + 1 ≤ M) : Q4.rt (val M (halfN u)) = val M u := by
  unfold val halfN
  rw [num_rtn _ _ M hu, ← Q4.rtn_succ]
  congr 1
  lia
theorem val_neg (M : Nat) (u : Nu) : val M (turnN 4 u) = Q4.neg (val M u) := by
  rw [val_turn]
  show Q4.tn (Q4.tn (Q4.tn (Q4.tn (val M u)))) = _
  unfold Q4.tn Q4.neg
  rfl
noncomputable def LeastN (u : Nu) : Prop := Q4.Least u.1 u.2
theorem val_inj {M : Nat} {u v : Nu} (hu : LeastN u) (hv : LeastN v) (h1 : u.2 ≤ M) (h2 : v.2 ≤ M) (h : val M u = val M v) : u = v := by
  obtain ⟨a, b⟩ := Q4.Least.one hu hv h1 h2 h
  exact Prod.ext a b
theorem num_least (x : Q4) (k : Nat) : LeastN ((num x k).1, (num x k).2.toNat) := by
  obtain ⟨s1, s2, s3⟩ := num_spec x k (by lia)
  show Q4.Least (num x k).1 ((num x k).2.toNat : Int)
  rw [Int.toNat_of_nonneg s1.1]; exact s1
theorem half_least (u : Nu) : LeastN (halfN u) := num_least _ _
theorem turn_least {u : Nu} (e : Nat) (h : LeastN u) : LeastN (turnN e u) := tnn_least _ h
theorem done_least {f : Nat → Nu} (h : ∀ p, LeastN (f p)) (n : Nat) (r : Row) (p : Nat) : LeastN (doneAt n f r p) := by
  cases r with
  | swing j =>
    show LeastN (if bit (wt n j) p = 0 then _ else _)
    split <;> exact half_least _
  | turn j e => exact turn_least _ (h p)
  | sign i j => exact turn_least _ (h p)
  | flip j => exact h _
  | tie i j => exact h _
  | cross i j => exact h _
/-! ### sums over places -/
noncomputable def sumI : Nat → (Nat → Int) → Int
  | 0, _ => 0
  | n + 1, F => sumI n F + F n
theorem sumI_congr {F G : Nat → Int} : ∀ (n : Nat), (∀ p, p < n → F p = G p) → sumI n F = sumI n G
  | 0, _ => rfl
  | n + 1, h => by
    show sumI n F + F n = sumI n G + G n
    rw [sumI_congr n fun p hp => h p (by lia), h n (by lia)]
theorem sumI_add (F G : Nat → Int) : ∀ n : Nat, sumI n (fun p => F p + G p) = sumI n F + sumI n G
  | 0 => rfl
  | n + 1 => by
    show sumI n _ + (F n + G n) = sumI n F + F n + (sumI n G + G n)
    rw [sumI_add F G n]; lia
theorem sumI_split (F : Nat → Int) (a : Nat) : ∀ b : Nat, sumI (a + b) F = sumI a F + sumI b (fun r => F (a + r))
  | 0 => by show sumI a F = sumI a F + 0; lia
  | b + 1 => by
    show sumI (a + b) F + F (a + b) = _ + (sumI b _ + F (a + b))
    rw [sumI_split F a b]; lia
theorem sumI_mul (F : Nat → Int) (b : Nat) : ∀ a : Nat, sumI (a * b) F = sumI a (fun q => sumI b (fun r => F (q * b + r)))
  | 0 => by rw [Nat.zero_mul]; rfl
  | a + 1 => by
    rw [Nat.succ_mul, sumI_split, sumI_mul F b a]; rfl
theorem sum_pair {n j : Nat} (hj : j < n) {F G : Nat → Int} (h : ∀ p, p < 2 ^ n → bit (wt n j) p = 0 → G p + G (p + wt n j) = F p + F (p + wt n j)) : sumI (2 ^ n) G = sumI (2 ^ n) F := by
  have hw := wt_pos n j
  have e : 2 ^ n = 2 ^ j * (wt n j + wt n j) := by
    rw [wt_two hj, Nat.pow_succ, Nat.mul_comm, Nat.mul_assoc, Nat.mul_comm 2, Nat.mul_two]
  have two : ∀ H : Nat → Int, sumI (2 ^ n) H = sumI (2 ^ j) (fun q => sumI (wt n j) (fun r => H (q * (wt n j + wt n j) + r) + H (q * (wt n j + wt n j) + r + wt n j))) := fun H => by
    rw [e, sumI_mul]
    refine sumI_congr _ fun q _ => ?_
    rw [sumI_split, ← sumI_add]
    refine sumI_congr _ fun r _ => ?_
    rw [← Nat.add_assoc, Nat.add_right_comm]
  rw [two G, two F]
  refine sumI_congr _ fun q hq => sumI_congr _ fun r hr => ?_
  have e2 : q * (wt n j + wt n j) + r = (2 * q + 0) * wt n j + r := by
    rw [Nat.add_zero, Nat.mul_add, ← Nat.add_mul, ← Nat.two_mul]
  have hb : bit (wt n j) (q * (wt n j + wt n j) + r) = 0 := by rw [e2]; exact bit_of (by decide) hr
  have hl : q * (wt n j + wt n j) + r < 2 ^ n := by
    have : (q + 1) * (wt n j + wt n j) ≤ 2 ^ j * (wt n j + wt n j) := Nat.mul_le_mul_right _ hq
    rw [Nat.succ_mul] at this
    lia
  exact h _ hl hb
/-- a flip where some condition that does not see the bit holds -/
theorem sum_flip {n j : Nat} (hj : j < n) (c : Nat → Bool) (hc : ∀ p, c (flp (wt n j) p) = c p) (F : Nat → Int) : sumI (2 ^ n) (fun p => F (if c p = true then flp (wt n j) p else p)) = sumI (2 ^ n) F := by
  refine sum_pair hj fun p hp hb => ?_
  have e : flp (wt n j) p = p + wt n j := if_pos hb
  have hc := hc p
  rw [e] at hc
  have hw := wt_pos n j
  have e2 : flp (wt n j) (p + wt n j) = p := by rw [← e]; exact flp_flp hw
  rw [hc, e, e2]
  by_cases h : c p = true
  · rw [if_pos h, if_pos h]; lia
  · rw [if_neg h, if_neg h]
theorem sum_tie {n i j : Nat} (hi : i < n) (hj : j < n) (hij : i ≠ j) (F : Nat → Int) : sumI (2 ^ n) (fun p => F (from_ n (.tie i j) p)) = sumI (2 ^ n) F := by
  have := sum_flip hj (fun p => !(bit (wt n i) p == 0)) (fun p => by rw [bit_flp hj hi (Ne.symm hij)]) F
  rw [← this]
  refine sumI_congr _ fun p _ => ?_
  show F (if bit (wt n i) p = 0 then p else flp (wt n j) p) = _
  by_cases h : bit (wt n i) p = 0 <;> simp [h]
theorem flpZ {w p : Nat} (hw : 0 < w) : ((flp w p : Nat) : Int) = (p : Int) + w - 2 * ((w * bit w p : Nat) : Int) := by
  have h2 := bit_lt w p
  unfold flp
  by_cases h : bit w p = 0
  · rw [if_pos h, h]; lia
  · have h1 : bit w p = 1 := by lia
    have := bit1_le hw h1
    rw [if_neg h, h1]; lia
theorem flp_comm {n i j p : Nat} (hi : i < n) (hj : j < n) (hij : i ≠ j) : flp (wt n j) (flp (wt n i) p) = flp (wt n i) (flp (wt n j) p) := by
  have a := flpZ (p := flp (wt n i) p) (wt_pos n j)
  have b := flpZ (p := flp (wt n j) p) (wt_pos n i)
  rw [bit_flp hi hj hij, flpZ (wt_pos n i)] at a
  rw [bit_flp hj hi (Ne.symm hij), flpZ (wt_pos n j)] at b
  lia
theorem sum_cross {n i j : Nat} (hi : i < n) (hj : j < n) (hij : i ≠ j) (F : Nat → Int) : sumI (2 ^ n) (fun p => F (from_ n (.cross i j) p)) = sumI (2 ^ n) F := by
  have h1 := sum_tie hi hj hij (fun p => F (from_ n (.tie i j) (from_ n (.tie j i) p)))
  have h2 := sum_tie hj hi (Ne.symm hij) (fun p => F (from_ n (.tie i j) p))
  have h3 := sum_tie hi hj hij F
  rw [← h3, ← h2, ← h1]
  refine sumI_congr _ fun p _ => ?_
  have hwi := wt_pos n i
  have hwj := wt_pos n j
  have a1 := bit_lt (wt n i) p
  have a2 := bit_lt (wt n j) p
  have f1 := bit_flp (p := p) hj hi (Ne.symm hij)
  have f2 := bit_flp_same (p := p) hwj
  have f3 := bit_flp (p := p) hi hj hij
  have f4 := bit_flp_same (p := p) hwi
  congr 1
  show (if bit (wt n i) p = bit (wt n j) p then p else flp (wt n j) (flp (wt n i) p)) = _
  have b1 : bit (wt n i) p = 0 ∨ bit (wt n i) p = 1 := by lia
  have b2 : bit (wt n j) p = 0 ∨ bit (wt n j) p = 1 := by lia
  have comm : flp (wt n j) (flp (wt n i) p) = flp (wt n i) (flp (wt n j) p) := flp_comm hi hj hij
  have on : ∀ {i j p : Nat}, bit (wt n i) p = 1 → from_ n (.tie i j) p = flp (wt n j) p := fun {i j p} h => by
    show (if bit (wt n i) p = 0 then p else flp (wt n j) p) = _
    rw [h]; rfl
  have off : ∀ {i j p : Nat}, bit (wt n i) p = 0 → from_ n (.tie i j) p = p := fun {i j p} h => if_pos h
  rcases b1 with b1 | b1 <;> rcases b2 with b2 | b2
  · rw [if_pos (by rw [b1, b2]), off b1, off b2, off b1]
  · rw [if_neg (by rw [b1, b2]; decide), off b1, on b2, on (by rw [f4, b1])]
  · rw [if_neg (by rw [b1, b2]; decide), on b1, on (i := j) (by rw [f2, b2]), off (by rw [bit_flp_same hwi, f1, b1]), comm]
  · rw [if_pos (by rw [b1, b2]), on b1, off (i := j) (by rw [f2, b2]), on (by rw [f1, b1]), flp_flp hwj]
theorem plusN_le' (u v : Nu) : (plusN u v).2 ≤ max u.2 v.2 := by
  have hk : max (u.2 : Int) v.2 = ((max u.2 v.2 : Nat) : Int) := by lia
  unfold plusN plusQ
  rw [hk]
  obtain ⟨s1, s2, s3⟩ := num_spec (Q4.add (Q4.rtn (((max u.2 v.2 : Nat) : Int) - u.2).toNat u.1) (Q4.rtn (((max u.2 v.2 : Nat) : Int) - v.2).toNat v.1)) ((max u.2 v.2 : Nat) : Int) (by lia)
  show (num _ _).2.toNat ≤ _
  lia
/-! ### the whole and the inner number stay -/
theorem nrm_pair {x y s t : Q4} (h1 : Q4.rt x = Q4.add s t) (h2 : Q4.rt y = Q4.add s (Q4.neg t)) : S2.add (nrm x) (nrm y) = S2.add (nrm s) (nrm t) := by
  apply S2.sc_inj (n := 1)
  rw [S2.sc_addS, ← nrm_rt, ← nrm_rt, h1, h2, nrm_two]
  apply S2.ext' <;> simp only [S2.add, S2.sc] <;> lia
noncomputable def nsum (M n : Nat) (f : Nat → Nu) : S2 := ⟨sumI (2 ^ n) (fun p => (nrm (val M (f p))).p), sumI (2 ^ n) (fun p => (nrm (val M (f p))).q)⟩
/-- what a plain row does to a sum over places: F of the new state's place -/
theorem sum_done {n M : Nat} (r : Row) (hr : r.ok n) (f : Nat → Nu) (hf : ∀ p, (f p).2 + 1 ≤ M) (F : Q4 → Int) (ht : ∀ e x, F (tnn e x) = F x) (hp : ∀ x y s t, Q4.rt x = Q4.add s t → Q4.rt y = Q4.add s (Q4.neg t) → F x + F y = F s + F t) : sumI (2 ^ n) (fun p => F (val M (doneAt n f r p))) = sumI (2 ^ n) (fun p => F (val M (f p))) := by
  cases r with
  | swing j =>
    refine sum_pair hr fun p hp' hb => ?_
    have hw := wt_pos n j
    have hb1 : bit (wt n j) (p + wt n j) = 1 := by
      have := bit_flp_same (p := p) hw
      rw [show flp (wt n j) p = p + wt n j from if_pos hb, hb] at this
      exact this
    have e1 : doneAt n f (.swing j) p = halfN (plusN (f p) (f (p + wt n j))) := if_pos hb
    have e2 : doneAt n f (.swing j) (p + wt n j) = halfN (plusN (f (p + wt n j - wt n j)) (turnN 4 (f (p + wt n j)))) := if_neg (by rw [hb1]; decide)
    rw [Nat.add_sub_cancel] at e2
    rw [e1, e2]
    have a := hf p
    have b := hf (p + wt n j)
    have l1 : (plusN (f p) (f (p + wt n j))).2 ≤ max (f p).2 (f (p + wt n j)).2 := plusN_le' _ _
    have l2 : (plusN (f p) (turnN 4 (f (p + wt n j)))).2 ≤ max (f p).2 (f (p + wt n j)).2 := plusN_le' _ _
    refine hp _ _ _ _ ?_ ?_
    · rw [val_half (by lia), val_plus (by lia) (by lia)]
    · rw [val_half (by lia), val_plus (by lia) (by show (f (p + wt n j)).2 ≤ M; lia), val_neg]
  | turn j e => exact sumI_congr _ fun p _ => by show F (val M (turnN _ (f p))) = _; rw [val_turn, ht]
  | sign i j => exact sumI_congr _ fun p _ => by show F (val M (turnN _ (f p))) = _; rw [val_turn, ht]
  | flip j =>
    have := sum_flip hr (fun _ => true) (fun _ => rfl) (fun p => F (val M (f p)))
    exact this
  | tie i j => exact sum_tie hr.1 hr.2.1 hr.2.2 (fun p => F (val M (f p)))
  | cross i j => exact sum_cross hr.1 hr.2.1 hr.2.2 (fun p => F (val M (f p)))
theorem nsum_done {n M : Nat} (r : Row) (hr : r.ok n) (f : Nat → Nu) (hf : ∀ p, (f p).2 + 1 ≤ M) : nsum M n (doneAt n f r) = nsum M n f := by
  apply S2.ext'
  · exact sum_done r hr f hf (fun x => (nrm x).p) (fun e x => by rw [nrm_tnn]) fun x y s t h1 h2 => by
      have := congrArg S2.p (nrm_pair h1 h2); exact this
  · exact sum_done r hr f hf (fun x => (nrm x).q) (fun e x => by rw [nrm_tnn]) fun x y s t h1 h2 => by
      have := congrArg S2.q (nrm_pair h1 h2); exact this
/-! ### inner numbers -/
noncomputable def sumQ (N : Nat) (F : Nat → Q4) : Q4 := ⟨sumI N (fun p => (F p).a), sumI N (fun p => (F p).b), sumI N (fun p => (F p).c), sumI N (fun p => (F p).d)⟩
theorem sumQ_succ (N : Nat) (F : Nat → Q4) : sumQ (N + 1) F = Q4.add (sumQ N F) (F N) := rfl
theorem sumQ_congr {F G : Nat → Q4} (N : Nat) (h : ∀ p, p < N → F p = G p) : sumQ N F = sumQ N G := by
  apply Q4.ext'
  · exact sumI_congr N fun p hp => by rw [h p hp]
  · exact sumI_congr N fun p hp => by rw [h p hp]
  · exact sumI_congr N fun p hp => by rw [h p hp]
  · exact sumI_congr N fun p hp => by rw [h p hp]
theorem mul_two (s t s' t' : Q4) : Q4.add (Q4.mul (Q4.mir (Q4.add s t)) (Q4.add s' t')) (Q4.mul (Q4.mir (Q4.add s (Q4.neg t))) (Q4.add s' (Q4.neg t'))) = Q4.dbl 2 (Q4.add (Q4.mul (Q4.mir s) s') (Q4.mul (Q4.mir t) t')) := by
  apply Q4.ext' <;> simp only [Q4.mul, Q4.mir, Q4.add, Q4.neg, Q4.dbl] <;> grind
theorem rtn_zero : ∀ k, Q4.rtn k ⟨0, 0, 0, 0⟩ = ⟨0, 0, 0, 0⟩
  | 0 => rfl
  | k + 1 => by rw [Q4.rtn_succ, rtn_zero k]; rfl
/-! ### columns: the state of a sum is the sum of the states -/
theorem sumQ_rt (F : Nat → Q4) : ∀ N : Nat, Q4.rt (sumQ N F) = sumQ N (fun p => Q4.rt (F p))
  | 0 => by apply Q4.ext' <;> rfl
  | N + 1 => by rw [sumQ_succ, Q4.rt_add, sumQ_rt F N]; rfl
theorem tn_add (x y : Q4) : Q4.tn (Q4.add x y) = Q4.add (Q4.tn x) (Q4.tn y) := by apply Q4.ext' <;> simp only [Q4.tn, Q4.add] <;> lia
theorem tnn_addQ (e : Nat) : ∀ (x y : Q4), tnn e (Q4.add x y) = Q4.add (tnn e x) (tnn e y) := by
  induction e with
  | zero => intro x y; rfl
  | succ e ih =>
    intro x y
    have e1 : ∀ z, tnn (e + 1) z = tnn e (Q4.tn z) := fun z => by rw [tnn_add e 1 z]; rfl
    rw [e1, e1, e1, tn_add, ih]
theorem tnn_zero (e : Nat) : tnn e ⟨0, 0, 0, 0⟩ = ⟨0, 0, 0, 0⟩ := by
  induction e with
  | zero => rfl
  | succ e ih =>
    have e1 : ∀ z, tnn (e + 1) z = tnn e (Q4.tn z) := fun z => by rw [tnn_add e 1 z]; rfl
    rw [e1]
    exact ih
theorem sumQ_tnn (e : Nat) (F : Nat → Q4) : ∀ N : Nat, tnn e (sumQ N F) = sumQ N (fun p => tnn e (F p))
  | 0 => tnn_zero e
  | N + 1 => by rw [sumQ_succ, tnn_addQ, sumQ_tnn e F N]; rfl
theorem sumQ_add (F G : Nat → Q4) (N : Nat) : sumQ N (fun p => Q4.add (F p) (G p)) = Q4.add (sumQ N F) (sumQ N G) := by
  apply Q4.ext'
  · exact sumI_add (fun p => (F p).a) (fun p => (G p).a) N
  · exact sumI_add (fun p => (F p).b) (fun p => (G p).b) N
  · exact sumI_add (fun p => (F p).c) (fun p => (G p).c) N
  · exact sumI_add (fun p => (F p).d) (fun p => (G p).d) N
theorem val_swing {n M j : Nat} {f : Nat → Nu} (hf : ∀ p, (f p).2 + 1 ≤ M) (x : Nat) : Q4.rt (val M (doneAt n f (.swing j) x)) = if bit (wt n j) x = 0 then Q4.add (val M (f x)) (val M (f (x + wt n j))) else Q4.add (val M (f (x - wt n j))) (tnn 4 (val M (f x))) := by
  show Q4.rt (val M (if bit (wt n j) x = 0 then halfN (plusN (f x) (f (x + wt n j))) else halfN (plusN (f (x - wt n j)) (turnN 4 (f x))))) = _
  split
  · have a := hf x
    have b := hf (x + wt n j)
    have l := plusN_le' (f x) (f (x + wt n j))
    rw [val_half (by lia), val_plus (by lia) (by lia)]
  · have a := hf x
    have b := hf (x - wt n j)
    have l : (plusN (f (x - wt n j)) (turnN 4 (f x))).2 ≤ max (f (x - wt n j)).2 (f x).2 := plusN_le' _ _
    rw [val_half (by lia), val_plus (by lia) (by show (f x).2 ≤ M; lia), val_turn]
/-- g is the sum of the c p, each times a p -/
noncomputable def Sup (N M K : Nat) (a : Nat → Q4) (c : Nat → Nat → Nu) (g : Nat → Nu) : Prop := ∀ x, val N (g x) = sumQ K (fun p => Q4.mul (a p) (val M (c p x)))
theorem Sup.done {n N M K : Nat} {a : Nat → Q4} {c : Nat → Nat → Nu} {g : Nat → Nu} (h : Sup N M K a c g) (hg : ∀ p, (g p).2 + 1 ≤ N) (hc : ∀ p x, (c p x).2 + 1 ≤ M) (r : Row) : Sup N M K a (fun p => doneAt n (c p) r) (doneAt n g r) := by
  have tm : ∀ (e : Nat) (x : Nat), val N (turnN e (g x)) = sumQ K (fun p => Q4.mul (a p) (val M (turnN e (c p x)))) := fun e x => by
    rw [val_turn, h x, sumQ_tnn]
    refine sumQ_congr _ fun p _ => ?_
    rw [tnn_mul, val_turn]
  intro x
  cases r with
  | swing j =>
    apply Q4.rt_inj
    rw [val_swing hg x, sumQ_rt]
    have e : ∀ p, Q4.rt (Q4.mul (a p) (val M (doneAt n (c p) (.swing j) x))) = Q4.mul (a p) (if bit (wt n j) x = 0 then Q4.add (val M (c p x)) (val M (c p (x + wt n j))) else Q4.add (val M (c p (x - wt n j))) (tnn 4 (val M (c p x)))) := fun p => by
      rw [← val_swing (hc p) x, Q4.mul_comm, Q4.rt_mul, Q4.mul_comm]
    simp only [e]
    split
    · rw [h x, h (x + wt n j), ← sumQ_add]
      exact sumQ_congr _ fun p _ => by rw [Q4.mul_add]
    · rw [h x, h (x - wt n j), sumQ_tnn, ← sumQ_add]
      exact sumQ_congr _ fun p _ => by rw [Q4.mul_add, tnn_mul]
  | turn j e => exact tm _ x
  | sign i j => exact tm _ x
  | flip j => exact h _
  | tie i j => exact h _
  | cross i j => exact h _
/-- one at p, nought elsewhere -/
noncomputable def oneAt (p : Nat) : Nat → Nu := fun q => if q = p then (⟨1, 0, 0, 0⟩, 0) else (⟨0, 0, 0, 0⟩, 0)
theorem sumQ_one {F : Nat → Q4} {x : Nat} (hF : ∀ p, p ≠ x → F p = ⟨0, 0, 0, 0⟩) : ∀ N : Nat, sumQ N F = if x < N then F x else ⟨0, 0, 0, 0⟩
  | 0 => by rw [if_neg (by lia)]; apply Q4.ext' <;> rfl
  | N + 1 => by
    rw [sumQ_succ, sumQ_one hF N]
    by_cases h : x < N
    · rw [if_pos h, if_pos (by lia), hF N (by lia)]
      apply Q4.ext' <;> simp [Q4.add]
    · by_cases h2 : x = N
      · subst h2
        rw [if_neg h, if_pos (by lia)]
        apply Q4.ext' <;> simp [Q4.add]
      · rw [if_neg h, if_neg (by lia), hF N (Ne.symm h2)]
        apply Q4.ext' <;> simp [Q4.add]
theorem mul_zero' (x : Q4) : Q4.mul x ⟨0, 0, 0, 0⟩ = ⟨0, 0, 0, 0⟩ := by apply Q4.ext' <;> simp [Q4.mul]
theorem mul_one' (x : Q4) : Q4.mul x ⟨1, 0, 0, 0⟩ = x := by apply Q4.ext' <;> simp [Q4.mul]
theorem val_zero (M : Nat) : val M (⟨0, 0, 0, 0⟩, 0) = ⟨0, 0, 0, 0⟩ := rtn_zero _
theorem Sup.start {n M : Nat} (s : Nat → Nu) (hs : ∀ p, (s p).2 ≤ M) (hz : ∀ p, 2 ^ n ≤ p → s p = (⟨0, 0, 0, 0⟩, 0)) : Sup (M + M) M (2 ^ n) (fun p => val M (s p)) oneAt s := by
  intro x
  have hF : ∀ p, p ≠ x → Q4.mul (val M (s p)) (val M (oneAt p x)) = ⟨0, 0, 0, 0⟩ := fun p hp => by
    unfold oneAt
    rw [if_neg (Ne.symm hp), val_zero, mul_zero']
  rw [sumQ_one hF]
  by_cases h : x < 2 ^ n
  · rw [if_pos h]
    unfold oneAt
    rw [if_pos rfl]
    unfold val
    have := hs x
    show Q4.rtn (M + M - (s x).2) (s x).1 = Q4.mul (Q4.rtn (M - (s x).2) (s x).1) (Q4.rtn (M - 0) ⟨1, 0, 0, 0⟩)
    rw [← Q4.rtn_mul2, mul_one']
    congr 1
    lia
  · rw [if_neg h, hz x (by lia), val_zero]
end MA
namespace GN
open PySem L2 VL
noncomputable def top (i : Nat) : Stmt := PySem.Challenge.pw_wavewires_k60_rounds.main.body.getD i (.Pass ⟨0, 0, 0, 0⟩)
noncomputable def tt_HasLooks : List (Str × Bool) := [("HasLooks", true), ("UnlikeWires", false)]
noncomputable def tt_OddTurn : List (Str × Bool) := [("HasLooks", false), ("UnlikeWires", false)]
noncomputable def tt_UnlikeWires : List (Str × Bool) := [("HasLooks", false), ("UnlikeWires", true)]
noncomputable def hs_WaveError : List Str := ["HasLooks", "UnlikeWires"]
noncomputable abbrev s_twos_shared : Stmt := top 6
noncomputable abbrev N_twos_shared : List Str := ["joined", "most"]
noncomputable def b_twos_shared : Sf := sSeq (sIf (ob (o2 (oV 0) (oC (.int 0)) eqD)) (sRet (oV 1)) (sNx)) (sRet (os (oCons (oV 1) (oCons (o2 (o1 (o2 (oV 0) (o1 (oV 0) negD) andD) bitsD) (oC (.int 1)) subD) (oNil))) minD))
noncomputable def g_twos_shared : List D → Option D := runB N_twos_shared 2 b_twos_shared
noncomputable abbrev s_by_root : Stmt := top 7
noncomputable abbrev N_by_root : List Str := ["a", "b", "c", "d"]
noncomputable def b_by_root : Sf := sRet (os (oCons (o2 (oV 1) (oV 3) subD) (oCons (o2 (oV 0) (oV 2) addD) (oCons (o2 (oV 1) (oV 3) addD) (oCons (o2 (oV 2) (oV 0) subD) (oNil))))) tupD)
noncomputable def g_by_root : List D → Option D := runB N_by_root 4 b_by_root
noncomputable abbrev s_number : Stmt := top 8
noncomputable abbrev N_number : List Str := ["a", "b", "c", "d", "k", "twos", "doubled"]
noncomputable def b_number : Sf := sSeq (sSet 5 (os (oCons (o2 (o2 (o2 (oV 0) (oV 1) orD) (oV 2) orD) (oV 3) orD) (oCons (o2 (oV 4) (oC (.int 2)) divD) (oNil))) g_twos_shared)) (sSeq (sSet 0 (o2 (oV 0) (oV 5) shrD)) (sSeq (sSet 1 (o2 (oV 1) (oV 5) shrD)) (sSeq (sSet 2 (o2 (oV 2) (oV 5) shrD)) (sSeq (sSet 3 (o2 (oV 3) (oV 5) shrD)) (sSeq (sSet 4 (o2 (oV 4) (o2 (oC (.int 2)) (oV 5) mulI) subD)) (sSeq (sIf (oOr (ob (o2 (oV 4) (oC (.int 0)) eqD)) (oOr (ob (o2 (o2 (o2 (oV 0) (oV 2) subD) (oC (.int 2)) modD) (oC (.int 1)) eqD)) (ob (o2 (o2 (o2 (oV 1) (oV 3) subD) (oC (.int 2)) modD) (oC (.int 1)) eqD)))) (sRet (os (oCons (oV 0) (oCons (oV 1) (oCons (oV 2) (oCons (oV 3) (oCons (oV 4) (oNil)))))) tupD)) (sNx)) (sSeq (sSet 6 (os (oCons (oV 0) (oCons (oV 1) (oCons (oV 2) (oCons (oV 3) (oNil))))) g_by_root)) (sRet (os (oCons (o2 (o2 (oV 6) (oC (.int 0)) ixD) (oC (.int 2)) divD) (oCons (o2 (o2 (oV 6) (oC (.int 1)) ixD) (oC (.int 2)) divD) (oCons (o2 (o2 (oV 6) (oC (.int 2)) ixD) (oC (.int 2)) divD) (oCons (o2 (o2 (oV 6) (oC (.int 3)) ixD) (oC (.int 2)) divD) (oCons (o2 (oV 4) (oC (.int 1)) subD) (oNil)))))) tupD)))))))))
noncomputable def g_number : List D → Option D := runB N_number 5 b_number
noncomputable abbrev s_parts_over : Stmt := top 9
noncomputable abbrev N_parts_over : List Str := ["x", "k", "more", "twos", "a", "b", "c", "d"]
noncomputable def b_parts_over : Sf := sSeq (sSet 2 (o2 (oV 1) (o2 (oV 0) (oC (.int 4)) ixD) subD)) (sSeq (sSet 3 (o2 (oV 2) (oC (.int 2)) divD)) (sSeq (sSet 4 (o2 (o2 (oV 0) (oC (.int 0)) ixD) (oV 3) shlD)) (sSeq (sSet 5 (o2 (o2 (oV 0) (oC (.int 1)) ixD) (oV 3) shlD)) (sSeq (sSet 6 (o2 (o2 (oV 0) (oC (.int 2)) ixD) (oV 3) shlD)) (sSeq (sSet 7 (o2 (o2 (oV 0) (oC (.int 3)) ixD) (oV 3) shlD)) (sSeq (sIf (ob (o2 (o2 (oV 2) (oC (.int 2)) modD) (oC (.int 1)) eqD)) (sRet (os (oCons (oV 4) (oCons (oV 5) (oCons (oV 6) (oCons (oV 7) (oNil))))) g_by_root)) (sNx)) (sRet (os (oCons (oV 4) (oCons (oV 5) (oCons (oV 6) (oCons (oV 7) (oNil))))) tupD))))))))
noncomputable def g_parts_over : List D → Option D := runB N_parts_over 2 b_parts_over
noncomputable abbrev s_plus : Stmt := top 10
noncomputable abbrev N_plus : List Str := ["x", "y", "k", "s", "t"]
noncomputable def b_plus : Sf := sSeq (sSet 2 (os (oCons (o2 (oV 0) (oC (.int 4)) ixD) (oCons (o2 (oV 1) (oC (.int 4)) ixD) (oNil))) maxD)) (sSeq (sSet 3 (os (oCons (oV 0) (oCons (oV 2) (oNil))) g_parts_over)) (sSeq (sSet 4 (os (oCons (oV 1) (oCons (oV 2) (oNil))) g_parts_over)) (sRet (os (oCons (o2 (o2 (oV 3) (oC (.int 0)) ixD) (o2 (oV 4) (oC (.int 0)) ixD) addD) (oCons (o2 (o2 (oV 3) (oC (.int 1)) ixD) (o2 (oV 4) (oC (.int 1)) ixD) addD) (oCons (o2 (o2 (oV 3) (oC (.int 2)) ixD) (o2 (oV 4) (oC (.int 2)) ixD) addD) (oCons (o2 (o2 (oV 3) (oC (.int 3)) ixD) (o2 (oV 4) (oC (.int 3)) ixD) addD) (oCons (oV 2) (oNil)))))) g_number))))
noncomputable def g_plus : List D → Option D := runB N_plus 2 b_plus
noncomputable abbrev s_against : Stmt := top 11
noncomputable abbrev N_against : List Str := ["x"]
noncomputable def b_against : Sf := sRet (os (oCons (o1 (o2 (oV 0) (oC (.int 0)) ixD) negD) (oCons (o1 (o2 (oV 0) (oC (.int 1)) ixD) negD) (oCons (o1 (o2 (oV 0) (oC (.int 2)) ixD) negD) (oCons (o1 (o2 (oV 0) (oC (.int 3)) ixD) negD) (oCons (o2 (oV 0) (oC (.int 4)) ixD) (oNil)))))) tupD)
noncomputable def g_against : List D → Option D := runB N_against 1 b_against
noncomputable abbrev s_turned : Stmt := top 12
noncomputable abbrev N_turned : List Str := ["x", "e", "around"]
noncomputable def b_turned : Sf := sSeq (sSet 2 (os (oCons (o2 (oV 0) (oC (.int 0)) ixD) (oCons (o2 (oV 0) (oC (.int 1)) ixD) (oCons (o2 (oV 0) (oC (.int 2)) ixD) (oCons (o2 (oV 0) (oC (.int 3)) ixD) (oCons (o1 (o2 (oV 0) (oC (.int 0)) ixD) negD) (oCons (o1 (o2 (oV 0) (oC (.int 1)) ixD) negD) (oCons (o1 (o2 (oV 0) (oC (.int 2)) ixD) negD) (oCons (o1 (o2 (oV 0) (oC (.int 3)) ixD) negD) (oNil))))))))) tupD)) (sRet (os (oCons (o2 (oV 2) (o2 (o2 (oC (.int 0)) (oV 1) subD) (oC (.int 8)) modD) ixD) (oCons (o2 (oV 2) (o2 (o2 (oC (.int 1)) (oV 1) subD) (oC (.int 8)) modD) ixD) (oCons (o2 (oV 2) (o2 (o2 (oC (.int 2)) (oV 1) subD) (oC (.int 8)) modD) ixD) (oCons (o2 (oV 2) (o2 (o2 (oC (.int 3)) (oV 1) subD) (oC (.int 8)) modD) ixD) (oCons (o2 (oV 0) (oC (.int 4)) ixD) (oNil)))))) tupD))
noncomputable def g_turned : List D → Option D := runB N_turned 2 b_turned
noncomputable abbrev s_halved : Stmt := top 13
noncomputable abbrev N_halved : List Str := ["x"]
noncomputable def b_halved : Sf := sRet (os (oCons (o2 (oV 0) (oC (.int 0)) ixD) (oCons (o2 (oV 0) (oC (.int 1)) ixD) (oCons (o2 (oV 0) (oC (.int 2)) ixD) (oCons (o2 (oV 0) (oC (.int 3)) ixD) (oCons (o2 (o2 (oV 0) (oC (.int 4)) ixD) (oC (.int 1)) addD) (oNil)))))) g_number)
noncomputable def g_halved : List D → Option D := runB N_halved 1 b_halved
noncomputable abbrev s_worth : Stmt := top 16
noncomputable abbrev N_worth : List Str := ["wires", "wire"]
noncomputable def b_worth : Sf := sRet (o2 (oC (.int 1)) (o2 (o2 (oV 0) (oC (.int 1)) subD) (oV 1) subD) shlD)
noncomputable def g_worth : List D → Option D := runB N_worth 2 b_worth
noncomputable abbrev s_swung : Stmt := top 17
noncomputable abbrev N_swung : List Str := ["state", "bit", "told", "p"]
noncomputable def l1_swung : Sf := sIf (ob (o2 (o2 (oV 3) (oV 1) andD) (oC (.int 0)) eqD)) (sApp 2 (os (oCons (os (oCons (o2 (oV 0) (oV 3) ixD) (oCons (o2 (oV 0) (o2 (oV 3) (oV 1) xorD) ixD) (oNil))) g_plus) (oNil)) g_halved)) (sApp 2 (os (oCons (os (oCons (o2 (oV 0) (o2 (oV 3) (oV 1) xorD) ixD) (oCons (os (oCons (o2 (oV 0) (oV 3) ixD) (oNil)) g_against) (oNil))) g_plus) (oNil)) g_halved))
noncomputable def b_swung : Sf := sSeq (sOwn 2 (oNil)) (sSeq (sFor (oL (oCons (os (oCons (oV 0) (oNil)) lenD) (oNil)) rng1D) (gN 3) (l1_swung)) (fun δ => (sRet (os (oCons (oV 2) (oNil)) tupleD)) (dFz 2 δ)))
noncomputable def g_swung : List D → Option D := runB N_swung 2 b_swung
noncomputable abbrev s_turned_where : Stmt := top 18
noncomputable abbrev N_turned_where : List Str := ["state", "held", "e"]
noncomputable def p1_turned_where : Dv → Option D := oComp (oL (oCons (os (oCons (oV 0) (oNil)) lenD) (oNil)) rng1D) [(0, "state"), (1, "held"), (2, "e")] bv1 (oIf (ob (o2 (o2 (oV 0) (oV 2) andD) (oV 2) eqD)) (os (oCons (o2 (oV 1) (oV 0) ixD) (oCons (oV 3) (oNil))) g_turned) (o2 (oV 1) (oV 0) ixD))
noncomputable def b_turned_where : Sf := sRet (os (oCons (p1_turned_where) (oNil)) tupleD)
noncomputable def g_turned_where : List D → Option D := runB N_turned_where 3 b_turned_where
noncomputable abbrev s_flipped_where : Stmt := top 19
noncomputable abbrev N_flipped_where : List Str := ["state", "held", "bit"]
noncomputable def p1_flipped_where : Dv → Option D := oComp (oL (oCons (os (oCons (oV 0) (oNil)) lenD) (oNil)) rng1D) [(0, "state"), (1, "held"), (2, "bit")] bv1 (oIf (ob (o2 (o2 (oV 0) (oV 2) andD) (oV 2) eqD)) (o2 (oV 1) (o2 (oV 0) (oV 3) xorD) ixD) (o2 (oV 1) (oV 0) ixD))
noncomputable def b_flipped_where : Sf := sRet (os (oCons (p1_flipped_where) (oNil)) tupleD)
noncomputable def g_flipped_where : List D → Option D := runB N_flipped_where 3 b_flipped_where
noncomputable abbrev s_exchanged : Stmt := top 20
noncomputable abbrev N_exchanged : List Str := ["place", "both"]
noncomputable def b_exchanged : Sf := sRet (oIf (ob (o2 (o2 (oV 0) (oV 1) andD) (os (oCons (oC (.int 0)) (oCons (oV 1) (oNil))) tupD) (inD false))) (oV 0) (o2 (oV 0) (oV 1) xorD))
noncomputable def g_exchanged : List D → Option D := runB N_exchanged 2 b_exchanged
noncomputable abbrev s_done : Stmt := top 21
noncomputable abbrev N_done : List Str := ["state", "row", "wires", "first", "second"]
noncomputable def p1_done : Dv → Option D := oComp (oL (oCons (os (oCons (oV 0) (oNil)) lenD) (oNil)) rng1D) [(0, "state"), (3, "first"), (4, "second")] bv1 (o2 (oV 1) (os (oCons (oV 0) (oCons (o2 (oV 2) (oV 3) orD) (oNil))) g_exchanged) ixD)
noncomputable def b_done : Sf := sSeq (sSet 2 (o2 (o1 (os (oCons (oV 0) (oNil)) lenD) bitsD) (oC (.int 1)) subD)) (sSeq (sSet 3 (os (oCons (oV 2) (oCons (o2 (oV 1) (oC (.int 1)) ixD) (oNil))) g_worth)) (sSeq (sIf (ob (o2 (o2 (oV 1) (oC (.int 0)) ixD) (oC (.str "swing")) eqD)) (sRet (os (oCons (oV 0) (oCons (oV 3) (oNil))) g_swung)) (sNx)) (sSeq (sIf (ob (o2 (o2 (oV 1) (oC (.int 0)) ixD) (oC (.str "turn")) eqD)) (sRet (os (oCons (oV 0) (oCons (oV 3) (oCons (o2 (oV 1) (oC (.int 2)) ixD) (oNil)))) g_turned_where)) (sNx)) (sSeq (sIf (ob (o2 (o2 (oV 1) (oC (.int 0)) ixD) (oC (.str "flip")) eqD)) (sRet (os (oCons (oV 0) (oCons (oC (.int 0)) (oCons (oV 3) (oNil)))) g_flipped_where)) (sNx)) (sSeq (sSet 4 (os (oCons (oV 2) (oCons (o2 (oV 1) (oC (.int 2)) ixD) (oNil))) g_worth)) (sSeq (sIf (ob (o2 (o2 (oV 1) (oC (.int 0)) ixD) (oC (.str "tie")) eqD)) (sRet (os (oCons (oV 0) (oCons (oV 3) (oCons (oV 4) (oNil)))) g_flipped_where)) (sNx)) (sSeq (sIf (ob (o2 (o2 (oV 1) (oC (.int 0)) ixD) (oC (.str "sign")) eqD)) (sRet (os (oCons (oV 0) (oCons (o2 (oV 3) (oV 4) orD) (oCons (oC (.int 4)) (oNil)))) g_turned_where)) (sNx)) (sRet (os (oCons (p1_done) (oNil)) tupleD)))))))))
noncomputable def g_done : List D → Option D := runB N_done 2 b_done
noncomputable abbrev s_all_done : Stmt := top 22
noncomputable abbrev N_all_done : List Str := ["state", "rows", "row"]
noncomputable def l1_all_done : Sf := sSet 0 (os (oCons (oV 0) (oCons (oV 2) (oNil))) g_done)
noncomputable def b_all_done : Sf := sSeq (sFor (oI (oV 1) itsD) (gN 2) (l1_all_done)) (sRet (oV 0))
noncomputable def g_all_done : List D → Option D := runB N_all_done 2 b_all_done
noncomputable abbrev s_all_plain : Stmt := top 23
noncomputable abbrev N_all_plain : List Str := ["rows"]
noncomputable def p1_all_plain : Dv → Option D := oComp (oI (oV 0) itsD) [] bv1 (o2 (o2 (oV 0) (oC (.int 0)) ixD) (oC (.tuple [.str "swing", .str "turn", .str "flip", .str "tie", .str "sign", .str "cross"])) (inD false))
noncomputable def b_all_plain : Sf := sRet (os (oCons (p1_all_plain) (oNil)) allD)
noncomputable def g_all_plain : List D → Option D := runB N_all_plain 1 b_all_plain
noncomputable abbrev s_is_plain : Stmt := top 25
noncomputable abbrev N_is_plain : List Str := ["circuit"]
noncomputable def b_is_plain : Sf := sRet (os (oCons (o2 (oV 0) (oC (.int 1)) ixD) (oNil)) g_all_plain)
noncomputable def g_is_plain : List D → Option D := runB N_is_plain 1 b_is_plain
noncomputable abbrev s_refuse_apart : Stmt := top 27
noncomputable abbrev N_refuse_apart : List Str := ["one", "other"]
noncomputable def b_refuse_apart : Sf := sSeq (sIf (oOr (oNot (ob (os (oCons (oV 0) (oNil)) g_is_plain))) (oNot (ob (os (oCons (oV 1) (oNil)) g_is_plain)))) (sNo) (sNx)) (sIf (ob (o2 (o2 (oV 0) (oC (.int 0)) ixD) (o2 (oV 1) (oC (.int 0)) ixD) neD)) (sNo) (sNx))
noncomputable def g_refuse_apart : List D → Option D := runB N_refuse_apart 2 b_refuse_apart
noncomputable def bx_refuse_apart : Xf := xBoth (xIf (oOr (oNot (ob (os (oCons (oV 0) (oNil)) g_is_plain))) (oNot (ob (os (oCons (oV 1) (oNil)) g_is_plain)))) (xRaise "HasLooks" (oC (.str "circuits with looks are not asked whether they are alike"))) (xNo)) (sIf (oOr (oNot (ob (os (oCons (oV 0) (oNil)) g_is_plain))) (oNot (ob (os (oCons (oV 1) (oNil)) g_is_plain)))) (sNo) (sNx)) (xIf (ob (o2 (o2 (oV 0) (oC (.int 0)) ixD) (o2 (oV 1) (oC (.int 0)) ixD) neD)) (xRaise "UnlikeWires" (oC (.str "the circuits have unlike numbers of wires"))) (xNo))
noncomputable def x_refuse_apart : List D → Option Str := runX N_refuse_apart 2 bx_refuse_apart
noncomputable abbrev s_columns_apart : Stmt := top 30
noncomputable abbrev N_columns_apart : List Str := ["circuit", "apart", "begun"]
noncomputable def p1_columns_apart : Dv → Option D := oComp (oL (oCons (o2 (oC (.int 1)) (o2 (oV 0) (oC (.int 0)) ixD) shlD) (oNil)) rng1D) [(1, "apart")] bv1 (os (oCons (o2 (oC (.int 1)) (o2 (oV 1) (oV 0) mulI) shlD) (oCons (oC (.int 0)) (oCons (oC (.int 0)) (oCons (oC (.int 0)) (oCons (oC (.int 0)) (oNil)))))) tupD)
noncomputable def b_columns_apart : Sf := sSeq (sSet 2 (os (oCons (p1_columns_apart) (oNil)) tupleD)) (sRet (os (oCons (oV 2) (oCons (o2 (oV 0) (oC (.int 1)) ixD) (oNil))) g_all_done))
noncomputable def g_columns_apart : List D → Option D := runB N_columns_apart 2 b_columns_apart
noncomputable abbrev s_turn_to : Stmt := top 31
noncomputable abbrev N_turn_to : List Str := ["one", "other", "e"]
noncomputable def p1_turn_to : Dv → Option D := oComp (oI (oV 0) itsD) [(2, "e")] bv1 (os (oCons (oV 0) (oCons (oV 1) (oNil))) g_turned)
noncomputable def l1_turn_to : Sf := sIf (ob (o2 (os (oCons (p1_turn_to) (oNil)) tupleD) (oV 1) eqD)) (sRet (oV 2)) (sNx)
noncomputable def b_turn_to : Sf := sSeq (sFor (oL (oCons (oC (.int 8)) (oNil)) rng1D) (gN 2) (l1_turn_to)) (sRet (oC .none))
noncomputable def g_turn_to : List D → Option D := runB N_turn_to 2 b_turn_to
noncomputable abbrev s_turn_apart : Stmt := top 32
noncomputable abbrev N_turn_apart : List Str := ["one", "other", "swings", "apart"]
noncomputable def p1_turn_apart : Dv → Option D := oCompI (oI (oV 0) itsD) [] bv1 (ob (o2 (o2 (oV 0) (oC (.int 0)) ixD) (oC (.str "swing")) eqD)) (oV 0)
noncomputable def p2_turn_apart : Dv → Option D := oComp (oI (os (oCons (o2 (oV 0) (oC (.int 1)) ixD) (oCons (o2 (oV 1) (oC (.int 1)) ixD) (oNil))) tupD) itsD) [] bv1 (os (oCons (p1_turn_apart) (oNil)) lenD)
noncomputable def b_turn_apart : Sf := sSeq (sSet 2 (os (oCons (p2_turn_apart) (oNil)) maxLD)) (sSeq (sSet 3 (o2 (o2 (oV 2) (oC (.int 2)) divD) (oC (.int 2)) addD)) (sRet (os (oCons (os (oCons (oV 0) (oCons (oV 3) (oNil))) g_columns_apart) (oCons (os (oCons (oV 1) (oCons (oV 3) (oNil))) g_columns_apart) (oNil))) g_turn_to)))
noncomputable def g_turn_apart : List D → Option D := runB N_turn_apart 2 b_turn_apart
noncomputable abbrev s_round_of : Stmt := top 33
noncomputable abbrev N_round_of : List Str := ["circuit", "most", "nothing", "begun", "state", "count"]
noncomputable def l1_round_of : Sf := sSeq (sSet 4 (os (oCons (oV 4) (oCons (o2 (oV 0) (oC (.int 1)) ixD) (oNil))) g_all_done)) (sIf (oAnd (ob (o2 (os (oCons (oV 3) (oCons (oV 4) (oNil))) g_turn_to) (oC .none) isntD)) (ob (o2 (os (oCons (os (oCons (o2 (oV 0) (oC (.int 0)) ixD) (oCons (o2 (o2 (oV 0) (oC (.int 1)) ixD) (oV 5) mulT) (oNil))) tupD) (oCons (oV 2) (oNil))) g_turn_apart) (oC .none) isntD))) (sRet (oV 5)) (sNx))
noncomputable def b_round_of : Sf := sSeq (sSet 2 (os (oCons (o2 (oV 0) (oC (.int 0)) ixD) (oCons (os (oNil) tupD) (oNil))) tupD)) (sSeq (sDrop (os (oCons (oV 0) (oCons (oV 2) (oNil))) g_refuse_apart)) (sSeq (sSet 3 (os (oCons (oV 2) (oCons (oC (.int 16)) (oNil))) g_columns_apart)) (sSeq (sSet 4 (oV 3)) (sSeq (sFor (oL (oCons (oC (.int 1)) (oCons (o2 (oV 1) (oC (.int 1)) addD) (oNil))) rng2D) (gN 5) (l1_round_of)) (sRet (oC .none))))))
noncomputable def g_round_of : List D → Option D := runB N_round_of 2 b_round_of
noncomputable def bx_round_of : Xf := xSeq (sSet 2 (os (oCons (o2 (oV 0) (oC (.int 0)) ixD) (oCons (os (oNil) tupD) (oNil))) tupD)) (xE (osX (oCons (oV 0) (oCons (oV 2) (oNil))) x_refuse_apart))
noncomputable def x_round_of : List D → Option Str := runX N_round_of 2 bx_round_of
noncomputable abbrev s__law_cell_at : Stmt := top 35
noncomputable abbrev N__law_cell_at : List Str := ["script", "k"]
noncomputable def b__law_cell_at : Sf := sSeq (sIf (ob (o2 (oV 1) (os (oCons (oV 0) (oNil)) lenD) ltD)) (sRet (o2 (oV 0) (oV 1) ixD)) (sNx)) (sRet (oC (.int 0)))
noncomputable def g__law_cell_at : List D → Option D := runB N__law_cell_at 2 b__law_cell_at
noncomputable abbrev s__law_row : Stmt := top 36
noncomputable abbrev N__law_row : List Str := ["cell", "wires", "kind", "j", "i"]
noncomputable def b__law_row : Sf := sSeq (sSet 2 (o2 (oV 0) (oC (.int 6)) modD)) (sSeq (sSet 3 (o2 (o2 (oV 0) (oC (.int 6)) divD) (oV 1) modD)) (sSeq (sIf (oAnd (ob (o2 (oV 1) (oC (.int 1)) eqD)) (ob (o2 (oV 2) (oC (.int 2)) gtD))) (sSet 2 (o2 (oV 2) (oC (.int 2)) modD)) (sNx)) (sSeq (sIf (ob (o2 (oV 2) (oC (.int 1)) eqD)) (sRet (os (oCons (oC (.str "turn")) (oCons (oV 3) (oCons (o2 (oC (.int 1)) (o2 (o2 (oV 0) (oC (.int 18)) divD) (oC (.int 7)) modD) addD) (oNil)))) tupD)) (sNx)) (sSeq (sIf (oOr (ob (o2 (oV 2) (oC (.int 0)) eqD)) (ob (o2 (oV 2) (oC (.int 2)) eqD))) (sRet (os (oCons (o2 (os (oCons (oC (.str "swing")) (oCons (oC (.str "")) (oCons (oC (.str "flip")) (oNil)))) lstD) (oV 2) ixD) (oCons (oV 3) (oNil))) tupD)) (sNx)) (sSeq (sSet 4 (o2 (o2 (o2 (oV 3) (oC (.int 1)) addD) (o2 (o2 (oV 0) (oC (.int 18)) divD) (o2 (oV 1) (oC (.int 1)) subD) modD) addD) (oV 1) modD)) (sRet (os (oCons (o2 (os (oCons (oC (.str "tie")) (oCons (oC (.str "sign")) (oCons (oC (.str "cross")) (oNil)))) lstD) (o2 (oV 2) (oC (.int 3)) subD) ixD) (oCons (oV 4) (oCons (oV 3) (oNil)))) tupD)))))))
noncomputable def g__law_row : List D → Option D := runB N__law_row 2 b__law_row
noncomputable abbrev s__law_turned : Stmt := top 37
noncomputable abbrev N__law_turned : List Str := ["x", "e", "step"]
noncomputable def l1__law_turned : Sf := sSet 0 (os (oCons (o1 (o2 (oV 0) (oC (.int 3)) ixD) negD) (oCons (o2 (oV 0) (oC (.int 0)) ixD) (oCons (o2 (oV 0) (oC (.int 1)) ixD) (oCons (o2 (oV 0) (oC (.int 2)) ixD) (oNil))))) tupD)
noncomputable def b__law_turned : Sf := sSeq (sFor (oL (oCons (o2 (oV 1) (oC (.int 8)) modD) (oNil)) rng1D) (gN 2) (l1__law_turned)) (sRet (oV 0))
noncomputable def g__law_turned : List D → Option D := runB N__law_turned 2 b__law_turned
noncomputable abbrev s__law_raised : Stmt := top 38
noncomputable abbrev N__law_raised : List Str := ["x", "many", "step"]
noncomputable def l1__law_raised : Sf := sSet 0 (os (oCons (o2 (o2 (oV 0) (oC (.int 1)) ixD) (o2 (oV 0) (oC (.int 3)) ixD) subD) (oCons (o2 (o2 (oV 0) (oC (.int 0)) ixD) (o2 (oV 0) (oC (.int 2)) ixD) addD) (oCons (o2 (o2 (oV 0) (oC (.int 1)) ixD) (o2 (oV 0) (oC (.int 3)) ixD) addD) (oCons (o2 (o2 (oV 0) (oC (.int 2)) ixD) (o2 (oV 0) (oC (.int 0)) ixD) subD) (oNil))))) tupD)
noncomputable def b__law_raised : Sf := sSeq (sFor (oL (oCons (oV 1) (oNil)) rng1D) (gN 2) (l1__law_raised)) (sRet (oV 0))
noncomputable def g__law_raised : List D → Option D := runB N__law_raised 2 b__law_raised
noncomputable abbrev s__law_moved : Stmt := top 39
noncomputable abbrev N__law_moved : List Str := ["place", "row", "wires", "one", "two"]
noncomputable def b__law_moved : Sf := sSeq (sSet 3 (o2 (oC (.int 1)) (o2 (o2 (oV 2) (oC (.int 1)) subD) (o2 (oV 1) (oC (.int 1)) ixD) subD) shlD)) (sSeq (sIf (ob (o2 (o2 (oV 1) (oC (.int 0)) ixD) (oC (.str "flip")) eqD)) (sRet (o2 (oV 0) (oV 3) xorD)) (sNx)) (sSeq (sSet 4 (o2 (oC (.int 1)) (o2 (o2 (oV 2) (oC (.int 1)) subD) (o2 (oV 1) (oC (.int 2)) ixD) subD) shlD)) (sSeq (sIf (oAnd (ob (o2 (o2 (oV 1) (oC (.int 0)) ixD) (oC (.str "tie")) eqD)) (ob (o2 (o2 (oV 0) (oV 3) andD) (oC (.int 0)) gtD))) (sRet (o2 (oV 0) (oV 4) xorD)) (sNx)) (sSeq (sIf (oAnd (ob (o2 (o2 (oV 1) (oC (.int 0)) ixD) (oC (.str "cross")) eqD)) (ob (o2 (o2 (o2 (oV 0) (oV 3) andD) (oC (.int 0)) gtD) (o2 (o2 (oV 0) (oV 4) andD) (oC (.int 0)) gtD) neD))) (sRet (o2 (oV 0) (o2 (oV 3) (oV 4) orD) xorD)) (sNx)) (sRet (oV 0))))))
noncomputable def g__law_moved : List D → Option D := runB N__law_moved 3 b__law_moved
noncomputable abbrev s__law_row_done : Stmt := top 40
noncomputable abbrev N__law_row_done : List Str := ["state", "row", "wires", "made", "one", "place", "x", "y"]
noncomputable def l1__law_row_done : Sf := sSeq (sSet 6 (o2 (oV 0) (oV 5) ixD)) (sIf (ob (o2 (o2 (oV 1) (oC (.int 0)) ixD) (oC (.str "swing")) eqD)) (sSeq (sSet 7 (o2 (oV 0) (o2 (oV 5) (oV 4) xorD) ixD)) (sIf (ob (o2 (o2 (oV 5) (oV 4) andD) (oC (.int 0)) gtD)) (sPut 3 (oV 5) (os (oCons (o2 (o2 (oV 7) (oC (.int 0)) ixD) (o2 (oV 6) (oC (.int 0)) ixD) subD) (oCons (o2 (o2 (oV 7) (oC (.int 1)) ixD) (o2 (oV 6) (oC (.int 1)) ixD) subD) (oCons (o2 (o2 (oV 7) (oC (.int 2)) ixD) (o2 (oV 6) (oC (.int 2)) ixD) subD) (oCons (o2 (o2 (oV 7) (oC (.int 3)) ixD) (o2 (oV 6) (oC (.int 3)) ixD) subD) (oNil))))) tupD)) (sPut 3 (oV 5) (os (oCons (o2 (o2 (oV 6) (oC (.int 0)) ixD) (o2 (oV 7) (oC (.int 0)) ixD) addD) (oCons (o2 (o2 (oV 6) (oC (.int 1)) ixD) (o2 (oV 7) (oC (.int 1)) ixD) addD) (oCons (o2 (o2 (oV 6) (oC (.int 2)) ixD) (o2 (oV 7) (oC (.int 2)) ixD) addD) (oCons (o2 (o2 (oV 6) (oC (.int 3)) ixD) (o2 (oV 7) (oC (.int 3)) ixD) addD) (oNil))))) tupD)))) (sIf (oAnd (ob (o2 (o2 (oV 1) (oC (.int 0)) ixD) (oC (.str "turn")) eqD)) (ob (o2 (o2 (oV 5) (oV 4) andD) (oC (.int 0)) gtD))) (sPut 3 (oV 5) (os (oCons (oV 6) (oCons (o2 (oV 1) (oC (.int 2)) ixD) (oNil))) g__law_turned)) (sIf (oAnd (ob (o2 (o2 (oV 1) (oC (.int 0)) ixD) (oC (.str "sign")) eqD)) (oAnd (ob (o2 (o2 (oV 5) (oV 4) andD) (oC (.int 0)) gtD)) (ob (o2 (o2 (oV 5) (o2 (oC (.int 1)) (o2 (o2 (oV 2) (oC (.int 1)) subD) (o2 (oV 1) (oC (.int 2)) ixD) subD) shlD) andD) (oC (.int 0)) gtD)))) (sPut 3 (oV 5) (os (oCons (oV 6) (oCons (oC (.int 4)) (oNil))) g__law_turned)) (sIf (ob (o2 (o2 (oV 1) (oC (.int 0)) ixD) (os (oCons (oC (.str "flip")) (oCons (oC (.str "tie")) (oCons (oC (.str "cross")) (oNil)))) tupD) (inD false))) (sPut 3 (os (oCons (oV 5) (oCons (oV 1) (oCons (oV 2) (oNil)))) g__law_moved) (oV 6)) (sNx)))))
noncomputable def b__law_row_done : Sf := sSeq (sOwnE 3 (oLs (oCons (oV 0) (oNil)))) (sSeq (sSet 4 (o2 (oC (.int 1)) (o2 (o2 (oV 2) (oC (.int 1)) subD) (o2 (oV 1) (oC (.int 1)) ixD) subD) shlD)) (sSeq (sFor (oL (oCons (os (oCons (oV 0) (oNil)) lenD) (oNil)) rng1D) (gN 5) (l1__law_row_done)) (fun δ => (sRet (oV 3)) (dFz 3 δ))))
noncomputable def g__law_row_done : List D → Option D := runB N__law_row_done 3 b__law_row_done
noncomputable abbrev s__law_columns : Stmt := top 41
noncomputable abbrev N__law_columns : List Str := ["circuit", "columns", "begin", "state", "row"]
noncomputable def l1__law_columns : Sf := fun δ => (sSet 3 (os (oCons (oV 3) (oCons (oV 4) (oCons (o2 (oV 0) (oC (.int 0)) ixD) (oNil)))) g__law_row_done)) (dFz 3 δ)
noncomputable def l2__law_columns : Sf := sSeq (sOwnE 3 (oLi (o2 (os (oCons (os (oCons (oC (.int 0)) (oCons (oC (.int 0)) (oCons (oC (.int 0)) (oCons (oC (.int 0)) (oNil))))) tupD) (oNil)) lstD) (o2 (oC (.int 1)) (o2 (oV 0) (oC (.int 0)) ixD) shlD) mulL))) (sSeq (sPut 3 (oV 2) (os (oCons (oC (.int 1)) (oCons (oC (.int 0)) (oCons (oC (.int 0)) (oCons (oC (.int 0)) (oNil))))) tupD)) (sSeq (sFor (oI (o2 (oV 0) (oC (.int 1)) ixD) itsD) (gN 4) (l1__law_columns)) (fun δ => (sApp 1 (oV 3)) (dFz 3 δ))))
noncomputable def b__law_columns : Sf := sSeq (sOwn 1 (oNil)) (sSeq (sFor (oL (oCons (o2 (oC (.int 1)) (o2 (oV 0) (oC (.int 0)) ixD) shlD) (oNil)) rng1D) (gN 2) (l2__law_columns)) (sRetO 1))
noncomputable def g__law_columns : List D → Option D := runB N__law_columns 1 b__law_columns
noncomputable abbrev s__law_swings : Stmt := top 42
noncomputable abbrev N__law_swings : List Str := ["circuit"]
noncomputable def p1__law_swings : Dv → Option D := oCompI (oI (o2 (oV 0) (oC (.int 1)) ixD) itsD) [] bv1 (ob (o2 (o2 (oV 0) (oC (.int 0)) ixD) (oC (.str "swing")) eqD)) (oV 0)
noncomputable def b__law_swings : Sf := sRet (os (oCons (p1__law_swings) (oNil)) lenD)
noncomputable def g__law_swings : List D → Option D := runB N__law_swings 1 b__law_swings
noncomputable abbrev s__law_begun_again : Stmt := top 43
noncomputable abbrev N__law_begun_again : List Str := ["columns", "swings", "one", "turns", "begin", "place", "due"]
noncomputable def p1__law_begun_again : Dv → Option D := oCompI (oL (oCons (oC (.int 8)) (oNil)) rng1D) [(0, "columns"), (2, "one")] bv1 (ob (o2 (os (oCons (oV 2) (oCons (oV 0) (oNil))) g__law_turned) (o2 (o2 (oV 1) (oC (.int 0)) ixD) (oC (.int 0)) ixD) eqD)) (oV 0)
noncomputable def l1__law_begun_again : Sf := sSeq (sSet 6 (os (oCons (oC (.int 0)) (oCons (oC (.int 0)) (oCons (oC (.int 0)) (oCons (oC (.int 0)) (oNil))))) tupD)) (sSeq (sIf (ob (o2 (oV 5) (oV 4) eqD)) (sSet 6 (os (oCons (oV 2) (oCons (o2 (oV 3) (oC (.int 0)) ixD) (oNil))) g__law_turned)) (sNx)) (sIf (ob (o2 (o2 (o2 (oV 0) (oV 4) ixD) (oV 5) ixD) (oV 6) neD)) (sRet (oC (.bool false))) (sNx)))
noncomputable def l2__law_begun_again : Sf := sFor (oL (oCons (os (oCons (oV 0) (oNil)) lenD) (oNil)) rng1D) (gN 5) (l1__law_begun_again)
noncomputable def b__law_begun_again : Sf := sSeq (sSet 2 (os (oCons (os (oCons (oC (.int 1)) (oCons (oC (.int 0)) (oCons (oC (.int 0)) (oCons (oC (.int 0)) (oNil))))) tupD) (oCons (oV 1) (oNil))) g__law_raised)) (sSeq (sSet 3 (p1__law_begun_again)) (sSeq (sIf (ob (o2 (oV 3) (os (oNil) lstD) eqD)) (sRet (oC (.bool false))) (sNx)) (sSeq (sFor (oL (oCons (os (oCons (oV 0) (oNil)) lenD) (oNil)) rng1D) (gN 4) (l2__law_begun_again)) (sRet (oC (.bool true))))))
noncomputable def g__law_begun_again : List D → Option D := runB N__law_begun_again 2 b__law_begun_again
noncomputable abbrev s__law_due : Stmt := top 44
noncomputable abbrev N__law_due : List Str := ["one", "most", "wires", "columns", "many", "begin", "row"]
noncomputable def l1__law_due : Sf := sPut 3 (oV 5) (os (oCons (oIxO 3 (oV 5)) (oCons (oV 6) (oCons (oV 2) (oNil)))) g__law_row_done)
noncomputable def l2__law_due : Sf := sFor (oI (o2 (oV 0) (oC (.int 1)) ixD) itsD) (gN 6) (l1__law_due)
noncomputable def l3__law_due : Sf := sSeq (sFor (oL (oCons (oLenO 3) (oNil)) rng1D) (gN 5) (l2__law_due)) (sIf (oPeek 3 (ob (os (oCons (oV 3) (oCons (o2 (oV 4) (os (oCons (oV 0) (oNil)) g__law_swings) mulI) (oNil))) g__law_begun_again))) (sRet (oV 4)) (sNx))
noncomputable def b__law_due : Sf := sSeq (sSet 2 (o2 (oV 0) (oC (.int 0)) ixD)) (sSeq (sOwnE 3 (oLi (os (oCons (os (oCons (oV 2) (oCons (os (oNil) tupD) (oNil))) tupD) (oNil)) g__law_columns))) (sSeq (sFor (oL (oCons (oC (.int 1)) (oCons (o2 (oV 1) (oC (.int 1)) addD) (oNil))) rng2D) (gN 4) (l3__law_due)) (sRet (oC .none))))
noncomputable def g__law_due : List D → Option D := runB N__law_due 2 b__law_due
noncomputable abbrev s__law_refused : Stmt := top 45
noncomputable abbrev N__law_refused : List Str := ["one", "cell", "most", "at", "caught", "e"]
noncomputable def b__law_refused : Sf := sSeq (sSet 3 (o2 (oV 1) (o2 (os (oCons (o2 (oV 0) (oC (.int 1)) ixD) (oNil)) lenD) (oC (.int 1)) addD) modD)) (sSeq (sSet 4 (oC .none)) (sSeq (sTry 5 hs_WaveError (sDrop (os (oCons (os (oCons (o2 (oV 0) (oC (.int 0)) ixD) (oCons (o2 (o2 (oSl (o2 (oV 0) (oC (.int 1)) ixD) (oNo) (oP (oV 3))) (os (oCons (os (oCons (oC (.str "look")) (oCons (o2 (o2 (oV 1) (oC (.int 7)) divD) (o2 (oV 0) (oC (.int 0)) ixD) modD) (oNil))) tupD) (oNil)) tupD) addD) (oSl (o2 (oV 0) (oC (.int 1)) ixD) (oP (oV 3)) (oNo)) addD) (oNil))) tupD) (oCons (oV 2) (oNil))) g_round_of)) (xE (osX (oCons (os (oCons (o2 (oV 0) (oC (.int 0)) ixD) (oCons (o2 (o2 (oSl (o2 (oV 0) (oC (.int 1)) ixD) (oNo) (oP (oV 3))) (os (oCons (os (oCons (oC (.str "look")) (oCons (o2 (o2 (oV 1) (oC (.int 7)) divD) (o2 (oV 0) (oC (.int 0)) ixD) modD) (oNil))) tupD) (oNil)) tupD) addD) (oSl (o2 (oV 0) (oC (.int 1)) ixD) (oP (oV 3)) (oNo)) addD) (oNil))) tupD) (oCons (oV 2) (oNil))) x_round_of)) (sSet 4 (oV 5))) (sRet (oAndV (o1 (oV 4) (isxD tt_HasLooks)) (oAndV (o1 (o1 (oV 4) (isxD tt_OddTurn)) notD) (o1 (o1 (oV 4) (isxD tt_UnlikeWires)) notD))))))
noncomputable def g__law_refused : List D → Option D := runB N__law_refused 3 b__law_refused
noncomputable abbrev s_law : Stmt := top 46
noncomputable abbrev N_law : List Str := ["script", "head", "wires", "most", "rows", "one", "found", "due"]
noncomputable def p1_law : Dv → Option D := oComp (oI (oSl (oV 0) (oP (oC (.int 1))) (oP (o2 (oC (.int 1)) (o2 (os (oCons (oC (.int 10)) (oCons (oC (.int 6)) (oCons (oC (.int 4)) (oNil)))) lstD) (o2 (oV 2) (oC (.int 1)) subD) ixD) addD))) itsD) [(2, "wires")] bv1 (os (oCons (oV 0) (oCons (oV 1) (oNil))) g__law_row)
noncomputable def p2_law : Dv → Option D := oCompI (oI (oV 4) itsD) [] bv1 (oOr (ob (o2 (o2 (oV 0) (oC (.int 0)) ixD) (oC (.str "turn")) neD)) (ob (o2 (o2 (o2 (oV 0) (oC (.int 2)) ixD) (oC (.int 2)) modD) (oC (.int 0)) eqD))) (oV 0)
noncomputable def b_law : Sf := sSeq (sSet 1 (os (oCons (oV 0) (oCons (oC (.int 0)) (oNil))) g__law_cell_at)) (sSeq (sSet 2 (o2 (oC (.int 1)) (o2 (oV 1) (oC (.int 3)) modD) addD)) (sSeq (sSet 3 (o2 (o2 (oV 1) (oC (.int 3)) divD) (o2 (os (oCons (oC (.int 25)) (oCons (oC (.int 13)) (oCons (oC (.int 7)) (oNil)))) lstD) (o2 (oV 2) (oC (.int 1)) subD) ixD) modD)) (sSeq (sSet 4 (p1_law)) (sSeq (sIf (ob (o2 (o2 (o2 (oV 1) (oC (.int 5)) divD) (oC (.int 2)) modD) (oC (.int 0)) eqD)) (sSet 4 (p2_law)) (sNx)) (sSeq (sIf (oAnd (ob (o2 (oV 2) (oC (.int 1)) eqD)) (ob (o2 (o2 (o2 (oV 1) (oC (.int 21)) divD) (oC (.int 6)) modD) (oC (.int 3)) eqD))) (sSeq (sSet 4 (oSl (oV 4) (oNo) (oP (oC (.int 2))))) (sSet 3 (o2 (oC (.int 100)) (o2 (o2 (oV 1) (oC (.int 126)) divD) (oC (.int 5)) modD) subD))) (sNx)) (sSeq (sSet 5 (os (oCons (oV 2) (oCons (os (oCons (oV 4) (oNil)) tupleD) (oNil))) tupD)) (sSeq (sIf (ob (o2 (o2 (o2 (oV 1) (oC (.int 7)) divD) (oC (.int 6)) modD) (oC (.int 1)) eqD)) (sRet (os (oCons (oV 5) (oCons (o2 (oV 1) (oC (.int 42)) divD) (oCons (oV 3) (oNil)))) g__law_refused)) (sNx)) (sSeq (sSet 6 (os (oCons (oV 5) (oCons (oV 3) (oNil))) g_round_of)) (sSeq (sSet 7 (os (oCons (oV 5) (oCons (oV 3) (oNil))) g__law_due)) (sSeq (sIf (ob (o2 (oV 7) (oC .none) isD)) (sRet (o2 (oV 6) (oC .none) isD)) (sNx)) (sRet (oAndV (o1 (oV 6) (isiD "int")) (oAndV (o1 (o1 (oV 6) (isiD "bool")) notD) (o2 (oV 6) (oV 7) eqD))))))))))))))
noncomputable def g_law : List D → Option D := runB N_law 1 b_law

theorem twos_eq (j m : Int) : g_twos_shared [.int j, .int m] = some (.int (MA.twos j m)) := by
  by_cases h : j = 0
  · subst h
    simp [g_twos_shared, runB, b_twos_shared, startD, MA.twos]
  · simp [g_twos_shared, runB, b_twos_shared, startD, MA.twos, h]
theorem root_eq (a b c d : Int) : g_by_root [.int a, .int b, .int c, .int d] = some (.tuple [.int (b - d), .int (a + c), .int (b + d), .int (c - a)]) := by
  simp [g_by_root, runB, b_by_root, startD]
/-- a number as the program holds it -/
noncomputable def tup5 (x : MA.Q4) (k : Int) : D := .tuple [.int x.a, .int x.b, .int x.c, .int x.d, .int k]
noncomputable def nu_1 : Sf := sSet 5 (VL.os (oCons (o2 (o2 (o2 (oV 0) (oV 1) orD) (oV 2) orD) (oV 3) orD) (oCons (o2 (oV 4) (oC (.int 2)) divD) (oNil))) g_twos_shared)
noncomputable def nu_2 : Sf := sSet 0 (o2 (oV 0) (oV 5) shrD)
noncomputable def nu_3 : Sf := sSet 1 (o2 (oV 1) (oV 5) shrD)
noncomputable def nu_4 : Sf := sSet 2 (o2 (oV 2) (oV 5) shrD)
noncomputable def nu_5 : Sf := sSet 3 (o2 (oV 3) (oV 5) shrD)
noncomputable def nu_6 : Sf := sSet 4 (o2 (oV 4) (o2 (oC (.int 2)) (oV 5) mulI) subD)
noncomputable def nu_7 : Sf := sIf (oOr (ob (o2 (oV 4) (oC (.int 0)) eqD)) (oOr (ob (o2 (o2 (o2 (oV 0) (oV 2) subD) (oC (.int 2)) modD) (oC (.int 1)) eqD)) (ob (o2 (o2 (o2 (oV 1) (oV 3) subD) (oC (.int 2)) modD) (oC (.int 1)) eqD)))) (sRet (VL.os (oCons (oV 0) (oCons (oV 1) (oCons (oV 2) (oCons (oV 3) (oCons (oV 4) (oNil)))))) tupD)) (sNx)
noncomputable def nu_8 : Sf := sSet 6 (VL.os (oCons (oV 0) (oCons (oV 1) (oCons (oV 2) (oCons (oV 3) (oNil))))) g_by_root)
noncomputable def nu_9 : Sf := sRet (VL.os (oCons (o2 (o2 (oV 6) (oC (.int 0)) ixD) (oC (.int 2)) divD) (oCons (o2 (o2 (oV 6) (oC (.int 1)) ixD) (oC (.int 2)) divD) (oCons (o2 (o2 (oV 6) (oC (.int 2)) ixD) (oC (.int 2)) divD) (oCons (o2 (o2 (oV 6) (oC (.int 3)) ixD) (oC (.int 2)) divD) (oCons (o2 (oV 4) (oC (.int 1)) subD) (oNil)))))) tupD)
theorem number_st : b_number = sSeq nu_1 (sSeq nu_2 (sSeq nu_3 (sSeq nu_4 (sSeq nu_5 (sSeq nu_6 (sSeq nu_7 (sSeq nu_8 (nu_9)))))))) := rfl
theorem nseq {s t : Sf} {δ δ' : Dv} (h : s δ = some (.nx, δ')) : sSeq s t δ = t δ' := by simp only [sSeq, h, Option.bind_some]
theorem nret {s t : Sf} {δ δ' : Dv} {d : D} (h : s δ = some (.rt d, δ')) : sSeq s t δ = some (.rt d, δ') := by simp only [sSeq, h, Option.bind_some]
theorem nrun {N : List Str} {n : Nat} {b : Sf} {as : List D} {d : D} {δ' : Dv} (hl : as.length = n) (h : b (startD N as) = some (.rt d, δ')) : runB N n b as = some d := by unfold runB; rw [if_pos hl, h]; rfl
theorem nu1 {a b c d k t : Int} (h : g_twos_shared [.int (Builtin.bitOr (Builtin.bitOr (Builtin.bitOr a b) c) d), .int (k / 2)] = some (.int t)) : nu_1 [.fz (.int a), .fz (.int b), .fz (.int c), .fz (.int d), .fz (.int k), .un, .un] = some (.nx, [.fz (.int a), .fz (.int b), .fz (.int c), .fz (.int d), .fz (.int k), .fz (.int t), .un]) := by simp [nu_1, h]
theorem nu2 (a : Int) (t : Nat) (x1 x2 x3 x4 x6 : Sl) : nu_2 [.fz (.int a), x1, x2, x3, x4, .fz (.int t), x6] = some (.nx, [.fz (.int (a / 2 ^ t)), x1, x2, x3, x4, .fz (.int t), x6]) := by simp [nu_2]
theorem nu3 (a : Int) (t : Nat) (x1 x2 x3 x4 x6 : Sl) : nu_3 [x1, .fz (.int a), x2, x3, x4, .fz (.int t), x6] = some (.nx, [x1, .fz (.int (a / 2 ^ t)), x2, x3, x4, .fz (.int t), x6]) := by simp [nu_3]
theorem nu4 (a : Int) (t : Nat) (x1 x2 x3 x4 x6 : Sl) : nu_4 [x1, x2, .fz (.int a), x3, x4, .fz (.int t), x6] = some (.nx, [x1, x2, .fz (.int (a / 2 ^ t)), x3, x4, .fz (.int t), x6]) := by simp [nu_4]
theorem nu5 (a : Int) (t : Nat) (x1 x2 x3 x4 x6 : Sl) : nu_5 [x1, x2, x3, .fz (.int a), x4, .fz (.int t), x6] = some (.nx, [x1, x2, x3, .fz (.int (a / 2 ^ t)), x4, .fz (.int t), x6]) := by simp [nu_5]
theorem nu6 (a : Int) (t : Nat) (x1 x2 x3 x4 x6 : Sl) : nu_6 [x1, x2, x3, x4, .fz (.int a), .fz (.int t), x6] = some (.nx, [x1, x2, x3, x4, .fz (.int (a - 2 * t)), .fz (.int t), x6]) := by
  have m2 : IntMulOk 2 (t : Int) := .of_left (by decide)
  simp [nu_6, m2]
theorem oOr_t {f g : Dv → Option Bool} {δ : Dv} (h : f δ = some true) : oOr f g δ = some true := by unfold oOr; rw [h]; rfl
theorem oOr_f {f g : Dv → Option Bool} {δ : Dv} (h : f δ = some false) : oOr f g δ = g δ := by unfold oOr; rw [h]; rfl
section
variable (a b c d k : Int) (x5 x6 : Sl)
theorem nu7a : (ob (o2 (oV 4) (oC (.int 0)) eqD)) [.fz (.int a), .fz (.int b), .fz (.int c), .fz (.int d), .fz (.int k), x5, x6] = some (k == 0) := rfl
theorem nu7m {f g : Dv → Option D} {δ : Dv} {x y : Int} (hf : f δ = some (.int x)) (hg : g δ = some (.int y)) : (ob (o2 (o2 (o2 f g subD) (oC (.int 2)) modD) (oC (.int 1)) eqD)) δ = some ((x - y) % 2 == 1) := by
  have s : subD (.int x) (.int y) = some (.int (x - y)) := rfl
  have m : modD (.int (x - y)) (.int 2) = some (.int ((x - y) % 2)) := modD_int (by decide)
  simp only [ob, o2, oC, hf, hg, Option.bind_some, s, m, eqD_int, asB_bool]
theorem nu7b : (ob (o2 (o2 (o2 (oV 0) (oV 2) subD) (oC (.int 2)) modD) (oC (.int 1)) eqD)) [.fz (.int a), .fz (.int b), .fz (.int c), .fz (.int d), .fz (.int k), x5, x6] = some ((a - c) % 2 == 1) := nu7m rfl rfl
theorem nu7c : (ob (o2 (o2 (o2 (oV 1) (oV 3) subD) (oC (.int 2)) modD) (oC (.int 1)) eqD)) [.fz (.int a), .fz (.int b), .fz (.int c), .fz (.int d), .fz (.int k), x5, x6] = some ((b - d) % 2 == 1) := nu7m rfl rfl
end
theorem sIf_t {t : Dv → Option Bool} {u w : Sf} {δ : Dv} (h : t δ = some true) : sIf t u w δ = u δ := by unfold sIf; rw [h]; rfl
theorem sIf_f {t : Dv → Option Bool} {u w : Sf} {δ : Dv} (h : t δ = some false) : sIf t u w δ = w δ := by unfold sIf; rw [h]; rfl
theorem nu7y (a b c d k : Int) (x5 x6 : Sl) (h : k = 0 ∨ (a - c) % 2 = 1 ∨ (b - d) % 2 = 1) : nu_7 [.fz (.int a), .fz (.int b), .fz (.int c), .fz (.int d), .fz (.int k), x5, x6] = some (.rt (.tuple [.int a, .int b, .int c, .int d, .int k]), [.fz (.int a), .fz (.int b), .fz (.int c), .fz (.int d), .fz (.int k), x5, x6]) := by
  refine (sIf_t ?_).trans rfl
  have t1 := nu7a a b c d k x5 x6
  have t2 := nu7b a b c d k x5 x6
  have t3 := nu7c a b c d k x5 x6
  by_cases q0 : k = 0
  · rw [beq_iff_eq.mpr q0] at t1; exact oOr_t t1
  · rw [beq_eq_false_iff_ne.mpr q0] at t1
    refine (oOr_f t1).trans ?_
    by_cases q1 : (a - c) % 2 = 1
    · rw [beq_iff_eq.mpr q1] at t2; exact oOr_t t2
    · rw [beq_eq_false_iff_ne.mpr q1] at t2
      refine (oOr_f t2).trans ?_
      rcases h with h | h | h
      · exact absurd h q0
      · exact absurd h q1
      · rw [beq_iff_eq.mpr h] at t3; exact t3
theorem nu7n (a b c d k : Int) (x5 x6 : Sl) (h : ¬(k = 0 ∨ (a - c) % 2 = 1 ∨ (b - d) % 2 = 1)) : nu_7 [.fz (.int a), .fz (.int b), .fz (.int c), .fz (.int d), .fz (.int k), x5, x6] = some (.nx, [.fz (.int a), .fz (.int b), .fz (.int c), .fz (.int d), .fz (.int k), x5, x6]) := by
  have t1 := nu7a a b c d k x5 x6
  have t2 := nu7b a b c d k x5 x6
  have t3 := nu7c a b c d k x5 x6
  rw [beq_eq_false_iff_ne.mpr fun q => h (.inl q)] at t1
  rw [beq_eq_false_iff_ne.mpr fun q => h (.inr (.inl q))] at t2
  rw [beq_eq_false_iff_ne.mpr fun q => h (.inr (.inr q))] at t3
  exact (sIf_f ((oOr_f t1).trans ((oOr_f t2).trans t3))).trans rfl
theorem nu8 (a b c d : Int) (x4 x5 x6 : Sl) : nu_8 [.fz (.int a), .fz (.int b), .fz (.int c), .fz (.int d), x4, x5, x6] = some (.nx, [.fz (.int a), .fz (.int b), .fz (.int c), .fz (.int d), x4, x5, .fz (.tuple [.int (b - d), .int (a + c), .int (b + d), .int (c - a)])]) := by simp [nu_8, root_eq]
theorem nu9 (p q r s k : Int) (x0 x1 x2 x3 x5 : Sl) : nu_9 [x0, x1, x2, x3, .fz (.int k), x5, .fz (.tuple [.int p, .int q, .int r, .int s])] = some (.rt (.tuple [.int (p / 2), .int (q / 2), .int (r / 2), .int (s / 2), .int (k - 1)]), [x0, x1, x2, x3, .fz (.int k), x5, .fz (.tuple [.int p, .int q, .int r, .int s])]) := by simp [nu_9]
theorem number_eq (a b c d k : Int) (hk : 0 ≤ k) : g_number [.int a, .int b, .int c, .int d, .int k] = some (tup5 (MA.num ⟨a, b, c, d⟩ k).1 (MA.num ⟨a, b, c, d⟩ k).2) := by
  obtain ⟨t, e, h1, _⟩ := MA.twos_four a b c d (k / 2) (Int.ediv_nonneg hk (by decide))
  have tw := twos_eq (Builtin.bitOr (Builtin.bitOr (Builtin.bitOr a b) c) d) (k / 2)
  rw [e] at tw
  unfold MA.num tup5
  simp only [e, Int.toNat_natCast]
  generalize ha : a / 2 ^ t = A
  generalize hb : b / 2 ^ t = B
  generalize hc : c / 2 ^ t = C
  generalize hd : d / 2 ^ t = E
  have go : b_number (startD N_number [.int a, .int b, .int c, .int d, .int k]) = (sSeq nu_7 (sSeq nu_8 nu_9)) [.fz (.int A), .fz (.int B), .fz (.int C), .fz (.int E), .fz (.int (k - 2 * t)), .fz (.int t), .un] := by
    rw [number_st, ← ha, ← hb, ← hc, ← hd]
    exact (nseq (nu1 tw)).trans ((nseq (nu2 _ _ _ _ _ _ _)).trans ((nseq (nu3 _ _ _ _ _ _ _)).trans ((nseq (nu4 _ _ _ _ _ _ _)).trans ((nseq (nu5 _ _ _ _ _ _ _)).trans (nseq (nu6 _ _ _ _ _ _ _))))))
  by_cases q : k - 2 * (t : Int) = 0 ∨ (A - C) % 2 = 1 ∨ (B - E) % 2 = 1
  · rw [if_pos q]
    exact nrun rfl (go.trans (nret (nu7y _ _ _ _ _ _ _ q)))
  · rw [if_neg q]
    exact nrun rfl (go.trans ((nseq (nu7n _ _ _ _ _ _ _ q)).trans ((nseq (nu8 _ _ _ _ _ _ _)).trans (nu9 _ _ _ _ _ _ _ _ _ _))))


theorem maxI (c f : Int) : maxD [.int c, .int f] = some (.int (max c f)) := by
  rw [maxD_int]
  congr 2
  rw [Int.max_def]
  split <;> split <;> lia
/-- a number, in least form, its parts and roots bounded -/
structure Nm (M : Nat) (r : Int) (x : MA.Q4) (c : Int) : Prop where
  le : MA.Q4.Le M x
  ls : MA.Q4.Least x c
  c1 : c ≤ r
theorem numQ (x : MA.Q4) (k : Int) (hk : 0 ≤ k) : g_number [.int x.a, .int x.b, .int x.c, .int x.d, .int k] = some (tup5 (MA.num x k).1 (MA.num x k).2) := number_eq _ _ _ _ _ hk
noncomputable def tup4 (x : MA.Q4) : D := .tuple [.int x.a, .int x.b, .int x.c, .int x.d]
theorem over_eq (x : MA.Q4) (c k : Int) (h : MA.Q4.Le (2 ^ 100000) x) (h1 : c ≤ k) (h2 : k - c ≤ 100000) : g_parts_over [tup5 x c, .int k] = some (tup4 (MA.Q4.rtn (k - c).toNat x)) := by
  obtain ⟨l1, l2, l3, l4⟩ := h
  obtain ⟨t, ht⟩ : ∃ t : Nat, (k - c) / 2 = t := ⟨((k - c) / 2).toNat, by lia⟩
  have s : ∀ i : Int, i.natAbs ≤ 2 ^ 100000 → shlD (.int i) (.int (t : Int)) = some (.int (i * 2 ^ t)) := fun i hi => by
    have hb : i.natAbs < 2 ^ 100001 := Nat.lt_of_le_of_lt hi (Nat.pow_lt_pow_right (by decide) (by decide))
    have := MA.bits_le hb
    have q := shlD_int (i := i) (j := (t : Int)) (by lia) (by lia)
    simpa using q
  have r2 := MA.Q4.rtn_two t x
  unfold tup5 tup4
  by_cases o : (k - c) % 2 = 1
  · have e : (k - c).toNat = 2 * t + 1 := by lia
    have m : (2 * (t : Int) + 1) % 2 = 1 := by lia
    rw [e, MA.Q4.rtn_succ, r2]
    simp [g_parts_over, runB, b_parts_over, startD, ht, o, s _ l1, s _ l2, s _ l3, s _ l4, root_eq, MA.Q4.rt, MA.Q4.dbl]
  · have e : (k - c).toNat = 2 * t := by lia
    rw [e, r2]
    simp [g_parts_over, runB, b_parts_over, startD, ht, o, s _ l1, s _ l2, s _ l3, s _ l4, MA.Q4.dbl]
theorem plus_eq (x : MA.Q4) (c : Int) (y : MA.Q4) (d : Int) (hx : MA.Q4.Le (2 ^ 100000) x) (hy : MA.Q4.Le (2 ^ 100000) y) (hc : 0 ≤ c) (hd : 0 ≤ d) (hc1 : c ≤ 100000) (hd1 : d ≤ 100000) : g_plus [tup5 x c, tup5 y d] = some (tup5 (MA.plusQ x c y d).1 (MA.plusQ x c y d).2) := by
  have hm := maxI c d
  have k1 : c ≤ max c d := Int.le_max_left ..
  have k2 : d ≤ max c d := Int.le_max_right ..
  have k3 : max c d = c ∨ max c d = d := by lia
  have o1 := over_eq x c (max c d) hx k1 (by lia)
  have o2 := over_eq y d (max c d) hy k2 (by lia)
  unfold MA.plusQ
  have nm := numQ (MA.Q4.add (MA.Q4.rtn (max c d - c).toNat x) (MA.Q4.rtn (max c d - d).toNat y)) (max c d) (by lia)
  generalize max c d = m at *
  generalize MA.Q4.rtn (m - c).toNat x = u at *
  generalize MA.Q4.rtn (m - d).toNat y = v at *
  generalize MA.num (MA.Q4.add u v) m = r at *
  simp only [MA.Q4.add] at nm
  generalize tup5 r.1 r.2 = R at *
  simp only [tup5, tup4] at o1 o2 ⊢
  simp [-maxD_int, g_plus, runB, b_plus, startD, hm, o1, o2, nm]

theorem halved_eq (x : MA.Q4) (c : Int) (hc : 0 ≤ c) : g_halved [tup5 x c] = some (tup5 (MA.num x (c + 1)).1 (MA.num x (c + 1)).2) := by
  have nm := numQ x (c + 1) (by lia)
  generalize tup5 (MA.num x (c + 1)).1 (MA.num x (c + 1)).2 = R at *
  simp only [tup5]
  simp [g_halved, runB, b_halved, startD, nm]

theorem m8 {e r : Int} (i a : Int) (h : e % 8 = r) (k : (i - r) % 8 = a) : (i - e) % 8 = a := by lia
theorem turned_eq (x : MA.Q4) (c e : Int) : g_turned [tup5 x c, .int e] = some (tup5 (MA.tnn (e % 8).toNat x) c) := by
  have w : e % 8 = 0 ∨ e % 8 = 1 ∨ e % 8 = 2 ∨ e % 8 = 3 ∨ e % 8 = 4 ∨ e % 8 = 5 ∨ e % 8 = 6 ∨ e % 8 = 7 := by lia
  have go : ∀ (r a0 a1 a2 a3 : Int), e % 8 = r → (0 - e) % 8 = a0 → (1 - e) % 8 = a1 → (2 - e) % 8 = a2 → (3 - e) % 8 = a3 → ∀ b0 b1 b2 b3 : Int, atI [PyData.int x.a, .int x.b, .int x.c, .int x.d, .int (-x.a), .int (-x.b), .int (-x.c), .int (-x.d)] a0 = some (.int b0) → atI [PyData.int x.a, .int x.b, .int x.c, .int x.d, .int (-x.a), .int (-x.b), .int (-x.c), .int (-x.d)] a1 = some (.int b1) →
      atI [PyData.int x.a, .int x.b, .int x.c, .int x.d, .int (-x.a), .int (-x.b), .int (-x.c), .int (-x.d)] a2 = some (.int b2) → atI [PyData.int x.a, .int x.b, .int x.c, .int x.d, .int (-x.a), .int (-x.b), .int (-x.c), .int (-x.d)] a3 = some (.int b3) → g_turned [tup5 x c, .int e] = some (.tuple [.int b0, .int b1, .int b2, .int b3, .int c]) := by
    intro r a0 a1 a2 a3 _ h0 h1 h2 h3 b0 b1 b2 b3 k0 k1 k2 k3
    have h0 : -e % 8 = a0 := by lia
    simp only [tup5]
    simp [g_turned, runB, b_turned, startD, h0, h1, h2, h3, k0, k1, k2, k3]
  rcases w with w | w | w | w | w | w | w | w <;> rw [w]
  · exact go 0 0 1 2 3 w (m8 0 0 w rfl) (m8 1 1 w rfl) (m8 2 2 w rfl) (m8 3 3 w rfl) _ _ _ _ rfl rfl rfl rfl
  · exact go 1 7 0 1 2 w (m8 0 7 w rfl) (m8 1 0 w rfl) (m8 2 1 w rfl) (m8 3 2 w rfl) _ _ _ _ rfl rfl rfl rfl
  · exact go 2 6 7 0 1 w (m8 0 6 w rfl) (m8 1 7 w rfl) (m8 2 0 w rfl) (m8 3 1 w rfl) _ _ _ _ rfl rfl rfl rfl
  · exact go 3 5 6 7 0 w (m8 0 5 w rfl) (m8 1 6 w rfl) (m8 2 7 w rfl) (m8 3 0 w rfl) _ _ _ _ rfl rfl rfl rfl
  · exact go 4 4 5 6 7 w (m8 0 4 w rfl) (m8 1 5 w rfl) (m8 2 6 w rfl) (m8 3 7 w rfl) _ _ _ _ rfl rfl rfl rfl
  · have e0 : tup5 (MA.tnn (5 : Int).toNat x) c = .tuple [.int x.d, .int (-x.a), .int (-x.b), .int (-x.c), .int c] := by simp [tup5, MA.tnn, MA.Q4.tn]
    rw [e0]
    exact go 5 3 4 5 6 w (m8 0 3 w rfl) (m8 1 4 w rfl) (m8 2 5 w rfl) (m8 3 6 w rfl) _ _ _ _ (by simp) (by simp) (by simp) (by simp)
  · have e0 : tup5 (MA.tnn (6 : Int).toNat x) c = .tuple [.int x.c, .int x.d, .int (-x.a), .int (-x.b), .int c] := by simp [tup5, MA.tnn, MA.Q4.tn]
    rw [e0]
    exact go 6 2 3 4 5 w (m8 0 2 w rfl) (m8 1 3 w rfl) (m8 2 4 w rfl) (m8 3 5 w rfl) _ _ _ _ (by simp) (by simp) (by simp) (by simp)
  · have e0 : tup5 (MA.tnn (7 : Int).toNat x) c = .tuple [.int x.b, .int x.c, .int x.d, .int (-x.a), .int c] := by simp [tup5, MA.tnn, MA.Q4.tn]
    rw [e0]
    exact go 7 1 2 3 4 w (m8 0 1 w rfl) (m8 1 2 w rfl) (m8 2 3 w rfl) (m8 3 4 w rfl) _ _ _ _ (by simp) (by simp) (by simp) (by simp)

theorem against_eq (x : MA.Q4) (c : Int) : g_against [tup5 x c] = some (tup5 (MA.Q4.neg x) c) := by
  simp only [tup5]
  simp [g_against, runB, b_against, startD, MA.Q4.neg]

/-! ### the words of rows -/
noncomputable def okS (a : Str) : Bool := shp (.str a)
theorem eqS {a b : Str} (ha : okS a = true) (hb : okS b = true) : eqD (.str a) (.str b) = some (.bool (a == b)) := if_pos ⟨ha, hb⟩
theorem ok_w_swing : okS "swing" = true := by decide +kernel
theorem ok_w_turn : okS "turn" = true := by decide +kernel
theorem ok_w_flip : okS "flip" = true := by decide +kernel
theorem ok_w_tie : okS "tie" = true := by decide +kernel
theorem ok_w_sign : okS "sign" = true := by decide +kernel
theorem ok_w_cross : okS "cross" = true := by decide +kernel
theorem ok_w_look : okS "look" = true := by decide +kernel
theorem ok_w_where : okS "where" = true := by decide +kernel
@[simp] theorem kw_swing_swing : eqD (.str "swing") (.str "swing") = some (.bool true) := (eqS ok_w_swing ok_w_swing).trans (congrArg (fun z => some (PyData.bool z)) (show (("swing" : Str) == ("swing" : Str)) = true by decide +kernel))
@[simp] theorem kw_swing_turn : eqD (.str "swing") (.str "turn") = some (.bool false) := (eqS ok_w_swing ok_w_turn).trans (congrArg (fun z => some (PyData.bool z)) (show (("swing" : Str) == ("turn" : Str)) = false by decide +kernel))
@[simp] theorem kw_swing_flip : eqD (.str "swing") (.str "flip") = some (.bool false) := (eqS ok_w_swing ok_w_flip).trans (congrArg (fun z => some (PyData.bool z)) (show (("swing" : Str) == ("flip" : Str)) = false by decide +kernel))
@[simp] theorem kw_swing_tie : eqD (.str "swing") (.str "tie") = some (.bool false) := (eqS ok_w_swing ok_w_tie).trans (congrArg (fun z => some (PyData.bool z)) (show (("swing" : Str) == ("tie" : Str)) = false by decide +kernel))
@[simp] theorem kw_swing_sign : eqD (.str "swing") (.str "sign") = some (.bool false) := (eqS ok_w_swing ok_w_sign).trans (congrArg (fun z => some (PyData.bool z)) (show (("swing" : Str) == ("sign" : Str)) = false by decide +kernel))
@[simp] theorem kw_swing_cross : eqD (.str "swing") (.str "cross") = some (.bool false) := (eqS ok_w_swing ok_w_cross).trans (congrArg (fun z => some (PyData.bool z)) (show (("swing" : Str) == ("cross" : Str)) = false by decide +kernel))
@[simp] theorem kw_swing_look : eqD (.str "swing") (.str "look") = some (.bool false) := (eqS ok_w_swing ok_w_look).trans (congrArg (fun z => some (PyData.bool z)) (show (("swing" : Str) == ("look" : Str)) = false by decide +kernel))
@[simp] theorem kw_swing_where : eqD (.str "swing") (.str "where") = some (.bool false) := (eqS ok_w_swing ok_w_where).trans (congrArg (fun z => some (PyData.bool z)) (show (("swing" : Str) == ("where" : Str)) = false by decide +kernel))
@[simp] theorem kw_turn_swing : eqD (.str "turn") (.str "swing") = some (.bool false) := (eqS ok_w_turn ok_w_swing).trans (congrArg (fun z => some (PyData.bool z)) (show (("turn" : Str) == ("swing" : Str)) = false by decide +kernel))
@[simp] theorem kw_turn_turn : eqD (.str "turn") (.str "turn") = some (.bool true) := (eqS ok_w_turn ok_w_turn).trans (congrArg (fun z => some (PyData.bool z)) (show (("turn" : Str) == ("turn" : Str)) = true by decide +kernel))
@[simp] theorem kw_turn_flip : eqD (.str "turn") (.str "flip") = some (.bool false) := (eqS ok_w_turn ok_w_flip).trans (congrArg (fun z => some (PyData.bool z)) (show (("turn" : Str) == ("flip" : Str)) = false by decide +kernel))
@[simp] theorem kw_turn_tie : eqD (.str "turn") (.str "tie") = some (.bool false) := (eqS ok_w_turn ok_w_tie).trans (congrArg (fun z => some (PyData.bool z)) (show (("turn" : Str) == ("tie" : Str)) = false by decide +kernel))
@[simp] theorem kw_turn_sign : eqD (.str "turn") (.str "sign") = some (.bool false) := (eqS ok_w_turn ok_w_sign).trans (congrArg (fun z => some (PyData.bool z)) (show (("turn" : Str) == ("sign" : Str)) = false by decide +kernel))
@[simp] theorem kw_turn_cross : eqD (.str "turn") (.str "cross") = some (.bool false) := (eqS ok_w_turn ok_w_cross).trans (congrArg (fun z => some (PyData.bool z)) (show (("turn" : Str) == ("cross" : Str)) = false by decide +kernel))
@[simp] theorem kw_turn_look : eqD (.str "turn") (.str "look") = some (.bool false) := (eqS ok_w_turn ok_w_look).trans (congrArg (fun z => some (PyData.bool z)) (show (("turn" : Str) == ("look" : Str)) = false by decide +kernel))
@[simp] theorem kw_turn_where : eqD (.str "turn") (.str "where") = some (.bool false) := (eqS ok_w_turn ok_w_where).trans (congrArg (fun z => some (PyData.bool z)) (show (("turn" : Str) == ("where" : Str)) = false by decide +kernel))
@[simp] theorem kw_flip_swing : eqD (.str "flip") (.str "swing") = some (.bool false) := (eqS ok_w_flip ok_w_swing).trans (congrArg (fun z => some (PyData.bool z)) (show (("flip" : Str) == ("swing" : Str)) = false by decide +kernel))
@[simp] theorem kw_flip_turn : eqD (.str "flip") (.str "turn") = some (.bool false) := (eqS ok_w_flip ok_w_turn).trans (congrArg (fun z => some (PyData.bool z)) (show (("flip" : Str) == ("turn" : Str)) = false by decide +kernel))
@[simp] theorem kw_flip_flip : eqD (.str "flip") (.str "flip") = some (.bool true) := (eqS ok_w_flip ok_w_flip).trans (congrArg (fun z => some (PyData.bool z)) (show (("flip" : Str) == ("flip" : Str)) = true by decide +kernel))
@[simp] theorem kw_flip_tie : eqD (.str "flip") (.str "tie") = some (.bool false) := (eqS ok_w_flip ok_w_tie).trans (congrArg (fun z => some (PyData.bool z)) (show (("flip" : Str) == ("tie" : Str)) = false by decide +kernel))
@[simp] theorem kw_flip_sign : eqD (.str "flip") (.str "sign") = some (.bool false) := (eqS ok_w_flip ok_w_sign).trans (congrArg (fun z => some (PyData.bool z)) (show (("flip" : Str) == ("sign" : Str)) = false by decide +kernel))
@[simp] theorem kw_flip_cross : eqD (.str "flip") (.str "cross") = some (.bool false) := (eqS ok_w_flip ok_w_cross).trans (congrArg (fun z => some (PyData.bool z)) (show (("flip" : Str) == ("cross" : Str)) = false by decide +kernel))
@[simp] theorem kw_flip_look : eqD (.str "flip") (.str "look") = some (.bool false) := (eqS ok_w_flip ok_w_look).trans (congrArg (fun z => some (PyData.bool z)) (show (("flip" : Str) == ("look" : Str)) = false by decide +kernel))
@[simp] theorem kw_flip_where : eqD (.str "flip") (.str "where") = some (.bool false) := (eqS ok_w_flip ok_w_where).trans (congrArg (fun z => some (PyData.bool z)) (show (("flip" : Str) == ("where" : Str)) = false by decide +kernel))
@[simp] theorem kw_tie_swing : eqD (.str "tie") (.str "swing") = some (.bool false) := (eqS ok_w_tie ok_w_swing).trans (congrArg (fun z => some (PyData.bool z)) (show (("tie" : Str) == ("swing" : Str)) = false by decide +kernel))
@[simp] theorem kw_tie_turn : eqD (.str "tie") (.str "turn") = some (.bool false) := (eqS ok_w_tie ok_w_turn).trans (congrArg (fun z => some (PyData.bool z)) (show (("tie" : Str) == ("turn" : Str)) = false by decide +kernel))
@[simp] theorem kw_tie_flip : eqD (.str "tie") (.str "flip") = some (.bool false) := (eqS ok_w_tie ok_w_flip).trans (congrArg (fun z => some (PyData.bool z)) (show (("tie" : Str) == ("flip" : Str)) = false by decide +kernel))
@[simp] theorem kw_tie_tie : eqD (.str "tie") (.str "tie") = some (.bool true) := (eqS ok_w_tie ok_w_tie).trans (congrArg (fun z => some (PyData.bool z)) (show (("tie" : Str) == ("tie" : Str)) = true by decide +kernel))
@[simp] theorem kw_tie_sign : eqD (.str "tie") (.str "sign") = some (.bool false) := (eqS ok_w_tie ok_w_sign).trans (congrArg (fun z => some (PyData.bool z)) (show (("tie" : Str) == ("sign" : Str)) = false by decide +kernel))
@[simp] theorem kw_tie_cross : eqD (.str "tie") (.str "cross") = some (.bool false) := (eqS ok_w_tie ok_w_cross).trans (congrArg (fun z => some (PyData.bool z)) (show (("tie" : Str) == ("cross" : Str)) = false by decide +kernel))
@[simp] theorem kw_tie_look : eqD (.str "tie") (.str "look") = some (.bool false) := (eqS ok_w_tie ok_w_look).trans (congrArg (fun z => some (PyData.bool z)) (show (("tie" : Str) == ("look" : Str)) = false by decide +kernel))
@[simp] theorem kw_tie_where : eqD (.str "tie") (.str "where") = some (.bool false) := (eqS ok_w_tie ok_w_where).trans (congrArg (fun z => some (PyData.bool z)) (show (("tie" : Str) == ("where" : Str)) = false by decide +kernel))
@[simp] theorem kw_sign_swing : eqD (.str "sign") (.str "swing") = some (.bool false) := (eqS ok_w_sign ok_w_swing).trans (congrArg (fun z => some (PyData.bool z)) (show (("sign" : Str) == ("swing" : Str)) = false by decide +kernel))
@[simp] theorem kw_sign_turn : eqD (.str "sign") (.str "turn") = some (.bool false) := (eqS ok_w_sign ok_w_turn).trans (congrArg (fun z => some (PyData.bool z)) (show (("sign" : Str) == ("turn" : Str)) = false by decide +kernel))
@[simp] theorem kw_sign_flip : eqD (.str "sign") (.str "flip") = some (.bool false) := (eqS ok_w_sign ok_w_flip).trans (congrArg (fun z => some (PyData.bool z)) (show (("sign" : Str) == ("flip" : Str)) = false by decide +kernel))
@[simp] theorem kw_sign_tie : eqD (.str "sign") (.str "tie") = some (.bool false) := (eqS ok_w_sign ok_w_tie).trans (congrArg (fun z => some (PyData.bool z)) (show (("sign" : Str) == ("tie" : Str)) = false by decide +kernel))
@[simp] theorem kw_sign_sign : eqD (.str "sign") (.str "sign") = some (.bool true) := (eqS ok_w_sign ok_w_sign).trans (congrArg (fun z => some (PyData.bool z)) (show (("sign" : Str) == ("sign" : Str)) = true by decide +kernel))
@[simp] theorem kw_sign_cross : eqD (.str "sign") (.str "cross") = some (.bool false) := (eqS ok_w_sign ok_w_cross).trans (congrArg (fun z => some (PyData.bool z)) (show (("sign" : Str) == ("cross" : Str)) = false by decide +kernel))
@[simp] theorem kw_sign_look : eqD (.str "sign") (.str "look") = some (.bool false) := (eqS ok_w_sign ok_w_look).trans (congrArg (fun z => some (PyData.bool z)) (show (("sign" : Str) == ("look" : Str)) = false by decide +kernel))
@[simp] theorem kw_sign_where : eqD (.str "sign") (.str "where") = some (.bool false) := (eqS ok_w_sign ok_w_where).trans (congrArg (fun z => some (PyData.bool z)) (show (("sign" : Str) == ("where" : Str)) = false by decide +kernel))
@[simp] theorem kw_cross_swing : eqD (.str "cross") (.str "swing") = some (.bool false) := (eqS ok_w_cross ok_w_swing).trans (congrArg (fun z => some (PyData.bool z)) (show (("cross" : Str) == ("swing" : Str)) = false by decide +kernel))
@[simp] theorem kw_cross_turn : eqD (.str "cross") (.str "turn") = some (.bool false) := (eqS ok_w_cross ok_w_turn).trans (congrArg (fun z => some (PyData.bool z)) (show (("cross" : Str) == ("turn" : Str)) = false by decide +kernel))
@[simp] theorem kw_cross_flip : eqD (.str "cross") (.str "flip") = some (.bool false) := (eqS ok_w_cross ok_w_flip).trans (congrArg (fun z => some (PyData.bool z)) (show (("cross" : Str) == ("flip" : Str)) = false by decide +kernel))
@[simp] theorem kw_cross_tie : eqD (.str "cross") (.str "tie") = some (.bool false) := (eqS ok_w_cross ok_w_tie).trans (congrArg (fun z => some (PyData.bool z)) (show (("cross" : Str) == ("tie" : Str)) = false by decide +kernel))
@[simp] theorem kw_cross_sign : eqD (.str "cross") (.str "sign") = some (.bool false) := (eqS ok_w_cross ok_w_sign).trans (congrArg (fun z => some (PyData.bool z)) (show (("cross" : Str) == ("sign" : Str)) = false by decide +kernel))
@[simp] theorem kw_cross_cross : eqD (.str "cross") (.str "cross") = some (.bool true) := (eqS ok_w_cross ok_w_cross).trans (congrArg (fun z => some (PyData.bool z)) (show (("cross" : Str) == ("cross" : Str)) = true by decide +kernel))
@[simp] theorem kw_cross_look : eqD (.str "cross") (.str "look") = some (.bool false) := (eqS ok_w_cross ok_w_look).trans (congrArg (fun z => some (PyData.bool z)) (show (("cross" : Str) == ("look" : Str)) = false by decide +kernel))
@[simp] theorem kw_cross_where : eqD (.str "cross") (.str "where") = some (.bool false) := (eqS ok_w_cross ok_w_where).trans (congrArg (fun z => some (PyData.bool z)) (show (("cross" : Str) == ("where" : Str)) = false by decide +kernel))
@[simp] theorem kw_look_swing : eqD (.str "look") (.str "swing") = some (.bool false) := (eqS ok_w_look ok_w_swing).trans (congrArg (fun z => some (PyData.bool z)) (show (("look" : Str) == ("swing" : Str)) = false by decide +kernel))
@[simp] theorem kw_look_turn : eqD (.str "look") (.str "turn") = some (.bool false) := (eqS ok_w_look ok_w_turn).trans (congrArg (fun z => some (PyData.bool z)) (show (("look" : Str) == ("turn" : Str)) = false by decide +kernel))
@[simp] theorem kw_look_flip : eqD (.str "look") (.str "flip") = some (.bool false) := (eqS ok_w_look ok_w_flip).trans (congrArg (fun z => some (PyData.bool z)) (show (("look" : Str) == ("flip" : Str)) = false by decide +kernel))
@[simp] theorem kw_look_tie : eqD (.str "look") (.str "tie") = some (.bool false) := (eqS ok_w_look ok_w_tie).trans (congrArg (fun z => some (PyData.bool z)) (show (("look" : Str) == ("tie" : Str)) = false by decide +kernel))
@[simp] theorem kw_look_sign : eqD (.str "look") (.str "sign") = some (.bool false) := (eqS ok_w_look ok_w_sign).trans (congrArg (fun z => some (PyData.bool z)) (show (("look" : Str) == ("sign" : Str)) = false by decide +kernel))
@[simp] theorem kw_look_cross : eqD (.str "look") (.str "cross") = some (.bool false) := (eqS ok_w_look ok_w_cross).trans (congrArg (fun z => some (PyData.bool z)) (show (("look" : Str) == ("cross" : Str)) = false by decide +kernel))
@[simp] theorem kw_look_look : eqD (.str "look") (.str "look") = some (.bool true) := (eqS ok_w_look ok_w_look).trans (congrArg (fun z => some (PyData.bool z)) (show (("look" : Str) == ("look" : Str)) = true by decide +kernel))
@[simp] theorem kw_look_where : eqD (.str "look") (.str "where") = some (.bool false) := (eqS ok_w_look ok_w_where).trans (congrArg (fun z => some (PyData.bool z)) (show (("look" : Str) == ("where" : Str)) = false by decide +kernel))
@[simp] theorem kw_where_swing : eqD (.str "where") (.str "swing") = some (.bool false) := (eqS ok_w_where ok_w_swing).trans (congrArg (fun z => some (PyData.bool z)) (show (("where" : Str) == ("swing" : Str)) = false by decide +kernel))
@[simp] theorem kw_where_turn : eqD (.str "where") (.str "turn") = some (.bool false) := (eqS ok_w_where ok_w_turn).trans (congrArg (fun z => some (PyData.bool z)) (show (("where" : Str) == ("turn" : Str)) = false by decide +kernel))
@[simp] theorem kw_where_flip : eqD (.str "where") (.str "flip") = some (.bool false) := (eqS ok_w_where ok_w_flip).trans (congrArg (fun z => some (PyData.bool z)) (show (("where" : Str) == ("flip" : Str)) = false by decide +kernel))
@[simp] theorem kw_where_tie : eqD (.str "where") (.str "tie") = some (.bool false) := (eqS ok_w_where ok_w_tie).trans (congrArg (fun z => some (PyData.bool z)) (show (("where" : Str) == ("tie" : Str)) = false by decide +kernel))
@[simp] theorem kw_where_sign : eqD (.str "where") (.str "sign") = some (.bool false) := (eqS ok_w_where ok_w_sign).trans (congrArg (fun z => some (PyData.bool z)) (show (("where" : Str) == ("sign" : Str)) = false by decide +kernel))
@[simp] theorem kw_where_cross : eqD (.str "where") (.str "cross") = some (.bool false) := (eqS ok_w_where ok_w_cross).trans (congrArg (fun z => some (PyData.bool z)) (show (("where" : Str) == ("cross" : Str)) = false by decide +kernel))
@[simp] theorem kw_where_look : eqD (.str "where") (.str "look") = some (.bool false) := (eqS ok_w_where ok_w_look).trans (congrArg (fun z => some (PyData.bool z)) (show (("where" : Str) == ("look" : Str)) = false by decide +kernel))
@[simp] theorem kw_where_where : eqD (.str "where") (.str "where") = some (.bool true) := (eqS ok_w_where ok_w_where).trans (congrArg (fun z => some (PyData.bool z)) (show (("where" : Str) == ("where" : Str)) = true by decide +kernel))

@[simp] theorem inp_swing : inD false (.str "swing") (.tuple [.str "swing", .str "turn", .str "flip", .str "tie", .str "sign", .str "cross"]) = some (.bool true) := by rfl
@[simp] theorem int_swing : inD false (.str "swing") (.tuple [.str "tie", .str "sign", .str "cross"]) = some (.bool false) := by rfl
@[simp] theorem inp_turn : inD false (.str "turn") (.tuple [.str "swing", .str "turn", .str "flip", .str "tie", .str "sign", .str "cross"]) = some (.bool true) := by rfl
@[simp] theorem int_turn : inD false (.str "turn") (.tuple [.str "tie", .str "sign", .str "cross"]) = some (.bool false) := by rfl
@[simp] theorem inp_flip : inD false (.str "flip") (.tuple [.str "swing", .str "turn", .str "flip", .str "tie", .str "sign", .str "cross"]) = some (.bool true) := by rfl
@[simp] theorem int_flip : inD false (.str "flip") (.tuple [.str "tie", .str "sign", .str "cross"]) = some (.bool false) := by rfl
@[simp] theorem inp_tie : inD false (.str "tie") (.tuple [.str "swing", .str "turn", .str "flip", .str "tie", .str "sign", .str "cross"]) = some (.bool true) := by rfl
@[simp] theorem int_tie : inD false (.str "tie") (.tuple [.str "tie", .str "sign", .str "cross"]) = some (.bool true) := by rfl
@[simp] theorem inp_sign : inD false (.str "sign") (.tuple [.str "swing", .str "turn", .str "flip", .str "tie", .str "sign", .str "cross"]) = some (.bool true) := by rfl
@[simp] theorem int_sign : inD false (.str "sign") (.tuple [.str "tie", .str "sign", .str "cross"]) = some (.bool true) := by rfl
@[simp] theorem inp_cross : inD false (.str "cross") (.tuple [.str "swing", .str "turn", .str "flip", .str "tie", .str "sign", .str "cross"]) = some (.bool true) := by rfl
@[simp] theorem int_cross : inD false (.str "cross") (.tuple [.str "tie", .str "sign", .str "cross"]) = some (.bool true) := by rfl
@[simp] theorem inp_look : inD false (.str "look") (.tuple [.str "swing", .str "turn", .str "flip", .str "tie", .str "sign", .str "cross"]) = some (.bool false) := by rfl
@[simp] theorem int_look : inD false (.str "look") (.tuple [.str "tie", .str "sign", .str "cross"]) = some (.bool false) := by rfl
@[simp] theorem inp_where : inD false (.str "where") (.tuple [.str "swing", .str "turn", .str "flip", .str "tie", .str "sign", .str "cross"]) = some (.bool false) := by rfl
@[simp] theorem int_where : inD false (.str "where") (.tuple [.str "tie", .str "sign", .str "cross"]) = some (.bool false) := by rfl

@[simp] theorem ifK_beq (u w : Sf) (δ : Dv) (a b : Int) : ifK u w δ (a == b) = if a = b then u δ else w δ := by
  by_cases h : a = b
  · subst h; simp
  · have : (a == b) = false := by simpa using h
    rw [this, if_neg h]; rfl
theorem mapO_map {α : Type} {f : D → Option D} {h k : α → D} : ∀ (xs : List α), (∀ x ∈ xs, f (h x) = some (k x)) → mapO f (xs.map h) = some (xs.map k)
  | [], _ => rfl
  | x :: xs, H => by
    show ((f (h x)).bind fun y => _) = _
    rw [H x List.mem_cons_self]
    show ((mapO f (xs.map h)).bind fun ys => _) = _
    rw [mapO_map xs fun y hy => H y (List.mem_cons_of_mem _ hy)]
    rfl
theorem filO_map {α : Type} {t : D → Option Bool} {f : D → Option D} {h k : α → D} {b : α → Bool} : ∀ (xs : List α), (∀ x ∈ xs, t (h x) = some (b x)) → (∀ x ∈ xs, b x = true → f (h x) = some (k x)) → filO t f (xs.map h) = some ((xs.filter b).map k)
  | [], _, _ => rfl
  | x :: xs, H, G => by
    have ih := filO_map (k := k) xs (fun y hy => H y (List.mem_cons_of_mem _ hy)) (fun y hy => G y (List.mem_cons_of_mem _ hy))
    show ((t (h x)).bind fun c => _) = _
    rw [H x List.mem_cons_self, Option.bind_some]
    cases e : b x with
    | false => simp [e, ih]
    | true => simp [e, ih, G x List.mem_cons_self e]
theorem comp_map {α : Type} {fi : Dv → Option (List D)} {caps : List (Nat × Str)} {fe : Dv → Option D} {δ : Dv} {h k : α → D} {xs : List α} (e : fi δ = some (xs.map h)) (hl : xs.length ≤ 16777216) (H : ∀ x ∈ xs, fe (.fz (h x) :: capS δ caps) = some (k x)) : oComp fi caps bv1 fe δ = some (.list (xs.map k)) := by
  unfold oComp
  rw [e, Option.bind_some, if_pos (by rw [List.length_map]; exact hl), mapO_map xs (k := k) fun x hx => by
    show fe _ = _
    exact H x hx]
  rfl
theorem compI_map {α : Type} {fi : Dv → Option (List D)} {caps : List (Nat × Str)} {ft : Dv → Option Bool} {fe : Dv → Option D} {δ : Dv} {h k : α → D} {b : α → Bool} {xs : List α} (e : fi δ = some (xs.map h)) (hl : xs.length ≤ 16777216) (H : ∀ x ∈ xs, ft (.fz (h x) :: capS δ caps) = some (b x)) (G : ∀ x ∈ xs, b x = true → fe (.fz (h x) :: capS δ caps) = some (k x)) : oCompI fi caps bv1 ft fe δ = some (.list ((xs.filter b).map k)) := by
  unfold oCompI
  rw [e, Option.bind_some, if_pos (by rw [List.length_map]; exact hl), filO_map xs (b := b) (k := k) (fun x hx => by
    show ft _ = _
    exact H x hx) (fun x hx hb => by
    show fe _ = _
    exact G x hx hb)]
  rfl

@[simp] theorem ifK_bne (u w : Sf) (δ : Dv) (a b : Int) : ifK u w δ (!(a == b)) = if a = b then w δ else u δ := by
  by_cases h : a = b
  · subst h; simp
  · have : (a == b) = false := by simpa using h
    rw [this, if_neg h]; rfl
@[simp] theorem lstD6' (a b c d e f : D) : lstD [a, b, c, d, e, f] = some (.list [a, b, c, d, e, f]) := lstD_ok (by simp)

open MA (Nu Row wt bit flp from_ doneAt)
noncomputable def numD (u : Nu) : D := tup5 u.1 u.2
noncomputable def stD (n : Nat) (f : Nat → Nu) : D := .tuple ((List.range (2 ^ n)).map fun p => numD (f p))
noncomputable def rowD : Row → D
  | .swing j => .tuple [.str "swing", .int j]
  | .turn j e => .tuple [.str "turn", .int j, .int e]
  | .flip j => .tuple [.str "flip", .int j]
  | .tie i j => .tuple [.str "tie", .int i, .int j]
  | .sign i j => .tuple [.str "sign", .int i, .int j]
  | .cross i j => .tuple [.str "cross", .int i, .int j]
theorem st_at {n : Nat} {f : Nat → Nu} {i : Int} (p : Nat) (hi : i = p) (hp : p < 2 ^ n) : ixD (stD n f) (.int i) = some (numD (f p)) := by
  show atI _ _ = _
  exact atI_of (j := p) hi (by simp [hp])
theorem len_st (n : Nat) (f : Nat → Nu) : lenD [stD n f] = some (.int ((2 ^ n : Nat) : Int)) := by
  show some (PyData.int (((List.range (2 ^ n)).map fun p => numD (f p)).length : Nat)) = _
  rw [List.length_map, List.length_range]
theorem loop_rng {b : Sf} {k : Nat} (I : Nat → Dv → Prop) (n : Nat) (h : ∀ i, i < n → ∀ δ, I i δ → ∃ δ2, b (δ.set k (.fz (.int i))) = some (.nx, δ2) ∧ I (i + 1) δ2) : ∀ δ, I 0 δ → ∃ δ', loop (gN k) b (rngL 0 n) δ = some (.nx, δ') ∧ I n δ' := by
  have go : ∀ (m i : Nat), i + m = n → ∀ δ, I i δ → ∃ δ', loop (gN k) b ((List.range' i m).map fun (k : Nat) => PyData.int (0 + (k : Int))) δ = some (.nx, δ') ∧ I n δ' := by
    intro m
    induction m with
    | zero => intro i e δ h; exact ⟨δ, rfl, by rw [← e]; exact h⟩
    | succ m ih =>
      intro i e δ hi
      obtain ⟨δ2, e2, h2⟩ := h i (by lia) δ hi
      obtain ⟨δ', e3, h3⟩ := ih (i + 1) (by lia) δ2 h2
      refine ⟨δ', ?_, h3⟩
      rw [← e3, List.range'_succ, List.map_cons]
      exact loop_step (δ1 := δ.set k (.fz (.int i))) (by simp) e2
  intro δ h0
  have := go n 0 (by lia) δ h0
  rw [← List.range_eq_range'] at this
  exact this
theorem num2 (x : MA.Q4) (k : Nat) : ∃ c : Nat, (MA.num x k).2 = c ∧ c ≤ k := by
  obtain ⟨c, e, h, _⟩ := MA.num_is x k
  exact ⟨c, e, h⟩
theorem plusN_le (u v : Nu) : (MA.plusN u v).2 ≤ max u.2 v.2 := by
  obtain ⟨c, e2, h⟩ := num2 (MA.Q4.add (MA.Q4.rtn (max (u.2 : Int) v.2 - u.2).toNat u.1) (MA.Q4.rtn (max (u.2 : Int) v.2 - v.2).toNat v.1)) (max u.2 v.2)
  have e3 : ((max u.2 v.2 : Nat) : Int) = max (u.2 : Int) v.2 := by omega
  rw [e3] at e2
  show (MA.plusQ u.1 u.2 v.1 v.2).2.toNat ≤ _
  unfold MA.plusQ
  rw [e2]; exact h
theorem rng_pow (n : Nat) (hn : n ≤ 6) : rng1D [.int ((2 ^ n : Nat) : Int)] = some ((List.range (2 ^ n)).map fun k : Nat => PyData.int (0 + (k : Int))) := by
  have sq : (2 ^ n : Nat) ≤ 64 := (Nat.pow_le_pow_right (by decide) hn : 2 ^ n ≤ 2 ^ 6)
  generalize (2 ^ n : Nat) = N at sq ⊢
  exact rng1D_int (j := (N : Int)) (by lia) (by lia)

theorem comp_r0 {fi : Dv → Option (List D)} {caps : List (Nat × Str)} {fe : Dv → Option D} {δ : Dv} {N : Nat} {y : Nat → D} (e : fi δ = some ((List.range N).map fun k : Nat => PyData.int (0 + (k : Int)))) (hl : N ≤ 16777216) (H : ∀ p : Nat, p < N → fe (.fz (.int p) :: capS δ caps) = some (y p)) : oComp fi caps bv1 fe δ = some (.list ((List.range N).map y)) := by
  refine comp_map e (by rw [List.length_range]; exact hl) fun p hp => ?_
  rw [Int.zero_add]
  exact H p (List.mem_range.mp hp)

/-- bounds of a state -/
noncomputable def Bd (k p : Nat) (f : Nat → Nu) : Prop := ∀ x, (f x).2 ≤ k ∧ MA.Q4.Le (2 ^ p) (f x).1
theorem half_le (u : Nu) : (MA.halfN u).2 ≤ u.2 + 1 := by
  obtain ⟨c, e, h⟩ := num2 u.1 (u.2 + 1)
  show (MA.num u.1 ((u.2 + 1 : Nat) : Int)).2.toNat ≤ _
  rw [e]; exact h
theorem half_Le {u : Nu} {M : Nat} (h : MA.Q4.Le M u.1) : MA.Q4.Le M (MA.halfN u).1 := MA.num_le _ _ (by lia) _ h
theorem Bd.done {k p : Nat} {f : Nat → Nu} (h : Bd k p f) (n : Nat) (r : Row) : Bd (k + 1) (p + k + 1) (doneAt n f r) := fun x => by
  have mono : ∀ y, (f y).2 ≤ k + 1 ∧ MA.Q4.Le (2 ^ (p + k + 1)) (f y).1 := fun y => ⟨by have := (h y).1; lia, (h y).2.mono (Nat.pow_le_pow_right (by decide) (by lia))⟩
  have pl : ∀ (u v : Nu), u.2 ≤ k → v.2 ≤ k → MA.Q4.Le (2 ^ p) u.1 → MA.Q4.Le (2 ^ p) v.1 → (MA.halfN (MA.plusN u v)).2 ≤ k + 1 ∧ MA.Q4.Le (2 ^ (p + k + 1)) (MA.halfN (MA.plusN u v)).1 := fun u v h1 h2 h3 h4 => by
    refine ⟨?_, half_Le ?_⟩
    · have := half_le (MA.plusN u v)
      have := plusN_le u v
      lia
    · exact MA.plusQ_le h3 h4 h1 h2
  cases r with
  | swing j =>
    show (if bit (wt n j) x = 0 then _ else _ : Nu).2 ≤ _ ∧ MA.Q4.Le _ (if bit (wt n j) x = 0 then _ else _ : Nu).1
    split
    · exact pl _ _ (h _).1 (h _).1 (h _).2 (h _).2
    · exact pl _ _ (h _).1 (h _).1 (h _).2 (MA.tnn_le _ (h _).2)
  | turn j e => exact ⟨(mono x).1, MA.tnn_le _ (mono x).2⟩
  | sign i j => exact ⟨(mono x).1, MA.tnn_le _ (mono x).2⟩
  | flip j => exact mono _
  | tie i j => exact mono _
  | cross i j => exact mono _
theorem Bd.mono {k p k' p' : Nat} {f : Nat → Nu} (h : Bd k p f) (h1 : k ≤ k') (h2 : p ≤ p') : Bd k' p' f := fun x => ⟨Nat.le_trans (h x).1 h1, (h x).2.mono (Nat.pow_le_pow_right (by decide) h2)⟩

/-! ### the landed done -/
theorem tab1 : ((List.range 6).all fun k => (List.range 64).all fun p => (p &&& 2 ^ k == 2 ^ k * bit (2 ^ k) p) && (p ^^^ 2 ^ k == flp (2 ^ k) p)) = true := by decide +kernel
theorem tab2 : ((List.range 6).all fun k => (List.range 6).all fun l => (List.range 64).all fun p => (k == l) || ((2 ^ k ||| 2 ^ l == 2 ^ k + 2 ^ l) && (p &&& (2 ^ k + 2 ^ l) == 2 ^ k * bit (2 ^ k) p + 2 ^ l * bit (2 ^ l) p) && (p ^^^ (2 ^ k + 2 ^ l) == flp (2 ^ l) (flp (2 ^ k) p)))) = true := by decide +kernel
section
variable {n : Nat} (hn : n ≤ 6)
include hn
theorem pow64 : 2 ^ n ≤ 64 := (Nat.pow_le_pow_right (by decide) hn : 2 ^ n ≤ 2 ^ 6)
theorem and_wt {j p : Nat} (hj : j < n) (hp : p < 2 ^ n) : p &&& wt n j = wt n j * bit (wt n j) p ∧ p ^^^ wt n j = flp (wt n j) p := by
  have h := tab1
  rw [List.all_eq_true] at h
  have h := h (n - 1 - j) (List.mem_range.mpr (by omega))
  rw [List.all_eq_true] at h
  have h := h p (List.mem_range.mpr (Nat.lt_of_lt_of_le hp (pow64 hn)))
  rw [Bool.and_eq_true, beq_iff_eq, beq_iff_eq] at h
  exact h
theorem and_wt2 {i j p : Nat} (hi : i < n) (hj : j < n) (hij : i ≠ j) (hp : p < 2 ^ n) : wt n i ||| wt n j = wt n i + wt n j ∧ p &&& (wt n i + wt n j) = wt n i * bit (wt n i) p + wt n j * bit (wt n j) p ∧ p ^^^ (wt n i + wt n j) = flp (wt n j) (flp (wt n i) p) := by
  have h := tab2
  rw [List.all_eq_true] at h
  have h := h (n - 1 - i) (List.mem_range.mpr (by lia))
  rw [List.all_eq_true] at h
  have h := h (n - 1 - j) (List.mem_range.mpr (by lia))
  rw [List.all_eq_true] at h
  have h := h p (List.mem_range.mpr (Nat.lt_of_lt_of_le hp (pow64 hn)))
  rw [Bool.or_eq_true, Bool.and_eq_true, Bool.and_eq_true, beq_iff_eq, beq_iff_eq, beq_iff_eq, beq_iff_eq] at h
  rcases h with h | h
  · exact absurd h (by lia)
  · exact ⟨h.1.1, h.1.2, h.2⟩
theorem worth_eq {j : Nat} (hj : j < n) : g_worth [.int n, .int j] = some (.int (wt n j : Nat)) := by
  have hb : Builtin.Int.intBits 1 = 1 := by decide +kernel
  have e := shlD_int (i := 1) (j := (n : Int) - 1 - (j : Int)) (by lia) (by lia)
  have e2 : (1 : Int) * 2 ^ ((n : Int) - 1 - (j : Int)).toNat = ((wt n j : Nat) : Int) := by
    unfold MA.wt
    rw [show ((n : Int) - 1 - (j : Int)).toNat = n - 1 - j by lia]
    push_cast
    lia
  rw [e2] at e
  simp [g_worth, runB, b_worth, startD, e]
theorem wires_st (f : Nat → Nu) : bitsD (.int ((2 ^ n : Nat) : Int)) = some (.int ((n : Int) + 1)) := by
  have e : ((2 ^ n : Nat) : Int) = 2 ^ n := by push_cast; rfl
  have := MA.bits_pow n
  rw [bitsD_int, e, this]
  rfl
/-! numbers -/
theorem plus_n (u v : Nu) (hu : MA.Q4.Le (2 ^ 100000) u.1) (hv : MA.Q4.Le (2 ^ 100000) v.1) (hc : u.2 ≤ 50000) (hd : v.2 ≤ 50000) : g_plus [numD u, numD v] = some (numD (MA.plusN u v)) := by
  have e := plus_eq u.1 u.2 v.1 v.2 hu hv (by lia) (by lia) (by lia) (by lia)
  unfold numD MA.plusN
  rw [e]
  obtain ⟨c, e2, h⟩ := num2 (MA.Q4.add (MA.Q4.rtn (max (u.2 : Int) v.2 - u.2).toNat u.1) (MA.Q4.rtn (max (u.2 : Int) v.2 - v.2).toNat v.1)) (max u.2 v.2)
  have e3 : ((max u.2 v.2 : Nat) : Int) = max (u.2 : Int) v.2 := by lia
  rw [e3] at e2
  show some (tup5 _ (MA.plusQ u.1 u.2 v.1 v.2).2) = some (tup5 _ ((MA.plusQ u.1 u.2 v.1 v.2).2.toNat : Int))
  unfold MA.plusQ
  rw [e2]; rfl
theorem halved_n (u : Nu) : g_halved [numD u] = some (numD (MA.halfN u)) := by
  have e := halved_eq u.1 u.2 (by lia)
  obtain ⟨c, e2, h⟩ := num2 u.1 (u.2 + 1)
  have e3 : ((u.2 + 1 : Nat) : Int) = (u.2 : Int) + 1 := by lia
  unfold numD MA.halfN
  rw [e, e3]
  rw [e3] at e2
  rw [e2]; rfl
theorem against_n (u : Nu) : g_against [numD u] = some (numD (MA.turnN 4 u)) := by
  have e := against_eq u.1 u.2
  unfold numD MA.turnN
  rw [e]
  have : MA.tnn (4 % 8) u.1 = MA.Q4.neg u.1 := by
    show MA.Q4.tn (MA.Q4.tn (MA.Q4.tn (MA.Q4.tn u.1))) = _
    unfold MA.Q4.tn MA.Q4.neg
    rfl
  rw [this]
theorem turned_n (u : Nu) (e : Nat) : g_turned [numD u, .int e] = some (numD (MA.turnN e u)) := by
  have h := turned_eq u.1 u.2 e
  unfold numD MA.turnN
  rw [h, show ((e : Int) % 8).toNat = e % 8 by lia]
end
section
variable {n : Nat} (hn : n ≤ 6) (f : Nat → Nu) (hf : ∀ p, (f p).2 ≤ 40000) (hL : ∀ p, MA.Q4.Le (2 ^ 100000) (f p).1)
include hn
theorem swung_x0 (X x y a b : D) (p w q : Int) (ds : List D) (hs : ds.length < sizeLine) (h1 : Builtin.bitAnd p w = 0) (h2 : Builtin.bitXor p w = q) (a0 : ixD X (.int p) = some x) (a1 : ixD X (.int q) = some y) (e1 : g_plus [x, y] = some a) (e2 : g_halved [a] = some b) :
    l1_swung [.fz X, .fz (.int w), .ow ds, .fz (.int p)] = some (.nx, [.fz X, .fz (.int w), .ow (ds ++ [b]), .fz (.int p)]) := by
  simp [-sSeq, -sIf, sSeq_k, sIf_k, l1_swung, h1, h2, a0, a1, e1, e2, hs]
theorem swung_x1 (X x y z a b : D) (p w q m : Int) (ds : List D) (hs : ds.length < sizeLine) (h1 : Builtin.bitAnd p w = m) (hm : m ≠ 0) (h2 : Builtin.bitXor p w = q) (a0 : ixD X (.int p) = some x) (a1 : ixD X (.int q) = some y) (e0 : g_against [x] = some z) (e1 : g_plus [y, z] = some a) (e2 : g_halved [a] = some b) :
    l1_swung [.fz X, .fz (.int w), .ow ds, .fz (.int p)] = some (.nx, [.fz X, .fz (.int w), .ow (ds ++ [b]), .fz (.int p)]) := by
  have hm' : (m == 0) = false := by simpa using hm
  simp [-sSeq, -sIf, sSeq_k, sIf_k, l1_swung, h1, hm', h2, a0, a1, e0, e1, e2, hs]
include hf hL
theorem swung_at {j : Nat} (hj : j < n) (p : Nat) (hp : p < 2 ^ n) (ds : List D) (hl : ds.length < 1000) :
    l1_swung [.fz (stD n f), .fz (.int (wt n j : Nat)), .ow ds, .fz (.int p)] = some (.nx, [.fz (stD n f), .fz (.int (wt n j : Nat)), .ow (ds ++ [numD (doneAt n f (.swing j) p)]), .fz (.int p)]) := by
  have hs : ds.length < sizeLine := by show _ < 16777216; lia
  have ha := and_wt hn hj hp
  have b1 := MA.band p (wt n j)
  have b2 := MA.bxor p (wt n j)
  rw [ha.1] at b1
  rw [ha.2] at b2
  have hw := MA.wt_pos n j
  have q := MA.flp_lt hj hp
  have a0 : ixD (stD n f) (.int (p : Int)) = some (numD (f p)) := st_at p rfl hp
  have a1 : ixD (stD n f) (.int ((flp (wt n j) p : Nat) : Int)) = some (numD (f (flp (wt n j) p))) := st_at _ rfl q
  by_cases h : bit (wt n j) p = 0
  · rw [h, Nat.mul_zero] at b1
    have e : doneAt n f (.swing j) p = MA.halfN (MA.plusN (f p) (f (p + wt n j))) := if_pos h
    have ef : flp (wt n j) p = p + wt n j := if_pos h
    rw [ef] at a1 b2
    rw [e]
    exact swung_x0 hn _ _ _ _ _ _ _ _ _ hs b1 b2 a0 a1 (plus_n hn _ _ (hL _) (hL _) (by have := hf p; lia) (by have := hf (p + wt n j); lia)) (halved_n hn _)
  · have h1 : bit (wt n j) p = 1 := by have := MA.bit_lt (wt n j) p; lia
    rw [h1, Nat.mul_one] at b1
    have e : doneAt n f (.swing j) p = MA.halfN (MA.plusN (f (p - wt n j)) (MA.turnN 4 (f p))) := if_neg h
    have ef : flp (wt n j) p = p - wt n j := if_neg h
    rw [ef] at a1 b2
    rw [e]
    exact swung_x1 hn _ _ _ _ _ _ _ _ _ _ _ hs b1 (by lia) b2 a0 a1 (against_n hn _) (plus_n hn _ _ (hL _) (MA.tnn_le _ (hL p)) (by have := hf (p - wt n j); lia) (by show (f p).2 ≤ _; have := hf p; lia)) (halved_n hn _)
omit hf hL hn in
theorem swung_y (X Y : D) (w S : Int) (RL L : List D) (y : Sl) (ln : lenD [X] = some (.int S)) (hN : rng1D [.int S] = some RL) (e : loop (gN 3) l1_swung RL [.fz X, .fz (.int w), .ow [], .un] = some (.nx, [.fz X, .fz (.int w), .ow L, y])) (tp : tupleD [.list L] = some Y) : g_swung [X, .int w] = some Y := by
  simp [-sSeq, -sIf, sSeq_k, sIf_k, g_swung, runB, b_swung, startD, ln, hN, e, dFz, tp]
theorem swung_eq {j : Nat} (hj : j < n) : g_swung [stD n f, .int (wt n j : Nat)] = some (stD n (doneAt n f (.swing j))) := by
  have sq := pow64 hn
  have hN : rng1D [.int ((2 ^ n : Nat) : Int)] = some (rngL 0 (2 ^ n)) := rng_pow n hn
  obtain ⟨δ', e, y3, rfl⟩ := loop_rng (b := l1_swung) (k := 3) (fun i δ => ∃ y3, δ = [.fz (stD n f), .fz (.int (wt n j : Nat)), .ow ((List.range i).map fun p => numD (doneAt n f (.swing j) p)), y3]) (2 ^ n) (by
      rintro i hi δ ⟨y3, rfl⟩
      have e := swung_at hn f hf hL hj i hi ((List.range i).map fun p => numD (doneAt n f (.swing j) p)) (by simp; lia)
      refine ⟨[.fz (stD n f), .fz (.int (wt n j : Nat)), .ow ((List.range (i + 1)).map fun p => numD (doneAt n f (.swing j) p)), .fz (.int i)], ?_, _, rfl⟩
      rw [List.range_succ, List.map_append]
      exact e) [.fz (stD n f), .fz (.int (wt n j : Nat)), .ow [], .un] ⟨_, rfl⟩
  have ln := len_st n f
  have tp : tupleD [.list ((List.range (2 ^ n)).map fun p => numD (doneAt n f (.swing j) p))] = some (stD n (doneAt n f (.swing j))) := rfl
  exact swung_y _ _ _ _ _ _ _ ln hN e tp
omit hf hL
omit hn in
theorem comp_r {fi : Dv → Option (List D)} {caps : List (Nat × Str)} {fe : Dv → Option D} {δ : Dv} {N : Nat} {y : Nat → D} (e : fi δ = some ((List.range N).map fun k : Nat => PyData.int (0 + (k : Int)))) (hl : N ≤ 16777216) (H : ∀ p : Nat, p < N → fe (.fz (.int p) :: capS δ caps) = some (y p)) : oComp fi caps bv1 fe δ = some (.list ((List.range N).map y)) := by
  refine comp_map e (by rw [List.length_range]; exact hl) fun p hp => ?_
  rw [Int.zero_add]
  exact H p (List.mem_range.mp hp)
omit hn in
theorem tw_c (X : D) (h e S : Int) (N : Nat) (x y : Nat → D) (ln : lenD [X] = some (.int S)) (hN : rng1D [.int S] = some ((List.range N).map fun k : Nat => PyData.int (0 + (k : Int)))) (hl : N ≤ 16777216) (a : ∀ p : Nat, p < N → ixD X (.int p) = some (x p))
    (t : ∀ p : Nat, p < N → Builtin.bitAnd p h = h → g_turned [x p, .int e] = some (y p)) (u : ∀ p : Nat, p < N → Builtin.bitAnd p h ≠ h → y p = x p) : g_turned_where [X, .int h, .int e] = some (.tuple ((List.range N).map y)) := by
  have c : p1_turned_where [.fz X, .fz (.int h), .fz (.int e)] = some (.list ((List.range N).map y)) := comp_r (by simp [ln, hN]) hl fun p hp => by
    have a0 := a p hp
    by_cases q : Builtin.bitAnd p h = h
    · have t := t p hp q
      simp [capS, a0, q, t]
    · have t := u p hp q
      rw [t]
      simp [capS, a0, q]
  simp [g_turned_where, runB, b_turned_where, startD, c]
omit hn in
theorem fw_c (X : D) (h w S : Int) (N : Nat) (x y : Nat → D) (ln : lenD [X] = some (.int S)) (hN : rng1D [.int S] = some ((List.range N).map fun k : Nat => PyData.int (0 + (k : Int)))) (hl : N ≤ 16777216) (a : ∀ p : Nat, p < N → ixD X (.int p) = some (x p))
    (t : ∀ p : Nat, p < N → Builtin.bitAnd p h = h → ∃ q : Nat, q < N ∧ Builtin.bitXor p w = q ∧ y p = x q) (u : ∀ p : Nat, p < N → Builtin.bitAnd p h ≠ h → y p = x p) : g_flipped_where [X, .int h, .int w] = some (.tuple ((List.range N).map y)) := by
  have c : p1_flipped_where [.fz X, .fz (.int h), .fz (.int w)] = some (.list ((List.range N).map y)) := comp_r (by simp [ln, hN]) hl fun p hp => by
    have a0 := a p hp
    by_cases q : Builtin.bitAnd p h = h
    · obtain ⟨q', hq, e1, e2⟩ := t p hp q
      have a1 := a q' hq
      rw [e2]
      simp [capS, e1, q, a1]
    · have t := u p hp q
      rw [t]
      simp [capS, a0, q]
  simp [g_flipped_where, runB, b_flipped_where, startD, c]
theorem tw_eq (h e : Int) (g : Nat → Nu) (H : ∀ p : Nat, p < 2 ^ n → (Builtin.bitAnd p h = h → g_turned [numD (f p), .int e] = some (numD (g p))) ∧ (Builtin.bitAnd p h ≠ h → g p = f p)) : g_turned_where [stD n f, .int h, .int e] = some (stD n g) :=
  tw_c (stD n f) h e _ (2 ^ n) (fun p => numD (f p)) (fun p => numD (g p)) (len_st n f) (rng_pow n hn) (Nat.le_trans (pow64 hn) (by decide)) (fun p hp => st_at p rfl hp) (fun p hp q => (H p hp).1 q) (fun p hp q => congrArg numD ((H p hp).2 q))
theorem fw_eq (h w : Int) (g : Nat → Nu) (H : ∀ p : Nat, p < 2 ^ n → (Builtin.bitAnd p h = h → ∃ q : Nat, q < 2 ^ n ∧ Builtin.bitXor p w = q ∧ g p = f q) ∧ (Builtin.bitAnd p h ≠ h → g p = f p)) : g_flipped_where [stD n f, .int h, .int w] = some (stD n g) :=
  fw_c (stD n f) h w _ (2 ^ n) (fun p => numD (f p)) (fun p => numD (g p)) (len_st n f) (rng_pow n hn) (Nat.le_trans (pow64 hn) (by decide)) (fun p hp => st_at p rfl hp) (fun p hp q => let ⟨q', h1, h2, h3⟩ := (H p hp).1 q; ⟨q', h1, h2, congrArg numD h3⟩) (fun p hp q => congrArg numD ((H p hp).2 q))
omit hn in
theorem exch_x (p W m q r : Int) (c : Bool) {b : Bool} (h1 : Builtin.bitAnd p W = m) (h2 : Builtin.bitXor p W = q) (h3 : inD false (.int m) (.tuple [.int 0, .int W]) = some (.bool b)) (hb : b = c) (hr : (if c = true then p else q) = r) : g_exchanged [.int p, .int W] = some (.int r) := by
  subst hb
  cases b
  · simp at hr; subst hr; simp [g_exchanged, runB, b_exchanged, startD, h1, h2, h3]
  · simp at hr; subst hr; simp [g_exchanged, runB, b_exchanged, startD, h1, h2, h3]
theorem exch_eq {i j : Nat} (hi : i < n) (hj : j < n) (hij : i ≠ j) {p : Nat} (hp : p < 2 ^ n) : g_exchanged [.int p, .int ((wt n i + wt n j : Nat) : Int)] = some (.int (from_ n (.cross i j) p : Nat)) := by
  have ha := and_wt2 hn hi hj hij hp
  have b1 := MA.band p (wt n i + wt n j)
  have b2 := MA.bxor p (wt n i + wt n j)
  rw [ha.2.1] at b1
  rw [ha.2.2] at b2
  have hwi := MA.wt_pos n i
  have hwj := MA.wt_pos n j
  have l1 := MA.bit_lt (wt n i) p
  have l2 := MA.bit_lt (wt n j) p
  have inT : ∀ a b : Int, inD false (.int a) (.tuple [.int 0, .int b]) = some (.bool (0 == a || b == a)) := fun a b => by
    show some (PyData.bool (PyData.eqv (.int 0) (.int a) || (PyData.eqv (.int b) (.int a) || false))) = _
    rw [Bool.or_false]
    rfl
  have ef : from_ n (.cross i j) p = if bit (wt n i) p = bit (wt n j) p then p else flp (wt n j) (flp (wt n i) p) := rfl
  rw [ef]
  by_cases h : bit (wt n i) p = bit (wt n j) p
  · rw [if_pos h]
    have hb : bit (wt n i) p = 0 ∨ bit (wt n i) p = 1 := by lia
    refine exch_x _ _ _ _ _ true b1 b2 (inT _ _) ?_ rfl
    rcases hb with hb | hb
    · rw [← h, hb]; simp
    · rw [← h, hb]; simp
  · rw [if_neg h]
    refine exch_x _ _ _ _ _ false b1 b2 (inT _ _) ?_ rfl
    have hb : (bit (wt n i) p = 0 ∧ bit (wt n j) p = 1) ∨ (bit (wt n i) p = 1 ∧ bit (wt n j) p = 0) := by lia
    rcases hb with ⟨hb, hc⟩ | ⟨hb, hc⟩
    · rw [hb, hc, Nat.mul_zero, Nat.mul_one, Nat.zero_add, Bool.or_eq_false_iff, beq_eq_false_iff_ne, beq_eq_false_iff_ne]
      lia
    · rw [hb, hc, Nat.mul_zero, Nat.mul_one, Nat.add_zero, Bool.or_eq_false_iff, beq_eq_false_iff_ne, beq_eq_false_iff_ne]
      lia
omit hn in
theorem cr_c (X : D) (S W1 W2 W : Int) (N : Nat) (x y : Nat → D) (R w0 : Sl) (ho : Builtin.bitOr W1 W2 = W) (ln : lenD [X] = some (.int S)) (hN : rng1D [.int S] = some ((List.range N).map fun k : Nat => PyData.int (0 + (k : Int)))) (hl : N ≤ 16777216) (a : ∀ p : Nat, p < N → ixD X (.int p) = some (x p))
    (t : ∀ p : Nat, p < N → ∃ q : Nat, q < N ∧ g_exchanged [.int p, .int W] = some (.int q) ∧ y p = x q) : p1_done [.fz X, R, w0, .fz (.int W1), .fz (.int W2)] = some (.list ((List.range N).map y)) :=
  comp_r (by simp [ln, hN]) hl fun p hp => by
    obtain ⟨q, hq, e1, e2⟩ := t p hp
    have a1 := a q hq
    rw [e2]
    simp [capS, ho, e1, a1]
section
omit hn
variable (X R Y : D) (S N w1 w2 : Int) (i j : Int) (ln : lenD [X] = some (.int S)) (bl : bitsD (.int S) = some (.int (N + 1))) (r1 : ixD R (.int 1) = some (.int i)) (v1 : g_worth [.int N, .int i] = some (.int w1))
include ln bl r1 v1
theorem done_swing_x (r0 : ixD R (.int 0) = some (.str "swing")) (h : g_swung [X, .int w1] = some Y) : g_done [X, R] = some Y := by
  simp [-sSeq, -sIf, sSeq_k, sIf_k, g_done, runB, b_done, startD, ln, bl, r0, r1, v1, h]
theorem done_turn_x (r0 : ixD R (.int 0) = some (.str "turn")) (r2 : ixD R (.int 2) = some (.int j)) (h : g_turned_where [X, .int w1, .int j] = some Y) : g_done [X, R] = some Y := by
  simp [-sSeq, -sIf, sSeq_k, sIf_k, g_done, runB, b_done, startD, ln, bl, r0, r1, r2, v1, h]
theorem done_flip_x (r0 : ixD R (.int 0) = some (.str "flip")) (h : g_flipped_where [X, .int 0, .int w1] = some Y) : g_done [X, R] = some Y := by
  simp [-sSeq, -sIf, sSeq_k, sIf_k, g_done, runB, b_done, startD, ln, bl, r0, r1, v1, h]
variable (r2 : ixD R (.int 2) = some (.int j)) (v2 : g_worth [.int N, .int j] = some (.int w2))
include r2 v2
theorem done_tie_x (r0 : ixD R (.int 0) = some (.str "tie")) (h : g_flipped_where [X, .int w1, .int w2] = some Y) : g_done [X, R] = some Y := by
  simp [-sSeq, -sIf, sSeq_k, sIf_k, g_done, runB, b_done, startD, ln, bl, r0, r1, r2, v1, v2, h]
theorem done_sign_x (W : Int) (ho : Builtin.bitOr w1 w2 = W) (r0 : ixD R (.int 0) = some (.str "sign")) (h : g_turned_where [X, .int W, .int 4] = some Y) : g_done [X, R] = some Y := by
  simp [-sSeq, -sIf, sSeq_k, sIf_k, g_done, runB, b_done, startD, ln, bl, r0, r1, r2, v1, v2, ho, h]
theorem done_cross_x (L : D) (r0 : ixD R (.int 0) = some (.str "cross")) (h : p1_done [.fz X, .fz R, .fz (.int N), .fz (.int w1), .fz (.int w2)] = some L) (t : tupleD [L] = some Y) : g_done [X, R] = some Y := by
  simp [-sSeq, -sIf, sSeq_k, sIf_k, g_done, runB, b_done, startD, ln, bl, r0, r1, r2, v1, v2, h, t]
end
include hf hL
theorem done_eq (r : Row) (hr : r.ok n) : g_done [stD n f, rowD r] = some (stD n (doneAt n f r)) := by
  have ln := len_st n f
  have bl := wires_st hn f
  have sq := pow64 hn
  cases r with
  | swing j => exact done_swing_x _ _ _ _ _ _ _ ln bl rfl (worth_eq hn hr) rfl (swung_eq hn f hf hL hr)
  | turn j e =>
    refine done_turn_x _ _ _ _ _ _ _ _ ln bl rfl (worth_eq hn hr.1) rfl rfl (tw_eq hn f _ _ _ fun p hp => ?_)
    have ha := (and_wt hn hr.1 hp).1
    have b1 := MA.band p (wt n j)
    rw [ha] at b1
    have hw := MA.wt_pos n j
    have hb : bit (wt n j) p = 0 ∨ bit (wt n j) p = 1 := by have := MA.bit_lt (wt n j) p; lia
    have e1 : doneAt n f (.turn j e) p = MA.turnN (e * bit (wt n j) p) (f p) := rfl
    rw [e1, b1]
    rcases hb with hb | hb
    · rw [hb, Nat.mul_zero, Nat.mul_zero]
      exact ⟨fun q => absurd q (by lia), fun _ => rfl⟩
    · rw [hb, Nat.mul_one, Nat.mul_one]
      exact ⟨fun _ => turned_n hn _ _, fun q => absurd rfl q⟩
  | flip j =>
    refine done_flip_x _ _ _ _ _ _ _ ln bl rfl (worth_eq hn hr) rfl (fw_eq hn f _ _ _ fun p hp => ?_)
    have b2 := MA.bxor p (wt n j)
    rw [(and_wt hn hr hp).2] at b2
    have b0 := MA.band p 0
    rw [Nat.and_zero] at b0
    exact ⟨fun _ => ⟨_, MA.flp_lt hr hp, b2, rfl⟩, fun q => absurd b0 q⟩
  | tie i j =>
    refine done_tie_x _ _ _ _ _ _ _ _ _ ln bl rfl (worth_eq hn hr.1) rfl (worth_eq hn hr.2.1) rfl (fw_eq hn f _ _ _ fun p hp => ?_)
    have b2 := MA.bxor p (wt n j)
    rw [(and_wt hn hr.2.1 hp).2] at b2
    have b1 := MA.band p (wt n i)
    rw [(and_wt hn hr.1 hp).1] at b1
    have hw := MA.wt_pos n i
    have hb : bit (wt n i) p = 0 ∨ bit (wt n i) p = 1 := by have := MA.bit_lt (wt n i) p; lia
    have e1 : doneAt n f (.tie i j) p = f (if bit (wt n i) p = 0 then p else flp (wt n j) p) := rfl
    rw [e1, b1]
    rcases hb with hb | hb
    · rw [hb, Nat.mul_zero]
      exact ⟨fun q => absurd q (by lia), fun _ => rfl⟩
    · rw [hb, Nat.mul_one, if_neg (by decide)]
      exact ⟨fun _ => ⟨_, MA.flp_lt hr.2.1 hp, b2, rfl⟩, fun q => absurd rfl q⟩
  | sign i j =>
    have ho := MA.bor (wt n i) (wt n j)
    rw [(and_wt2 hn hr.1 hr.2.1 hr.2.2 (p := 0) (Nat.pow_pos (by decide))).1] at ho
    refine done_sign_x _ _ _ _ _ _ _ _ _ ln bl rfl (worth_eq hn hr.1) rfl (worth_eq hn hr.2.1) _ ho rfl (tw_eq hn f _ _ _ fun p hp => ?_)
    have b1 := MA.band p (wt n i + wt n j)
    rw [(and_wt2 hn hr.1 hr.2.1 hr.2.2 hp).2.1] at b1
    have hw := MA.wt_pos n i
    have hw2 := MA.wt_pos n j
    have hb : bit (wt n i) p = 0 ∨ bit (wt n i) p = 1 := by have := MA.bit_lt (wt n i) p; lia
    have hc : bit (wt n j) p = 0 ∨ bit (wt n j) p = 1 := by have := MA.bit_lt (wt n j) p; lia
    have e1 : doneAt n f (.sign i j) p = MA.turnN (4 * bit (wt n i) p * bit (wt n j) p) (f p) := rfl
    rw [e1, b1]
    rcases hb with hb | hb
    · rw [hb, Nat.mul_zero, Nat.mul_zero, Nat.zero_mul]
      refine ⟨fun q => absurd q ?_, fun _ => rfl⟩
      rcases hc with hc | hc <;> rw [hc] <;> lia
    · rcases hc with hc | hc
      · rw [hb, hc, Nat.mul_one, Nat.mul_zero, Nat.mul_zero]
        exact ⟨fun q => absurd q (by lia), fun _ => rfl⟩
      · rw [hb, hc, Nat.mul_one, Nat.mul_one, Nat.mul_one, Nat.mul_one]
        exact ⟨fun _ => turned_n hn _ 4, fun q => absurd rfl q⟩
  | cross i j =>
    have ho := MA.bor (wt n i) (wt n j)
    rw [(and_wt2 hn hr.1 hr.2.1 hr.2.2 (p := 0) (Nat.pow_pos (by decide))).1] at ho
    refine done_cross_x _ _ _ _ _ _ _ _ _ ln bl rfl (worth_eq hn hr.1) rfl (worth_eq hn hr.2.1) _ rfl (cr_c (stD n f) _ _ _ _ (2 ^ n) (fun p => numD (f p)) (fun p => numD (doneAt n f (.cross i j) p)) _ _ ho ln (rng_pow n hn) (by lia) (fun p hp => st_at p rfl hp) fun p hp => ?_) rfl
    exact ⟨_, MA.from_lt (r := .cross i j) hr hp, exch_eq hn hr.1 hr.2.1 hr.2.2 hp, rfl⟩
end

theorem alld_x (rows : Sl) (X Y r : D) (h1 : g_done [X, r] = some Y) : l1_all_done [.fz X, rows, .fz r] = some (.nx, [.fz Y, rows, .fz r]) := by
  simp [l1_all_done, h1]
noncomputable def doneL (n : Nat) (f : Nat → Nu) : List Row → Nat → Nu
  | [] => f
  | r :: rs => doneL n (doneAt n f r) rs
theorem alld_y (X Y R : D) (L : List D) (y : Sl) (it : itsD R = some L) (e : loop (gN 2) l1_all_done L [.fz X, .fz R, .un] = some (.nx, [.fz Y, .fz R, y])) : g_all_done [X, R] = some Y := by
  simp [g_all_done, runB, b_all_done, startD, it, e]
theorem shl1 (w : Nat) (h : w ≤ 100) : shlD (.int 1) (.int (w : Int)) = some (.int ((2 ^ w : Nat) : Int)) := by
  have hb : Builtin.Int.intBits 1 = 1 := by decide +kernel
  have e := shlD_int (i := 1) (j := (w : Int)) (by lia) (by lia)
  rw [e]
  simp


theorem eq_self {d : D} {k : Nat} (h : MA.Sh k d) (hk : k ≤ 64) : eqD d d = some (.bool true) := by
  have hs : shp d = true := by
    show (d.canLay0 && decide (d.depth ≤ 64)) = true
    rw [h.1, decide_eq_true (Nat.le_trans h.2 hk)]; rfl
  unfold eqD
  rw [if_pos ⟨hs, hs⟩, MA.eqv_self d h.1]
/-! ### rows on whole quadruples: moves -/
noncomputable def ldn (n : Nat) (q : Nat → MA.Q4) : Row → Nat → MA.Q4
  | .swing j, p => if bit (wt n j) p = 0 then MA.Q4.add (q p) (q (p + wt n j)) else MA.Q4.add (q (p - wt n j)) (MA.tnn 4 (q p))
  | .turn j e, p => MA.tnn (e * bit (wt n j) p) (q p)
  | .sign i j, p => MA.tnn (4 * bit (wt n i) p * bit (wt n j) p) (q p)
  | r, p => q (from_ n r p)
noncomputable def swn : Row → Nat
  | .swing _ => 1
  | _ => 0
theorem sw_eq (n : Nat) (q : Nat → MA.Q4) (j x : Nat) : ldn n q (.swing j) x = if bit (wt n j) x = 0 then MA.Q4.add (q x) (q (flp (wt n j) x)) else MA.Q4.add (q (flp (wt n j) x)) (MA.tnn 4 (q x)) := by
  show (if bit (wt n j) x = 0 then _ else _) = _
  unfold MA.flp
  by_cases h : bit (wt n j) x = 0
  · rw [if_pos h, if_pos h, if_pos h]
  · rw [if_neg h, if_neg h, if_neg h]
theorem tn_addQ (x y : MA.Q4) : MA.Q4.tn (MA.Q4.add x y) = MA.Q4.add (MA.Q4.tn x) (MA.Q4.tn y) := by
  apply MA.Q4.ext' <;> simp only [MA.Q4.tn, MA.Q4.add] <;> lia
theorem tnn_addQ (e : Nat) (x y : MA.Q4) : MA.tnn e (MA.Q4.add x y) = MA.Q4.add (MA.tnn e x) (MA.tnn e y) := by
  induction e with
  | zero => rfl
  | succ e ih => show MA.Q4.tn (MA.tnn e _) = MA.Q4.add (MA.Q4.tn (MA.tnn e x)) (MA.Q4.tn (MA.tnn e y)); rw [ih, tn_addQ]
theorem tnn_8 (k : Nat) (x : MA.Q4) : MA.tnn (8 * k) x = x := by rw [← MA.tnn_mod, Nat.mul_mod_right]; rfl
/-! rows that only carry and turn -/
noncomputable def isSw : Row → Bool
  | .swing _ => true
  | _ => false
/-! ### rows that come to nothing -/
/-! ### whole circuits that differ by moves -/
noncomputable def ldnL (n : Nat) : (Nat → MA.Q4) → List Row → Nat → MA.Q4
  | q, [] => q
  | q, r :: rs => ldnL n (ldn n q r) rs
noncomputable def swL : List Row → Nat
  | [] => 0
  | r :: rs => swn r + swL rs
theorem ldnL_app (n : Nat) : ∀ (as bs : List Row) (q : Nat → MA.Q4), ldnL n q (as ++ bs) = ldnL n (ldnL n q as) bs
  | [], _, _ => rfl
  | a :: as, bs, q => ldnL_app n as bs (ldn n q a)
theorem swL_app : ∀ as bs : List Row, swL (as ++ bs) = swL as + swL bs
  | [], bs => (Nat.zero_add _).symm
  | a :: as, bs => by show swn a + swL (as ++ bs) = swn a + swL as + swL bs; rw [swL_app as bs]; lia
/-- the rows bs do what the rows as do, turned by e -/
noncomputable def Mv (n : Nat) (as bs : List Row) (e : Nat) : Prop := ∀ q x, MA.Q4.rtn (swL as) (ldnL n q bs x) = MA.Q4.rtn (swL bs) (MA.tnn e (ldnL n q as x))
theorem Mv.refl (n : Nat) (as : List Row) : Mv n as as 0 := fun _ _ => rfl
theorem Mv.trans {n e f : Nat} {as bs cs : List Row} (h : Mv n as bs e) (k : Mv n bs cs f) : Mv n as cs (e + f) := fun q x => by
  apply MA.Q4.rtn_inj (n := swL bs)
  rw [MA.rtn_swap (swL bs) (swL as), k q x, MA.rtn_swap (swL as) (swL cs), ← MA.tnn_rtn, h q x, MA.tnn_rtn, ← MA.tnn_add, Nat.add_comm f e, MA.rtn_swap (swL cs)]
/-! ### a number that is not nought has eight turns -/
theorem doneL_least {n : Nat} : ∀ (rs : List Row) {f : Nat → Nu}, (∀ q, MA.LeastN (f q)) → ∀ q, MA.LeastN (doneL n f rs q)
  | [], _, h => h
  | r :: rs, _, h => doneL_least rs (MA.done_least h n r)
/-! ### states of circuits that differ by moves -/
noncomputable def Rl (M s : Nat) (f : Nat → Nu) (q : Nat → MA.Q4) : Prop := ∀ x, MA.val M (f x) = MA.Q4.rtn (M - s) (q x)
theorem Rl.done {M s n k p : Nat} {f : Nat → Nu} {q : Nat → MA.Q4} (h : Rl M s f q) (hb : Bd k p f) (hk : k + 1 ≤ M) (hs : s + 1 ≤ M) (r : Row) : Rl M (s + swn r) (doneAt n f r) (ldn n q r) := fun x => by
  have tn : ∀ e, MA.val M (MA.turnN e (f x)) = MA.Q4.rtn (M - s) (MA.tnn e (q x)) := fun e => by rw [MA.val_turn, h x, MA.tnn_mod, MA.tnn_rtn]
  cases r with
  | swing j =>
    have e := MA.val_swing (n := n) (M := M) (j := j) (f := f) (fun y => by have := (hb y).1; lia) x
    refine MA.Q4.rt_inj (e.trans ?_)
    show _ = MA.Q4.rt (MA.Q4.rtn (M - (s + 1)) (if bit (wt n j) x = 0 then MA.Q4.add (q x) (q (x + wt n j)) else MA.Q4.add (q (x - wt n j)) (MA.tnn 4 (q x))))
    rw [← MA.Q4.rtn_succ, show M - (s + 1) + 1 = M - s by lia]
    by_cases hx : bit (wt n j) x = 0
    · rw [if_pos hx, if_pos hx, h, h, MA.Q4.rtn_addQ]
    · rw [if_neg hx, if_neg hx, h, h, MA.Q4.rtn_addQ, MA.tnn_rtn]
  | turn j e => exact tn _
  | sign i j => exact tn _
  | flip j => exact h _
  | tie i j => exact h _
  | cross i j => exact h _
theorem sw_le (r : Row) : swn r ≤ 1 := by cases r <;> simp [swn]
theorem swL_le : ∀ rs : List Row, swL rs ≤ rs.length
  | [] => Nat.le_refl _
  | r :: rs => by have := sw_le r; have := swL_le rs; show swn r + swL rs ≤ rs.length + 1; lia
theorem Rl.all {M n : Nat} : ∀ (rs : List Row) (s k p : Nat) (f : Nat → Nu) (q : Nat → MA.Q4), Rl M s f q → Bd k p f → k + rs.length ≤ M → s + rs.length ≤ M → Rl M (s + swL rs) (doneL n f rs) (ldnL n q rs) ∧ ∃ p', Bd (k + rs.length) p' (doneL n f rs)
  | [], s, k, p, f, q, h, hb, _, _ => ⟨h, p, hb⟩
  | r :: rs, s, k, p, f, q, h, hb, hk, hs => by
    simp only [List.length_cons] at hk hs
    have sr := sw_le r
    obtain ⟨h1, p', h2⟩ := Rl.all rs (s + swn r) (k + 1) (p + k + 1) _ _ (h.done hb (by lia) (by lia) r) (hb.done n r) (by lia) (by lia)
    refine ⟨?_, p', ?_⟩
    · rw [show s + swL (r :: rs) = s + swn r + swL rs by show s + (swn r + swL rs) = _; lia]; exact h1
    · show Bd (k + (rs.length + 1)) p' _
      rw [show k + (rs.length + 1) = k + 1 + rs.length by lia]; exact h2

/-! ### columns weighed and summed -/
open MA (sumI)
noncomputable def LSq (c : Nat → Int) (N : Nat) (Q : Nat → MA.Q4) : MA.Q4 := ⟨sumI N fun b => c b * (Q b).a, sumI N fun b => c b * (Q b).b, sumI N fun b => c b * (Q b).c, sumI N fun b => c b * (Q b).d⟩
theorem sumI_am (c F G : Nat → Int) : ∀ N, sumI N (fun b => c b * (F b + G b)) = sumI N (fun b => c b * F b) + sumI N (fun b => c b * G b)
  | 0 => rfl
  | N + 1 => by
    show sumI N _ + c N * (F N + G N) = sumI N _ + c N * F N + (sumI N _ + c N * G N)
    rw [sumI_am c F G N, Int.mul_add]; lia
theorem sumI_nm (c F : Nat → Int) : ∀ N, sumI N (fun b => c b * -F b) = -sumI N (fun b => c b * F b)
  | 0 => rfl
  | N + 1 => by
    show sumI N _ + c N * -F N = -(sumI N _ + c N * F N)
    rw [sumI_nm c F N, Int.mul_neg]; lia
theorem LSq_add (c : Nat → Int) (N : Nat) (Q R : Nat → MA.Q4) : LSq c N (fun b => MA.Q4.add (Q b) (R b)) = MA.Q4.add (LSq c N Q) (LSq c N R) := by
  apply MA.Q4.ext' <;> exact sumI_am c _ _ N
theorem LSq_tn (c : Nat → Int) (N : Nat) (Q : Nat → MA.Q4) : LSq c N (fun b => MA.Q4.tn (Q b)) = MA.Q4.tn (LSq c N Q) := by
  apply MA.Q4.ext'
  · exact sumI_nm c _ N
  · rfl
  · rfl
  · rfl
theorem LSq_tnn (c : Nat → Int) (N : Nat) (Q : Nat → MA.Q4) : ∀ e, LSq c N (fun b => MA.tnn e (Q b)) = MA.tnn e (LSq c N Q)
  | 0 => rfl
  | e + 1 => by
    show LSq c N (fun b => MA.Q4.tn (MA.tnn e (Q b))) = MA.Q4.tn (MA.tnn e (LSq c N Q))
    rw [LSq_tn, LSq_tnn c N Q e]
theorem LSq_ldn (c : Nat → Int) (N n : Nat) (Q : Nat → Nat → MA.Q4) (r : Row) (x : Nat) : ldn n (fun y => LSq c N fun b => Q b y) r x = LSq c N fun b => ldn n (Q b) r x := by
  cases r with
  | swing j =>
    show (if bit (wt n j) x = 0 then _ else _) = LSq c N fun b => if bit (wt n j) x = 0 then _ else _
    by_cases h : bit (wt n j) x = 0
    · simp only [if_pos h, LSq_add]
    · simp only [if_neg h, LSq_add, LSq_tnn]
  | turn j e => exact (LSq_tnn c N _ _).symm
  | sign i j => exact (LSq_tnn c N _ _).symm
  | flip j => rfl
  | tie i j => rfl
  | cross i j => rfl
theorem LSq_ldnL (c : Nat → Int) (N n : Nat) : ∀ (rs : List Row) (Q : Nat → Nat → MA.Q4) (x : Nat), ldnL n (fun y => LSq c N fun b => Q b y) rs x = LSq c N fun b => ldnL n (Q b) rs x
  | [], _, _ => rfl
  | r :: rs, Q, x => by
    have h : ldn n (fun y => LSq c N fun b => Q b y) r = fun y => LSq c N fun b => ldn n (Q b) r y := funext (LSq_ldn c N n Q r)
    show ldnL n (ldn n (fun y => LSq c N fun b => Q b y) r) rs x = _
    rw [h]
    exact LSq_ldnL c N n rs (fun b => ldn n (Q b) r) x
noncomputable def un (b : Nat) : Nat → MA.Q4 := fun x => if x = b then ⟨1, 0, 0, 0⟩ else ⟨0, 0, 0, 0⟩
theorem sumI_pick (F : Nat → Int) (x : Nat) : ∀ N, sumI N (fun b => if x = b then F b else 0) = if x < N then F x else 0
  | 0 => rfl
  | N + 1 => by
    show sumI N _ + (if x = N then F N else 0) = _
    rw [sumI_pick F x N]
    by_cases h : x = N
    · subst h; rw [if_neg (by lia), if_pos rfl, if_pos (by lia)]; lia
    · rw [if_neg h]
      by_cases q : x < N
      · rw [if_pos q, if_pos (by lia)]; lia
      · rw [if_neg q, if_neg (by lia)]; rfl
theorem LSq_un (c : Nat → Int) (N x : Nat) (y : MA.Q4) : LSq c N (fun b => if x = b then y else ⟨0, 0, 0, 0⟩) = if x < N then ⟨c x * y.a, c x * y.b, c x * y.c, c x * y.d⟩ else ⟨0, 0, 0, 0⟩ := by
  have h : ∀ (g : MA.Q4 → Int), g ⟨0, 0, 0, 0⟩ = 0 → sumI N (fun b => c b * g (if x = b then y else ⟨0, 0, 0, 0⟩)) = if x < N then c x * g y else 0 := fun g g0 => by
    rw [← sumI_pick (fun b => c b * g y) x N]
    exact MA.sumI_congr N fun b _ => by
      by_cases q : x = b
      · rw [if_pos q, if_pos q]
      · rw [if_neg q, if_neg q, g0, Int.mul_zero]
  unfold LSq
  rw [h MA.Q4.a rfl, h MA.Q4.b rfl, h MA.Q4.c rfl, h MA.Q4.d rfl]
  by_cases q : x < N
  · simp only [if_pos q]
  · simp only [if_neg q]
/-! ### digits -/
theorem dig_lt {B : Int} (hB : 1 ≤ B) (d : Nat → Int) : ∀ N, (∀ b, b < N → -B < d b ∧ d b < B) → -(B ^ N) < sumI N (fun b => B ^ b * d b) ∧ sumI N (fun b => B ^ b * d b) < B ^ N
  | 0, _ => ⟨by show -(B ^ 0) < 0; rw [Int.pow_zero]; decide, by show (0 : Int) < B ^ 0; rw [Int.pow_zero]; decide⟩
  | N + 1, h => by
    obtain ⟨h1, h2⟩ := dig_lt hB d N fun b hb => h b (by lia)
    obtain ⟨d1, d2⟩ := h N (by lia)
    have p : 0 ≤ B ^ N := Int.le_of_lt (Int.pow_pos (by lia))
    have u1 : B ^ N * d N ≤ B ^ N * (B - 1) := Int.mul_le_mul_of_nonneg_left (by lia) p
    have u2 : B ^ N * (-(B - 1)) ≤ B ^ N * d N := Int.mul_le_mul_of_nonneg_left (by lia) p
    have e : B ^ (N + 1) = B ^ N * B := Int.pow_succ B N
    rw [Int.mul_neg] at u2
    rw [Int.mul_sub, Int.mul_one] at u1 u2
    show -(B ^ (N + 1)) < sumI N _ + B ^ N * d N ∧ sumI N _ + B ^ N * d N < B ^ (N + 1)
    rw [e]
    generalize B ^ N * B = Y at *
    generalize B ^ N = Z at *
    generalize Z * d N = W at *
    constructor <;> lia
theorem dig_zero {B : Int} (hB : 1 ≤ B) (d : Nat → Int) : ∀ N, (∀ b, b < N → -B < d b ∧ d b < B) → sumI N (fun b => B ^ b * d b) = 0 → ∀ b, b < N → d b = 0
  | 0, _, _, b, hb => absurd hb (Nat.not_lt_zero _)
  | N + 1, h, e, b, hb => by
    have e : sumI N (fun b => B ^ b * d b) + B ^ N * d N = 0 := e
    obtain ⟨h1, h2⟩ := dig_lt hB d N fun b hb => h b (by lia)
    have p : 0 ≤ B ^ N := Int.le_of_lt (Int.pow_pos (by lia))
    have z : d N = 0 := by
      rcases Int.lt_trichotomy (d N) 0 with q | q | q
      · have u : B ^ N * d N ≤ B ^ N * (-1) := Int.mul_le_mul_of_nonneg_left (by lia) p
        rw [Int.mul_neg, Int.mul_one] at u
        lia
      · exact q
      · have u : B ^ N * 1 ≤ B ^ N * d N := Int.mul_le_mul_of_nonneg_left (by lia) p
        rw [Int.mul_one] at u
        lia
    by_cases q : b = N
    · subst q; exact z
    · rw [z, Int.mul_zero, Int.add_zero] at e
      exact dig_zero hB d N (fun b hb => h b (by lia)) e b (by lia)

theorem doneL_nsum {n M : Nat} : ∀ (rs : List Row), (∀ r ∈ rs, r.ok n) → ∀ {k p : Nat} {f : Nat → Nu}, Bd k p f → k + rs.length ≤ M → MA.nsum M n (doneL n f rs) = MA.nsum M n f
  | [], _, _, _, _, _, _ => rfl
  | r :: rs, hr, k, p, f, hb, hk => by
    simp only [List.length_cons] at hk
    show MA.nsum M n (doneL n (doneAt n f r) rs) = _
    rw [doneL_nsum rs (fun q hq => hr q (List.mem_cons_of_mem _ hq)) (hb.done n r) (by lia), MA.nsum_done r (hr r List.mem_cons_self) f fun q => by have := (hb q).1; lia]
/-! ### states compared -/
theorem eqv_num (u v : Nu) : PyData.eqv (numD u) (numD v) = true → u = v := by
  obtain ⟨⟨a, b, c, d⟩, k⟩ := u
  obtain ⟨⟨a', b', c', d'⟩, k'⟩ := v
  show PyData.eqv (.tuple [.int a, .int b, .int c, .int d, .int (k : Int)]) (.tuple [.int a', .int b', .int c', .int d', .int (k' : Int)]) = true → _
  simp [PyData.eqv, PyData.eqvAll]
  intro h1 h2 h3 h4 h5
  exact ⟨⟨h1, h2, h3, h4⟩, by lia⟩
theorem eqvAll_map (A B : Nat → Nu) : ∀ l : List Nat, PyData.eqvAll (l.map fun x => numD (A x)) (l.map fun x => numD (B x)) = true → ∀ x ∈ l, A x = B x
  | [], _, x, hx => (nomatch hx)
  | a :: l, h, x, hx => by
    have h : (PyData.eqv (numD (A a)) (numD (B a)) && PyData.eqvAll (l.map fun x => numD (A x)) (l.map fun x => numD (B x))) = true := h
    rw [Bool.and_eq_true] at h
    rcases List.mem_cons.mp hx with rfl | hx
    · exact eqv_num _ _ h.1
    · exact eqvAll_map A B l h.2 x hx
theorem sh_num (u : Nu) : MA.Sh 1 (numD u) := MA.Sh.tuple fun x hx => by
  simp only [List.mem_cons, List.not_mem_nil, or_false] at hx
  rcases hx with rfl | rfl | rfl | rfl | rfl <;> exact MA.Sh.int 0 _
theorem sh_st (n : Nat) (f : Nat → Nu) : MA.Sh 2 (stD n f) := MA.Sh.tuple fun y hy => by
  obtain ⟨p, _, rfl⟩ := List.mem_map.mp hy
  exact sh_num _
theorem shp_of {d : D} {k : Nat} (h : MA.Sh k d) (hk : k ≤ 64) : shp d = true := by
  show (d.canLay0 && decide (d.depth ≤ 64)) = true
  rw [h.1, decide_eq_true (Nat.le_trans h.2 hk)]; rfl
theorem st_ne {n : Nat} {A B : Nat → Nu} (h : ∃ x, x < 2 ^ n ∧ A x ≠ B x) : eqD (stD n A) (stD n B) = some (.bool false) := by
  obtain ⟨x, hx, ne⟩ := h
  unfold eqD
  rw [if_pos ⟨shp_of (sh_st n A) (by decide), shp_of (sh_st n B) (by decide)⟩]
  have : PyData.eqv (stD n A) (stD n B) = false := by
    cases q : PyData.eqv (stD n A) (stD n B) with
    | false => rfl
    | true => exact absurd (eqvAll_map A B (List.range (2 ^ n)) q x (List.mem_range.mpr hx)) ne
  rw [this]
/-! ### turn_to -/
theorem tt_p {n : Nat} (hn : n ≤ 6) (F : Nat → Nu) (z1 : Sl) (e : Nat) : p1_turn_to [.fz (stD n F), z1, .fz (.int (e : Nat))] = some (.list ((List.range (2 ^ n)).map fun x => numD (MA.turnN e (F x)))) := by
  have sq : (2 ^ n : Nat) ≤ 64 := (Nat.pow_le_pow_right (by decide) hn : 2 ^ n ≤ 2 ^ 6)
  refine comp_map (h := fun x => numD (F x)) (k := fun x => numD (MA.turnN e (F x))) (xs := List.range (2 ^ n)) (by simp [stD]) (by rw [List.length_range]; lia) fun x _ => ?_
  have := turned_n hn (F x) e
  simp [capS, this]
theorem tt_x (X Y : D) (L : List D) (e : Int) (b : Bool) (p : p1_turn_to [.fz X, .fz Y, .fz (.int e)] = some (.list L)) (q : eqD (.tuple L) Y = some (.bool b)) : l1_turn_to [.fz X, .fz Y, .fz (.int e)] = some (if b = true then .rt (.int e) else .nx, [.fz X, .fz Y, .fz (.int e)]) := by
  cases b <;> simp [l1_turn_to, p, q]
theorem tt_y (X Y : D) (L : List D) (R : D) (δ : Dv) (rg : rng1D [.int 8] = some L) (lp : loop (gN 2) l1_turn_to L [.fz X, .fz Y, .un] = some (.rt R, δ)) : g_turn_to [X, Y] = some R := by
  simp [g_turn_to, runB, b_turn_to, startD, rg, lp]

open MA (sumI)
/-! ### how great the columns are -/
theorem sumI_ge {F : Nat → Int} : ∀ (N x : Nat), (∀ p, p < N → 0 ≤ F p) → x < N → F x ≤ sumI N F
  | 0, _, _, h => absurd h (Nat.not_lt_zero _)
  | N + 1, x, hn, h => by
    have nn : ∀ M, M ≤ N → 0 ≤ sumI M F := fun M => by
      induction M with
      | zero => intro _; exact Int.le_refl _
      | succ M ih => intro hM; have := ih (by lia); have := hn M (by lia); show 0 ≤ sumI M F + F M; lia
    show F x ≤ sumI N F + F N
    by_cases q : x = N
    · subst q; have := nn x (Nat.le_refl _); lia
    · have := sumI_ge N x (fun p h => hn p (by lia)) (by lia)
      have := hn N (by lia)
      lia
theorem sc_p : ∀ (k : Nat) (s : MA.S2), (MA.S2.sc k s).p = 2 ^ k * s.p := fun k s => by
  simp only [MA.S2.sc]
  exact Int.mul_comm _ _
noncomputable def unN (b : Nat) : Nat → Nu := fun x => (un b x, 0)
theorem unN_bd (b : Nat) : Bd 0 0 (unN b) := fun x => ⟨Nat.le_refl _, by
  show MA.Q4.Le (2 ^ 0) (un b x)
  unfold un
  split
  · exact ⟨by decide, by decide, by decide, by decide⟩
  · exact ⟨by decide, by decide, by decide, by decide⟩⟩
theorem un_norm {n b : Nat} (as : List Row) (hr : ∀ r ∈ as, r.ok n) (hb : b < 2 ^ n) (x : Nat) (hx : x < 2 ^ n) : (MA.nrm (ldnL n (un b) as x)).p ≤ 2 ^ swL as := by
  have sl := swL_le as
  obtain ⟨ra, _⟩ := Rl.all (M := as.length) (n := n) as 0 0 0 (unN b) (un b) (fun y => rfl) (unN_bd b) (by lia) (by lia)
  rw [Nat.zero_add] at ra
  have ns : sumI (2 ^ n) (fun p => (MA.nrm (MA.val as.length (doneL n (unN b) as p))).p) = sumI (2 ^ n) (fun p => (MA.nrm (MA.val as.length (unN b p))).p) := congrArg MA.S2.p (doneL_nsum (M := as.length) as hr (unN_bd b) (by lia))
  have rt : sumI (2 ^ n) (fun p => (MA.nrm (MA.val as.length (unN b p))).p) = 2 ^ as.length := by
    have e := sumI_pick (fun _ => (2 : Int) ^ as.length) b (2 ^ n)
    rw [if_pos hb] at e
    rw [← e]
    refine MA.sumI_congr _ fun p _ => ?_
    show (MA.nrm (MA.Q4.rtn as.length (un b p))).p = _
    rw [MA.nrm_rtn, sc_p]
    by_cases q : b = p
    · rw [if_pos q]; unfold un; rw [if_pos q.symm]; show 2 ^ as.length * (1 : Int) = _; rw [Int.mul_one]
    · rw [if_neg q]; unfold un; rw [if_neg (Ne.symm q)]; show 2 ^ as.length * (0 : Int) = _; rw [Int.mul_zero]
  have ge := sumI_ge (F := fun p => (MA.nrm (MA.val as.length (doneL n (unN b) as p))).p) (2 ^ n) x (fun p _ => (MA.nrm_nn _).1) hx
  rw [ns, rt] at ge
  rw [ra x, MA.nrm_rtn, sc_p] at ge
  have e : (2 : Int) ^ as.length = 2 ^ (as.length - swL as) * 2 ^ swL as := by rw [← Int.pow_add, show as.length - swL as + swL as = as.length by lia]
  rw [e] at ge
  exact Int.le_of_mul_le_mul_left ge (Int.pow_pos (by decide))
theorem sq_small {u : Int} {s : Nat} (h : u * u ≤ 2 ^ s) : -(2 * 2 ^ (s / 2)) < u ∧ u < 2 * 2 ^ (s / 2) := by
  have e : (2 : Int) ^ s < (2 * 2 ^ (s / 2)) * (2 * 2 ^ (s / 2)) := by
    have e1 : ((2 : Int) * 2 ^ (s / 2)) * (2 * 2 ^ (s / 2)) = 2 ^ (s / 2 + s / 2 + 2) := by
      rw [Int.pow_add, Int.pow_add]
      generalize (2 : Int) ^ (s / 2) = Z
      rw [show (2 : Int) ^ 2 = 4 from rfl, Int.mul_assoc 2 Z, Int.mul_left_comm Z 2 Z]
      lia
    rw [e1]
    have : (2 : Nat) ^ s < 2 ^ (s / 2 + s / 2 + 2) := Nat.pow_lt_pow_right (by decide) (by lia)
    exact_mod_cast this
  have zp : (0 : Int) < 2 * 2 ^ (s / 2) := Int.mul_pos (by decide) (Int.pow_pos (by decide))
  generalize (2 : Int) * 2 ^ (s / 2) = Z at *
  constructor
  · apply Int.lt_of_not_ge
    intro q
    have : Z * Z ≤ (-u) * (-u) := Int.mul_le_mul (by lia) (by lia) (by lia) (by lia)
    rw [Int.neg_mul_neg] at this
    lia
  · apply Int.lt_of_not_ge
    intro q
    have : Z * Z ≤ u * u := Int.mul_le_mul q q (by lia) (by lia)
    lia
theorem nrm_parts {u : MA.Q4} {s : Nat} (h : (MA.nrm u).p ≤ 2 ^ s) : u.a * u.a ≤ 2 ^ s ∧ u.b * u.b ≤ 2 ^ s ∧ u.c * u.c ≤ 2 ^ s ∧ u.d * u.d ≤ 2 ^ s := by
  have h : u.a * u.a + u.b * u.b + u.c * u.c + u.d * u.d ≤ 2 ^ s := h
  have nn : ∀ z : Int, 0 ≤ z * z := fun z => by
    rcases Int.le_total 0 z with q | q
    · exact Int.mul_nonneg q q
    · exact Int.mul_nonneg_of_nonpos_of_nonpos q q
  have := nn u.a; have := nn u.b; have := nn u.c; have := nn u.d
  refine ⟨?_, ?_, ?_, ?_⟩ <;> lia

open MA (sumI)
theorem dig_col {s N x : Nat} (hx : x < N) (col : Nat → Int) (t : Int) (hc : ∀ b, b < N → col b * col b ≤ 2 ^ s) (ht : t * t ≤ 2 ^ s) (h : sumI N (fun b => ((2 ^ ((s / 2 + 2) * b) : Nat) : Int) * col b) = ((2 ^ ((s / 2 + 2) * x) : Nat) : Int) * t) : ∀ b, b < N → col b = if x = b then t else 0 := by
  have cB : ∀ b : Nat, ((2 ^ ((s / 2 + 2) * b) : Nat) : Int) = ((2 : Int) ^ (s / 2 + 2)) ^ b := fun b => by rw [Nat.pow_mul]; norm_cast
  have h : sumI N (fun b => ((2 : Int) ^ (s / 2 + 2)) ^ b * col b) = ((2 : Int) ^ (s / 2 + 2)) ^ x * t := by
    rw [← cB x, ← h]
    exact MA.sumI_congr N fun b _ => by rw [cB b]
  have Be : (2 : Int) ^ (s / 2 + 2) = 4 * 2 ^ (s / 2) := by rw [Int.pow_add]; exact Int.mul_comm _ _
  have Zp : (0 : Int) < 2 ^ (s / 2) := Int.pow_pos (by decide)
  have t2 := sq_small ht
  have bd : ∀ b, b < N → -((2 : Int) ^ (s / 2 + 2)) < col b + -(if x = b then t else 0) ∧ col b + -(if x = b then t else 0) < (2 : Int) ^ (s / 2 + 2) := fun b hb => by
    have c2 := sq_small (hc b hb)
    rw [Be]
    generalize (2 : Int) ^ (s / 2) = Z at *
    split <;> lia
  have z : sumI N (fun b => ((2 : Int) ^ (s / 2 + 2)) ^ b * (col b + -(if x = b then t else 0))) = 0 := by
    rw [sumI_am (fun b => ((2 : Int) ^ (s / 2 + 2)) ^ b) col (fun b => -(if x = b then t else 0)) N, sumI_nm (fun b => ((2 : Int) ^ (s / 2 + 2)) ^ b) (fun b => if x = b then t else 0) N, h]
    have e := sumI_pick (fun b => ((2 : Int) ^ (s / 2 + 2)) ^ b * t) x N
    rw [if_pos hx] at e
    have e2 : sumI N (fun b => ((2 : Int) ^ (s / 2 + 2)) ^ b * (if x = b then t else 0)) = ((2 : Int) ^ (s / 2 + 2)) ^ x * t := by
      rw [← e]
      exact MA.sumI_congr N fun b _ => by
        by_cases q : x = b
        · rw [if_pos q, if_pos q]
        · rw [if_neg q, if_neg q, Int.mul_zero]
    rw [e2]
    lia
  intro b hb
  have := dig_zero (B := (2 : Int) ^ (s / 2 + 2)) (by rw [Be]; lia) (fun b => col b + -(if x = b then t else 0)) N bd z b hb
  have this : col b + -(if x = b then t else 0) = 0 := this
  lia
/-! ### a number times a whole quadruple -/
noncomputable def sm (c : Int) (u : MA.Q4) : MA.Q4 := ⟨c * u.a, c * u.b, c * u.c, c * u.d⟩
theorem sm_tn (c : Int) (u : MA.Q4) : MA.Q4.tn (sm c u) = sm c (MA.Q4.tn u) := by
  apply MA.Q4.ext' <;> simp only [MA.Q4.tn, sm, Int.mul_neg]
theorem sm_tnn (c : Int) (u : MA.Q4) : ∀ e, MA.tnn e (sm c u) = sm c (MA.tnn e u)
  | 0 => rfl
  | e + 1 => by show MA.Q4.tn (MA.tnn e (sm c u)) = sm c (MA.Q4.tn (MA.tnn e u)); rw [sm_tnn c u e, sm_tn]
theorem sm_rt (c : Int) (u : MA.Q4) : MA.Q4.rt (sm c u) = sm c (MA.Q4.rt u) := by
  apply MA.Q4.ext' <;> simp only [MA.Q4.rt, sm, Int.mul_add, Int.mul_sub]
theorem sm_rtn (c : Int) : ∀ (k : Nat) (u : MA.Q4), MA.Q4.rtn k (sm c u) = sm c (MA.Q4.rtn k u)
  | 0, u => rfl
  | k + 1, u => by rw [MA.Q4.rtn_succ, MA.Q4.rtn_succ, sm_rtn c k u, sm_rt]
noncomputable def one4 : MA.Q4 := ⟨1, 0, 0, 0⟩
noncomputable def cw (a : Nat) : Nat → Int := fun b => ((2 ^ (a * b) : Nat) : Int)
noncomputable def begA (a : Nat) : Nat → Nu := fun b => (⟨((2 ^ (a * b) : Nat) : Int), 0, 0, 0⟩, 0)
theorem begA_least (a x : Nat) : MA.LeastN (begA a x) := ⟨by simp [begA], fun z => by simp [begA] at z⟩
/-- the same state, nought beyond the places -/
noncomputable def begC (n a : Nat) : Nat → Nu := fun x => if x < 2 ^ n then begA a x else (⟨0, 0, 0, 0⟩, 0)
theorem begC_least (n a x : Nat) : MA.LeastN (begC n a x) := by
  unfold begC
  split
  · exact begA_least a x
  · exact ⟨by simp, fun z => by simp at z⟩
theorem begC_zero (n a x : Nat) : (begC n a x).2 = 0 := by
  unfold begC
  split <;> rfl
theorem begC_in {n a x : Nat} (hx : x < 2 ^ n) : (begC n a x).1 = sm (cw a x) one4 := by
  unfold begC
  rw [if_pos hx]
  apply MA.Q4.ext' <;> simp [begA, sm, cw, one4]
theorem begC_ls (n a : Nat) : (fun x => (begC n a x).1) = fun y => LSq (cw a) (2 ^ n) fun b => un b y := funext fun y => by
  have e : LSq (cw a) (2 ^ n) (fun b => un b y) = if y < 2 ^ n then sm (cw a y) one4 else ⟨0, 0, 0, 0⟩ := LSq_un (cw a) (2 ^ n) y one4
  rw [e]
  by_cases h : y < 2 ^ n
  · rw [if_pos h, begC_in h]
  · rw [if_neg h]; unfold begC; rw [if_neg h]
theorem begC_bd {n a : Nat} (hn : n ≤ 3) (ha : a ≤ 200) : Bd 0 1600 (begC n a) := fun x => by
  have sq : (2 ^ n : Nat) ≤ 8 := (Nat.pow_le_pow_right (by decide) hn : 2 ^ n ≤ 2 ^ 3)
  unfold begC
  split
  · rename_i h
    refine ⟨Nat.le_refl _, ?_, Nat.zero_le _, Nat.zero_le _, Nat.zero_le _⟩
    show ((2 ^ (a * x) : Nat) : Int).natAbs ≤ _
    rw [Int.natAbs_natCast]
    exact Nat.pow_le_pow_right (by decide) (by have : a * x ≤ 200 * 8 := Nat.mul_le_mul ha (by lia); lia)
  · exact ⟨Nat.le_refl _, Nat.zero_le _, Nat.zero_le _, Nat.zero_le _, Nat.zero_le _⟩
/-- the rows do nothing but a turn -/
noncomputable def Sc (n : Nat) (as : List Row) (e : Nat) : Prop := ∀ b, b < 2 ^ n → ∀ x, x < 2 ^ n → ldnL n (un b) as x = if x = b then MA.Q4.rtn (swL as) (MA.tnn e one4) else ⟨0, 0, 0, 0⟩
theorem val_done {n a M : Nat} (hn : n ≤ 3) (ha : a ≤ 200) (as : List Row) (hM : as.length ≤ M) (x : Nat) : MA.val M (doneL n (begC n a) as x) = MA.Q4.rtn (M - swL as) (ldnL n (fun y => (begC n a y).1) as x) ∧ (doneL n (begC n a) as x).2 ≤ as.length := by
  have r0 : Rl M 0 (begC n a) (fun y => (begC n a y).1) := fun y => by show MA.Q4.rtn (M - (begC n a y).2) (begC n a y).1 = _; rw [begC_zero]
  obtain ⟨ra, p, bd⟩ := Rl.all (M := M) (n := n) as 0 0 1600 _ _ r0 (begC_bd hn ha) (by lia) (by lia)
  rw [Nat.zero_add] at ra bd
  exact ⟨ra x, (bd x).1⟩
theorem sc_to {n e a : Nat} (hn : n ≤ 3) (ha : a ≤ 200) {as : List Row} (h : Sc n as e) (x : Nat) (hx : x < 2 ^ n) : doneL n (begC n a) as x = MA.turnN e (begC n a x) := by
  obtain ⟨v, k⟩ := val_done (M := as.length) hn ha as (Nat.le_refl _) x
  have sl := swL_le as
  refine MA.val_inj (M := as.length) (doneL_least as (begC_least n a) x) (MA.turn_least e (begC_least n a x)) k (by show (begC n a x).2 ≤ _; rw [begC_zero]; exact Nat.zero_le _) ?_
  rw [v, MA.val_turn, MA.tnn_mod, begC_ls, LSq_ldnL]
  have e1 : LSq (cw a) (2 ^ n) (fun b => ldnL n (un b) as x) = sm (cw a x) (MA.Q4.rtn (swL as) (MA.tnn e one4)) := by
    have e0 := LSq_un (cw a) (2 ^ n) x (MA.Q4.rtn (swL as) (MA.tnn e one4))
    rw [if_pos hx] at e0
    refine Eq.trans ?_ e0
    have c : ∀ g : MA.Q4 → Int, sumI (2 ^ n) (fun b => cw a b * g (ldnL n (un b) as x)) = sumI (2 ^ n) (fun b => cw a b * g (if x = b then MA.Q4.rtn (swL as) (MA.tnn e one4) else ⟨0, 0, 0, 0⟩)) := fun g => MA.sumI_congr _ fun b hb => by rw [h b hb x hx]
    apply MA.Q4.ext' <;> exact c _
  rw [e1]
  show _ = MA.tnn e (MA.Q4.rtn (as.length - (begC n a x).2) (begC n a x).1)
  rw [begC_zero, begC_in hx, Nat.sub_zero, sm_rtn, sm_rtn, sm_tnn, ← MA.Q4.rtn_add, MA.tnn_rtn, show as.length - swL as + swL as = as.length by lia]
theorem sc_of {n e : Nat} (hn : n ≤ 3) {as : List Row} (hr : ∀ r ∈ as, r.ok n) (he : e < 8) (hs : swL as / 2 + 2 ≤ 200) (h : ∀ x, x < 2 ^ n → MA.turnN e (doneL n (begC n (swL as / 2 + 2)) as x) = begC n (swL as / 2 + 2) x) : Sc n as (8 - e) := by
  have sl := swL_le as
  have eq : ∀ x, x < 2 ^ n → LSq (cw (swL as / 2 + 2)) (2 ^ n) (fun b => ldnL n (un b) as x) = sm (cw (swL as / 2 + 2) x) (MA.Q4.rtn (swL as) (MA.tnn (8 - e) one4)) := fun x hx => by
    obtain ⟨v, k⟩ := val_done (M := as.length) hn hs as (Nat.le_refl _) x
    have h1 := congrArg (MA.val as.length) (h x hx)
    rw [MA.val_turn, MA.tnn_mod, v] at h1
    have h2 : MA.val as.length (begC n (swL as / 2 + 2) x) = MA.Q4.rtn as.length (sm (cw (swL as / 2 + 2) x) one4) := by
      show MA.Q4.rtn (as.length - (begC n (swL as / 2 + 2) x).2) (begC n (swL as / 2 + 2) x).1 = _
      rw [begC_zero, begC_in hx, Nat.sub_zero]
    rw [h2] at h1
    have h3 := congrArg (MA.tnn (8 - e)) h1
    rw [← MA.tnn_add, show 8 - e + e = 8 * 1 by lia, tnn_8, MA.tnn_rtn, sm_tnn, show as.length = as.length - swL as + swL as by lia, MA.Q4.rtn_add, show as.length - swL as + swL as - swL as = as.length - swL as by lia, sm_rtn] at h3
    have h4 := MA.Q4.rtn_inj h3
    rw [begC_ls, LSq_ldnL] at h4
    exact h4
  intro b hb x hx
  have nt : (MA.nrm (MA.Q4.rtn (swL as) (MA.tnn (8 - e) one4))).p ≤ 2 ^ swL as := by
    rw [MA.nrm_rtn, sc_p, MA.nrm_tnn]
    show 2 ^ swL as * (1 : Int) ≤ _
    rw [Int.mul_one]
    exact Int.le_refl _
  obtain ⟨t1, t2, t3, t4⟩ := nrm_parts nt
  have cs := fun b hb => nrm_parts (un_norm (n := n) as hr (b := b) hb x hx)
  have q := eq x hx
  have d1 := dig_col hx (fun b => (ldnL n (un b) as x).a) _ (fun b hb => (cs b hb).1) t1 (congrArg MA.Q4.a q) b hb
  have d2 := dig_col hx (fun b => (ldnL n (un b) as x).b) _ (fun b hb => (cs b hb).2.1) t2 (congrArg MA.Q4.b q) b hb
  have d3 := dig_col hx (fun b => (ldnL n (un b) as x).c) _ (fun b hb => (cs b hb).2.2.1) t3 (congrArg MA.Q4.c q) b hb
  have d4 := dig_col hx (fun b => (ldnL n (un b) as x).d) _ (fun b hb => (cs b hb).2.2.2) t4 (congrArg MA.Q4.d q) b hb
  by_cases z : x = b
  · rw [if_pos z] at d1 d2 d3 d4 ⊢
    exact MA.Q4.ext' d1 d2 d3 d4
  · rw [if_neg z] at d1 d2 d3 d4 ⊢
    exact MA.Q4.ext' d1 d2 d3 d4

/-! ### turn_to, both ways -/
theorem st_dec {n : Nat} (A B : Nat → Nu) (b : Bool) (h : b = true ↔ ∀ x, x < 2 ^ n → A x = B x) : eqD (stD n A) (stD n B) = some (.bool b) := by
  cases b with
  | true =>
    have e : stD n A = stD n B := by
      unfold stD
      congr 1
      exact List.map_congr_left fun x hx => by rw [h.mp rfl x (List.mem_range.mp hx)]
    rw [e]
    exact eq_self (sh_st n _) (by decide)
  | false =>
    refine st_ne ?_
    apply Classical.byContradiction
    intro no
    have : false = true := h.mpr fun x hx => Classical.byContradiction fun q => no ⟨x, hx, q⟩
    cases this
theorem tt_lq {X Y : D} (ok : Nat → Bool) (st : ∀ e : Nat, e < 8 → l1_turn_to [.fz X, .fz Y, .fz (.int (e : Nat))] = some (if ok e = true then .rt (.int (e : Nat)) else .nx, [.fz X, .fz Y, .fz (.int (e : Nat))])) : ∀ (m i : Nat) (z : Sl), i + m ≤ 8 → (∃ y, loop (gN 2) l1_turn_to ((List.range' i m).map fun k : Nat => PyData.int (0 + (k : Int))) [.fz X, .fz Y, z] = some (.nx, [.fz X, .fz Y, y]) ∧ ∀ e, i ≤ e → e < i + m → ok e = false) ∨ (∃ (e : Nat) (δ : Dv), loop (gN 2) l1_turn_to ((List.range' i m).map fun k : Nat => PyData.int (0 + (k : Int))) [.fz X, .fz Y, z] = some (.rt (.int (e : Nat)), δ) ∧ e < 8 ∧ ok e = true)
  | 0, i, z, _ => .inl ⟨z, rfl, fun e h1 h2 => by lia⟩
  | m + 1, i, z, h => by
    have s := st i (by lia)
    rw [List.range'_succ, List.map_cons, Int.zero_add]
    cases q : ok i with
    | true =>
      rw [if_pos q] at s
      exact .inr ⟨i, _, loop_ret (δ1 := [.fz X, .fz Y, .fz (.int (i : Nat))]) (by simp) s, by lia, q⟩
    | false =>
      rw [if_neg (by rw [q]; decide)] at s
      rw [loop_step (δ1 := [.fz X, .fz Y, .fz (.int (i : Nat))]) (by simp) s]
      rcases tt_lq ok st m (i + 1) (.fz (.int (i : Nat))) (by lia) with ⟨y, e, a⟩ | r
      · refine .inl ⟨y, e, fun e h1 h2 => ?_⟩
        by_cases w : e = i
        · subst w; exact q
        · exact a e (by lia) (by lia)
      · exact .inr r
theorem tt_n (X Y : D) (L : List D) (y : Sl) (rg : rng1D [.int 8] = some L) (lp : loop (gN 2) l1_turn_to L [.fz X, .fz Y, .un] = some (.nx, [.fz X, .fz Y, y])) : g_turn_to [X, Y] = some .none := by
  simp [g_turn_to, runB, b_turn_to, startD, rg, lp]
/-- is there a turn from the one to the other? -/
noncomputable def Tn (n : Nat) (F G : Nat → Nu) : Prop := ∃ e, e < 8 ∧ ∀ x, x < 2 ^ n → MA.turnN e (F x) = G x
theorem turnto_q {n : Nat} (hn : n ≤ 6) (F G : Nat → Nu) (b : Bool) (hb : b = true ↔ Tn n F G) : ∃ R, g_turn_to [stD n F, stD n G] = some R ∧ isntD R .none = some (.bool b) := by
  have st : ∀ a : Nat, a < 8 → l1_turn_to [.fz (stD n F), .fz (stD n G), .fz (.int (a : Nat))] = Option.some (if @decide (∀ x, x < 2 ^ n → MA.turnN a (F x) = G x) (Classical.propDecidable _) = true then .rt (.int (a : Nat)) else .nx, [.fz (stD n F), .fz (stD n G), .fz (.int (a : Nat))]) := fun a ha =>
    tt_x _ _ _ _ _ (tt_p hn F _ a) (st_dec (fun x => MA.turnN a (F x)) G _ (@decide_eq_true_iff _ (Classical.propDecidable _)))
  rcases tt_lq (fun a => @decide (∀ x, x < 2 ^ n → MA.turnN a (F x) = G x) (Classical.propDecidable _)) st 8 0 .un (by lia) with ⟨y, lp, no⟩ | ⟨e, δ, lp, he, ok⟩
  · refine ⟨_, tt_n _ _ _ y rfl lp, ?_⟩
    have : b = false := by
      cases q : b with
      | false => rfl
      | true =>
        obtain ⟨e, he, h⟩ := hb.mp q
        have := no e (Nat.zero_le _) (by lia)
        exact absurd h (@of_decide_eq_false _ (Classical.propDecidable _) this)
    rw [this]; rfl
  · refine ⟨_, tt_y _ _ _ _ _ rfl lp, ?_⟩
    rw [hb.mpr ⟨e, he, @of_decide_eq_true _ (Classical.propDecidable _) ok⟩]; rfl
/-! ### the columns of both, at once -/
theorem alldB_loop (rows : Sl) {n : Nat} (hn : n ≤ 6) : ∀ (rs : List Row), (∀ r ∈ rs, r.ok n) → ∀ (k p : Nat) (f : Nat → Nu), Bd k p f → k + rs.length ≤ 249 → p + 250 * rs.length ≤ 80000 → ∀ z, ∃ y, loop (gN 2) l1_all_done (rs.map rowD) [.fz (stD n f), rows, z] = some (.nx, [.fz (stD n (doneL n f rs)), rows, y])
  | [], _, _, _, _, _, _, _, z => ⟨z, rfl⟩
  | r :: rs, hr, k, p, f, hb, hk, hp, z => by
    simp only [List.length_cons] at hk hp
    have h1 := done_eq hn f (fun x => by have := (hb x).1; lia) (fun x => (hb x).2.mono (Nat.pow_le_pow_right (by decide) (by lia))) r (hr r List.mem_cons_self)
    obtain ⟨y, e⟩ := alldB_loop rows hn rs (fun q hq => hr q (List.mem_cons_of_mem _ hq)) (k + 1) (p + k + 1) (doneAt n f r) (hb.done n r) (by lia) (by lia) (.fz (rowD r))
    exact ⟨y, by rw [List.map_cons, loop_step (by rfl) (alld_x rows _ _ _ h1)]; exact e⟩
theorem alldB_eq {n : Nat} (hn : n ≤ 6) (rs : List Row) (hr : ∀ r ∈ rs, r.ok n) {k p : Nat} {f : Nat → Nu} (hb : Bd k p f) (hk : k + rs.length ≤ 249) (hp : p + 250 * rs.length ≤ 80000) : g_all_done [stD n f, .tuple (rs.map rowD)] = some (stD n (doneL n f rs)) := by
  obtain ⟨y, e⟩ := alldB_loop (.fz (.tuple (rs.map rowD))) hn rs hr k p f hb hk hp .un
  exact alld_y _ _ _ _ y rfl e
theorem bdB {n : Nat} : ∀ (rs : List Row) {k p : Nat} {f : Nat → Nu}, Bd k p f → k + rs.length ≤ 249 → Bd (k + rs.length) (p + 250 * rs.length) (doneL n f rs)
  | [], _, _, _, hb, _ => hb
  | r :: rs, k, p, f, hb, hk => by
    simp only [List.length_cons] at hk ⊢
    have h := bdB rs (n := n) (hb.done n r) (by lia)
    exact fun x => ⟨by have := (h x).1; show (doneL n (doneAt n f r) rs x).2 ≤ _; lia, (h x).2.mono (Nat.pow_le_pow_right (by decide) (by lia))⟩
theorem shlN (w : Nat) (h : w ≤ 100000) : shlD (.int 1) (.int (w : Int)) = some (.int ((2 ^ w : Nat) : Int)) := by
  have hb : Builtin.Int.intBits 1 = 1 := by decide +kernel
  have e := shlD_int (i := 1) (j := (w : Int)) (by lia) (by lia)
  rw [e]
  simp
theorem ca_i (C A : D) (z2 : Sl) (n M : Int) (R : List D) (c0 : ixD C (.int 0) = some (.int n)) (sh : shlD (.int 1) (.int n) = some (.int M)) (rg : rng1D [.int M] = some R) : (oL (oCons (o2 (oC (.int 1)) (o2 (oV 0) (oC (.int 0)) ixD) shlD) (oNil)) rng1D) [.fz C, .fz A, z2] = some R := by
  simp [c0, sh, rg]
theorem ca_e (a b : Nat) (ha : a ≤ 200) (hb : b ≤ 100) : (VL.os (oCons (o2 (oC (.int 1)) (o2 (oV 1) (oV 0) mulI) shlD) (oCons (oC (.int 0)) (oCons (oC (.int 0)) (oCons (oC (.int 0)) (oCons (oC (.int 0)) (oNil)))))) tupD) [.fz (.int (b : Nat)), .fz (.int (a : Nat))] = some (numD (begA a b)) := by
  have mk : IntMulOk (a : Int) (b : Int) := .of_left (Nat.le_trans (MA.bits_le (m := 8) (by lia)) (by decide))
  have m : mulI (.int (a : Nat)) (.int (b : Nat)) = some (.int ((a * b : Nat) : Int)) := by rw [mulI_int mk]; norm_cast
  have le : a * b ≤ 200 * 100 := Nat.mul_le_mul ha hb
  have s := shlN (a * b) (by lia)
  simp only [VL.os, oCons, oNil, o2, oV, oC, slV, List.getElem?_cons_zero, List.getElem?_cons_succ, Option.bind_some, m, s]
  rfl
theorem ca_p {n : Nat} (hn : n ≤ 3) (C : D) (a : Nat) (ha : a ≤ 200) (z2 : Sl) (c0 : ixD C (.int 0) = some (.int (n : Nat))) : p1_columns_apart [.fz C, .fz (.int (a : Nat)), z2] = some (.list ((List.range (2 ^ n)).map fun b => numD (begA a b))) := by
  have sq : (2 ^ n : Nat) ≤ 8 := (Nat.pow_le_pow_right (by decide) hn : 2 ^ n ≤ 2 ^ 3)
  exact comp_r0 (N := 2 ^ n) (y := fun b => numD (begA a b)) (ca_i C _ z2 n _ _ c0 (shl1 n (by lia)) (rng_pow n (by lia))) (by lia) fun b hb => ca_e a b ha (by lia)
theorem ca_x (C A R Y : D) (L : List D) (c1 : ixD C (.int 1) = some R) (p : ∀ z2, p1_columns_apart [.fz C, .fz A, z2] = some (.list L)) (h : g_all_done [.tuple L, R] = some Y) : g_columns_apart [C, A] = some Y := by
  simp [g_columns_apart, runB, b_columns_apart, startD, c1, p, h]
theorem st_begC (n a : Nat) : stD n (begC n a) = .tuple ((List.range (2 ^ n)).map fun b => numD (begA a b)) := by
  unfold stD
  congr 1
  exact List.map_congr_left fun b hb => by unfold begC; rw [if_pos (List.mem_range.mp hb)]
noncomputable def cpD (n : Nat) (rs : List Row) : D := .tuple [.int (n : Nat), .tuple (rs.map rowD)]
theorem cols_eq {n : Nat} (hn : n ≤ 3) (rs : List Row) (hr : ∀ r ∈ rs, r.ok n) (hl : rs.length ≤ 240) (a : Nat) (ha : a ≤ 200) : g_columns_apart [cpD n rs, .int (a : Nat)] = some (stD n (doneL n (begC n a) rs)) := by
  refine ca_x _ _ _ _ _ (at1 _ _ _) (fun z2 => ca_p hn _ a ha z2 (at0 _ _)) ?_
  rw [← st_begC]
  exact alldB_eq (by lia) rs hr (begC_bd hn ha) (by lia) (by lia)

/-! ### plain circuits -/
theorem row_word (r : Row) : ∃ s : Str, ixD (rowD r) (.int 0) = some (.str s) ∧ eqD (.str s) (.str "swing") = some (.bool (isSw r)) ∧ inD false (.str s) (.tuple [.str "swing", .str "turn", .str "flip", .str "tie", .str "sign", .str "cross"]) = some (.bool true) := by
  cases r <;> exact ⟨_, at0 _ _, by simp [isSw], by simp⟩
theorem plain_eq (rs : List Row) (hl : rs.length ≤ 100000) : g_all_plain [.tuple (rs.map rowD)] = some (.bool true) := by
  have e : p1_all_plain [.fz (.tuple (rs.map rowD))] = some (.list (rs.map fun _ => .bool true)) := comp_map (k := fun _ => .bool true) (h := rowD) (by simp) (by lia) fun r _ => by
    obtain ⟨s, h0, _, h3⟩ := row_word r
    simp [h0, h3]
  have a := allD_map (fun _ : Row => true) rs
  have t : (rs.all fun _ => true) = true := List.all_eq_true.mpr fun _ _ => rfl
  simp [g_all_plain, runB, b_all_plain, startD, e, a]
theorem isplain_eq (n : Nat) (rs : List Row) (hl : rs.length ≤ 100000) : g_is_plain [cpD n rs] = some (.bool true) := by
  have h := plain_eq rs hl
  have c : ixD (cpD n rs) (.int 1) = some (.tuple (rs.map rowD)) := at1 _ _ _
  simp [g_is_plain, runB, b_is_plain, startD, c, h]
theorem ra_x (C1 C2 : D) (n : Int) (p1 : g_is_plain [C1] = some (.bool true)) (p2 : g_is_plain [C2] = some (.bool true)) (c1 : ixD C1 (.int 0) = some (.int n)) (c2 : ixD C2 (.int 0) = some (.int n)) : g_refuse_apart [C1, C2] = some .none := by
  have ne : neD (.int n) (.int n) = some (.bool false) := by
    have : neD (.int n) (.int n) = some (.bool (!(n == n))) := rfl
    rw [this, beq_self_eq_true]; rfl
  simp [g_refuse_apart, runB, b_refuse_apart, startD, p1, p2, c1, c2, ne]
theorem sws_eq (rs : List Row) (hl : rs.length ≤ 1000) : p1_turn_apart [.fz (.tuple (rs.map rowD))] = some (.list ((rs.filter isSw).map rowD)) :=
  compI_map (h := rowD) (b := isSw) (by simp) (by lia) (fun r _ => by
    obtain ⟨s, h0, h1, _⟩ := row_word r
    simp [capS, h0, h1]) fun r _ _ => by simp
theorem ta_p (C1 C2 R1 R2 : D) (L1 L2 : List D) (z2 z3 : Sl) (c1 : ixD C1 (.int 1) = some R1) (c2 : ixD C2 (.int 1) = some R2) (p1 : p1_turn_apart [.fz R1] = some (.list L1)) (p2 : p1_turn_apart [.fz R2] = some (.list L2)) : p2_turn_apart [.fz C1, .fz C2, z2, z3] = some (.list [.int L1.length, .int L2.length]) := by
  have := comp_map (fi := oI (VL.os (oCons (o2 (oV 0) (oC (.int 1)) ixD) (oCons (o2 (oV 1) (oC (.int 1)) ixD) (oNil))) tupD) itsD) (caps := []) (fe := VL.os (oCons (p1_turn_apart) (oNil)) lenD) (δ := [.fz C1, .fz C2, z2, z3]) (h := fun k : Bool => if k then R2 else R1) (k := fun k : Bool => if k then PyData.int L2.length else .int L1.length) (xs := [false, true]) (by simp [c1, c2]) (by simp) (fun x _ => by
    cases x
    · show (VL.os (oCons (p1_turn_apart) (oNil)) lenD) [.fz R1] = _
      simp [p1]
    · show (VL.os (oCons (p1_turn_apart) (oNil)) lenD) [.fz R2] = _
      simp [p2])
  exact this
theorem ta_x (C1 C2 K1 K2 R : D) (a b s : Int) (p : ∀ z2 z3, p2_turn_apart [.fz C1, .fz C2, z2, z3] = some (.list [.int a, .int b])) (hs : (if b > a then b else a) = s) (k1 : g_columns_apart [C1, .int (s / 2 + 2)] = some K1) (k2 : g_columns_apart [C2, .int (s / 2 + 2)] = some K2) (t : g_turn_to [K1, K2] = some R) : g_turn_apart [C1, C2] = some R := by
  have m : maxLD [.list [.int a, .int b]] = some (.int s) := by rw [← hs]; rfl
  simp [g_turn_apart, runB, b_turn_apart, startD, p, m, k1, k2, t]

/-! ### rows done again and again -/
noncomputable def repR (rs : List Row) (m : Nat) : List Row := (List.replicate m rs).flatten
theorem repR_succ (rs : List Row) (m : Nat) : repR rs (m + 1) = repR rs m ++ rs := by
  unfold repR
  rw [List.replicate_succ', List.flatten_append]
  simp
theorem repR_len (rs : List Row) : ∀ m, (repR rs m).length = m * rs.length
  | 0 => by simp [repR]
  | m + 1 => by rw [repR_succ, List.length_append, repR_len rs m, Nat.succ_mul]
theorem repR_ok {n : Nat} {rs : List Row} (hr : ∀ r ∈ rs, r.ok n) : ∀ m, ∀ r ∈ repR rs m, r.ok n
  | 0, r, h => by simp [repR] at h
  | m + 1, r, h => by
    rw [repR_succ, List.mem_append] at h
    rcases h with h | h
    · exact repR_ok hr m r h
    · exact hr r h
theorem doneL_app {n : Nat} : ∀ (as bs : List Row) (f : Nat → Nu), doneL n f (as ++ bs) = doneL n (doneL n f as) bs
  | [], _, _ => rfl
  | a :: as, bs, f => doneL_app as bs (doneAt n f a)
theorem swL_rep (rs : List Row) : ∀ m, swL (repR rs m) = m * swL rs
  | 0 => by rw [Nat.zero_mul]; rfl
  | m + 1 => by rw [repR_succ, swL_app, swL_rep rs m, Nat.succ_mul]
theorem map_rep (rs : List Row) (m : Nat) : (List.replicate m (rs.map rowD)).flatten = (repR rs m).map rowD := by
  unfold repR
  rw [List.map_flatten, List.map_replicate]
theorem swf_len : ∀ rs : List Row, (rs.filter isSw).length = swL rs
  | [] => rfl
  | r :: rs => by
    have ih := swf_len rs
    show _ = swn r + swL rs
    rw [List.filter_cons]
    cases r <;> simp [isSw, swn, ih] <;> lia
/-! ### the first that holds -/
noncomputable def fstO (ok : Nat → Bool) : Nat → Nat → Option Nat
  | _, 0 => none
  | i, m + 1 => if ok i = true then some i else fstO ok (i + 1) m
noncomputable def outF : Option Nat → Fl
  | some e => .rt (.int (e : Nat))
  | none => .nx
noncomputable def outD : Option Nat → D
  | some e => .int (e : Nat)
  | none => .none
theorem fst_loop {g : D → Dv → Option Dv} {b : Sf} (ok : Nat → Bool) (I : Nat → Dv → Prop) (M : Nat) (st : ∀ i, i < M → ∀ δ, I i δ → ∃ δ1 δ2, g (.int (1 + (i : Nat) : Int)) δ = some δ1 ∧ b δ1 = some (if ok (i + 1) = true then .rt (.int ((i + 1 : Nat) : Int)) else .nx, δ2) ∧ I (i + 1) δ2) : ∀ (m i : Nat) (δ : Dv), i + m ≤ M → I i δ → ∃ δ', loop g b ((List.range' i m).map fun k : Nat => PyData.int (1 + (k : Int))) δ = some (outF (fstO ok (i + 1) m), δ')
  | 0, i, δ, _, _ => ⟨δ, rfl⟩
  | m + 1, i, δ, h, hI => by
    obtain ⟨δ1, δ2, e1, e2, e3⟩ := st i (by lia) δ hI
    rw [List.range'_succ, List.map_cons]
    cases q : ok (i + 1) with
    | true =>
      rw [if_pos q] at e2
      refine ⟨δ2, ?_⟩
      rw [loop_ret e1 e2]
      show _ = some (outF (if ok (i + 1) = true then _ else _), δ2)
      rw [if_pos q]
      rfl
    | false =>
      rw [if_neg (by rw [q]; decide)] at e2
      obtain ⟨δ', e⟩ := fst_loop ok I M st m (i + 1) δ2 (by lia) e3
      refine ⟨δ', ?_⟩
      rw [loop_step e1 e2, e]
      show _ = some (outF (if ok (i + 1) = true then _ else _), δ')
      rw [if_neg (by rw [q]; decide)]
theorem rng2D_i {i j : Int} (h : i < 4611686018427387904) (h2 : -4611686018427387904 ≤ i) (h3 : j < 4611686018427387904) (h4 : -4611686018427387904 ≤ j) : rng2D [.int i, .int j] = some (rngL i (j - i).toNat) := if_pos ⟨⟨h, h2⟩, h3, h4⟩
theorem rng2_m (m : Nat) (h : m ≤ 100000) : rng2D [.int 1, .int ((m : Int) + 1)] = some ((List.range' 0 m).map fun k : Nat => PyData.int (1 + (k : Int))) := by
  rw [rng2D_i (by decide) (by decide) (by lia) (by lia)]
  unfold rngL
  rw [show ((m : Int) + 1 - 1).toNat = m by lia, List.range_eq_range']
/-! ### do the rows do nothing but a turn? -/
theorem turn_turn (a b : Nat) (u : Nu) : MA.turnN a (MA.turnN b u) = MA.turnN (a + b) u := by
  unfold MA.turnN
  simp only [MA.tnn_mod, MA.tnn_add]
theorem turn_8 (k : Nat) (u : Nu) : MA.turnN (8 * k) u = u := by
  unfold MA.turnN
  simp only [MA.tnn_mod, tnn_8]
noncomputable def ScB (n : Nat) (rs : List Row) (m : Nat) : Bool := @decide (∃ e, Sc n (repR rs m) e) (Classical.propDecidable _)
theorem scB_iff {n : Nat} {rs : List Row} {m : Nat} : ScB n rs m = true ↔ ∃ e, Sc n (repR rs m) e := @decide_eq_true_iff _ (Classical.propDecidable _)
theorem sc_tn {n a : Nat} (hn : n ≤ 3) (ha : a ≤ 200) {as : List Row} (h : ∃ e, Sc n as e) : Tn n (doneL n (begC n a) as) (begC n a) := by
  obtain ⟨e, h⟩ := h
  refine ⟨(8 - e % 8) % 8, Nat.mod_lt _ (by decide), fun x hx => ?_⟩
  rw [sc_to hn ha h x hx, turn_turn]
  have : ∃ k, (8 - e % 8) % 8 + e = 8 * k := ⟨((8 - e % 8) % 8 + e) / 8, by lia⟩
  obtain ⟨k, hk⟩ := this
  rw [hk, turn_8]
theorem sc_nt {n a : Nat} (hn : n ≤ 3) (ha : a ≤ 200) {as : List Row} (h : ∃ e, Sc n as e) : Tn n (begC n a) (doneL n (begC n a) as) := by
  obtain ⟨e, h⟩ := h
  refine ⟨e % 8, Nat.mod_lt _ (by decide), fun x hx => ?_⟩
  rw [sc_to hn ha h x hx]
  unfold MA.turnN
  rw [Nat.mod_mod]
theorem sc_iff {n : Nat} (hn : n ≤ 3) {as : List Row} (hr : ∀ r ∈ as, r.ok n) (hl : as.length ≤ 240) : Tn n (doneL n (begC n (swL as / 2 + 2)) as) (begC n (swL as / 2 + 2)) ↔ ∃ e, Sc n as e := by
  have := swL_le as
  exact ⟨fun ⟨e, he, h⟩ => ⟨8 - e, sc_of hn hr he (by lia) h⟩, sc_tn hn (by lia)⟩
theorem ta_q {n : Nat} (hn : n ≤ 3) (as : List Row) (hr : ∀ r ∈ as, r.ok n) (hl : as.length ≤ 240) (b : Bool) (hb : b = true ↔ ∃ e, Sc n as e) : ∃ R, g_turn_apart [cpD n as, cpD n []] = some R ∧ isntD R .none = some (.bool b) := by
  have sl := swL_le as
  obtain ⟨R, h1, h2⟩ := turnto_q (n := n) (by lia) _ _ b (hb.trans (sc_iff hn hr hl).symm)
  refine ⟨R, ta_x _ _ _ _ _ _ _ (swL as : Nat) (fun z2 z3 => ta_p _ _ _ _ _ _ z2 z3 (at1 _ _ _) (at1 _ _ _) (sws_eq as (by lia)) (sws_eq [] (by decide))) ?_ (cols_eq hn as hr hl (swL as / 2 + 2) (by lia)) (cols_eq hn [] (by intro r h; nomatch h) (by decide) (swL as / 2 + 2) (by lia)) h1, h2⟩
  show (if (0 : Int) > _ then _ else _) = _
  rw [if_neg (by lia)]
  rw [List.length_map, swf_len]
/-! ### round_of -/
theorem rd_and (C N0 B S S2 R1 R2 : D) (c : Int) (W RW RC : D) (b1 b2 : Bool) (z1 : Sl) (c0 : ixD C (.int 0) = some W) (c1 : ixD C (.int 1) = some RW) (ad : g_all_done [S, RW] = some S2) (tt : g_turn_to [B, S2] = some R1) (i1 : isntD R1 .none = some (.bool b1)) (mt : mulT RW (.int c) = some RC) (ta : g_turn_apart [.tuple [W, RC], N0] = some R2) (i2 : isntD R2 .none = some (.bool b2)) : l1_round_of [.fz C, z1, .fz N0, .fz B, .fz S, .fz (.int c)] = some (if (b1 && b2) = true then .rt (.int c) else .nx, [.fz C, z1, .fz N0, .fz B, .fz S2, .fz (.int c)]) := by
  have j1 : isN R1 = !b1 := by have := i1; simp at this; exact this
  have j2 : isN R2 = !b2 := by have := i2; simp at this; exact this
  cases b1 <;> cases b2 <;> simp [l1_round_of, c0, c1, ad, tt, j1, mt, ta, j2]
theorem rd_y (C W N0 B : D) (m : Int) (L : List D) (o : Option Nat) (δ : Dv) (c0 : ixD C (.int 0) = some W) (rf : g_refuse_apart [C, .tuple [W, .tuple []]] = some .none) (hN : N0 = .tuple [W, .tuple []]) (ca : g_columns_apart [N0, .int 16] = some B) (rg : rng2D [.int 1, .int (m + 1)] = some L) (lp : loop (gN 5) l1_round_of L [.fz C, .fz (.int m), .fz N0, .fz B, .fz B, .un] = some (outF o, δ)) : g_round_of [C, .int m] = some (outD o) := by
  subst hN
  cases o <;> simp [outF, outD] at lp ⊢ <;> simp [g_round_of, runB, b_round_of, startD, c0, rf, ca, rg, lp]
theorem round_eq {n : Nat} (hn : n ≤ 3) (rs : List Row) (hr : ∀ r ∈ rs, r.ok n) (hl : rs.length ≤ 240) (m : Nat) (hm : m ≤ 1000) (hml : m * rs.length ≤ 240) : g_round_of [cpD n rs, .int (m : Nat)] = some (outD (fstO (ScB n rs) 1 m)) := by
  have le : ∀ i, i ≤ m → i * rs.length ≤ 240 := fun i h => Nat.le_trans (Nat.mul_le_mul_right _ h) hml
  have ca : g_columns_apart [cpD n [], .int 16] = some (stD n (begC n 16)) := cols_eq hn [] (by intro r h; nomatch h) (by decide) 16 (by decide)
  have st : ∀ i, i < m → ∀ δ, (∃ z, δ = [.fz (cpD n rs), .fz (.int (m : Nat)), .fz (cpD n []), .fz (stD n (begC n 16)), .fz (stD n (doneL n (begC n 16) (repR rs i))), z]) → ∃ δ1 δ2, gN 5 (.int (1 + (i : Nat) : Int)) δ = some δ1 ∧ l1_round_of δ1 = some (if ScB n rs (i + 1) = true then .rt (.int ((i + 1 : Nat) : Int)) else .nx, δ2) ∧ ∃ z, δ2 = [.fz (cpD n rs), .fz (.int (m : Nat)), .fz (cpD n []), .fz (stD n (begC n 16)), .fz (stD n (doneL n (begC n 16) (repR rs (i + 1)))), z] := fun i hi δ hδ => by
    obtain ⟨z, rfl⟩ := hδ
    have li := le i (by lia)
    have li1 := le (i + 1) (by lia)
    have e1 : i * rs.length + rs.length ≤ 240 := by rw [← Nat.succ_mul]; exact li1
    have ok1 := repR_ok hr (i + 1)
    have bd := bdB (n := n) (repR rs i) (begC_bd hn (a := 16) (by decide)) (by rw [repR_len]; lia)
    rw [repR_len] at bd
    have ad : g_all_done [stD n (doneL n (begC n 16) (repR rs i)), .tuple (rs.map rowD)] = some (stD n (doneL n (begC n 16) (repR rs (i + 1)))) := by
      rw [repR_succ, doneL_app]
      exact alldB_eq (by lia) rs hr bd (by lia) (by lia)
    have l2 : (repR rs (i + 1)).length ≤ 240 := by rw [repR_len]; exact li1
    obtain ⟨R2, ta, i2⟩ := ta_q hn (repR rs (i + 1)) ok1 l2 (ScB n rs (i + 1)) scB_iff
    obtain ⟨R1, tt, i1⟩ := turnto_q (n := n) (by lia) (begC n 16) (doneL n (begC n 16) (repR rs (i + 1))) (@decide (Tn n (begC n 16) (doneL n (begC n 16) (repR rs (i + 1)))) (Classical.propDecidable _)) (@decide_eq_true_iff _ (Classical.propDecidable _))
    have mt : mulT (.tuple (rs.map rowD)) (.int ((i + 1 : Nat) : Int)) = some (.tuple ((repR rs (i + 1)).map rowD)) := by
      rw [mulT_eq (by lia) (by lia) (by rw [List.length_map, Int.toNat_natCast, Nat.mul_comm]; lia), Int.toNat_natCast, map_rep]
    have fin := rd_and (cpD n rs) (cpD n []) (stD n (begC n 16)) _ _ R1 R2 ((i + 1 : Nat) : Int) _ _ _ _ _ (.fz (.int (m : Nat))) (at0 _ _) (at1 _ _ _) ad tt i1 mt ta i2
    refine ⟨_, _, by rw [show (1 + (i : Nat) : Int) = ((i + 1 : Nat) : Int) by lia]; rfl, ?_, .fz (.int ((i + 1 : Nat) : Int)), rfl⟩
    refine Eq.trans fin ?_
    have : (@decide (Tn n (begC n 16) (doneL n (begC n 16) (repR rs (i + 1)))) (Classical.propDecidable _) && ScB n rs (i + 1)) = ScB n rs (i + 1) := by
      cases q : ScB n rs (i + 1) with
      | false => rw [Bool.and_false]
      | true => rw [@decide_eq_true _ (Classical.propDecidable _) (sc_nt hn (by decide) (scB_iff.mp q))]; rfl
    rw [this]
  obtain ⟨δ', lp⟩ := fst_loop (ScB n rs) _ m st m 0 _ (by lia) ⟨.un, rfl⟩
  exact rd_y (cpD n rs) (.int (n : Nat)) (cpD n []) _ _ _ _ δ' (at0 _ _) (ra_x _ _ n (isplain_eq n rs (by lia)) (isplain_eq n [] (by decide)) (at0 _ _) (at0 _ _)) rfl ca (rng2_m m (by lia)) lp

/-! ### the law's own rows, on whole quadruples -/
noncomputable def q4D (u : MA.Q4) : D := .tuple [.int u.a, .int u.b, .int u.c, .int u.d]
noncomputable def mkL (n : Nat) (q : Nat → MA.Q4) : List D := (List.range (2 ^ n)).map fun x => q4D (q x)
noncomputable def qD (n : Nat) (q : Nat → MA.Q4) : D := .list (mkL n q)
theorem mkL_len (n : Nat) (q : Nat → MA.Q4) : (mkL n q).length = 2 ^ n := by unfold mkL; rw [List.length_map, List.length_range]
theorem qD_at {n : Nat} {q : Nat → MA.Q4} {p : Nat} {i : Int} (hi : i = p) (hp : p < 2 ^ n) : ixD (qD n q) (.int i) = some (q4D (q p)) := atI_of (j := p) hi (by simp [mkL, hp])
theorem rng_set {N : Nat} (F : Nat → D) {p : Nat} (hp : p < N) (v : D) : ((List.range N).map F).set p v = (List.range N).map fun x => if x = p then v else F x := by
  apply List.ext_getElem?
  intro i
  rw [List.getElem?_set, List.length_map, List.length_range, List.getElem?_map, List.getElem?_map]
  by_cases h : p = i
  · subst h
    rw [if_pos rfl, if_pos hp, List.getElem?_range hp]
    show some v = some (if p = p then v else F p)
    rw [if_pos rfl]
  · rw [if_neg h]
    by_cases hi : i < N
    · rw [List.getElem?_range hi]
      show some (F i) = some (if i = p then v else F i)
      rw [if_neg (Ne.symm h)]
    · rw [List.getElem?_eq_none (by rw [List.length_range]; lia)]
      rfl
theorem mkL_set {n : Nat} (q : Nat → MA.Q4) {p : Nat} (hp : p < 2 ^ n) (v : MA.Q4) : (mkL n q).set p (q4D v) = mkL n (fun x => if x = p then v else q x) := by
  unfold mkL
  rw [rng_set _ hp]
  exact List.map_congr_left fun x _ => (apply_ite q4D (x = p) v (q x)).symm
theorem lturn_x (X : D) (a b c d : Int) (z1 z2 : Sl) (x0 : ixD X (.int 0) = some (.int a)) (x1 : ixD X (.int 1) = some (.int b)) (x2 : ixD X (.int 2) = some (.int c)) (x3 : ixD X (.int 3) = some (.int d)) : l1__law_turned [.fz X, z1, z2] = some (.nx, [.fz (.tuple [.int (-d), .int a, .int b, .int c]), z1, z2]) := by
  simp [l1__law_turned, x0, x1, x2, x3]
theorem tnn_tn : ∀ (n : Nat) (u : MA.Q4), MA.tnn n (MA.Q4.tn u) = MA.tnn (n + 1) u
  | 0, u => rfl
  | n + 1, u => by show MA.Q4.tn (MA.tnn n (MA.Q4.tn u)) = MA.Q4.tn (MA.tnn (n + 1) u); rw [tnn_tn n u]
theorem lturn_loop (z1 : Sl) : ∀ (L : List D) (u : MA.Q4) (z2 : Sl), ∃ y2, loop (gN 2) l1__law_turned L [.fz (q4D u), z1, z2] = some (.nx, [.fz (q4D (MA.tnn L.length u)), z1, y2])
  | [], u, z2 => ⟨z2, rfl⟩
  | x :: L, u, z2 => by
    obtain ⟨y2, e⟩ := lturn_loop z1 L (MA.Q4.tn u) (.fz x)
    refine ⟨y2, ?_⟩
    rw [loop_step (δ1 := [.fz (q4D u), z1, .fz x]) (δ2 := [.fz (q4D (MA.Q4.tn u)), z1, .fz x]) (by simp) (lturn_x (q4D u) u.a u.b u.c u.d z1 (.fz x) rfl rfl rfl rfl), e, tnn_tn]
    rfl
theorem lturned_x (X Y : D) (e f : Int) (L : List D) (y2 : Sl) (hf : e % 8 = f) (hN : rng1D [.int f] = some L) (lp : loop (gN 2) l1__law_turned L [.fz X, .fz (.int e), .un] = some (.nx, [.fz Y, .fz (.int e), y2])) : g__law_turned [X, .int e] = some Y := by
  subst hf
  simp [g__law_turned, runB, b__law_turned, startD, hN, lp]
theorem lturned_eq (u : MA.Q4) (e : Nat) : g__law_turned [q4D u, .int (e : Nat)] = some (q4D (MA.tnn e u)) := by
  have hN : rng1D [.int ((e % 8 : Nat) : Int)] = some (rngL 0 (e % 8)) := rng1D_int (j := ((e % 8 : Nat) : Int)) (by lia) (by lia)
  obtain ⟨y2, lp⟩ := lturn_loop (.fz (.int (e : Nat))) (rngL 0 (e % 8)) u .un
  have : (rngL 0 (e % 8)).length = e % 8 := by unfold rngL; rw [List.length_map, List.length_range]
  rw [this, MA.tnn_mod] at lp
  exact lturned_x _ _ _ _ _ y2 (by lia) hN lp
theorem lraise_x (X : D) (a b c d : Int) (z1 z2 : Sl) (x0 : ixD X (.int 0) = some (.int a)) (x1 : ixD X (.int 1) = some (.int b)) (x2 : ixD X (.int 2) = some (.int c)) (x3 : ixD X (.int 3) = some (.int d)) : l1__law_raised [.fz X, z1, z2] = some (.nx, [.fz (.tuple [.int (b - d), .int (a + c), .int (b + d), .int (c - a)]), z1, z2]) := by
  simp [l1__law_raised, x0, x1, x2, x3]
theorem lraise_loop (z1 : Sl) : ∀ (L : List D) (u : MA.Q4) (z2 : Sl), ∃ y2, loop (gN 2) l1__law_raised L [.fz (q4D u), z1, z2] = some (.nx, [.fz (q4D (MA.Q4.rtn L.length u)), z1, y2])
  | [], u, z2 => ⟨z2, rfl⟩
  | x :: L, u, z2 => by
    obtain ⟨y2, e⟩ := lraise_loop z1 L (MA.Q4.rt u) (.fz x)
    refine ⟨y2, ?_⟩
    rw [loop_step (δ1 := [.fz (q4D u), z1, .fz x]) (δ2 := [.fz (q4D (MA.Q4.rt u)), z1, .fz x]) (by simp) (lraise_x (q4D u) u.a u.b u.c u.d z1 (.fz x) rfl rfl rfl rfl), e]
    rfl
theorem lraised_x (X Y : D) (e : Int) (L : List D) (y2 : Sl) (hN : rng1D [.int e] = some L) (lp : loop (gN 2) l1__law_raised L [.fz X, .fz (.int e), .un] = some (.nx, [.fz Y, .fz (.int e), y2])) : g__law_raised [X, .int e] = some Y := by
  simp [g__law_raised, runB, b__law_raised, startD, hN, lp]
theorem lraised_eq (u : MA.Q4) (e : Nat) (he : e ≤ 1000000) : g__law_raised [q4D u, .int (e : Nat)] = some (q4D (MA.Q4.rtn e u)) := by
  have hN : rng1D [.int ((e : Nat) : Int)] = some (rngL 0 e) := rng1D_int (j := ((e : Nat) : Int)) (by lia) (by lia)
  obtain ⟨y2, lp⟩ := lraise_loop (.fz (.int (e : Nat))) (rngL 0 e) u .un
  have : (rngL 0 e).length = e := by unfold rngL; rw [List.length_map, List.length_range]
  rw [this] at lp
  exact lraised_x _ _ _ _ y2 hN lp
theorem shlw {n j : Nat} (hj : j < n) (hn : n ≤ 6) : shlD (.int 1) (.int ((n : Int) - 1 - (j : Int))) = some (.int (wt n j : Nat)) := by
  have h := shl1 (n - 1 - j) (by lia)
  rw [show ((n : Int) - 1 - (j : Int)) = ((n - 1 - j : Nat) : Int) by lia, h]
  rfl
theorem ne_bb (a b : Bool) : neD (.bool a) (.bool b) = some (.bool (a != b)) := by cases a <;> cases b <;> rfl

/-! ### the law's moves of places -/
theorem flip_x (R : D) (n p j w k : Int) (r0 : ixD R (.int 0) = some (.str "flip")) (r1 : ixD R (.int 1) = some (.int j)) (s1 : shlD (.int 1) (.int (n - 1 - j)) = some (.int w)) (hx : Builtin.bitXor p w = k) : g__law_moved [.int p, R, .int n] = some (.int k) := by
  simp [g__law_moved, runB, b__law_moved, startD, r0, r1, s1, hx]
section
variable (R : D) (p n i j w1 w2 m1 m2 : Int) (r1 : ixD R (.int 1) = some (.int i)) (r2 : ixD R (.int 2) = some (.int j)) (s1 : shlD (.int 1) (.int (n - 1 - i)) = some (.int w1)) (s2 : shlD (.int 1) (.int (n - 1 - j)) = some (.int w2)) (b1 : Builtin.bitAnd p w1 = m1) (b2 : Builtin.bitAnd p w2 = m2)
include r1 r2 s1 s2 b1
theorem tie_x (k : Int) (r0 : ixD R (.int 0) = some (.str "tie")) (hx : (if 0 < m1 then Builtin.bitXor p w2 else p) = k) : g__law_moved [.int p, R, .int n] = some (.int k) := by
  subst hx
  by_cases h : 0 < m1
  · simp [g__law_moved, runB, b__law_moved, startD, r0, r1, r2, s1, s2, b1, h]
  · simp [g__law_moved, runB, b__law_moved, startD, r0, r1, r2, s1, s2, b1, h]
include b2
theorem cross_x (k W : Int) (r0 : ixD R (.int 0) = some (.str "cross")) (ho : Builtin.bitOr w1 w2 = W) (hx : (if (decide (0 < m1) != decide (0 < m2)) = true then Builtin.bitXor p W else p) = k) : g__law_moved [.int p, R, .int n] = some (.int k) := by
  subst hx
  have nb := ne_bb (decide (0 < m1)) (decide (0 < m2))
  cases h : (decide (0 < m1) != decide (0 < m2)) with
  | true =>
    rw [h] at nb
    simp [g__law_moved, runB, b__law_moved, startD, r0, r1, r2, s1, s2, b1, b2, ho, nb]
  | false =>
    rw [h] at nb
    simp [g__law_moved, runB, b__law_moved, startD, r0, r1, r2, s1, s2, b1, b2, ho, nb]
end
theorem bit_and {n j p : Nat} (hn : n ≤ 6) (hj : j < n) (hp : p < 2 ^ n) : Builtin.bitAnd (p : Int) (wt n j : Nat) = ((wt n j * bit (wt n j) p : Nat) : Int) := by
  rw [MA.band, (and_wt hn hj hp).1]
theorem bit_pos {n j p : Nat} : (0 : Int) < ((wt n j * bit (wt n j) p : Nat) : Int) ↔ bit (wt n j) p ≠ 0 := by
  have hw := MA.wt_pos n j
  have l := MA.bit_lt (wt n j) p
  rcases (by lia : bit (wt n j) p = 0 ∨ bit (wt n j) p = 1) with h | h
  · rw [h]; simp
  · rw [h]; simp; lia
theorem bit_xor {n j p : Nat} (hn : n ≤ 6) (hj : j < n) (hp : p < 2 ^ n) : Builtin.bitXor (p : Int) (wt n j : Nat) = ((flp (wt n j) p : Nat) : Int) := by
  rw [MA.bxor, (and_wt hn hj hp).2]
noncomputable def isPm : Row → Bool
  | .flip _ => true
  | .tie _ _ => true
  | .cross _ _ => true
  | _ => false
theorem lmoved_eq {n : Nat} (hn : n ≤ 6) {r : Row} (hr : r.ok n) (hp : isPm r = true) {p : Nat} (h : p < 2 ^ n) : g__law_moved [.int (p : Nat), rowD r, .int (n : Nat)] = some (.int (from_ n r p : Nat)) := by
  cases r with
  | swing j => cases hp
  | turn j e => cases hp
  | sign i j => cases hp
  | flip j => exact flip_x _ _ _ j _ _ rfl rfl (shlw hr hn) (bit_xor hn hr h)
  | tie i j =>
    refine tie_x _ _ _ i j _ _ _ rfl rfl (shlw hr.1 hn) (shlw hr.2.1 hn) (bit_and hn hr.1 h) _ rfl ?_
    rw [bit_xor hn hr.2.1 h]
    show _ = ((if bit (wt n i) p = 0 then p else flp (wt n j) p : Nat) : Int)
    by_cases q : bit (wt n i) p = 0
    · rw [if_pos q, if_neg (fun z => bit_pos.mp z q)]
    · rw [if_neg q, if_pos (bit_pos.mpr q)]
  | cross i j =>
    have a2 := and_wt2 hn hr.1 hr.2.1 hr.2.2 h
    have ho : Builtin.bitOr (wt n i : Nat) (wt n j : Nat) = ((wt n i + wt n j : Nat) : Int) := by rw [MA.bor, a2.1]
    refine cross_x _ _ _ i j _ _ _ _ rfl rfl (shlw hr.1 hn) (shlw hr.2.1 hn) (bit_and hn hr.1 h) (bit_and hn hr.2.1 h) _ _ rfl ho ?_
    rw [MA.bxor, a2.2.2]
    show _ = ((if bit (wt n i) p = bit (wt n j) p then p else flp (wt n j) (flp (wt n i) p) : Nat) : Int)
    have l1 := MA.bit_lt (wt n i) p
    have l2 := MA.bit_lt (wt n j) p
    have d : ∀ j, decide ((0 : Int) < ((wt n j * bit (wt n j) p : Nat) : Int)) = decide (bit (wt n j) p ≠ 0) := fun j => decide_eq_decide.mpr bit_pos
    rw [d, d]
    by_cases q : bit (wt n i) p = bit (wt n j) p
    · rw [if_pos q, q]
      simp
    · rw [if_neg q]
      rw [if_pos]
      rcases (by lia : bit (wt n i) p = 0 ∨ bit (wt n i) p = 1) with h1 | h1
      · have h2 : bit (wt n j) p = 1 := by lia
        rw [h1, h2]; rfl
      · have h2 : bit (wt n j) p = 0 := by lia
        rw [h1, h2]; rfl
theorem from_from {n : Nat} {r : Row} (hr : r.ok n) (p : Nat) : from_ n r (from_ n r p) = p := by
  cases r with
  | swing j => rfl
  | turn j e => rfl
  | sign i j => rfl
  | flip j => exact MA.flp_flp (MA.wt_pos n j)
  | tie i j =>
    have e : ∀ x, from_ n (.tie i j) x = if bit (wt n i) x = 0 then x else flp (wt n j) x := fun _ => rfl
    rw [e p]
    by_cases h : bit (wt n i) p = 0
    · rw [if_pos h, e, if_pos h]
    · rw [if_neg h, e, MA.bit_flp hr.2.1 hr.1 (Ne.symm hr.2.2), if_neg h, MA.flp_flp (MA.wt_pos n j)]
  | cross i j =>
    have e : ∀ x, from_ n (.cross i j) x = if bit (wt n i) x = bit (wt n j) x then x else flp (wt n j) (flp (wt n i) x) := fun _ => rfl
    rw [e p]
    by_cases h : bit (wt n i) p = bit (wt n j) p
    · rw [if_pos h, e, if_pos h]
    · rw [if_neg h, e]
      have l1 := MA.bit_lt (wt n i) p
      have l2 := MA.bit_lt (wt n j) p
      rw [MA.bit_flp hr.2.1 hr.1 (Ne.symm hr.2.2), MA.bit_flp_same (MA.wt_pos n i), MA.bit_flp_same (MA.wt_pos n j), MA.bit_flp hr.1 hr.2.1 hr.2.2, if_neg (by lia), ← MA.flp_comm (p := flp (wt n i) p) hr.1 hr.2.1 hr.2.2, MA.flp_flp (MA.wt_pos n i), MA.flp_flp (MA.wt_pos n j)]

theorem in_tn : inD false (.str "turn") (.tuple [.str "flip", .str "tie", .str "cross"]) = some (.bool false) := by rfl
theorem in_sg : inD false (.str "sign") (.tuple [.str "flip", .str "tie", .str "cross"]) = some (.bool false) := by rfl
theorem in_fl : inD false (.str "flip") (.tuple [.str "flip", .str "tie", .str "cross"]) = some (.bool true) := by rfl
theorem in_ti : inD false (.str "tie") (.tuple [.str "flip", .str "tie", .str "cross"]) = some (.bool true) := by rfl
theorem in_cr : inD false (.str "cross") (.tuple [.str "flip", .str "tie", .str "cross"]) = some (.bool true) := by rfl
theorem ixN_of {N i : Nat} (h : i < N) : ixN N (i : Int) = some i := by
  unfold ixN
  simp
  lia
/-! ### one place of a row -/
section
variable (Q R A : D) (n p w m : Int) (z6 z7 : Sl) (ds ds' : List D) (ba : Builtin.bitAnd p w = m) (a : ixD Q (.int p) = some A)
include ba a
theorem rs_sw1 (B : D) (k a0 a1 a2 a3 b0 b1 b2 b3 : Int) (r0 : ixD R (.int 0) = some (.str "swing")) (hx : Builtin.bitXor p w = k) (hm : 0 < m) (b : ixD Q (.int k) = some B) (e0 : ixD A (.int 0) = some (.int a0)) (e1 : ixD A (.int 1) = some (.int a1)) (e2 : ixD A (.int 2) = some (.int a2)) (e3 : ixD A (.int 3) = some (.int a3)) (f0 : ixD B (.int 0) = some (.int b0)) (f1 : ixD B (.int 1) = some (.int b1)) (f2 : ixD B (.int 2) = some (.int b2)) (f3 : ixD B (.int 3) = some (.int b3)) (pt : putD ds (.int p) (.tuple [.int (b0 - a0), .int (b1 - a1), .int (b2 - a2), .int (b3 - a3)]) = some ds') : l1__law_row_done [.fz Q, .fz R, .fz (.int n), .ow ds, .fz (.int w), .fz (.int p), z6, z7] = some (.nx, [.fz Q, .fz R, .fz (.int n), .ow ds', .fz (.int w), .fz (.int p), .fz A, .fz B]) := by
  rw [putD_int] at pt
  simp [-sSeq, -sIf, sSeq_k, sIf_k, l1__law_row_done, ba, a, r0, hx, hm, b, e0, e1, e2, e3, f0, f1, f2, f3, pt]
theorem rs_sw0 (B : D) (k a0 a1 a2 a3 b0 b1 b2 b3 : Int) (r0 : ixD R (.int 0) = some (.str "swing")) (hx : Builtin.bitXor p w = k) (hm : ¬ 0 < m) (b : ixD Q (.int k) = some B) (e0 : ixD A (.int 0) = some (.int a0)) (e1 : ixD A (.int 1) = some (.int a1)) (e2 : ixD A (.int 2) = some (.int a2)) (e3 : ixD A (.int 3) = some (.int a3)) (f0 : ixD B (.int 0) = some (.int b0)) (f1 : ixD B (.int 1) = some (.int b1)) (f2 : ixD B (.int 2) = some (.int b2)) (f3 : ixD B (.int 3) = some (.int b3)) (pt : putD ds (.int p) (.tuple [.int (a0 + b0), .int (a1 + b1), .int (a2 + b2), .int (a3 + b3)]) = some ds') : l1__law_row_done [.fz Q, .fz R, .fz (.int n), .ow ds, .fz (.int w), .fz (.int p), z6, z7] = some (.nx, [.fz Q, .fz R, .fz (.int n), .ow ds', .fz (.int w), .fz (.int p), .fz A, .fz B]) := by
  rw [putD_int] at pt
  simp [-sSeq, -sIf, sSeq_k, sIf_k, l1__law_row_done, ba, a, r0, hx, hm, b, e0, e1, e2, e3, f0, f1, f2, f3, pt]
theorem rs_tn1 (V : D) (e : Int) (r0 : ixD R (.int 0) = some (.str "turn")) (hm : 0 < m) (r2 : ixD R (.int 2) = some (.int e)) (v : g__law_turned [A, .int e] = some V) (pt : putD ds (.int p) V = some ds') : l1__law_row_done [.fz Q, .fz R, .fz (.int n), .ow ds, .fz (.int w), .fz (.int p), z6, z7] = some (.nx, [.fz Q, .fz R, .fz (.int n), .ow ds', .fz (.int w), .fz (.int p), .fz A, z7]) := by
  rw [putD_int] at pt
  simp [-sSeq, -sIf, sSeq_k, sIf_k, l1__law_row_done, ba, a, r0, hm, r2, v, pt]
theorem rs_tn0 (r0 : ixD R (.int 0) = some (.str "turn")) (hm : ¬ 0 < m) : l1__law_row_done [.fz Q, .fz R, .fz (.int n), .ow ds, .fz (.int w), .fz (.int p), z6, z7] = some (.nx, [.fz Q, .fz R, .fz (.int n), .ow ds, .fz (.int w), .fz (.int p), .fz A, z7]) := by
  simp [-sSeq, -sIf, sSeq_k, sIf_k, l1__law_row_done, ba, a, r0, hm, in_tn]
theorem rs_sg1 (V : D) (j w2 m2 : Int) (r0 : ixD R (.int 0) = some (.str "sign")) (r2 : ixD R (.int 2) = some (.int j)) (s2 : shlD (.int 1) (.int (n - 1 - j)) = some (.int w2)) (b2 : Builtin.bitAnd p w2 = m2) (hm : 0 < m) (hm2 : 0 < m2) (v : g__law_turned [A, .int 4] = some V) (pt : putD ds (.int p) V = some ds') : l1__law_row_done [.fz Q, .fz R, .fz (.int n), .ow ds, .fz (.int w), .fz (.int p), z6, z7] = some (.nx, [.fz Q, .fz R, .fz (.int n), .ow ds', .fz (.int w), .fz (.int p), .fz A, z7]) := by
  rw [putD_int] at pt
  simp [-sSeq, -sIf, sSeq_k, sIf_k, l1__law_row_done, ba, a, r0, hm, r2, s2, b2, hm2, v, pt]
theorem rs_sg0 (j w2 m2 : Int) (r0 : ixD R (.int 0) = some (.str "sign")) (r2 : ixD R (.int 2) = some (.int j)) (s2 : shlD (.int 1) (.int (n - 1 - j)) = some (.int w2)) (b2 : Builtin.bitAnd p w2 = m2) (hm : ¬ (0 < m ∧ 0 < m2)) : l1__law_row_done [.fz Q, .fz R, .fz (.int n), .ow ds, .fz (.int w), .fz (.int p), z6, z7] = some (.nx, [.fz Q, .fz R, .fz (.int n), .ow ds, .fz (.int w), .fz (.int p), .fz A, z7]) := by
  by_cases h : 0 < m
  · have h2 : ¬ 0 < m2 := fun z => hm ⟨h, z⟩
    simp [-sSeq, -sIf, sSeq_k, sIf_k, l1__law_row_done, ba, a, r0, h, r2, s2, b2, h2, in_sg]
  · simp [-sSeq, -sIf, sSeq_k, sIf_k, l1__law_row_done, ba, a, r0, h, in_sg]
omit ba in
theorem rs_pm (s : Str) (k : D) (r0 : ixD R (.int 0) = some (.str s)) (n1 : eqD (.str s) (.str "swing") = some (.bool false)) (n2 : eqD (.str s) (.str "turn") = some (.bool false)) (n3 : eqD (.str s) (.str "sign") = some (.bool false)) (n4 : inD false (.str s) (.tuple [.str "flip", .str "tie", .str "cross"]) = some (.bool true)) (mv : g__law_moved [.int p, R, .int n] = some k) (pt : putD ds k A = some ds') : l1__law_row_done [.fz Q, .fz R, .fz (.int n), .ow ds, .fz (.int w), .fz (.int p), z6, z7] = some (.nx, [.fz Q, .fz R, .fz (.int n), .ow ds', .fz (.int w), .fz (.int p), .fz A, z7]) := by
  simp [-sSeq, -sIf, sSeq_k, sIf_k, l1__law_row_done, a, r0, n1, n2, n3, n4, mv, pt]
end
noncomputable def spL (n : Nat) (q : Nat → MA.Q4) (r : Row) (i : Nat) : Nat → MA.Q4 := fun x => if from_ n r x < i then ldn n q r x else q x
theorem spL_succ {n : Nat} (q : Nat → MA.Q4) {r : Row} (hr : r.ok n) (i : Nat) : spL n q r (i + 1) = fun x => if x = from_ n r i then ldn n q r (from_ n r i) else spL n q r i x := funext fun x => by
  show (if from_ n r x < i + 1 then _ else _) = _
  by_cases h : x = from_ n r i
  · rw [if_pos h, h, from_from hr, if_pos (by lia)]
  · have : from_ n r x ≠ i := fun z => h (by rw [← z, from_from hr])
    rw [if_neg h]
    show _ = if from_ n r x < i then ldn n q r x else q x
    by_cases h2 : from_ n r x < i
    · rw [if_pos h2, if_pos (by lia)]
    · rw [if_neg h2, if_neg (by lia)]
theorem put_sp {n : Nat} (q : Nat → MA.Q4) {r : Row} (hr : r.ok n) {i : Nat} (hi : i < 2 ^ n) {v : MA.Q4} (hv : v = ldn n q r (from_ n r i)) : putD (mkL n (spL n q r i)) (.int (from_ n r i : Nat)) (q4D v) = some (mkL n (spL n q r (i + 1))) := by
  have h := MA.from_lt hr hi
  rw [putD_int, mkL_len]
  have e : ixN (2 ^ n) ((from_ n r i : Nat) : Int) = some (from_ n r i) := ixN_of h
  rw [e, spL_succ q hr, ← hv]
  exact congrArg some (mkL_set _ h v)
theorem keep_sp {n : Nat} (q : Nat → MA.Q4) {r : Row} (hr : r.ok n) {i : Nat} (h : from_ n r i = i) (hv : ldn n q r i = q i) : mkL n (spL n q r (i + 1)) = mkL n (spL n q r i) := by
  rw [spL_succ q hr, h, hv]
  congr 1
  funext x
  by_cases hx : x = i
  · rw [if_pos hx, hx]
    show q i = if from_ n r i < i then ldn n q r i else q i
    rw [hv]; split <;> rfl
  · rw [if_neg hx]
theorem tn4 (u v : MA.Q4) : MA.Q4.add v (MA.tnn 4 u) = ⟨v.a - u.a, v.b - u.b, v.c - u.c, v.d - u.d⟩ := by
  apply MA.Q4.ext' <;> simp [MA.tnn, MA.Q4.tn, MA.Q4.add] <;> lia
theorem rr_step {n : Nat} (hn : n ≤ 6) (q : Nat → MA.Q4) (r : Row) (hr : r.ok n) (j : Nat) (hj : ixD (rowD r) (.int 1) = some (.int (j : Nat))) (i : Nat) (hi : i < 2 ^ n) (z6 z7 : Sl) : ∃ y6 y7, l1__law_row_done [.fz (qD n q), .fz (rowD r), .fz (.int (n : Nat)), .ow (mkL n (spL n q r i)), .fz (.int (wt n j : Nat)), .fz (.int (i : Nat)), z6, z7] = some (.nx, [.fz (qD n q), .fz (rowD r), .fz (.int (n : Nat)), .ow (mkL n (spL n q r (i + 1))), .fz (.int (wt n j : Nat)), .fz (.int (i : Nat)), y6, y7]) := by
  have a := qD_at (n := n) (q := q) (p := i) (i := (i : Int)) rfl hi
  have bp : ∀ j, (0 : Int) < ((wt n j * bit (wt n j) i : Nat) : Int) ↔ bit (wt n j) i ≠ 0 := fun j => bit_pos
  have b1 : ∀ j, bit (wt n j) i ≠ 0 → bit (wt n j) i = 1 := fun j h => by have := MA.bit_lt (wt n j) i; lia
  have pm : isPm r = true → ∀ s : Str, ixD (rowD r) (.int 0) = some (.str s) → eqD (.str s) (.str "swing") = some (.bool false) → eqD (.str s) (.str "turn") = some (.bool false) → eqD (.str s) (.str "sign") = some (.bool false) → inD false (.str s) (.tuple [.str "flip", .str "tie", .str "cross"]) = some (.bool true) → ldn n q r (from_ n r i) = q (from_ n r (from_ n r i)) → ∃ y6 y7, l1__law_row_done [.fz (qD n q), .fz (rowD r), .fz (.int (n : Nat)), .ow (mkL n (spL n q r i)), .fz (.int (wt n j : Nat)), .fz (.int (i : Nat)), z6, z7] = some (.nx, [.fz (qD n q), .fz (rowD r), .fz (.int (n : Nat)), .ow (mkL n (spL n q r (i + 1))), .fz (.int (wt n j : Nat)), .fz (.int (i : Nat)), y6, y7]) := fun h s r0 n1 n2 n3 n4 hl =>
    ⟨_, _, rs_pm _ _ _ _ _ _ z6 z7 _ _ a s _ r0 n1 n2 n3 n4 (lmoved_eq hn hr h hi) (put_sp q hr hi (by rw [hl, from_from hr]))⟩
  cases r with
  | swing k =>
    have hk : j = k := by have e : ixD (rowD (.swing k)) (.int 1) = some (.int (k : Nat)) := rfl; rw [e] at hj; injection hj with h; injection h with h; lia
    subst hk
    have ba := bit_and hn hr hi
    have bx := bit_xor hn hr hi
    have b := qD_at (n := n) (q := q) (p := flp (wt n j) i) (i := (flp (wt n j) i : Nat)) rfl (MA.flp_lt hr hi)
    by_cases h : bit (wt n j) i = 0
    · refine ⟨_, _, rs_sw0 _ _ _ _ _ _ _ z6 z7 _ _ ba a _ _ _ _ _ _ _ _ _ _ rfl bx (fun z => (bp j).mp z h) b rfl rfl rfl rfl rfl rfl rfl rfl (put_sp (v := MA.Q4.add (q i) (q (flp (wt n j) i))) q hr hi ?_)⟩
      rw [show from_ n (.swing j) i = i from rfl, sw_eq, if_pos h]
    · refine ⟨_, _, rs_sw1 _ _ _ _ _ _ _ z6 z7 _ _ ba a _ _ _ _ _ _ _ _ _ _ rfl bx ((bp j).mpr h) b rfl rfl rfl rfl rfl rfl rfl rfl (put_sp (v := ⟨(q (flp (wt n j) i)).a - (q i).a, (q (flp (wt n j) i)).b - (q i).b, (q (flp (wt n j) i)).c - (q i).c, (q (flp (wt n j) i)).d - (q i).d⟩) q hr hi ?_)⟩
      rw [show from_ n (.swing j) i = i from rfl, sw_eq, if_neg h, tn4]
  | turn k e =>
    have hk : j = k := by have e : ixD (rowD (.turn k e)) (.int 1) = some (.int (k : Nat)) := rfl; rw [e] at hj; injection hj with h; injection h with h; lia
    subst hk
    have ba := bit_and hn hr.1 hi
    have le : ldn n q (.turn j e) i = MA.tnn (e * bit (wt n j) i) (q i) := rfl
    by_cases h : bit (wt n j) i = 0
    · rw [keep_sp q hr rfl (by rw [le, h, Nat.mul_zero]; rfl)]
      exact ⟨_, _, rs_tn0 _ _ _ _ _ _ _ z6 z7 _ ba a rfl (fun z => (bp j).mp z h)⟩
    · refine ⟨_, _, rs_tn1 _ _ _ _ _ _ _ z6 z7 _ _ ba a _ _ rfl ((bp j).mpr h) rfl (lturned_eq (q i) e) (put_sp q hr hi ?_)⟩
      show _ = ldn n q (.turn j e) i
      rw [le, b1 j h, Nat.mul_one]
  | sign k l =>
    have hk : j = k := by have e : ixD (rowD (.sign k l)) (.int 1) = some (.int (k : Nat)) := rfl; rw [e] at hj; injection hj with h; injection h with h; lia
    subst hk
    have ba := bit_and hn hr.1 hi
    have bb := bit_and hn hr.2.1 hi
    have le : ldn n q (.sign j l) i = MA.tnn (4 * bit (wt n j) i * bit (wt n l) i) (q i) := rfl
    by_cases h : bit (wt n j) i ≠ 0 ∧ bit (wt n l) i ≠ 0
    · refine ⟨_, _, rs_sg1 _ _ _ _ _ _ _ z6 z7 _ _ ba a _ l _ _ rfl rfl (shlw hr.2.1 hn) bb ((bp j).mpr h.1) ((bp l).mpr h.2) (lturned_eq (q i) 4) (put_sp q hr hi ?_)⟩
      show _ = ldn n q (.sign j l) i
      rw [le, b1 j h.1, b1 l h.2]
    · rw [keep_sp q hr rfl (by
        rw [le]
        by_cases h1 : bit (wt n j) i = 0
        · rw [h1, Nat.mul_zero, Nat.zero_mul]; rfl
        · have h2 : bit (wt n l) i = 0 := Classical.byContradiction fun z => h ⟨h1, z⟩
          rw [h2, Nat.mul_zero]; rfl)]
      exact ⟨_, _, rs_sg0 _ _ _ _ _ _ _ z6 z7 _ ba a l _ _ rfl rfl (shlw hr.2.1 hn) bb (fun z => h ⟨(bp j).mp z.1, (bp l).mp z.2⟩)⟩
  | flip k => exact pm rfl "flip" rfl (by simp) (by simp) (by simp) in_fl rfl
  | tie k l => exact pm rfl "tie" rfl (by simp) (by simp) (by simp) in_ti rfl
  | cross k l => exact pm rfl "cross" rfl (by simp) (by simp) (by simp) in_cr rfl

/-! ### a row done, by the law -/
theorem rdn_x (Q R : D) (n j w S : Int) (qs L ds : List D) (z4 z5 z6 z7 : Sl) (it : itsD Q = some qs) (r1 : ixD R (.int 1) = some (.int j)) (s1 : shlD (.int 1) (.int (n - 1 - j)) = some (.int w)) (ln : lenD [Q] = some (.int S)) (rg : rng1D [.int S] = some L) (lp : loop (gN 5) l1__law_row_done L [.fz Q, .fz R, .fz (.int n), .ow qs, .fz (.int w), .un, .un, .un] = some (.nx, [.fz Q, .fz R, .fz (.int n), .ow ds, z4, z5, z6, z7])) : g__law_row_done [Q, R, .int n] = some (.list ds) := by
  simp [g__law_row_done, runB, b__law_row_done, startD, oLs, it, r1, s1, ln, rg, lp, dFz]
theorem row_at1 {n : Nat} (r : Row) (hr : r.ok n) : ∃ j : Nat, ixD (rowD r) (.int 1) = some (.int (j : Nat)) ∧ j < n := by
  cases r with
  | swing j => exact ⟨j, rfl, hr⟩
  | turn j e => exact ⟨j, rfl, hr.1⟩
  | flip j => exact ⟨j, rfl, hr⟩
  | tie i j => exact ⟨i, rfl, hr.1⟩
  | sign i j => exact ⟨i, rfl, hr.1⟩
  | cross i j => exact ⟨i, rfl, hr.1⟩
theorem len_qD (n : Nat) (q : Nat → MA.Q4) : lenD [qD n q] = some (.int ((2 ^ n : Nat) : Int)) := by
  have : lenD [qD n q] = some (.int ((mkL n q).length : Nat)) := rfl
  rw [this, mkL_len]
theorem spL_0 (n : Nat) (q : Nat → MA.Q4) (r : Row) : spL n q r 0 = q := funext fun x => if_neg (Nat.not_lt_zero _)
theorem spL_n {n : Nat} (q : Nat → MA.Q4) {r : Row} (hr : r.ok n) : mkL n (spL n q r (2 ^ n)) = mkL n (ldn n q r) := by
  unfold mkL
  exact List.map_congr_left fun x hx => by
    show q4D (if from_ n r x < 2 ^ n then _ else _) = _
    rw [if_pos (MA.from_lt hr (List.mem_range.mp hx))]
theorem rdone_eq {n : Nat} (hn : n ≤ 6) (q : Nat → MA.Q4) (r : Row) (hr : r.ok n) : g__law_row_done [qD n q, rowD r, .int (n : Nat)] = some (qD n (ldn n q r)) := by
  obtain ⟨j, hj, hjn⟩ := row_at1 r hr
  have st : ∀ i, i < 2 ^ n → ∀ δ, (∃ z5 z6 z7, δ = [.fz (qD n q), .fz (rowD r), .fz (.int (n : Nat)), .ow (mkL n (spL n q r i)), .fz (.int (wt n j : Nat)), z5, z6, z7]) → ∃ δ2, l1__law_row_done (δ.set 5 (.fz (.int (i : Nat)))) = some (.nx, δ2) ∧ ∃ z5 z6 z7, δ2 = [.fz (qD n q), .fz (rowD r), .fz (.int (n : Nat)), .ow (mkL n (spL n q r (i + 1))), .fz (.int (wt n j : Nat)), z5, z6, z7] := fun i hi δ hδ => by
    obtain ⟨z5, z6, z7, rfl⟩ := hδ
    obtain ⟨y6, y7, e⟩ := rr_step hn q r hr j hj i hi z6 z7
    exact ⟨_, e, _, _, _, rfl⟩
  obtain ⟨δ', lp, z5, z6, z7, rfl⟩ := loop_rng (k := 5) _ (2 ^ n) st [.fz (qD n q), .fz (rowD r), .fz (.int (n : Nat)), .ow (mkL n (spL n q r 0)), .fz (.int (wt n j : Nat)), .un, .un, .un] ⟨_, _, _, rfl⟩
  rw [spL_0] at lp
  have h := rdn_x (qD n q) (rowD r) _ _ _ _ (mkL n q) _ _ _ z5 z6 z7 rfl hj (shlw hjn hn) (len_qD n q) (rng_pow n hn) lp
  rw [spL_n q hr] at h
  exact h
/-! ### the columns of nothing -/
theorem lc_x (Z : D) (n S : Int) (b : Nat) (C : D) (L L2 cs : List D) (z3 z4 : Sl) (c0 : ixD C (.int 0) = some (.int n)) (c1 : ixD C (.int 1) = some (.tuple [])) (sh : shlD (.int 1) (.int n) = some (.int S)) (hZ : Z = .tuple [.int 0, .int 0, .int 0, .int 0]) (ml : mulL (.list [Z]) (.int S) = some (.list L)) (pt : putD L (.int (b : Nat)) (.tuple [.int 1, .int 0, .int 0, .int 0]) = some L2) (sz : cs.length < sizeLine) : l2__law_columns [.fz C, .ow cs, .fz (.int (b : Nat)), z3, z4] = some (.nx, [.fz C, .ow (cs ++ [.list L2]), .fz (.int (b : Nat)), .fz (.list L2), z4]) := by
  subst hZ
  rw [putD_int] at pt
  simp [l2__law_columns, c0, c1, sh, oLi, lstI, ml, pt, dFz, sz, loop]
theorem zero_L (n : Nat) (hn : n ≤ 6) : mulL (.list [.tuple [.int 0, .int 0, .int 0, .int 0]]) (.int ((2 ^ n : Nat) : Int)) = some (.list (mkL n fun _ => ⟨0, 0, 0, 0⟩)) := by
  have sq : (2 ^ n : Nat) ≤ 64 := (Nat.pow_le_pow_right (by decide) hn : 2 ^ n ≤ 2 ^ 6)
  rw [mulL_eq (Int.le_trans (by decide) (Int.natCast_nonneg _)) (by lia) (by rw [Int.toNat_natCast, List.length_singleton]; lia), Int.toNat_natCast]
  congr 2
  unfold mkL
  apply List.ext_getElem
  · rw [List.length_flatten, List.map_replicate, List.length_map, List.length_range]; simp
  · intro i h1 h2
    rw [List.getElem_map]
    have : ∀ x ∈ (List.replicate (2 ^ n) [PyData.tuple [.int 0, .int 0, .int 0, .int 0]]).flatten, x = PyData.tuple [.int 0, .int 0, .int 0, .int 0] := fun x hx => by
      obtain ⟨l, hl, hxl⟩ := List.mem_flatten.mp hx
      rw [List.eq_of_mem_replicate hl] at hxl
      exact List.mem_singleton.mp hxl
    exact this _ (List.getElem_mem h1)
theorem un_put (n : Nat) {b : Nat} (hb : b < 2 ^ n) : putD (mkL n fun _ => ⟨0, 0, 0, 0⟩) (.int (b : Nat)) (.tuple [.int 1, .int 0, .int 0, .int 0]) = some (mkL n (un b)) := by
  rw [putD_int, mkL_len, ixN_of hb]
  exact congrArg some (mkL_set (n := n) (fun _ => ⟨0, 0, 0, 0⟩) hb ⟨1, 0, 0, 0⟩)
theorem lcs_x (C : D) (n S : Int) (L cs : List D) (z2 z3 z4 : Sl) (c0 : ixD C (.int 0) = some (.int n)) (sh : shlD (.int 1) (.int n) = some (.int S)) (rg : rng1D [.int S] = some L) (lp : loop (gN 2) l2__law_columns L [.fz C, .ow [], .un, .un, .un] = some (.nx, [.fz C, .ow cs, z2, z3, z4])) : g__law_columns [C] = some (.list cs) := by
  simp [g__law_columns, runB, b__law_columns, startD, c0, sh, rg, lp, sRetO, dFz]
noncomputable def colsL (n : Nat) (Q : Nat → Nat → MA.Q4) : List D := (List.range (2 ^ n)).map fun b => qD n (Q b)
theorem lcols_eq {n : Nat} (hn : n ≤ 6) : g__law_columns [cpD n []] = some (.list (colsL n un)) := by
  have sq : (2 ^ n : Nat) ≤ 64 := (Nat.pow_le_pow_right (by decide) hn : 2 ^ n ≤ 2 ^ 6)
  have c0 : ixD (cpD n []) (.int 0) = some (.int (n : Nat)) := at0 _ _
  have st : ∀ i, i < 2 ^ n → ∀ δ, (∃ z2 z3 z4, δ = [.fz (cpD n []), .ow ((List.range i).map fun b => qD n (un b)), z2, z3, z4]) → ∃ δ2, l2__law_columns (δ.set 2 (.fz (.int (i : Nat)))) = some (.nx, δ2) ∧ ∃ z2 z3 z4, δ2 = [.fz (cpD n []), .ow ((List.range (i + 1)).map fun b => qD n (un b)), z2, z3, z4] := fun i hi δ hδ => by
    obtain ⟨z2, z3, z4, rfl⟩ := hδ
    refine ⟨_, lc_x _ _ _ i _ _ _ _ z3 z4 c0 (at1 _ _ _) (shl1 n (by lia)) rfl (zero_L n hn) (un_put n hi) (by rw [List.length_map, List.length_range]; exact Nat.lt_of_lt_of_le (by lia : i < 64) (by decide)), .fz (.int (i : Nat)), .fz (qD n (un i)), z4, ?_⟩
    rw [List.range_succ, List.map_append]
    rfl
  obtain ⟨δ', lp, z2, z3, z4, rfl⟩ := loop_rng (k := 2) _ (2 ^ n) st [.fz (cpD n []), .ow [], .un, .un, .un] ⟨_, _, _, rfl⟩
  exact lcs_x _ _ _ _ _ z2 z3 z4 c0 (shl1 n (by lia)) (rng_pow n hn) lp

/-! ### begun again? -/
noncomputable def eqQ (u v : MA.Q4) : Bool := decide (u.a = v.a) && (decide (u.b = v.b) && (decide (u.c = v.c) && decide (u.d = v.d)))
theorem eqQ_iff {u v : MA.Q4} : eqQ u v = true ↔ u = v := by
  unfold eqQ
  rw [Bool.and_eq_true, Bool.and_eq_true, Bool.and_eq_true, decide_eq_true_iff, decide_eq_true_iff, decide_eq_true_iff, decide_eq_true_iff]
  exact ⟨fun h => MA.Q4.ext' h.1 h.2.1 h.2.2.1 h.2.2.2, fun h => h ▸ ⟨rfl, rfl, rfl, rfl⟩⟩
theorem sh_q4 (u : MA.Q4) : MA.Sh 1 (q4D u) := MA.Sh.tuple fun x hx => by
  simp only [List.mem_cons, List.not_mem_nil, or_false] at hx
  rcases hx with rfl | rfl | rfl | rfl <;> exact MA.Sh.int 0 _
theorem eqv_q4 (u v : MA.Q4) : PyData.eqv (q4D u) (q4D v) = eqQ u v := by
  show (PyData.eqv (.int u.a) (.int v.a) && (PyData.eqv (.int u.b) (.int v.b) && (PyData.eqv (.int u.c) (.int v.c) && (PyData.eqv (.int u.d) (.int v.d) && true)))) = _
  rw [Bool.and_true]
  rfl
theorem eq_q4 (u v : MA.Q4) : eqD (q4D u) (q4D v) = some (.bool (eqQ u v)) := by
  unfold eqD
  rw [if_pos ⟨shp_of (sh_q4 u) (by decide), shp_of (sh_q4 v) (by decide)⟩, eqv_q4]
theorem ne_q4 (u v : MA.Q4) : neD (q4D u) (q4D v) = some (.bool (!eqQ u v)) := by
  unfold neD
  rw [if_pos ⟨shp_of (sh_q4 u) (by decide), shp_of (sh_q4 v) (by decide)⟩, eqv_q4]
theorem all_go {b : Sf} {k : Nat} (ok : Nat → Bool) (I : Dv → Prop) (N : Nat) (st : ∀ i, i < N → ∀ δ, I δ → ∃ δ2, b (δ.set k (.fz (.int (i : Nat)))) = some (if ok i = true then .nx else .rt (.bool false), δ2) ∧ I δ2) : ∀ (m i : Nat) (δ : Dv), i + m ≤ N → I δ → ∃ δ', loop (gN k) b ((List.range' i m).map fun k : Nat => PyData.int (0 + (k : Int))) δ = some (if (List.range' i m).all ok = true then .nx else .rt (.bool false), δ') ∧ I δ'
  | 0, i, δ, _, hI => ⟨δ, rfl, hI⟩
  | m + 1, i, δ, h, hI => by
    obtain ⟨δ2, e, I2⟩ := st i (by lia) δ hI
    rw [List.range'_succ, List.map_cons, List.all_cons, Int.zero_add]
    cases q : ok i with
    | true =>
      rw [if_pos q] at e
      rw [loop_step (by rfl) e, Bool.true_and]
      exact all_go ok I N st m (i + 1) δ2 (by lia) I2
    | false =>
      rw [if_neg (by rw [q]; decide)] at e
      rw [loop_ret (by rfl) e, Bool.false_and]
      exact ⟨δ2, rfl, I2⟩
theorem all_rng {N : Nat} {ok : Nat → Bool} : (List.range' 0 N).all ok = true ↔ ∀ i, i < N → ok i = true := by
  rw [List.all_eq_true]
  exact ⟨fun h i hi => h i (List.mem_range'_1.mpr ⟨Nat.zero_le _, by lia⟩), fun h i hi => h i (by have := (List.mem_range'_1.mp hi).2; lia)⟩
theorem ba_y (C T O E U K V : D) (b : Int) (z1 z6 : Sl) (o : Bool) (cb : ixD C (.int b) = some K) (kp : ixD K (.int b) = some V) (t0 : ixD T (.int 0) = some E) (g : g__law_turned [O, E] = some U) (ne : neD V U = some (.bool (!o))) : l1__law_begun_again [.fz C, z1, .fz O, .fz T, .fz (.int b), .fz (.int b), z6] = some (if o = true then .nx else .rt (.bool false), [.fz C, z1, .fz O, .fz T, .fz (.int b), .fz (.int b), .fz U]) := by
  cases o <;> simp [l1__law_begun_again, cb, kp, t0, g, ne]
theorem ba_n (C T O Z K V : D) (b p : Int) (z1 z6 : Sl) (o : Bool) (hp : p ≠ b) (hZ : Z = .tuple [.int 0, .int 0, .int 0, .int 0]) (cb : ixD C (.int b) = some K) (kp : ixD K (.int p) = some V) (ne : neD V Z = some (.bool (!o))) : l1__law_begun_again [.fz C, z1, .fz O, .fz T, .fz (.int b), .fz (.int p), z6] = some (if o = true then .nx else .rt (.bool false), [.fz C, z1, .fz O, .fz T, .fz (.int b), .fz (.int p), .fz Z]) := by
  subst hZ
  cases o <;> simp [l1__law_begun_again, cb, kp, hp, ne]
theorem ba_l (C : D) (S : Int) (L : List D) (F : Fl) (δ δ' : Dv) (h0 : δ[0]? = some (.fz C)) (ln : lenD [C] = some (.int S)) (rg : rng1D [.int S] = some L) (lp : loop (gN 5) l1__law_begun_again L δ = some (F, δ')) : l2__law_begun_again δ = some (F, δ') := by
  simp [l2__law_begun_again, h0, ln, rg, lp]
theorem ba_t (C O K V W : D) (e : Int) (b : Bool) (t : g__law_turned [O, .int e] = some W) (c0 : ixD C (.int 0) = some K) (k0 : ixD K (.int 0) = some V) (q : eqD W V = some (.bool b)) : (ob (o2 (VL.os (oCons (oV 2) (oCons (oV 0) (oNil))) g__law_turned) (o2 (o2 (oV 1) (oC (.int 0)) ixD) (oC (.int 0)) ixD) eqD)) [.fz (.int e), .fz C, .fz O] = some b := by
  simp [t, c0, k0, q]
theorem ba_r (δ : Dv) : (oL (oCons (oC (.int 8)) (oNil)) rng1D) δ = some ((List.range 8).map fun k : Nat => PyData.int (0 + (k : Int))) := by
  have r := rng_pow 3 (by decide)
  simp only [oL, oCons, oC, oNil, Option.bind_some]
  exact r
theorem ba_p (C O K V : D) (W : Nat → D) (b : Nat → Bool) (z1 z3 z4 z5 z6 : Sl) (t : ∀ e : Nat, g__law_turned [O, .int (e : Nat)] = some (W e)) (c0 : ixD C (.int 0) = some K) (k0 : ixD K (.int 0) = some V) (q : ∀ e, eqD (W e) V = some (.bool (b e))) : p1__law_begun_again [.fz C, z1, .fz O, z3, z4, z5, z6] = some (.list (((List.range 8).filter b).map fun e : Nat => PyData.int (0 + (e : Int)))) :=
  compI_map (h := fun e : Nat => PyData.int (0 + (e : Int))) (b := b) (ba_r _) (by rw [List.length_range]; decide) (fun e _ => by rw [Int.zero_add]; exact ba_t C O K V (W e) e (b e) (t e) c0 k0 (q e)) fun e _ _ => rfl
theorem ba_e (C O : D) (s : Int) (rd : g__law_raised [.tuple [.int 1, .int 0, .int 0, .int 0], .int s] = some O) (p : ∀ z3 z4 z5 z6, p1__law_begun_again [.fz C, .fz (.int s), .fz O, z3, z4, z5, z6] = some (.list [])) : g__law_begun_again [C, .int s] = some (.bool false) := by
  have e : eqD (.list []) (.list []) = some (.bool true) := rfl
  simp [g__law_begun_again, runB, b__law_begun_again, startD, rd, p, e]
theorem ba_g (C O E : D) (s S : Int) (L es : List D) (b : Bool) (δ : Dv) (rd : g__law_raised [.tuple [.int 1, .int 0, .int 0, .int 0], .int s] = some O) (p : ∀ z3 z4 z5 z6, p1__law_begun_again [.fz C, .fz (.int s), .fz O, z3, z4, z5, z6] = some (.list (E :: es))) (ne : eqD (.list (E :: es)) (.list []) = some (.bool false)) (ln : lenD [C] = some (.int S)) (rg : rng1D [.int S] = some L) (lp : loop (gN 4) l2__law_begun_again L [.fz C, .fz (.int s), .fz O, .fz (.list (E :: es)), .un, .un, .un] = some (if b = true then .nx else .rt (.bool false), δ)) : g__law_begun_again [C, .int s] = some (.bool b) := by
  cases b <;> simp at lp <;> simp [g__law_begun_again, runB, b__law_begun_again, startD, rd, p, ne, ln, rg, lp]

theorem cols_at {n : Nat} {Q : Nat → Nat → MA.Q4} {p : Nat} {i : Int} (hi : i = p) (hp : p < 2 ^ n) : ixD (.list (colsL n Q)) (.int i) = some (qD n (Q p)) := atI_of (j := p) hi (by simp [colsL, hp])
theorem cols_len (n : Nat) (Q : Nat → Nat → MA.Q4) : (colsL n Q).length = 2 ^ n := by unfold colsL; rw [List.length_map, List.length_range]
theorem len_cols (n : Nat) (Q : Nat → Nat → MA.Q4) : lenD [.list (colsL n Q)] = some (.int ((2 ^ n : Nat) : Int)) := by
  have : lenD [.list (colsL n Q)] = some (.int ((colsL n Q).length : Nat)) := rfl
  rw [this, cols_len]
theorem ne_nil (x : Int) (es : List Nat) : eqD (.list (.int x :: es.map fun e : Nat => PyData.int (0 + (e : Int)))) (.list []) = some (.bool false) := by
  unfold eqD
  have s1 : MA.Sh 1 (.list (.int x :: es.map fun e : Nat => PyData.int (0 + (e : Int)))) := MA.Sh.list fun y hy => by
    rcases List.mem_cons.mp hy with rfl | hy
    · exact MA.Sh.int 0 _
    · obtain ⟨e, _, rfl⟩ := List.mem_map.mp hy
      exact MA.Sh.int 0 _
  have s2 : MA.Sh 1 (.list []) := MA.Sh.list fun y hy => by nomatch hy
  rw [if_pos ⟨shp_of s1 (by decide), shp_of s2 (by decide)⟩]
  rfl
noncomputable def dueQ (v : MA.Q4) (c x : Nat) : MA.Q4 := if x = c then v else ⟨0, 0, 0, 0⟩
theorem ba_step {n : Nat} (Q : Nat → Nat → MA.Q4) (O T E : D) (v : MA.Q4) (z1 : Sl) (t0 : ixD T (.int 0) = some E) (g : g__law_turned [O, E] = some (q4D v)) (c : Nat) (hc : c < 2 ^ n) (x : Nat) (hx : x < 2 ^ n) (z6 : Sl) : ∃ y6, l1__law_begun_again [.fz (.list (colsL n Q)), z1, .fz O, .fz T, .fz (.int (c : Nat)), .fz (.int (x : Nat)), z6] = some (if eqQ (Q c x) (dueQ v c x) = true then .nx else .rt (.bool false), [.fz (.list (colsL n Q)), z1, .fz O, .fz T, .fz (.int (c : Nat)), .fz (.int (x : Nat)), y6]) := by
  by_cases h : x = c
  · subst h
    refine ⟨_, ba_y _ _ _ _ _ _ _ _ z1 z6 _ (cols_at rfl hc) (qD_at rfl hx) t0 g ?_⟩
    have e : dueQ v x x = v := if_pos rfl
    rw [e]
    exact ne_q4 _ _
  · refine ⟨_, ba_n _ _ _ _ _ _ _ _ z1 z6 _ (by lia) rfl (cols_at rfl hc) (qD_at rfl hx) ?_⟩
    have e : dueQ v c x = ⟨0, 0, 0, 0⟩ := if_neg h
    rw [e]
    exact ne_q4 _ ⟨0, 0, 0, 0⟩
theorem ba_row {n : Nat} (hn : n ≤ 6) (Q : Nat → Nat → MA.Q4) (O T E : D) (v : MA.Q4) (z1 : Sl) (t0 : ixD T (.int 0) = some E) (g : g__law_turned [O, E] = some (q4D v)) (c : Nat) (hc : c < 2 ^ n) (z5 z6 : Sl) : ∃ y5 y6, l2__law_begun_again [.fz (.list (colsL n Q)), z1, .fz O, .fz T, .fz (.int (c : Nat)), z5, z6] = some (if (List.range' 0 (2 ^ n)).all (fun x => eqQ (Q c x) (dueQ v c x)) = true then .nx else .rt (.bool false), [.fz (.list (colsL n Q)), z1, .fz O, .fz T, .fz (.int (c : Nat)), y5, y6]) := by
  obtain ⟨δ', lp, y5, y6, rfl⟩ := all_go (b := l1__law_begun_again) (k := 5) (fun x => eqQ (Q c x) (dueQ v c x)) (fun δ => ∃ y5 y6, δ = [.fz (.list (colsL n Q)), z1, .fz O, .fz T, .fz (.int (c : Nat)), y5, y6]) (2 ^ n) (fun x hx δ hδ => by
    obtain ⟨y5, y6, rfl⟩ := hδ
    obtain ⟨y, e⟩ := ba_step Q O T E v z1 t0 g c hc x hx y6
    exact ⟨_, e, _, _, rfl⟩) (2 ^ n) 0 [.fz (.list (colsL n Q)), z1, .fz O, .fz T, .fz (.int (c : Nat)), z5, z6] (by lia) ⟨z5, z6, rfl⟩
  have rg := rng_pow n hn
  rw [List.range_eq_range'] at rg
  exact ⟨y5, y6, ba_l _ _ _ _ _ _ rfl (len_cols n Q) rg lp⟩
theorem again_eq {n : Nat} (hn : n ≤ 6) (Q : Nat → Nat → MA.Q4) (s : Nat) (hs : s ≤ 1000000) (b : Bool) (hb : b = true ↔ ∃ e, ∀ c, c < 2 ^ n → ∀ x, x < 2 ^ n → Q c x = if x = c then MA.Q4.rtn s (MA.tnn e one4) else ⟨0, 0, 0, 0⟩) : g__law_begun_again [.list (colsL n Q), .int (s : Nat)] = some (.bool b) := by
  have pn : 0 < 2 ^ n := Nat.pow_pos (by decide)
  have rd : g__law_raised [.tuple [.int 1, .int 0, .int 0, .int 0], .int (s : Nat)] = some (q4D (MA.Q4.rtn s one4)) := lraised_eq one4 s hs
  have p : ∀ z3 z4 z5 z6, p1__law_begun_again [.fz (.list (colsL n Q)), .fz (.int (s : Nat)), .fz (q4D (MA.Q4.rtn s one4)), z3, z4, z5, z6] = some (.list (((List.range 8).filter fun e => eqQ (MA.tnn e (MA.Q4.rtn s one4)) (Q 0 0)).map fun e : Nat => PyData.int (0 + (e : Int)))) := fun z3 z4 z5 z6 => ba_p _ _ _ _ (fun e => q4D (MA.tnn e (MA.Q4.rtn s one4))) _ _ z3 z4 z5 z6 (fun e => lturned_eq _ e) (cols_at rfl pn) (qD_at rfl pn) fun e => eq_q4 _ _
  cases F : (List.range 8).filter (fun e => eqQ (MA.tnn e (MA.Q4.rtn s one4)) (Q 0 0)) with
  | nil =>
    rw [F] at p
    have : b = false := by
      cases q : b with
      | false => rfl
      | true =>
        obtain ⟨e, h⟩ := hb.mp q
        have h0 := h 0 pn 0 pn
        rw [if_pos rfl, ← MA.tnn_rtn, ← MA.tnn_mod] at h0
        have m : e % 8 ∈ (List.range 8).filter (fun e => eqQ (MA.tnn e (MA.Q4.rtn s one4)) (Q 0 0)) := List.mem_filter.mpr ⟨List.mem_range.mpr (Nat.mod_lt _ (by decide)), eqQ_iff.mpr h0.symm⟩
        rw [F] at m
        nomatch m
    rw [this]
    exact ba_e _ _ _ rd p
  | cons e0 es =>
    have m : e0 ∈ (List.range 8).filter (fun e => eqQ (MA.tnn e (MA.Q4.rtn s one4)) (Q 0 0)) := by rw [F]; exact List.mem_cons_self
    have e00 := eqQ_iff.mp (List.mem_filter.mp m).2
    rw [F] at p
    have g : g__law_turned [q4D (MA.Q4.rtn s one4), .int (0 + (e0 : Int))] = some (q4D (MA.tnn e0 (MA.Q4.rtn s one4))) := by rw [Int.zero_add]; exact lturned_eq _ _
    obtain ⟨δ', lp, _⟩ := all_go (b := l2__law_begun_again) (k := 4) (fun c => (List.range' 0 (2 ^ n)).all fun x => eqQ (Q c x) (dueQ (MA.tnn e0 (MA.Q4.rtn s one4)) c x)) (fun δ => ∃ y4 y5 y6, δ = [.fz (.list (colsL n Q)), .fz (.int (s : Nat)), .fz (q4D (MA.Q4.rtn s one4)), .fz (.list (.int (0 + (e0 : Int)) :: es.map fun e : Nat => PyData.int (0 + (e : Int)))), y4, y5, y6]) (2 ^ n) (fun c hc δ hδ => by
      obtain ⟨y4, y5, y6, rfl⟩ := hδ
      obtain ⟨y, y', e⟩ := ba_row hn Q _ (.list (.int (0 + (e0 : Int)) :: es.map fun e : Nat => PyData.int (0 + (e : Int)))) _ _ (.fz (.int (s : Nat))) (atI_of (j := 0) rfl rfl) g c hc y5 y6
      exact ⟨_, e, _, _, _, rfl⟩) (2 ^ n) 0 [.fz (.list (colsL n Q)), .fz (.int (s : Nat)), .fz (q4D (MA.Q4.rtn s one4)), .fz (.list (.int (0 + (e0 : Int)) :: es.map fun e : Nat => PyData.int (0 + (e : Int)))), .un, .un, .un] (by lia) ⟨_, _, _, rfl⟩
    have rg := rng_pow n hn
    rw [List.range_eq_range'] at rg
    have fin := ba_g _ _ _ _ _ _ _ ((List.range' 0 (2 ^ n)).all fun c => (List.range' 0 (2 ^ n)).all fun x => eqQ (Q c x) (dueQ (MA.tnn e0 (MA.Q4.rtn s one4)) c x)) _ rd p (ne_nil _ es) (len_cols n Q) rg lp
    rw [fin]
    refine congrArg (fun z => some (PyData.bool z)) ?_
    apply Bool.eq_iff_iff.mpr
    rw [hb, all_rng]
    constructor
    · intro h
      refine ⟨e0, fun c hc x hx => ?_⟩
      have := eqQ_iff.mp (all_rng.mp (h c hc) x hx)
      rw [this, ← MA.tnn_rtn]
      rfl
    · intro ⟨e, h⟩ c hc
      refine all_rng.mpr fun x hx => eqQ_iff.mpr ?_
      have h0 := h 0 pn 0 pn
      rw [if_pos rfl] at h0
      rw [e00, h0, h c hc x hx]
      rfl

/-! ### due, by the law -/
theorem lsw_eq (n : Nat) (rs : List Row) (hl : rs.length ≤ 100000) : g__law_swings [cpD n rs] = some (.int (swL rs : Nat)) := by
  have c : ixD (cpD n rs) (.int 1) = some (.tuple (rs.map rowD)) := at1 _ _ _
  have p : p1__law_swings [.fz (cpD n rs)] = some (.list ((rs.filter isSw).map rowD)) := compI_map (h := rowD) (b := isSw) (by simp [c]) (by lia) (fun r _ => by
    obtain ⟨s, h0, h1, _⟩ := row_word r
    simp [capS, h0, h1]) fun r _ _ => by simp
  have e : lenD [.list ((rs.filter isSw).map rowD)] = some (.int (swL rs : Nat)) := by
    have : lenD [.list ((rs.filter isSw).map rowD)] = some (.int (((rs.filter isSw).map rowD).length : Nat)) := rfl
    rw [this, List.length_map, swf_len]
  simp [g__law_swings, runB, b__law_swings, startD, p, e]
noncomputable def upC (Q : Nat → Nat → MA.Q4) (b : Nat) (q : Nat → MA.Q4) : Nat → Nat → MA.Q4 := fun c => if c = b then q else Q c
theorem cols_put {n : Nat} (Q : Nat → Nat → MA.Q4) {b : Nat} (hb : b < 2 ^ n) (q : Nat → MA.Q4) : putD (colsL n Q) (.int (b : Nat)) (qD n q) = some (colsL n (upC Q b q)) := by
  rw [putD_int, cols_len, ixN_of hb]
  refine congrArg some ?_
  show (colsL n Q).set b (qD n q) = _
  unfold colsL
  rw [rng_set _ hb]
  exact List.map_congr_left fun c _ => (apply_ite (qD n) (c = b) q (Q c)).symm
theorem upC_up (Q : Nat → Nat → MA.Q4) (b : Nat) (q q' : Nat → MA.Q4) : upC (upC Q b q) b q' = upC Q b q' := funext fun c => by
  unfold upC
  by_cases h : c = b
  · rw [if_pos h, if_pos h]
  · rw [if_neg h, if_neg h, if_neg h]
theorem upC_at (Q : Nat → Nat → MA.Q4) (b : Nat) (q : Nat → MA.Q4) : upC Q b q b = q := if_pos rfl
theorem upC_id (Q : Nat → Nat → MA.Q4) (b : Nat) : upC Q b (Q b) = Q := funext fun c => by
  unfold upC
  by_cases h : c = b
  · rw [if_pos h, h]
  · rw [if_neg h]
theorem du1_x (C K V R : D) (n b : Int) (cs cs' : List D) (z1 z4 : Sl) (c : ixD (.list cs) (.int b) = some K) (g : g__law_row_done [K, R, .int n] = some V) (pt : putD cs (.int b) V = some cs') : l1__law_due [.fz C, z1, .fz (.int n), .ow cs, z4, .fz (.int b), .fz R] = some (.nx, [.fz C, z1, .fz (.int n), .ow cs', z4, .fz (.int b), .fz R]) := by
  rw [putD_int] at pt
  simp only [l1__law_due, sPut, VL.os, oCons, oNil, oIxO, oV, slV, List.getElem?_cons_zero, List.getElem?_cons_succ, Option.bind_some, slO_ow, c, g, putD_int, pt, List.set_cons_succ, List.set_cons_zero]
theorem du1_loop {n : Nat} (hn : n ≤ 6) (C : D) (b : Nat) (hb : b < 2 ^ n) (z1 z4 : Sl) : ∀ (rs : List Row), (∀ r ∈ rs, r.ok n) → ∀ (Q : Nat → Nat → MA.Q4) (z6 : Sl), isOw z6 = false → ∃ y, isOw y = false ∧ loop (gN 6) l1__law_due (rs.map rowD) [.fz C, z1, .fz (.int (n : Nat)), .ow (colsL n Q), z4, .fz (.int (b : Nat)), z6] = some (.nx, [.fz C, z1, .fz (.int (n : Nat)), .ow (colsL n (upC Q b (ldnL n (Q b) rs))), z4, .fz (.int (b : Nat)), y])
  | [], _, Q, z6, hz => ⟨z6, hz, by
    show _ = some (Fl.nx, [_, _, _, Sl.ow (colsL n (upC Q b (Q b))), _, _, _])
    rw [upC_id]; rfl⟩
  | r :: rs, hr, Q, z6, _ => by
    obtain ⟨y, hy, e⟩ := du1_loop hn C b hb z1 z4 rs (fun q hq => hr q (List.mem_cons_of_mem _ hq)) (upC Q b (ldn n (Q b) r)) (.fz (rowD r)) rfl
    refine ⟨y, hy, ?_⟩
    rw [List.map_cons, loop_step (by rfl) (du1_x C _ _ (rowD r) n b _ _ z1 z4 (cols_at rfl hb) (rdone_eq hn (Q b) r (hr r List.mem_cons_self)) (cols_put Q hb _))]
    rw [upC_up, upC_at] at e
    exact e
theorem du2_x (C R : D) (L : List D) (δ δ' : Dv) (F : Fl) (h0 : δ[0]? = some (.fz C)) (c1 : ixD C (.int 1) = some R) (it : itsD R = some L) (lp : loop (gN 6) l1__law_due L δ = some (F, δ')) : l2__law_due δ = some (F, δ') := by
  simp [l2__law_due, h0, c1, it, lp]
noncomputable def prC (n : Nat) (rs : List Row) (Q : Nat → Nat → MA.Q4) (i : Nat) : Nat → Nat → MA.Q4 := fun c => if c < i then ldnL n (Q c) rs else Q c
theorem prC_succ (n : Nat) (rs : List Row) (Q : Nat → Nat → MA.Q4) (i : Nat) : upC (prC n rs Q i) i (ldnL n (prC n rs Q i i) rs) = prC n rs Q (i + 1) := funext fun c => by
  unfold upC prC
  rw [if_neg (Nat.lt_irrefl i)]
  by_cases h : c = i
  · subst h; rw [if_pos rfl, if_pos (by lia)]
  · rw [if_neg h]
    by_cases h2 : c < i
    · rw [if_pos h2, if_pos (by lia)]
    · rw [if_neg h2, if_neg (by lia)]
theorem du3_loop {n : Nat} (hn : n ≤ 6) (rs : List Row) (hr : ∀ r ∈ rs, r.ok n) (Q : Nat → Nat → MA.Q4) (z1 z4 z5 z6 : Sl) (h5 : isOw z5 = false) (h6 : isOw z6 = false) : ∃ y5 y6, isOw y5 = false ∧ isOw y6 = false ∧ loop (gN 5) l2__law_due (rngL 0 (2 ^ n)) [.fz (cpD n rs), z1, .fz (.int (n : Nat)), .ow (colsL n Q), z4, z5, z6] = some (.nx, [.fz (cpD n rs), z1, .fz (.int (n : Nat)), .ow (colsL n fun c => ldnL n (Q c) rs), z4, y5, y6]) := by
  obtain ⟨δ', lp, y5, y6, i5, i6, rfl⟩ := loop_rng (b := l2__law_due) (k := 5) (fun i δ => ∃ y5 y6, isOw y5 = false ∧ isOw y6 = false ∧ δ = [.fz (cpD n rs), z1, .fz (.int (n : Nat)), .ow (colsL n (prC n rs Q i)), z4, y5, y6]) (2 ^ n) (fun i hi δ hδ => by
    obtain ⟨y5, y6, i5, i6, rfl⟩ := hδ
    obtain ⟨y, hy, e⟩ := du1_loop hn (cpD n rs) i hi z1 z4 rs hr (prC n rs Q i) y6 i6
    rw [prC_succ] at e
    exact ⟨_, du2_x _ _ _ _ _ _ rfl (at1 _ _ _) (itsD_tuple _) e, _, _, rfl, hy, rfl⟩) [.fz (cpD n rs), z1, .fz (.int (n : Nat)), .ow (colsL n Q), z4, z5, z6] ⟨z5, z6, h5, h6, rfl⟩
  refine ⟨y5, y6, i5, i6, ?_⟩
  rw [lp]
  have : colsL n (prC n rs Q (2 ^ n)) = colsL n fun c => ldnL n (Q c) rs := List.map_congr_left fun c hc => by
    have := List.mem_range.mp hc
    unfold prC
    rw [if_pos this]
  rw [this]
theorem du3_f (S : Int) (L : List D) (δ δ' : Dv) (ln : oLenO 3 δ = some (.int S)) (rg : rng1D [.int S] = some L) (lp : loop (gN 5) l2__law_due L δ = some (.nx, δ')) : (sFor (oL (oCons (oLenO 3) (oNil)) rng1D) (gN 5) (l2__law_due)) δ = some (.nx, δ') := by
  simp only [sFor, oL, oCons, oNil, ln, Option.bind_some, rg, lp]
theorem du3_t (C : D) (n c : Int) (cs : List D) (sw s : Int) (b : Bool) (z1 y5 y6 : Sl) (gs : g__law_swings [C] = some (.int sw)) (ml : mulI (.int c) (.int sw) = some (.int s)) (ag : g__law_begun_again [.list cs, .int s] = some (.bool b)) : (ob (VL.os (oCons (oV 3) (oCons (o2 (oV 4) (VL.os (oCons (oV 0) (oNil)) g__law_swings) mulI) (oNil))) g__law_begun_again)) [.fz C, z1, .fz (.int n), .fz (.list cs), .fz (.int c), y5, y6] = some b := by
  simp only [ob, VL.os, oCons, oNil, o2, oV, slV, List.getElem?_cons_zero, List.getElem?_cons_succ, Option.bind_some, gs, ml, ag, asB]
theorem du3_x (C : D) (n c : Int) (cs cs' L : List D) (sw s S : Int) (b : Bool) (z1 z5 z6 y5 y6 : Sl) (hS : (cs.length : Int) = S) (hz : isOw z1 = false) (h5 : isOw y5 = false) (h6 : isOw y6 = false) (rg : rng1D [.int S] = some L) (lp : loop (gN 5) l2__law_due L [.fz C, z1, .fz (.int n), .ow cs, .fz (.int c), z5, z6] = some (.nx, [.fz C, z1, .fz (.int n), .ow cs', .fz (.int c), y5, y6])) (gs : g__law_swings [C] = some (.int sw)) (ml : mulI (.int c) (.int sw) = some (.int s)) (ag : g__law_begun_again [.list cs', .int s] = some (.bool b)) : l3__law_due [.fz C, z1, .fz (.int n), .ow cs, .fz (.int c), z5, z6] = some (if b = true then .rt (.int c) else .nx, [.fz C, z1, .fz (.int n), .ow cs', .fz (.int c), y5, y6]) := by
  have so : sole 3 [.fz C, z1, .fz (.int n), .ow cs', .fz (.int c), y5, y6] = true := by
    show (!isOw (.fz C) && (!isOw z1 && (!isOw (.fz (.int n)) && (!isOw (.fz (.int c)) && (!isOw y5 && (!isOw y6 && true)))))) = true
    rw [hz, h5, h6]; rfl
  have t := du3_t C n c cs' sw s b z1 y5 y6 gs ml ag
  refine (nseq (du3_f S L _ _ (by rw [← hS]; rfl) rg lp)).trans ?_
  show ((oPeek 3 _ _).bind _) = _
  unfold oPeek
  rw [if_pos so]
  show ((ob _ [.fz C, z1, .fz (.int n), .fz (.list cs'), .fz (.int c), y5, y6]).bind _) = _
  rw [t]
  cases b <;> rfl
theorem du_x (C : D) (n m : Int) (cs L : List D) (o : Option Nat) (δ : Dv) (c0 : ixD C (.int 0) = some (.int n)) (cl : g__law_columns [.tuple [.int n, .tuple []]] = some (.list cs)) (rg : rng2D [.int 1, .int (m + 1)] = some L) (lp : loop (gN 4) l3__law_due L [.fz C, .fz (.int m), .fz (.int n), .ow cs, .un, .un, .un] = some (outF o, δ)) : g__law_due [C, .int m] = some (outD o) := by
  cases o <;> simp [outF, outD] at lp ⊢ <;> simp [g__law_due, runB, b__law_due, startD, c0, oLi, lstI, cl, rg, lp]
theorem due_eq {n : Nat} (hn : n ≤ 6) (rs : List Row) (hr : ∀ r ∈ rs, r.ok n) (hl : rs.length ≤ 240) (m : Nat) (hm : m ≤ 1000) : g__law_due [cpD n rs, .int (m : Nat)] = some (outD (fstO (ScB n rs) 1 m)) := by
  have c0 : ixD (cpD n rs) (.int 0) = some (.int (n : Nat)) := at0 _ _
  have sl := swL_le rs
  have st : ∀ i, i < m → ∀ δ, (∃ z4 z5 z6, isOw z5 = false ∧ isOw z6 = false ∧ δ = [.fz (cpD n rs), .fz (.int (m : Nat)), .fz (.int (n : Nat)), .ow (colsL n fun c => ldnL n (un c) (repR rs i)), z4, z5, z6]) → ∃ δ1 δ2, gN 4 (.int (1 + (i : Nat) : Int)) δ = some δ1 ∧ l3__law_due δ1 = some (if ScB n rs (i + 1) = true then .rt (.int ((i + 1 : Nat) : Int)) else .nx, δ2) ∧ ∃ z4 z5 z6, isOw z5 = false ∧ isOw z6 = false ∧ δ2 = [.fz (cpD n rs), .fz (.int (m : Nat)), .fz (.int (n : Nat)), .ow (colsL n fun c => ldnL n (un c) (repR rs (i + 1))), z4, z5, z6] := fun i hi δ hδ => by
    obtain ⟨z4, z5, z6, h5, h6, rfl⟩ := hδ
    obtain ⟨y5, y6, i5, i6, lp⟩ := du3_loop hn rs hr (fun c => ldnL n (un c) (repR rs i)) (.fz (.int (m : Nat))) (.fz (.int ((i + 1 : Nat) : Int))) z5 z6 h5 h6
    have e : (fun c => ldnL n (ldnL n (un c) (repR rs i)) rs) = fun c => ldnL n (un c) (repR rs (i + 1)) := funext fun c => by rw [repR_succ, ldnL_app]
    rw [e] at lp
    have mi : IntMulOk ((i + 1 : Nat) : Int) ((swL rs : Nat) : Int) := .of_left (Nat.le_trans (MA.bits_le (m := 10) (by lia)) (by decide))
    have ml : mulI (.int ((i + 1 : Nat) : Int)) (.int ((swL rs : Nat) : Int)) = some (.int (((i + 1) * swL rs : Nat) : Int)) := by rw [mulI_int mi]; norm_cast
    have le : (i + 1) * swL rs ≤ 1000 * 240 := Nat.mul_le_mul (by lia) (by lia)
    have ag := again_eq hn (fun c => ldnL n (un c) (repR rs (i + 1))) ((i + 1) * swL rs) (by lia) (ScB n rs (i + 1)) (by
      rw [scB_iff]
      unfold Sc
      rw [swL_rep])
    have fin := du3_x (cpD n rs) n ((i + 1 : Nat) : Int) _ _ _ _ _ _ _ (.fz (.int (m : Nat))) z5 z6 y5 y6 (by rw [cols_len]) rfl i5 i6 (rng_pow n hn) lp (lsw_eq n rs (by lia)) ml ag
    refine ⟨_, _, by rw [show (1 + (i : Nat) : Int) = ((i + 1 : Nat) : Int) by lia]; rfl, fin, _, _, _, i5, i6, rfl⟩
  obtain ⟨δ', lp⟩ := fst_loop (ScB n rs) _ m st m 0 _ (by lia) ⟨.un, .un, .un, rfl, rfl, rfl⟩
  exact du_x (cpD n rs) n m _ _ _ δ' c0 (lcols_eq hn) (rng2_m m (by lia)) lp

noncomputable def rf_1 : Sf := sSet 3 (o2 (oV 1) (o2 (VL.os (oCons (o2 (oV 0) (oC (.int 1)) ixD) (oNil)) lenD) (oC (.int 1)) addD) modD)
noncomputable def rf_2 : Sf := sSet 4 (oC .none)
noncomputable def rf_3 : Sf := sTry 5 hs_WaveError (sDrop (VL.os (oCons (VL.os (oCons (o2 (oV 0) (oC (.int 0)) ixD) (oCons (o2 (o2 (oSl (o2 (oV 0) (oC (.int 1)) ixD) (oNo) (oP (oV 3))) (VL.os (oCons (VL.os (oCons (oC (.str "look")) (oCons (o2 (o2 (oV 1) (oC (.int 7)) divD) (o2 (oV 0) (oC (.int 0)) ixD) modD) (oNil))) tupD) (oNil)) tupD) addD) (oSl (o2 (oV 0) (oC (.int 1)) ixD) (oP (oV 3)) (oNo)) addD) (oNil))) tupD) (oCons (oV 2) (oNil))) g_round_of)) (xE (osX (oCons (VL.os (oCons (o2 (oV 0) (oC (.int 0)) ixD) (oCons (o2 (o2 (oSl (o2 (oV 0) (oC (.int 1)) ixD) (oNo) (oP (oV 3))) (VL.os (oCons (VL.os (oCons (oC (.str "look")) (oCons (o2 (o2 (oV 1) (oC (.int 7)) divD) (o2 (oV 0) (oC (.int 0)) ixD) modD) (oNil))) tupD) (oNil)) tupD) addD) (oSl (o2 (oV 0) (oC (.int 1)) ixD) (oP (oV 3)) (oNo)) addD) (oNil))) tupD) (oCons (oV 2) (oNil))) x_round_of)) (sSet 4 (oV 5))
noncomputable def rf_4 : Sf := sRet (oAndV (o1 (oV 4) (isxD tt_HasLooks)) (oAndV (o1 (o1 (oV 4) (isxD tt_OddTurn)) notD) (o1 (o1 (oV 4) (isxD tt_UnlikeWires)) notD)))
theorem refused_st : b__law_refused = sSeq rf_1 (sSeq rf_2 (sSeq rf_3 (rf_4))) := rfl

/-! ### refused -/
theorem cut_rows (rs : List Row) (lo hi : Option Int) : ∃ ms : List Row, ms.length ≤ rs.length ∧ slD (.tuple (rs.map rowD)) lo hi = some (.tuple (ms.map rowD)) := by
  refine ⟨(rs.drop (HT.sIx rs.length 0 lo)).take (HT.sIx rs.length rs.length hi - HT.sIx rs.length 0 lo), ?_, ?_⟩
  · rw [List.length_take, List.length_drop]; lia
  · show some (PyData.tuple (cutD _ _ _)) = _
    unfold cutD
    rw [List.length_map, ← List.map_drop, ← List.map_take]
noncomputable def orD (lk : D) : Option Row → D
  | some r => rowD r
  | none => lk
theorem nplain (lk : D) (l : List (Option Row)) (hl : l.length ≤ 100000) (h0 : ixD lk (.int 0) = some (.str "look")) (hn : none ∈ l) : g_all_plain [.tuple (l.map (orD lk))] = some (.bool false) := by
  have il : inD false (.str "look") (.tuple [.str "swing", .str "turn", .str "flip", .str "tie", .str "sign", .str "cross"]) = some (.bool false) := rfl
  have e : p1_all_plain [.fz (.tuple (l.map (orD lk)))] = some (.list (l.map fun o => .bool o.isSome)) := comp_map (k := fun o : Option Row => .bool o.isSome) (h := orD lk) (by simp) (by lia) fun o _ => by
    cases o with
    | none => simp [orD, h0, il]
    | some r =>
      obtain ⟨s, g0, _, g3⟩ := row_word r
      simp [orD, g0, g3]
  have a := allD_map (fun o : Option Row => o.isSome) l
  have t : (l.all fun o => o.isSome) = false := by
    rw [List.all_eq_false]
    exact ⟨none, hn, by decide⟩
  rw [t] at a
  simp [g_all_plain, runB, b_all_plain, startD, e, a]
theorem hs_has : ("HasLooks" : Str) ∈ hs_WaveError := List.mem_cons_self
theorem isl (t : List (Str × Bool)) (n : Str) (b : Bool) (h : t.lookup n = some b) : isxD t (exD n) = some (.bool b) := by
  rw [isxD_ex]; unfold isxL; rw [h]; rfl
theorem i1 : isxD tt_HasLooks (exD "HasLooks") = some (.bool true) := isl _ _ _ (by decide +kernel)
theorem i2 : isxD tt_OddTurn (exD "HasLooks") = some (.bool false) := isl _ _ _ (by decide +kernel)
theorem i3 : isxD tt_UnlikeWires (exD "HasLooks") = some (.bool false) := isl _ _ _ (by decide +kernel)
theorem xrf (C N0 : D) (h : g_is_plain [C] = some (.bool false)) : x_refuse_apart [C, N0] = some ("HasLooks" : Str) := by
  simp [x_refuse_apart, runX, bx_refuse_apart, startD, h]
theorem xrd (C W m : D) (c0 : ixD C (.int 0) = some W) (h : g_is_plain [C] = some (.bool false)) : x_round_of [C, m] = some ("HasLooks" : Str) := by
  have x := xrf C (.tuple [W, .tuple []]) h
  simp [x_round_of, runX, bx_round_of, startD, c0, x]
theorem rf1 (C R : D) (c k : Int) (n x : Sl) (z3 z4 z5 : Sl) (c1 : ixD C (.int 1) = some R) (ln : lenD [R] = some (.int k)) (hk : 0 ≤ k) : rf_1 [.fz C, .fz (.int c), x, z3, z4, z5] = some (.nx, [.fz C, .fz (.int c), x, .fz (.int (c % (k + 1))), z4, z5]) := by
  have p : 0 < k + 1 := by lia
  simp [rf_1, c1, ln, p]
theorem rf3 (C R A B AB ABC L W : D) (c n a : Int) (x : D) (c0 : ixD C (.int 0) = some (.int n)) (hn : 0 < n) (c1 : ixD C (.int 1) = some R) (s1 : slD R none (some a) = some A) (s2 : slD R (some a) none = some B) (hL : L = .tuple [.str "look", .int (c / 7 % n)]) (a1 : addD A (.tuple [L]) = some AB) (a2 : addD AB B = some ABC) (xr : x_round_of [.tuple [.int n, ABC], x] = some ("HasLooks" : Str)) : rf_3 [.fz C, .fz (.int c), .fz x, .fz (.int a), .fz .none, .un] = some (.nx, [.fz C, .fz (.int c), .fz x, .fz (.int a), .fz (exD "HasLooks"), .un]) := by
  subst hL
  simp [rf_3, sTry, c0, c1, hn, s1, s2, a1, a2, xr, hs_has]
theorem rf4 (C : D) (c a : Int) (x : Sl) : rf_4 [.fz C, .fz (.int c), x, .fz (.int a), .fz (exD "HasLooks"), .un] = some (.rt (.bool true), [.fz C, .fz (.int c), x, .fz (.int a), .fz (exD "HasLooks"), .un]) := by
  simp [rf_4, i1, i2, i3]
theorem refused_eq {n : Nat} (hn : 1 ≤ n) (rs : List Row) (hl : rs.length ≤ 1000) (c : Int) (x : D) : g__law_refused [cpD n rs, .int c, x] = some (.bool true) := by
  obtain ⟨m1, l1, e1⟩ := cut_rows rs none (some (c % ((rs.length : Int) + 1)))
  obtain ⟨m2, l2, e2⟩ := cut_rows rs (some (c % ((rs.length : Int) + 1))) none
  have a1 : addD (.tuple (m1.map rowD)) (.tuple [.tuple [.str "look", .int (c / 7 % n)]]) = some (.tuple (m1.map rowD ++ [.tuple [.str "look", .int (c / 7 % n)]])) := if_pos (by rw [List.length_map, List.length_singleton]; exact Nat.le_trans (by lia : m1.length + 1 ≤ 2000) (by decide))
  have a2 : addD (.tuple (m1.map rowD ++ [.tuple [.str "look", .int (c / 7 % n)]])) (.tuple (m2.map rowD)) = some (.tuple (m1.map rowD ++ [.tuple [.str "look", .int (c / 7 % n)]] ++ m2.map rowD)) := if_pos (by rw [List.length_append, List.length_map, List.length_singleton, List.length_map]; exact Nat.le_trans (by lia : m1.length + 1 + m2.length ≤ 3000) (by decide))
  have pl : g_is_plain [.tuple [.int (n : Nat), .tuple (m1.map rowD ++ [.tuple [.str "look", .int (c / 7 % n)]] ++ m2.map rowD)]] = some (.bool false) := by
    have h := nplain (.tuple [.str "look", .int (c / 7 % n)]) (m1.map some ++ [none] ++ m2.map some) (by simp; lia) rfl (by simp)
    have e : (m1.map some ++ [none] ++ m2.map some).map (orD (.tuple [.str "look", .int (c / 7 % n)])) = m1.map rowD ++ [.tuple [.str "look", .int (c / 7 % n)]] ++ m2.map rowD := by
      rw [List.map_append, List.map_append, List.map_map, List.map_map]
      rfl
    rw [e] at h
    have c1 : ixD (.tuple [.int (n : Nat), .tuple (m1.map rowD ++ [.tuple [.str "look", .int (c / 7 % n)]] ++ m2.map rowD)]) (.int 1) = some (.tuple (m1.map rowD ++ [.tuple [.str "look", .int (c / 7 % n)]] ++ m2.map rowD)) := at1 _ _ _
    generalize m1.map rowD ++ [.tuple [.str "look", .int (c / 7 % n)]] ++ m2.map rowD = Z at h c1 ⊢
    simp [g_is_plain, runB, b_is_plain, startD, c1, h]
  have ln : lenD [.tuple (rs.map rowD)] = some (.int (rs.length : Nat)) := by
    have : lenD [.tuple (rs.map rowD)] = some (.int ((rs.map rowD).length : Nat)) := rfl
    rw [this, List.length_map]
  refine nrun (δ' := [.fz (cpD n rs), .fz (.int c), .fz x, .fz (.int (c % ((rs.length : Int) + 1))), .fz (exD "HasLooks"), .un]) rfl ?_
  rw [refused_st]
  refine (nseq (rf1 (cpD n rs) _ c _ (.fz x) (.fz x) .un .un .un (at1 _ _ _) ln (by lia))).trans ?_
  refine (nseq (δ' := [.fz (cpD n rs), .fz (.int c), .fz x, .fz (.int (c % ((rs.length : Int) + 1))), .fz .none, .un]) rfl).trans ?_
  refine (nseq (rf3 (cpD n rs) _ _ _ _ _ _ .none c n _ x (at0 _ _) (by lia) (at1 _ _ _) e1 e2 rfl a1 a2 (xrd _ _ x (at0 _ _) pl))).trans ?_
  exact rf4 _ c _ _

/-! ### the law's rows -/
theorem lr_swap (c : Int) (w j k : Int) (hw : w = 1) (hk : 2 < k) (h6 : c % 6 = k) (hj : modD (.int (c / 6)) (.int w) = some (.int j)) (r : D) (h : ∀ b : Int, b = k % 2 → (b = 0 → r = .tuple [.str "swing", .int j]) ∧ (b = 1 → r = .tuple [.str "turn", .int j, .int (1 + c / 18 % 7)])) : g__law_row [.int c, .int w] = some r := by
  obtain ⟨a, b⟩ := h (k % 2) rfl
  rcases (by lia : k % 2 = 0 ∨ k % 2 = 1) with q | q
  · have r' := a q
    subst r' hw
    have e : atI [PyData.str "swing", .str "", .str "flip"] 0 = some (.str "swing") := rfl
    simp [-sSeq, -sIf, sSeq_k, sIf_k, g__law_row, runB, b__law_row, startD, h6, hj, hk, q, e]
  · have r' := b q
    subst r' hw
    simp [-sSeq, -sIf, sSeq_k, sIf_k, g__law_row, runB, b__law_row, startD, h6, hj, hk, q]
theorem lr_turn (c w j : Int) (h6 : c % 6 = 1) (hj : modD (.int (c / 6)) (.int w) = some (.int j)) : g__law_row [.int c, .int w] = some (.tuple [.str "turn", .int j, .int (1 + c / 18 % 7)]) := by
  have t : (oAnd (ob (o2 (oV 1) (oC (.int 1)) eqD)) (ob (o2 (oV 2) (oC (.int 2)) gtD))) [.fz (.int c), .fz (.int w), .fz (.int 1), .fz (.int j), .un] = some false := by
    by_cases q : w = 1 <;> simp [q]
  simp [-sSeq, -sIf, sSeq_k, sIf_k, g__law_row, runB, b__law_row, startD, h6, hj, t]
theorem lr_one (c w j k : Int) (s : Str) (h6 : c % 6 = k) (hk : k = 0 ∨ k = 2) (hj : modD (.int (c / 6)) (.int w) = some (.int j)) (hs : atI [PyData.str "swing", .str "", .str "flip"] k = some (.str s)) : g__law_row [.int c, .int w] = some (.tuple [.str s, .int j]) := by
  have t : (oAnd (ob (o2 (oV 1) (oC (.int 1)) eqD)) (ob (o2 (oV 2) (oC (.int 2)) gtD))) [.fz (.int c), .fz (.int w), .fz (.int k), .fz (.int j), .un] = some false := by
    have : ¬ 2 < k := by lia
    by_cases q : w = 1 <;> simp [q, this]
  have n1 : ¬ k = 1 := by lia
  rcases hk with rfl | rfl
  · simp [-sSeq, -sIf, sSeq_k, sIf_k, g__law_row, runB, b__law_row, startD, h6, hj, t, hs]
  · simp [-sSeq, -sIf, sSeq_k, sIf_k, g__law_row, runB, b__law_row, startD, h6, hj, t, hs]
theorem lr_two (c w j k m i : Int) (s : Str) (h6 : c % 6 = k) (hw : ¬ w = 1) (hk : 2 < k) (hj : modD (.int (c / 6)) (.int w) = some (.int j)) (hm : modD (.int (c / 18)) (.int (w - 1)) = some (.int m)) (hi : modD (.int (j + 1 + m)) (.int w) = some (.int i)) (hs : atI [PyData.str "tie", .str "sign", .str "cross"] (k - 3) = some (.str s)) : g__law_row [.int c, .int w] = some (.tuple [.str s, .int i, .int j]) := by
  have n1 : ¬ k = 1 := by lia
  have n0 : ¬ k = 0 := by lia
  have n2 : ¬ k = 2 := by lia
  simp [-sSeq, -sIf, sSeq_k, sIf_k, g__law_row, runB, b__law_row, startD, h6, hj, hw, n1, n0, n2, hm, hi, hs]
theorem mod_nat (a : Int) (w : Nat) (h : 1 ≤ w) : ∃ m : Nat, m < w ∧ modD (.int a) (.int (w : Nat)) = some (.int (m : Nat)) ∧ a % (w : Int) = m := by
  have h0 : (0 : Int) < w := by lia
  have b1 := Int.emod_nonneg a (show (w : Int) ≠ 0 by lia)
  have b2 := Int.emod_lt_of_pos a h0
  refine ⟨(a % (w : Int)).toNat, by lia, ?_, by lia⟩
  rw [modD_int h0]
  congr 2
  lia
theorem lrow_ok (c : Int) (w : Nat) (hw : 1 ≤ w) : ∃ r : Row, g__law_row [.int c, .int (w : Nat)] = some (rowD r) ∧ r.ok w := by
  obtain ⟨j, hj, ej, _⟩ := mod_nat (c / 6) w hw
  obtain ⟨e, he, e7⟩ : ∃ e : Nat, 1 + c / 18 % 7 = (e : Int) ∧ 1 ≤ e ∧ e ≤ 7 := ⟨(1 + c / 18 % 7).toNat, by lia, by lia, by lia⟩
  have tk : Row.ok w (.turn j e) := ⟨hj, e7.1, e7.2⟩
  have k6 : 0 ≤ c % 6 ∧ c % 6 < 6 := by lia
  by_cases h1 : c % 6 = 1
  · exact ⟨.turn j e, by rw [lr_turn c w j h1 ej, he]; rfl, tk⟩
  by_cases h0 : c % 6 = 0
  · exact ⟨.swing j, lr_one c w j 0 "swing" h0 (.inl rfl) ej rfl, hj⟩
  by_cases h2 : c % 6 = 2
  · exact ⟨.flip j, lr_one c w j 2 "flip" h2 (.inr rfl) ej rfl, hj⟩
  by_cases hw1 : w = 1
  · rcases (by lia : c % 6 % 2 = 0 ∨ c % 6 % 2 = 1) with q | q
    · exact ⟨.swing j, lr_swap c w j (c % 6) (by lia) (by lia) rfl ej _ fun b hb => ⟨fun _ => rfl, fun z => by lia⟩, hj⟩
    · exact ⟨.turn j e, lr_swap c w j (c % 6) (by lia) (by lia) rfl ej _ fun b hb => ⟨fun z => by lia, fun _ => by rw [he]; rfl⟩, tk⟩
  · obtain ⟨m, hm, em, _⟩ := mod_nat (c / 18) (w - 1) (by lia)
    have ew : ((w - 1 : Nat) : Int) = (w : Int) - 1 := by lia
    rw [ew] at em
    obtain ⟨i, hi, ei, ei2⟩ := mod_nat ((j : Int) + 1 + (m : Int)) w hw
    have ne : i ≠ j := fun z => by
      subst z
      have : ((i : Int) + 1 + m) % w = i := ei2
      by_cases q : (i : Int) + 1 + m < w
      · rw [Int.emod_eq_of_lt (by lia) q] at this; lia
      · have : ((i : Int) + 1 + m - w) % w = i := by rw [Int.sub_emod_right]; exact ei2
        rw [Int.emod_eq_of_lt (by lia) (by lia)] at this
        lia
    have r2 : ∀ s : Str, atI [PyData.str "tie", .str "sign", .str "cross"] (c % 6 - 3) = some (.str s) → g__law_row [.int c, .int (w : Nat)] = some (.tuple [.str s, .int (i : Nat), .int (j : Nat)]) := fun s hs => lr_two c w j (c % 6) m i s rfl (by lia) (by lia) ej em ei hs
    rcases (by lia : c % 6 = 3 ∨ c % 6 = 4 ∨ c % 6 = 5) with q | q | q
    · exact ⟨.tie i j, r2 "tie" (by rw [q]; rfl), hi, hj, ne⟩
    · exact ⟨.sign i j, r2 "sign" (by rw [q]; rfl), hi, hj, ne⟩
    · exact ⟨.cross i j, r2 "cross" (by rw [q]; rfl), hi, hj, ne⟩

noncomputable def st_1 : Sf := sSet 1 (VL.os (oCons (oV 0) (oCons (oC (.int 0)) (oNil))) g__law_cell_at)
noncomputable def st_2 : Sf := sSet 2 (o2 (oC (.int 1)) (o2 (oV 1) (oC (.int 3)) modD) addD)
noncomputable def st_3 : Sf := sSet 3 (o2 (o2 (oV 1) (oC (.int 3)) divD) (o2 (VL.os (oCons (oC (.int 25)) (oCons (oC (.int 13)) (oCons (oC (.int 7)) (oNil)))) lstD) (o2 (oV 2) (oC (.int 1)) subD) ixD) modD)
noncomputable def st_4 : Sf := sSet 4 (p1_law)
noncomputable def st_5 : Sf := sIf (ob (o2 (o2 (o2 (oV 1) (oC (.int 5)) divD) (oC (.int 2)) modD) (oC (.int 0)) eqD)) (sSet 4 (p2_law)) (sNx)
noncomputable def st_6 : Sf := sIf (oAnd (ob (o2 (oV 2) (oC (.int 1)) eqD)) (ob (o2 (o2 (o2 (oV 1) (oC (.int 21)) divD) (oC (.int 6)) modD) (oC (.int 3)) eqD))) (sSeq (sSet 4 (oSl (oV 4) (oNo) (oP (oC (.int 2))))) (sSet 3 (o2 (oC (.int 100)) (o2 (o2 (oV 1) (oC (.int 126)) divD) (oC (.int 5)) modD) subD))) (sNx)
noncomputable def st_7 : Sf := sSet 5 (VL.os (oCons (oV 2) (oCons (VL.os (oCons (oV 4) (oNil)) tupleD) (oNil))) tupD)
noncomputable def st_8 : Sf := sIf (ob (o2 (o2 (o2 (oV 1) (oC (.int 7)) divD) (oC (.int 6)) modD) (oC (.int 1)) eqD)) (sRet (VL.os (oCons (oV 5) (oCons (o2 (oV 1) (oC (.int 42)) divD) (oCons (oV 3) (oNil)))) g__law_refused)) (sNx)
noncomputable def st_9 : Sf := sSet 6 (VL.os (oCons (oV 5) (oCons (oV 3) (oNil))) g_round_of)
noncomputable def st_10 : Sf := sSet 7 (VL.os (oCons (oV 5) (oCons (oV 3) (oNil))) g__law_due)
noncomputable def st_11 : Sf := sIf (ob (o2 (oV 7) (oC .none) isD)) (sRet (o2 (oV 6) (oC .none) isD)) (sNx)
noncomputable def st_12 : Sf := sRet (oAndV (o1 (oV 6) (isiD "int")) (oAndV (o1 (o1 (oV 6) (isiD "bool")) notD) (o2 (oV 6) (oV 7) eqD)))
theorem law_st : b_law = sSeq st_1 (sSeq st_2 (sSeq st_3 (sSeq st_4 (sSeq st_5 (sSeq st_6 (sSeq st_7 (sSeq st_8 (sSeq st_9 (sSeq st_10 (sSeq st_11 (st_12))))))))))) := rfl

/-! ### the law -/
noncomputable def rsD (rs : List Row) : D := .list (rs.map rowD)
theorem lcell_eq (ns : List Int) (k : Int) (hk : 0 ≤ k) : ∃ c, g__law_cell_at [.list (ns.map .int), .int k] = some (.int c) := by
  by_cases h : k < ns.length
  · have hk' : k.toNat < ns.length := by lia
    refine ⟨ns[k.toNat], ?_⟩
    have e : atI (ns.map PyData.int) k = some (.int ns[k.toNat]) := atI_of (j := k.toNat) (by lia) (by simp [hk'])
    simp [g__law_cell_at, runB, b__law_cell_at, startD, h, e]
  · exact ⟨0, by simp [g__law_cell_at, runB, b__law_cell_at, startD, h]⟩
theorem cut_1 (ns : List Int) (x : Nat) : ∃ cs : List Int, cs.length ≤ x ∧ slD (.list (ns.map .int)) (some 1) (some (1 + (x : Int))) = some (.list (cs.map .int)) := by
  refine ⟨(ns.drop (HT.sIx ns.length 0 (some 1))).take (HT.sIx ns.length ns.length (some (1 + (x : Int))) - HT.sIx ns.length 0 (some 1)), ?_, ?_⟩
  · rw [List.length_take, List.length_drop]
    have e1 : HT.sIx ns.length 0 (some 1) = min 1 ns.length := rfl
    have e2 : HT.sIx ns.length ns.length (some (1 + (x : Int))) ≤ 1 + x := by
      unfold HT.sIx
      simp only
      split <;> lia
    lia
  · show some (PyData.list (cutD _ _ _)) = _
    unfold cutD
    rw [List.length_map, ← List.map_drop, ← List.map_take]
theorem cut_to (L : List D) (k : Nat) : slD (.list L) none (some (k : Int)) = some (.list (L.take k)) := by
  show some (PyData.list (cutD _ _ _)) = _
  unfold cutD
  have e0 : HT.sIx L.length 0 none = 0 := rfl
  rw [e0, List.drop_zero, Nat.sub_zero]
  have e : HT.sIx L.length L.length (some (k : Int)) = min k L.length := by
    unfold HT.sIx
    simp only
    split <;> lia
  rw [e]
  congr 2
  rcases Nat.le_total k L.length with h | h
  · rw [Nat.min_eq_left h]
  · rw [Nat.min_eq_right h, List.take_length, List.take_of_length_le h]
theorem p1_i (S : D) (n k : Int) (L : List D) (z1 z3 z4 z5 z6 z7 : Sl) (ek : atI [PyData.int 10, .int 6, .int 4] (n - 1) = some (.int k)) (sl : slD S (some 1) (some (1 + k)) = some (.list L)) : (oI (oSl (oV 0) (oP (oC (.int 1))) (oP (o2 (oC (.int 1)) (o2 (VL.os (oCons (oC (.int 10)) (oCons (oC (.int 6)) (oCons (oC (.int 4)) (oNil)))) lstD) (o2 (oV 2) (oC (.int 1)) subD) ixD) addD))) itsD) [.fz S, z1, .fz (.int n), z3, z4, z5, z6, z7] = some L := by
  simp [ek, sl]
theorem p1_e (c w R : D) (h : g__law_row [c, w] = some R) : (VL.os (oCons (oV 0) (oCons (oV 1) (oNil))) g__law_row) [.fz c, .fz w] = some R := by
  simp [h]
theorem p1_eq (n : Nat) (hn : 1 ≤ n) (S : D) (cs : List Int) (hl : cs.length ≤ 1000) (k : Int) (z1 z3 z4 z5 z6 z7 : Sl) (ek : atI [PyData.int 10, .int 6, .int 4] ((n : Int) - 1) = some (.int k)) (sl : slD S (some 1) (some (1 + k)) = some (.list (cs.map .int))) : ∃ rs : List Row, rs.length = cs.length ∧ (∀ r ∈ rs, r.ok n) ∧ p1_law [.fz S, z1, .fz (.int (n : Nat)), z3, z4, z5, z6, z7] = some (rsD rs) := by
  have ch : ∀ c : Int, ∃ r : Row, g__law_row [.int c, .int (n : Nat)] = some (rowD r) ∧ r.ok n := fun c => lrow_ok c n hn
  refine ⟨cs.map fun c => Classical.choose (ch c), by rw [List.length_map], fun r hr => ?_, ?_⟩
  · obtain ⟨c, _, rfl⟩ := List.mem_map.mp hr
    exact (Classical.choose_spec (ch c)).2
  · unfold rsD
    rw [List.map_map]
    exact comp_map (h := PyData.int) (k := fun c => rowD (Classical.choose (ch c))) (xs := cs) (p1_i S n k _ z1 z3 z4 z5 z6 z7 ek sl) (by lia) fun c _ => p1_e _ _ _ (Classical.choose_spec (ch c)).1
noncomputable def evT : Row → Bool
  | .turn _ e => decide ((e : Int) % 2 = 0)
  | _ => true
theorem ne_of_eq {a b : D} {c : Bool} (h : eqD a b = some (.bool c)) : neD a b = some (.bool (!c)) := by
  unfold eqD at h
  unfold neD
  split at h
  · rename_i hs
    rw [if_pos hs]
    have h : PyData.eqv a b = c := by simpa using h
    rw [h]
  · cases h
theorem ev_n (R : D) (s : Str) (h0 : ixD R (.int 0) = some (.str s)) (n : eqD (.str s) (.str "turn") = some (.bool false)) : (oOr (ob (o2 (o2 (oV 0) (oC (.int 0)) ixD) (oC (.str "turn")) neD)) (ob (o2 (o2 (o2 (oV 0) (oC (.int 2)) ixD) (oC (.int 2)) modD) (oC (.int 0)) eqD))) [.fz R] = some true := by
  have n := ne_of_eq n
  simp [h0, n]
theorem evT_eq (r : Row) : (oOr (ob (o2 (o2 (oV 0) (oC (.int 0)) ixD) (oC (.str "turn")) neD)) (ob (o2 (o2 (o2 (oV 0) (oC (.int 2)) ixD) (oC (.int 2)) modD) (oC (.int 0)) eqD))) [.fz (rowD r)] = some (evT r) := by
  cases r with
  | turn j e =>
    have h0 : ixD (rowD (.turn j e)) (.int 0) = some (.str "turn") := rfl
    have h2 : ixD (rowD (.turn j e)) (.int 2) = some (.int (e : Nat)) := rfl
    have n : neD (.str "turn") (.str "turn") = some (.bool false) := ne_of_eq (c := true) (by simp)
    have q : ((((e : Nat) : Int) % 2 == 0) : Bool) = decide ((e : Int) % 2 = 0) := rfl
    simp [h0, h2, n, evT, q]
  | swing j => exact ev_n _ "swing" rfl (by simp)
  | flip j => exact ev_n _ "flip" rfl (by simp)
  | tie i j => exact ev_n _ "tie" rfl (by simp)
  | sign i j => exact ev_n _ "sign" rfl (by simp)
  | cross i j => exact ev_n _ "cross" rfl (by simp)
theorem p2_eq (rs : List Row) (hl : rs.length ≤ 1000) (z0 z1 z2 z3 z5 z6 z7 : Sl) : p2_law [z0, z1, z2, z3, .fz (rsD rs), z5, z6, z7] = some (rsD (rs.filter evT)) :=
  compI_map (h := rowD) (b := evT) (by simp [rsD]) (by lia) (fun r _ => evT_eq r) fun r _ _ => rfl
theorem a1 (S : D) (c : D) (h : g__law_cell_at [S, .int 0] = some c) : st_1 [.fz S, .un, .un, .un, .un, .un, .un, .un] = some (.nx, [.fz S, .fz c, .un, .un, .un, .un, .un, .un]) := by
  simp [st_1, h]
theorem a2 (z0 : Sl) (c w : Int) (h : 1 + c % 3 = w) : st_2 [z0, .fz (.int c), .un, .un, .un, .un, .un, .un] = some (.nx, [z0, .fz (.int c), .fz (.int w), .un, .un, .un, .un, .un]) := by
  subst h
  simp [st_2]
theorem a3 (z0 : Sl) (c w x k : Int) (e : atI [PyData.int 25, .int 13, .int 7] (w - 1) = some (.int x)) (h : modD (.int (c / 3)) (.int x) = some (.int k)) : st_3 [z0, .fz (.int c), .fz (.int w), .un, .un, .un, .un, .un] = some (.nx, [z0, .fz (.int c), .fz (.int w), .fz (.int k), .un, .un, .un, .un]) := by
  simp [st_3, e, h]
theorem a4 (z0 z1 z2 z3 : Sl) (R : D) (h : p1_law [z0, z1, z2, z3, .un, .un, .un, .un] = some R) : st_4 [z0, z1, z2, z3, .un, .un, .un, .un] = some (.nx, [z0, z1, z2, z3, .fz R, .un, .un, .un]) := by
  simp [st_4, h]
theorem a5 (z0 z2 z3 : Sl) (c : Int) (R R2 : D) (h : p2_law [z0, .fz (.int c), z2, z3, .fz R, .un, .un, .un] = some R2) : st_5 [z0, .fz (.int c), z2, z3, .fz R, .un, .un, .un] = some (.nx, [z0, .fz (.int c), z2, z3, .fz (if c / 5 % 2 = 0 then R2 else R), .un, .un, .un]) := by
  by_cases q : c / 5 % 2 = 0
  · simp [st_5, h, q]
  · simp [st_5, q]
theorem a6 (z0 : Sl) (c w k : Int) (R R2 : D) (h : slD R none (some 2) = some R2) : st_6 [z0, .fz (.int c), .fz (.int w), .fz (.int k), .fz R, .un, .un, .un] = some (.nx, [z0, .fz (.int c), .fz (.int w), .fz (.int (if w = 1 ∧ c / 21 % 6 = 3 then 100 - c / 126 % 5 else k)), .fz (if w = 1 ∧ c / 21 % 6 = 3 then R2 else R), .un, .un, .un]) := by
  by_cases q : w = 1
  · by_cases p : c / 21 % 6 = 3
    · simp [st_6, h, q, p]
    · simp [st_6, q, p]
  · simp [st_6, q]
theorem a7 (z0 z1 z3 : Sl) (w : D) (L : List D) : st_7 [z0, z1, .fz w, z3, .fz (.list L), .un, .un, .un] = some (.nx, [z0, z1, .fz w, z3, .fz (.list L), .fz (.tuple [w, .tuple L]), .un, .un]) := by
  simp [st_7]
theorem a8y (z0 z2 z4 : Sl) (c k : Int) (C : D) (q : c / 7 % 6 = 1) (h : g__law_refused [C, .int (c / 42), .int k] = some (.bool true)) : st_8 [z0, .fz (.int c), z2, .fz (.int k), z4, .fz C, .un, .un] = some (.rt (.bool true), [z0, .fz (.int c), z2, .fz (.int k), z4, .fz C, .un, .un]) := by
  simp [st_8, q, h]
theorem a8n (z0 z2 z3 z4 z5 : Sl) (c : Int) (q : ¬ c / 7 % 6 = 1) : st_8 [z0, .fz (.int c), z2, z3, z4, z5, .un, .un] = some (.nx, [z0, .fz (.int c), z2, z3, z4, z5, .un, .un]) := by
  simp [st_8, q]
theorem a9 (z0 z1 z2 z4 : Sl) (k C F : D) (h : g_round_of [C, k] = some F) : st_9 [z0, z1, z2, .fz k, z4, .fz C, .un, .un] = some (.nx, [z0, z1, z2, .fz k, z4, .fz C, .fz F, .un]) := by
  simp [st_9, h]
theorem a10 (z0 z1 z2 z4 z6 : Sl) (k C F : D) (h : g__law_due [C, k] = some F) : st_10 [z0, z1, z2, .fz k, z4, .fz C, z6, .un] = some (.nx, [z0, z1, z2, .fz k, z4, .fz C, z6, .fz F]) := by
  simp [st_10, h]
theorem a11n (z0 z1 z2 z3 z4 z5 : Sl) : st_11 [z0, z1, z2, z3, z4, z5, .fz .none, .fz .none] = some (.rt (.bool true), [z0, z1, z2, z3, z4, z5, .fz .none, .fz .none]) := by
  simp [st_11]
theorem a11s (z0 z1 z2 z3 z4 z5 z6 : Sl) (i : Int) : st_11 [z0, z1, z2, z3, z4, z5, z6, .fz (.int i)] = some (.nx, [z0, z1, z2, z3, z4, z5, z6, .fz (.int i)]) := by
  simp [st_11]
theorem a12 (z0 z1 z2 z3 z4 z5 : Sl) (i : Int) : st_12 [z0, z1, z2, z3, z4, z5, .fz (.int i), .fz (.int i)] = some (.rt (.bool true), [z0, z1, z2, z3, z4, z5, .fz (.int i), .fz (.int i)]) := by
  simp [st_12, asB]
theorem run_rt {N : List Str} {n : Nat} {b : Sf} {as : List D} {d : D} (hl : as.length = n) (h : ∃ δ, b (startD N as) = some (.rt d, δ)) : runB N n b as = some d := by
  obtain ⟨δ, h⟩ := h
  exact nrun hl h
theorem law_end {n : Nat} (h1 : 1 ≤ n) (hn : n ≤ 3) (rs : List Row) (hr : ∀ r ∈ rs, r.ok n) (hl : rs.length ≤ 240) (m : Nat) (hm : m ≤ 1000) (hml : m * rs.length ≤ 240) (z0 : Sl) (c : Int) : ∃ δ, (sSeq st_7 (sSeq st_8 (sSeq st_9 (sSeq st_10 (sSeq st_11 (st_12)))))) [z0, .fz (.int c), .fz (.int (n : Nat)), .fz (.int (m : Nat)), .fz (rsD rs), .un, .un, .un] = some (.rt (.bool true), δ) := by
  have e7 := a7 z0 (.fz (.int c)) (.fz (.int (m : Nat))) (.int (n : Nat)) (rs.map rowD)
  by_cases q : c / 7 % 6 = 1
  · exact ⟨_, (nseq e7).trans (nret (a8y _ _ _ _ _ _ q (refused_eq h1 rs (by lia) _ _)))⟩
  · have f := round_eq hn rs hr hl m hm hml
    have d := due_eq (by lia) rs hr hl m hm
    have go : (sSeq st_7 (sSeq st_8 (sSeq st_9 (sSeq st_10 (sSeq st_11 (st_12)))))) [z0, .fz (.int c), .fz (.int (n : Nat)), .fz (.int (m : Nat)), .fz (rsD rs), .un, .un, .un] = (sSeq st_11 (st_12)) [z0, .fz (.int c), .fz (.int (n : Nat)), .fz (.int (m : Nat)), .fz (rsD rs), .fz (cpD n rs), .fz (outD (fstO (ScB n rs) 1 m)), .fz (outD (fstO (ScB n rs) 1 m))] := (nseq e7).trans ((nseq (a8n _ _ _ _ _ _ q)).trans ((nseq (a9 _ _ _ _ _ _ _ f)).trans (nseq (a10 _ _ _ _ _ _ _ _ d))))
    cases o : fstO (ScB n rs) 1 m with
    | none =>
      rw [o] at go
      exact ⟨_, go.trans (nret (a11n _ _ _ _ _ _))⟩
    | some i =>
      rw [o] at go
      exact ⟨_, go.trans ((nseq (a11s _ _ _ _ _ _ _ _)).trans (a12 _ _ _ _ _ _ _))⟩
theorem law_true (ns : List Int) (hl : ns.length ≤ 63) : g_law [.list (ns.map .int)] = some (.bool true) := by
  obtain ⟨c, hc⟩ := lcell_eq ns 0 (by decide)
  obtain ⟨n, hw⟩ : ∃ w : Nat, 1 + c % 3 = (w : Int) := ⟨(1 + c % 3).toNat, by lia⟩
  have n13 : 1 ≤ n ∧ n ≤ 3 := by lia
  obtain ⟨x, y, ex, ey, hx1, hy, hxy⟩ : ∃ x y : Nat, atI [PyData.int 25, .int 13, .int 7] ((n : Int) - 1) = some (.int (x : Nat)) ∧ atI [PyData.int 10, .int 6, .int 4] ((n : Int) - 1) = some (.int (y : Nat)) ∧ 1 ≤ x ∧ y ≤ 10 ∧ (x - 1) * y ≤ 240 ∧ x ≤ 25 := by
    rcases (by lia : n = 1 ∨ n = 2 ∨ n = 3) with rfl | rfl | rfl
    · exact ⟨25, 10, rfl, rfl, by decide, by decide, by decide, by decide⟩
    · exact ⟨13, 6, rfl, rfl, by decide, by decide, by decide, by decide⟩
    · exact ⟨7, 4, rfl, rfl, by decide, by decide, by decide, by decide⟩
  obtain ⟨k, hk, ek, _⟩ := mod_nat (c / 3) x hx1
  obtain ⟨cs, hcl, hsl⟩ := cut_1 ns y
  obtain ⟨rs, rl, ro, P1⟩ := p1_eq n n13.1 (.list (ns.map .int)) cs (by lia) y (.fz (.int c)) (.fz (.int (k : Nat))) .un .un .un .un ey hsl
  have P2 := p2_eq rs (by lia) (.fz (.list (ns.map .int))) (.fz (.int c)) (.fz (.int (n : Nat))) (.fz (.int (k : Nat))) .un .un .un
  have go : b_law (startD N_law [.list (ns.map .int)]) = (sSeq st_6 (sSeq st_7 (sSeq st_8 (sSeq st_9 (sSeq st_10 (sSeq st_11 (st_12))))))) [.fz (.list (ns.map .int)), .fz (.int c), .fz (.int (n : Nat)), .fz (.int (k : Nat)), .fz (if c / 5 % 2 = 0 then rsD (rs.filter evT) else rsD rs), .un, .un, .un] :=
    (congrFun law_st _).trans ((nseq (a1 _ _ hc)).trans ((nseq (a2 _ _ _ hw)).trans ((nseq (a3 _ _ _ _ _ ex ek)).trans ((nseq (a4 _ _ _ _ _ P1)).trans (nseq (a5 _ _ _ _ _ _ P2))))))
  obtain ⟨qs, eq, ql, qo⟩ : ∃ qs : List Row, (if c / 5 % 2 = 0 then rsD (rs.filter evT) else rsD rs) = rsD qs ∧ qs.length ≤ y ∧ ∀ r ∈ qs, r.ok n := by
    by_cases q : c / 5 % 2 = 0
    · exact ⟨rs.filter evT, if_pos q, Nat.le_trans (List.length_filter_le _ _) (by lia), fun r h => ro r (List.mem_filter.mp h).1⟩
    · exact ⟨rs, if_neg q, by lia, ro⟩
  rw [eq] at go
  have S6 := a6 (.fz (.list (ns.map .int))) c n k (rsD qs) _ (cut_to _ 2)
  refine run_rt (N := N_law) (n := 1) (b := b_law) rfl ?_
  rw [go]
  by_cases q : (n : Int) = 1 ∧ c / 21 % 6 = 3
  · rw [if_pos q, if_pos q] at S6
    obtain ⟨m, hm⟩ : ∃ m : Nat, 100 - c / 126 % 5 = (m : Int) := ⟨(100 - c / 126 % 5).toNat, by lia⟩
    rw [hm, ← List.map_take] at S6
    have tl : (qs.take 2).length ≤ 2 := by rw [List.length_take]; lia
    obtain ⟨δ, h⟩ := law_end n13.1 n13.2 (qs.take 2) (fun r h => qo r (List.mem_of_mem_take h)) (by lia) m (by lia) (by have := Nat.mul_le_mul (show m ≤ 100 by lia) tl; lia) (.fz (.list (ns.map .int))) c
    exact ⟨δ, (nseq S6).trans h⟩
  · rw [if_neg q, if_neg q] at S6
    obtain ⟨δ, h⟩ := law_end n13.1 n13.2 qs qo (by lia) k (by lia) (Nat.le_trans (Nat.mul_le_mul (by lia : k ≤ x - 1) ql) hxy.1) (.fz (.list (ns.map .int))) c
    exact ⟨δ, (nseq S6).trans h⟩


end GN
namespace GN
open PySem PySem.Spec PyProof.Rows L2 VL
structure Txt (mg : Str → Option Value) : Prop where
  min : mg "min" = none
  max : mg "max" = none
  range : mg "range" = none
  tuple : mg "tuple" = none
  len : mg "len" = none
  all : mg "all" = none
  list : mg "list" = none
  isinstance : mg "isinstance" = none
  int : mg "int" = none
  bool : mg "bool" = none
section
variable {P : Program} {w : World} {K : PySem.W.Frag} {mg : Str → Option Value} {base : Heap}
theorem sc_twos_shared : FnScope N_twos_shared ["joined", "most"] (defScope s_twos_shared) := ⟨rfl, rfl, rfl, by decide +kernel, rfl, by decide +kernel, by decide +kernel⟩
theorem ok_twos_shared {f : Addr} {fd : FuncData} {dV : Value} (F : FunV K "twos_shared" "twos_shared" s_twos_shared f fd dV) (T : Txt mg) : FnOk P w K mg base CX0 1 f fd ["joined", "most"] (spD K g_twos_shared) :=
  fn_b (k := 0) (b := b_twos_shared) F sc_twos_shared fun cdv A outer s H E hr => (bv_cons (sv_if (tv_cmp (d_eq hr.units) (ev_var 0) ev_int (nomark _)) (bv_one (sv_ret (ev_var 1))) bv_nil) (bv_one (sv_ret (ev_callB (c_min rfl) rfl T.min (by decide +kernel) (av_cons (ev_var 1) (av_cons (ev_op d_sub (ev_bits (ev_op d_and (ev_var 0) (ev_un d_neg (ev_var 0)))) ev_int) av_nil))))))
theorem sc_by_root : FnScope N_by_root ["a", "b", "c", "d"] (defScope s_by_root) := ⟨rfl, rfl, rfl, by decide +kernel, rfl, by decide +kernel, by decide +kernel⟩
theorem ok_by_root {f : Addr} {fd : FuncData} {dV : Value} (F : FunV K "by_root" "by_root" s_by_root f fd dV) (T : Txt mg) : FnOk P w K mg base CX0 1 f fd ["a", "b", "c", "d"] (spD K g_by_root) :=
  fn_b (k := 0) (b := b_by_root) F sc_by_root fun cdv A outer s H E hr => (bv_one (sv_ret (ev_tup (av_cons (ev_op d_sub (ev_var 1) (ev_var 3)) (av_cons (ev_op d_add (ev_var 0) (ev_var 2)) (av_cons (ev_op d_add (ev_var 1) (ev_var 3)) (av_cons (ev_op d_sub (ev_var 2) (ev_var 0)) av_nil)))))))
theorem sc_number : FnScope N_number ["a", "b", "c", "d", "k"] (defScope s_number) := ⟨rfl, rfl, rfl, by decide +kernel, rfl, by decide +kernel, by decide +kernel⟩
theorem ok_number {f : Addr} {fd : FuncData} {dV : Value} (F : FunV K "number" "number" s_number f fd dV) (T : Txt mg) (C_twos_shared : Cal P w K mg base "twos_shared" 1 g_twos_shared []) (C_by_root : Cal P w K mg base "by_root" 1 g_by_root []) : FnOk P w K mg base CX0 2 f fd ["a", "b", "c", "d", "k"] (spD K g_number) :=
  fn_b (k := 1) (b := b_number) F sc_number fun cdv A outer s H E hr => (bv_cons (sv_set 5 sc_number.nd (ev_def0 C_twos_shared (hr.mono (by decide)) rfl (av_cons (ev_op d_or (ev_op d_or (ev_op d_or (ev_var 0) (ev_var 1)) (ev_var 2)) (ev_var 3)) (av_cons (ev_op d_div (ev_var 4) ev_int) av_nil)))) (bv_cons (sv_set 0 sc_number.nd (ev_op d_shr (ev_var 0) (ev_var 5))) (bv_cons (sv_set 1 sc_number.nd (ev_op d_shr (ev_var 1) (ev_var 5))) (bv_cons (sv_set 2 sc_number.nd (ev_op d_shr (ev_var 2) (ev_var 5))) (bv_cons (sv_set 3 sc_number.nd (ev_op d_shr (ev_var 3) (ev_var 5))) (bv_cons (sv_set 4 sc_number.nd (ev_op d_sub (ev_var 4) (ev_op d_mulI ev_int (ev_var 5)))) (bv_cons (sv_if (WV.tv (wv_or (tv_cmp (d_eq hr.units) (ev_var 4) ev_int (nomark _)) (wv_or (tv_cmp (d_eq hr.units) (ev_op d_mod (ev_op d_sub (ev_var 0) (ev_var 2)) ev_int) ev_int (nomark _)) (wv_or1 (tv_cmp (d_eq hr.units) (ev_op d_mod (ev_op d_sub (ev_var 1) (ev_var 3)) ev_int) ev_int (nomark _)))))) (bv_one (sv_ret (ev_tup (av_cons (ev_var 0) (av_cons (ev_var 1) (av_cons (ev_var 2) (av_cons (ev_var 3) (av_cons (ev_var 4) av_nil)))))))) bv_nil) (bv_cons (sv_set 6 sc_number.nd (ev_def0 C_by_root (hr.mono (by decide)) rfl (av_cons (ev_var 0) (av_cons (ev_var 1) (av_cons (ev_var 2) (av_cons (ev_var 3) av_nil)))))) (bv_one (sv_ret (ev_tup (av_cons (ev_op d_div (ev_ix d_ix (ev_var 6) ev_int (fun _ _ => rfl)) ev_int) (av_cons (ev_op d_div (ev_ix d_ix (ev_var 6) ev_int (fun _ _ => rfl)) ev_int) (av_cons (ev_op d_div (ev_ix d_ix (ev_var 6) ev_int (fun _ _ => rfl)) ev_int) (av_cons (ev_op d_div (ev_ix d_ix (ev_var 6) ev_int (fun _ _ => rfl)) ev_int) (av_cons (ev_op d_sub (ev_var 4) ev_int) av_nil))))))))))))))))
theorem sc_parts_over : FnScope N_parts_over ["x", "k"] (defScope s_parts_over) := ⟨rfl, rfl, rfl, by decide +kernel, rfl, by decide +kernel, by decide +kernel⟩
theorem ok_parts_over {f : Addr} {fd : FuncData} {dV : Value} (F : FunV K "parts_over" "parts_over" s_parts_over f fd dV) (T : Txt mg) (C_by_root : Cal P w K mg base "by_root" 1 g_by_root []) : FnOk P w K mg base CX0 2 f fd ["x", "k"] (spD K g_parts_over) :=
  fn_b (k := 1) (b := b_parts_over) F sc_parts_over fun cdv A outer s H E hr => (bv_cons (sv_set 2 sc_parts_over.nd (ev_op d_sub (ev_var 1) (ev_ix d_ix (ev_var 0) ev_int (fun _ _ => rfl)))) (bv_cons (sv_set 3 sc_parts_over.nd (ev_op d_div (ev_var 2) ev_int)) (bv_cons (sv_set 4 sc_parts_over.nd (ev_op d_shl (ev_ix d_ix (ev_var 0) ev_int (fun _ _ => rfl)) (ev_var 3))) (bv_cons (sv_set 5 sc_parts_over.nd (ev_op d_shl (ev_ix d_ix (ev_var 0) ev_int (fun _ _ => rfl)) (ev_var 3))) (bv_cons (sv_set 6 sc_parts_over.nd (ev_op d_shl (ev_ix d_ix (ev_var 0) ev_int (fun _ _ => rfl)) (ev_var 3))) (bv_cons (sv_set 7 sc_parts_over.nd (ev_op d_shl (ev_ix d_ix (ev_var 0) ev_int (fun _ _ => rfl)) (ev_var 3))) (bv_cons (sv_if (tv_cmp (d_eq hr.units) (ev_op d_mod (ev_var 2) ev_int) ev_int (nomark _)) (bv_one (sv_ret (ev_def0 C_by_root (hr.mono (by decide)) rfl (av_cons (ev_var 4) (av_cons (ev_var 5) (av_cons (ev_var 6) (av_cons (ev_var 7) av_nil))))))) bv_nil) (bv_one (sv_ret (ev_tup (av_cons (ev_var 4) (av_cons (ev_var 5) (av_cons (ev_var 6) (av_cons (ev_var 7) av_nil))))))))))))))
theorem sc_plus : FnScope N_plus ["x", "y"] (defScope s_plus) := ⟨rfl, rfl, rfl, by decide +kernel, rfl, by decide +kernel, by decide +kernel⟩
theorem ok_plus {f : Addr} {fd : FuncData} {dV : Value} (F : FunV K "plus" "plus" s_plus f fd dV) (T : Txt mg) (C_parts_over : Cal P w K mg base "parts_over" 2 g_parts_over []) (C_number : Cal P w K mg base "number" 2 g_number []) : FnOk P w K mg base CX0 3 f fd ["x", "y"] (spD K g_plus) :=
  fn_b (k := 2) (b := b_plus) F sc_plus fun cdv A outer s H E hr => (bv_cons (sv_set 2 sc_plus.nd (ev_callB (c_max rfl) rfl T.max (by decide +kernel) (av_cons (ev_ix d_ix (ev_var 0) ev_int (fun _ _ => rfl)) (av_cons (ev_ix d_ix (ev_var 1) ev_int (fun _ _ => rfl)) av_nil)))) (bv_cons (sv_set 3 sc_plus.nd (ev_def0 C_parts_over (hr.mono (by decide)) rfl (av_cons (ev_var 0) (av_cons (ev_var 2) av_nil)))) (bv_cons (sv_set 4 sc_plus.nd (ev_def0 C_parts_over (hr.mono (by decide)) rfl (av_cons (ev_var 1) (av_cons (ev_var 2) av_nil)))) (bv_one (sv_ret (ev_def0 C_number (hr.mono (by decide)) rfl (av_cons (ev_op d_add (ev_ix d_ix (ev_var 3) ev_int (fun _ _ => rfl)) (ev_ix d_ix (ev_var 4) ev_int (fun _ _ => rfl))) (av_cons (ev_op d_add (ev_ix d_ix (ev_var 3) ev_int (fun _ _ => rfl)) (ev_ix d_ix (ev_var 4) ev_int (fun _ _ => rfl))) (av_cons (ev_op d_add (ev_ix d_ix (ev_var 3) ev_int (fun _ _ => rfl)) (ev_ix d_ix (ev_var 4) ev_int (fun _ _ => rfl))) (av_cons (ev_op d_add (ev_ix d_ix (ev_var 3) ev_int (fun _ _ => rfl)) (ev_ix d_ix (ev_var 4) ev_int (fun _ _ => rfl))) (av_cons (ev_var 2) av_nil)))))))))))
theorem sc_against : FnScope N_against ["x"] (defScope s_against) := ⟨rfl, rfl, rfl, by decide +kernel, rfl, by decide +kernel, by decide +kernel⟩
theorem ok_against {f : Addr} {fd : FuncData} {dV : Value} (F : FunV K "against" "against" s_against f fd dV) (T : Txt mg) : FnOk P w K mg base CX0 1 f fd ["x"] (spD K g_against) :=
  fn_b (k := 0) (b := b_against) F sc_against fun cdv A outer s H E hr => (bv_one (sv_ret (ev_tup (av_cons (ev_un d_neg (ev_ix d_ix (ev_var 0) ev_int (fun _ _ => rfl))) (av_cons (ev_un d_neg (ev_ix d_ix (ev_var 0) ev_int (fun _ _ => rfl))) (av_cons (ev_un d_neg (ev_ix d_ix (ev_var 0) ev_int (fun _ _ => rfl))) (av_cons (ev_un d_neg (ev_ix d_ix (ev_var 0) ev_int (fun _ _ => rfl))) (av_cons (ev_ix d_ix (ev_var 0) ev_int (fun _ _ => rfl)) av_nil))))))))
theorem sc_turned : FnScope N_turned ["x", "e"] (defScope s_turned) := ⟨rfl, rfl, rfl, by decide +kernel, rfl, by decide +kernel, by decide +kernel⟩
theorem ok_turned {f : Addr} {fd : FuncData} {dV : Value} (F : FunV K "turned" "turned" s_turned f fd dV) (T : Txt mg) : FnOk P w K mg base CX0 1 f fd ["x", "e"] (spD K g_turned) :=
  fn_b (k := 0) (b := b_turned) F sc_turned fun cdv A outer s H E hr => (bv_cons (sv_set 2 sc_turned.nd (ev_tup (av_cons (ev_ix d_ix (ev_var 0) ev_int (fun _ _ => rfl)) (av_cons (ev_ix d_ix (ev_var 0) ev_int (fun _ _ => rfl)) (av_cons (ev_ix d_ix (ev_var 0) ev_int (fun _ _ => rfl)) (av_cons (ev_ix d_ix (ev_var 0) ev_int (fun _ _ => rfl)) (av_cons (ev_un d_neg (ev_ix d_ix (ev_var 0) ev_int (fun _ _ => rfl))) (av_cons (ev_un d_neg (ev_ix d_ix (ev_var 0) ev_int (fun _ _ => rfl))) (av_cons (ev_un d_neg (ev_ix d_ix (ev_var 0) ev_int (fun _ _ => rfl))) (av_cons (ev_un d_neg (ev_ix d_ix (ev_var 0) ev_int (fun _ _ => rfl))) av_nil)))))))))) (bv_one (sv_ret (ev_tup (av_cons (ev_ix d_ix (ev_var 2) (ev_op d_mod (ev_op d_sub ev_int (ev_var 1)) ev_int) (fun _ _ => rfl)) (av_cons (ev_ix d_ix (ev_var 2) (ev_op d_mod (ev_op d_sub ev_int (ev_var 1)) ev_int) (fun _ _ => rfl)) (av_cons (ev_ix d_ix (ev_var 2) (ev_op d_mod (ev_op d_sub ev_int (ev_var 1)) ev_int) (fun _ _ => rfl)) (av_cons (ev_ix d_ix (ev_var 2) (ev_op d_mod (ev_op d_sub ev_int (ev_var 1)) ev_int) (fun _ _ => rfl)) (av_cons (ev_ix d_ix (ev_var 0) ev_int (fun _ _ => rfl)) av_nil)))))))))
theorem sc_halved : FnScope N_halved ["x"] (defScope s_halved) := ⟨rfl, rfl, rfl, by decide +kernel, rfl, by decide +kernel, by decide +kernel⟩
theorem ok_halved {f : Addr} {fd : FuncData} {dV : Value} (F : FunV K "halved" "halved" s_halved f fd dV) (T : Txt mg) (C_number : Cal P w K mg base "number" 2 g_number []) : FnOk P w K mg base CX0 3 f fd ["x"] (spD K g_halved) :=
  fn_b (k := 2) (b := b_halved) F sc_halved fun cdv A outer s H E hr => (bv_one (sv_ret (ev_def0 C_number (hr.mono (by decide)) rfl (av_cons (ev_ix d_ix (ev_var 0) ev_int (fun _ _ => rfl)) (av_cons (ev_ix d_ix (ev_var 0) ev_int (fun _ _ => rfl)) (av_cons (ev_ix d_ix (ev_var 0) ev_int (fun _ _ => rfl)) (av_cons (ev_ix d_ix (ev_var 0) ev_int (fun _ _ => rfl)) (av_cons (ev_op d_add (ev_ix d_ix (ev_var 0) ev_int (fun _ _ => rfl)) ev_int) av_nil))))))))
theorem sc_worth : FnScope N_worth ["wires", "wire"] (defScope s_worth) := ⟨rfl, rfl, rfl, by decide +kernel, rfl, by decide +kernel, by decide +kernel⟩
theorem ok_worth {f : Addr} {fd : FuncData} {dV : Value} (F : FunV K "worth" "worth" s_worth f fd dV) (T : Txt mg) : FnOk P w K mg base CX0 1 f fd ["wires", "wire"] (spD K g_worth) :=
  fn_b (k := 0) (b := b_worth) F sc_worth fun cdv A outer s H E hr => (bv_one (sv_ret (ev_op d_shl ev_int (ev_op d_sub (ev_op d_sub (ev_var 0) ev_int) (ev_var 1)))))
theorem sc_swung : FnScope N_swung ["state", "bit"] (defScope s_swung) := ⟨rfl, rfl, rfl, by decide +kernel, rfl, by decide +kernel, by decide +kernel⟩
theorem ok_swung {f : Addr} {fd : FuncData} {dV : Value} (F : FunV K "swung" "swung" s_swung f fd dV) (T : Txt mg) (C_halved : Cal P w K mg base "halved" 3 g_halved []) (C_plus : Cal P w K mg base "plus" 3 g_plus []) (C_against : Cal P w K mg base "against" 1 g_against []) : FnOk P w K mg base CX0 4 f fd ["state", "bit"] (spD K g_swung) :=
  fn_b (k := 3) (b := b_swung) F sc_swung fun cdv A outer s H E hr => (bv_cons (sv_own 2 sc_swung.nd av_nil) (bv_cons (sv_for PassesOwn.never rfl (iv_range1 rfl T.range (av_cons (ev_callB c_len rfl T.len (by decide +kernel) (av_cons (ev_var 0) av_nil)) av_nil)) (gv_name 3 sc_swung.nd) (bv_one (sv_if (tv_cmp (d_eq hr.units) (ev_op d_and (ev_var 3) (ev_var 1)) ev_int (nomark _)) (bv_one (sv_app 2 (ev_def0 C_halved (hr.mono (by decide)) rfl (av_cons (ev_def0 C_plus (hr.mono (by decide)) rfl (av_cons (ev_ix d_ix (ev_var 0) (ev_var 3) (fun _ _ => rfl)) (av_cons (ev_ix d_ix (ev_var 0) (ev_op d_xor (ev_var 3) (ev_var 1)) (fun _ _ => rfl)) av_nil))) av_nil)))) (bv_one (sv_app 2 (ev_def0 C_halved (hr.mono (by decide)) rfl (av_cons (ev_def0 C_plus (hr.mono (by decide)) rfl (av_cons (ev_ix d_ix (ev_var 0) (ev_op d_xor (ev_var 3) (ev_var 1)) (fun _ _ => rfl)) (av_cons (ev_def0 C_against (hr.mono (by decide)) rfl (av_cons (ev_ix d_ix (ev_var 0) (ev_var 3) (fun _ _ => rfl)) av_nil)) av_nil))) av_nil))))))) (bv_one (sv_fz 2 (sv_ret (ev_callTy c_tuple rfl T.tuple (by decide +kernel) (av_cons (ev_var 2) av_nil)))))))
theorem sc_turned_where : FnScope N_turned_where ["state", "held", "e"] (defScope s_turned_where) := ⟨rfl, rfl, rfl, by decide +kernel, rfl, by decide +kernel, by decide +kernel⟩
theorem ok_turned_where {f : Addr} {fd : FuncData} {dV : Value} (F : FunV K "turned_where" "turned_where" s_turned_where f fd dV) (T : Txt mg) (C_turned : Cal P w K mg base "turned" 1 g_turned []) : FnOk P w K mg base CX0 2 f fd ["state", "held", "e"] (spD K g_turned_where) :=
  fn_b (k := 1) (b := b_turned_where) F sc_turned_where fun cdv A outer s H E hr => (bv_one (sv_ret (ev_callTy c_tuple rfl T.tuple (by decide +kernel) (av_cons (ev_comp (vars := ["p"]) (caps := [(0, "state"), (1, "held"), (2, "e")]) (by change BlkOk (defScope s_turned_where).names N_turned_where _ _ _; exact ⟨rfl, by decide +kernel, by decide +kernel, by decide +kernel, by decide +kernel⟩) rfl (iv_range1 rfl T.range (av_cons (ev_callB c_len rfl T.len (by decide +kernel) (av_cons (ev_var 0) av_nil)) av_nil)) tg_one (fun _ _ _ _ => pg_name (i := 0) (show (["p", "state", "held", "e"] : List Str).Nodup by decide +kernel) rfl (Or.inl rfl) (.inr rfl)) (fun _ _ _ _ => (ev_ifx (tv_cmp (d_eq hr.units) (ev_op d_and (ev_var 0) (ev_var 2)) (ev_var 2) (nomark _)) (ev_def0 C_turned (hr.mono (by decide)) rfl (av_cons (ev_ix d_ix (ev_var 1) (ev_var 0) (fun _ _ => rfl)) (av_cons (ev_var 3) av_nil))) (ev_ix d_ix (ev_var 1) (ev_var 0) (fun _ _ => rfl))))) av_nil))))
theorem sc_flipped_where : FnScope N_flipped_where ["state", "held", "bit"] (defScope s_flipped_where) := ⟨rfl, rfl, rfl, by decide +kernel, rfl, by decide +kernel, by decide +kernel⟩
theorem ok_flipped_where {f : Addr} {fd : FuncData} {dV : Value} (F : FunV K "flipped_where" "flipped_where" s_flipped_where f fd dV) (T : Txt mg) : FnOk P w K mg base CX0 1 f fd ["state", "held", "bit"] (spD K g_flipped_where) :=
  fn_b (k := 0) (b := b_flipped_where) F sc_flipped_where fun cdv A outer s H E hr => (bv_one (sv_ret (ev_callTy c_tuple rfl T.tuple (by decide +kernel) (av_cons (ev_comp (vars := ["p"]) (caps := [(0, "state"), (1, "held"), (2, "bit")]) (by change BlkOk (defScope s_flipped_where).names N_flipped_where _ _ _; exact ⟨rfl, by decide +kernel, by decide +kernel, by decide +kernel, by decide +kernel⟩) rfl (iv_range1 rfl T.range (av_cons (ev_callB c_len rfl T.len (by decide +kernel) (av_cons (ev_var 0) av_nil)) av_nil)) tg_one (fun _ _ _ _ => pg_name (i := 0) (show (["p", "state", "held", "bit"] : List Str).Nodup by decide +kernel) rfl (Or.inl rfl) (.inr rfl)) (fun _ _ _ _ => (ev_ifx (tv_cmp (d_eq hr.units) (ev_op d_and (ev_var 0) (ev_var 2)) (ev_var 2) (nomark _)) (ev_ix d_ix (ev_var 1) (ev_op d_xor (ev_var 0) (ev_var 3)) (fun _ _ => rfl)) (ev_ix d_ix (ev_var 1) (ev_var 0) (fun _ _ => rfl))))) av_nil))))
theorem sc_exchanged : FnScope N_exchanged ["place", "both"] (defScope s_exchanged) := ⟨rfl, rfl, rfl, by decide +kernel, rfl, by decide +kernel, by decide +kernel⟩
theorem ok_exchanged {f : Addr} {fd : FuncData} {dV : Value} (F : FunV K "exchanged" "exchanged" s_exchanged f fd dV) (T : Txt mg) : FnOk P w K mg base CX0 1 f fd ["place", "both"] (spD K g_exchanged) :=
  fn_b (k := 0) (b := b_exchanged) F sc_exchanged fun cdv A outer s H E hr => (bv_one (sv_ret (ev_ifx (tv_cmp d_in (ev_op d_and (ev_var 0) (ev_var 1)) (ev_tup (av_cons ev_int (av_cons (ev_var 1) av_nil))) (by with_unfolding_all rfl)) (ev_var 0) (ev_op d_xor (ev_var 0) (ev_var 1)))))
theorem sc_done : FnScope N_done ["state", "row"] (defScope s_done) := ⟨rfl, rfl, rfl, by decide +kernel, rfl, by decide +kernel, by decide +kernel⟩
theorem ok_done {f : Addr} {fd : FuncData} {dV : Value} (F : FunV K "done" "done" s_done f fd dV) (T : Txt mg) (C_worth : Cal P w K mg base "worth" 1 g_worth []) (C_swung : Cal P w K mg base "swung" 4 g_swung []) (C_turned_where : Cal P w K mg base "turned_where" 2 g_turned_where []) (C_flipped_where : Cal P w K mg base "flipped_where" 1 g_flipped_where []) (C_exchanged : Cal P w K mg base "exchanged" 1 g_exchanged []) : FnOk P w K mg base CX0 5 f fd ["state", "row"] (spD K g_done) :=
  fn_b (k := 4) (b := b_done) F sc_done fun cdv A outer s H E hr => (bv_cons (sv_set 2 sc_done.nd (ev_op d_sub (ev_bits (ev_callB c_len rfl T.len (by decide +kernel) (av_cons (ev_var 0) av_nil))) ev_int)) (bv_cons (sv_set 3 sc_done.nd (ev_def0 C_worth (hr.mono (by decide)) rfl (av_cons (ev_var 2) (av_cons (ev_ix d_ix (ev_var 1) ev_int (fun _ _ => rfl)) av_nil)))) (bv_cons (sv_if (tv_cmp (d_eq hr.units) (ev_ix d_ix (ev_var 1) ev_int (fun _ _ => rfl)) ev_str (nomark _)) (bv_one (sv_ret (ev_def0 C_swung (hr.mono (by decide)) rfl (av_cons (ev_var 0) (av_cons (ev_var 3) av_nil))))) bv_nil) (bv_cons (sv_if (tv_cmp (d_eq hr.units) (ev_ix d_ix (ev_var 1) ev_int (fun _ _ => rfl)) ev_str (nomark _)) (bv_one (sv_ret (ev_def0 C_turned_where (hr.mono (by decide)) rfl (av_cons (ev_var 0) (av_cons (ev_var 3) (av_cons (ev_ix d_ix (ev_var 1) ev_int (fun _ _ => rfl)) av_nil)))))) bv_nil) (bv_cons (sv_if (tv_cmp (d_eq hr.units) (ev_ix d_ix (ev_var 1) ev_int (fun _ _ => rfl)) ev_str (nomark _)) (bv_one (sv_ret (ev_def0 C_flipped_where (hr.mono (by decide)) rfl (av_cons (ev_var 0) (av_cons ev_int (av_cons (ev_var 3) av_nil)))))) bv_nil) (bv_cons (sv_set 4 sc_done.nd (ev_def0 C_worth (hr.mono (by decide)) rfl (av_cons (ev_var 2) (av_cons (ev_ix d_ix (ev_var 1) ev_int (fun _ _ => rfl)) av_nil)))) (bv_cons (sv_if (tv_cmp (d_eq hr.units) (ev_ix d_ix (ev_var 1) ev_int (fun _ _ => rfl)) ev_str (nomark _)) (bv_one (sv_ret (ev_def0 C_flipped_where (hr.mono (by decide)) rfl (av_cons (ev_var 0) (av_cons (ev_var 3) (av_cons (ev_var 4) av_nil)))))) bv_nil) (bv_cons (sv_if (tv_cmp (d_eq hr.units) (ev_ix d_ix (ev_var 1) ev_int (fun _ _ => rfl)) ev_str (nomark _)) (bv_one (sv_ret (ev_def0 C_turned_where (hr.mono (by decide)) rfl (av_cons (ev_var 0) (av_cons (ev_op d_or (ev_var 3) (ev_var 4)) (av_cons ev_int av_nil)))))) bv_nil) (bv_one (sv_ret (ev_callTy c_tuple rfl T.tuple (by decide +kernel) (av_cons (ev_comp (vars := ["p"]) (caps := [(0, "state"), (3, "first"), (4, "second")]) (by change BlkOk (defScope s_done).names N_done _ _ _; exact ⟨rfl, by decide +kernel, by decide +kernel, by decide +kernel, by decide +kernel⟩) rfl (iv_range1 rfl T.range (av_cons (ev_callB c_len rfl T.len (by decide +kernel) (av_cons (ev_var 0) av_nil)) av_nil)) tg_one (fun _ _ _ _ => pg_name (i := 0) (show (["p", "state", "first", "second"] : List Str).Nodup by decide +kernel) rfl (Or.inl rfl) (.inr rfl)) (fun _ _ _ _ => (ev_ix d_ix (ev_var 1) (ev_def0 C_exchanged (hr.mono (by decide)) rfl (av_cons (ev_var 0) (av_cons (ev_op d_or (ev_var 2) (ev_var 3)) av_nil))) (fun _ _ => rfl)))) av_nil))))))))))))
theorem sc_all_done : FnScope N_all_done ["state", "rows"] (defScope s_all_done) := ⟨rfl, rfl, rfl, by decide +kernel, rfl, by decide +kernel, by decide +kernel⟩
theorem ok_all_done {f : Addr} {fd : FuncData} {dV : Value} (F : FunV K "all_done" "all_done" s_all_done f fd dV) (T : Txt mg) (C_done : Cal P w K mg base "done" 5 g_done []) : FnOk P w K mg base CX0 6 f fd ["state", "rows"] (spD K g_all_done) :=
  fn_b (k := 5) (b := b_all_done) F sc_all_done fun cdv A outer s H E hr => (bv_cons (sv_for PassesOwn.never rfl (iv_seq (ev_var 1)) (gv_name 2 sc_all_done.nd) (bv_one (sv_set 0 sc_all_done.nd (ev_def0 C_done (hr.mono (by decide)) rfl (av_cons (ev_var 0) (av_cons (ev_var 2) av_nil)))))) (bv_one (sv_ret (ev_var 0))))
theorem sc_all_plain : FnScope N_all_plain ["rows"] (defScope s_all_plain) := ⟨rfl, rfl, rfl, by decide +kernel, rfl, by decide +kernel, by decide +kernel⟩
theorem ok_all_plain {f : Addr} {fd : FuncData} {dV : Value} (F : FunV K "all_plain" "all_plain" s_all_plain f fd dV) (T : Txt mg) (T_PLAIN : TopV K mg "PLAIN" (.tuple [.str "swing", .str "turn", .str "flip", .str "tie", .str "sign", .str "cross"])) : FnOk P w K mg base CX0 1 f fd ["rows"] (spD K g_all_plain) :=
  fn_b (k := 0) (b := b_all_plain) F sc_all_plain fun cdv A outer s H E hr => (bv_one (sv_ret (ev_callB (c_all rfl) rfl T.all (by decide +kernel) (av_cons (ev_comp (vars := ["row"]) (caps := []) (by change BlkOk (defScope s_all_plain).names N_all_plain _ _ _; exact ⟨rfl, by decide +kernel, by decide +kernel, by decide +kernel, by decide +kernel⟩) rfl (iv_seq (ev_var 0)) tg_one (fun _ _ _ _ => pg_name (i := 0) (show (["row"] : List Str).Nodup by decide +kernel) rfl (Or.inl rfl) (.inr rfl)) (fun _ _ _ _ => (ev_cmp d_in (ev_ix d_ix (ev_var 0) ev_int (fun _ _ => rfl)) (ev_topV T_PLAIN rfl) (by with_unfolding_all rfl)))) av_nil))))
theorem sc_is_plain : FnScope N_is_plain ["circuit"] (defScope s_is_plain) := ⟨rfl, rfl, rfl, by decide +kernel, rfl, by decide +kernel, by decide +kernel⟩
theorem ok_is_plain {f : Addr} {fd : FuncData} {dV : Value} (F : FunV K "is_plain" "is_plain" s_is_plain f fd dV) (T : Txt mg) (C_all_plain : Cal P w K mg base "all_plain" 1 g_all_plain []) : FnOk P w K mg base CX0 2 f fd ["circuit"] (spD K g_is_plain) :=
  fn_b (k := 1) (b := b_is_plain) F sc_is_plain fun cdv A outer s H E hr => (bv_one (sv_ret (ev_def0 C_all_plain (hr.mono (by decide)) rfl (av_cons (ev_ix d_ix (ev_var 0) ev_int (fun _ _ => rfl)) av_nil))))
theorem sc_refuse_apart : FnScope N_refuse_apart ["one", "other"] (defScope s_refuse_apart) := ⟨rfl, rfl, rfl, by decide +kernel, rfl, by decide +kernel, by decide +kernel⟩
theorem okx_refuse_apart {f : Addr} {fd : FuncData} {dV : Value} (F : FunV K "refuse_apart" "refuse_apart" s_refuse_apart f fd dV) (T : Txt mg) (C_is_plain : Cal P w K mg base "is_plain" 2 g_is_plain []) (E_HasLooks : ExcX K "HasLooks") (E_UnlikeWires : ExcX K "UnlikeWires") : FnOk P w K mg base (CXX P w) 3 f fd ["one", "other"] (spX K x_refuse_apart) :=
  fn_x (k := 2) (fx := bx_refuse_apart) F sc_refuse_apart fun cdv A outer s H E hr => (bx_both (sx_if (TV.lift (WV.tv (wv_or (tv_not (tv_val (ev_def0 C_is_plain (hr.mono (by decide)) rfl (av_cons (ev_var 0) av_nil)))) (wv_or1 (tv_not (tv_val (ev_def0 C_is_plain (hr.mono (by decide)) rfl (av_cons (ev_var 1) av_nil)))))))) (bx_here (sx_raise E_HasLooks rfl rfl (EV.lift ev_str))) bx_no) (SV.lift (sv_if (WV.tv (wv_or (tv_not (tv_val (ev_def0 C_is_plain (hr.mono (by decide)) rfl (av_cons (ev_var 0) av_nil)))) (wv_or1 (tv_not (tv_val (ev_def0 C_is_plain (hr.mono (by decide)) rfl (av_cons (ev_var 1) av_nil))))))) (bv_one sv_no) bv_nil)) (bx_here (sx_if (TV.lift (tv_cmp (d_ne hr.units) (ev_ix d_ix (ev_var 0) ev_int (fun _ _ => rfl)) (ev_ix d_ix (ev_var 1) ev_int (fun _ _ => rfl)) (nomark _))) (bx_here (sx_raise E_UnlikeWires rfl rfl (EV.lift ev_str))) bx_no)))
theorem ok_refuse_apart {f : Addr} {fd : FuncData} {dV : Value} (F : FunV K "refuse_apart" "refuse_apart" s_refuse_apart f fd dV) (T : Txt mg) (C_is_plain : Cal P w K mg base "is_plain" 2 g_is_plain []) : FnOk P w K mg base CX0 3 f fd ["one", "other"] (spD K g_refuse_apart) :=
  fn_b (k := 2) (b := b_refuse_apart) F sc_refuse_apart fun cdv A outer s H E hr => (bv_cons (sv_if (WV.tv (wv_or (tv_not (tv_val (ev_def0 C_is_plain (hr.mono (by decide)) rfl (av_cons (ev_var 0) av_nil)))) (wv_or1 (tv_not (tv_val (ev_def0 C_is_plain (hr.mono (by decide)) rfl (av_cons (ev_var 1) av_nil))))))) (bv_one sv_no) bv_nil) (bv_one (sv_if (tv_cmp (d_ne hr.units) (ev_ix d_ix (ev_var 0) ev_int (fun _ _ => rfl)) (ev_ix d_ix (ev_var 1) ev_int (fun _ _ => rfl)) (nomark _)) (bv_one sv_no) bv_nil)))
theorem sc_columns_apart : FnScope N_columns_apart ["circuit", "apart"] (defScope s_columns_apart) := ⟨rfl, rfl, rfl, by decide +kernel, rfl, by decide +kernel, by decide +kernel⟩
theorem ok_columns_apart {f : Addr} {fd : FuncData} {dV : Value} (F : FunV K "columns_apart" "columns_apart" s_columns_apart f fd dV) (T : Txt mg) (C_all_done : Cal P w K mg base "all_done" 6 g_all_done []) : FnOk P w K mg base CX0 7 f fd ["circuit", "apart"] (spD K g_columns_apart) :=
  fn_b (k := 6) (b := b_columns_apart) F sc_columns_apart fun cdv A outer s H E hr => (bv_cons (sv_set 2 sc_columns_apart.nd (ev_callTy c_tuple rfl T.tuple (by decide +kernel) (av_cons (ev_comp (vars := ["b"]) (caps := [(1, "apart")]) (by change BlkOk (defScope s_columns_apart).names N_columns_apart _ _ _; exact ⟨rfl, by decide +kernel, by decide +kernel, by decide +kernel, by decide +kernel⟩) rfl (iv_range1 rfl T.range (av_cons (ev_op d_shl ev_int (ev_ix d_ix (ev_var 0) ev_int (fun _ _ => rfl))) av_nil)) tg_one (fun _ _ _ _ => pg_name (i := 0) (show (["b", "apart"] : List Str).Nodup by decide +kernel) rfl (Or.inl rfl) (.inr rfl)) (fun _ _ _ _ => (ev_tup (av_cons (ev_op d_shl ev_int (ev_op d_mulI (ev_var 1) (ev_var 0))) (av_cons ev_int (av_cons ev_int (av_cons ev_int (av_cons ev_int av_nil)))))))) av_nil))) (bv_one (sv_ret (ev_def0 C_all_done (hr.mono (by decide)) rfl (av_cons (ev_var 2) (av_cons (ev_ix d_ix (ev_var 0) ev_int (fun _ _ => rfl)) av_nil))))))
theorem sc_turn_to : FnScope N_turn_to ["one", "other"] (defScope s_turn_to) := ⟨rfl, rfl, rfl, by decide +kernel, rfl, by decide +kernel, by decide +kernel⟩
theorem ok_turn_to {f : Addr} {fd : FuncData} {dV : Value} (F : FunV K "turn_to" "turn_to" s_turn_to f fd dV) (T : Txt mg) (C_turned : Cal P w K mg base "turned" 1 g_turned []) : FnOk P w K mg base CX0 2 f fd ["one", "other"] (spD K g_turn_to) :=
  fn_b (k := 1) (b := b_turn_to) F sc_turn_to fun cdv A outer s H E hr => (bv_cons (sv_for PassesOwn.never rfl (iv_range1 rfl T.range (av_cons ev_int av_nil)) (gv_name 2 sc_turn_to.nd) (bv_one (sv_if (tv_cmp (d_eq hr.units) (ev_callTy c_tuple rfl T.tuple (by decide +kernel) (av_cons (ev_comp (vars := ["x"]) (caps := [(2, "e")]) (by change BlkOk (defScope s_turn_to).names N_turn_to _ _ _; exact ⟨rfl, by decide +kernel, by decide +kernel, by decide +kernel, by decide +kernel⟩) rfl (iv_seq (ev_var 0)) tg_one (fun _ _ _ _ => pg_name (i := 0) (show (["x", "e"] : List Str).Nodup by decide +kernel) rfl (Or.inl rfl) (.inr rfl)) (fun _ _ _ _ => (ev_def0 C_turned (hr.mono (by decide)) rfl (av_cons (ev_var 0) (av_cons (ev_var 1) av_nil))))) av_nil)) (ev_var 1) (nomark _)) (bv_one (sv_ret (ev_var 2))) bv_nil))) (bv_one (sv_ret ev_non)))
theorem sc_turn_apart : FnScope N_turn_apart ["one", "other"] (defScope s_turn_apart) := ⟨rfl, rfl, rfl, by decide +kernel, rfl, by decide +kernel, by decide +kernel⟩
theorem ok_turn_apart {f : Addr} {fd : FuncData} {dV : Value} (F : FunV K "turn_apart" "turn_apart" s_turn_apart f fd dV) (T : Txt mg) (C_turn_to : Cal P w K mg base "turn_to" 2 g_turn_to []) (C_columns_apart : Cal P w K mg base "columns_apart" 7 g_columns_apart []) : FnOk P w K mg base CX0 8 f fd ["one", "other"] (spD K g_turn_apart) :=
  fn_b (k := 7) (b := b_turn_apart) F sc_turn_apart fun cdv A outer s H E hr => (bv_cons (sv_set 2 sc_turn_apart.nd (ev_callB (c_maxL rfl) rfl T.max (by decide +kernel) (av_cons (ev_comp (vars := ["rows"]) (caps := []) (by change BlkOk (defScope s_turn_apart).names N_turn_apart _ _ _; exact ⟨rfl, by decide +kernel, by decide +kernel, by decide +kernel, by decide +kernel⟩) rfl (iv_seq (ev_tup (av_cons (ev_ix d_ix (ev_var 0) ev_int (fun _ _ => rfl)) (av_cons (ev_ix d_ix (ev_var 1) ev_int (fun _ _ => rfl)) av_nil)))) tg_one (fun _ _ _ _ => pg_name (i := 0) (show (["rows"] : List Str).Nodup by decide +kernel) rfl (Or.inl rfl) (.inr rfl)) (fun _ _ _ _ => (ev_callB c_len rfl T.len (by decide +kernel) (av_cons (ev_compI (vars := ["row"]) (caps := []) (BlkOk.none rfl (by decide +kernel) (by decide +kernel) (by decide +kernel)) rfl (iv_seq (ev_var 0)) tg_one (fun _ _ _ _ => pg_name (i := 0) (show (["row"] : List Str).Nodup by decide +kernel) rfl (Or.inl rfl) (.inr rfl)) (fun _ _ _ _ => (tv_cmp (d_eq hr.units) (ev_ix d_ix (ev_var 0) ev_int (fun _ _ => rfl)) ev_str (nomark _))) (fun _ _ _ _ => (ev_var 0))) av_nil)))) av_nil))) (bv_cons (sv_set 3 sc_turn_apart.nd (ev_op d_add (ev_op d_div (ev_var 2) ev_int) ev_int)) (bv_one (sv_ret (ev_def0 C_turn_to (hr.mono (by decide)) rfl (av_cons (ev_def0 C_columns_apart (hr.mono (by decide)) rfl (av_cons (ev_var 0) (av_cons (ev_var 3) av_nil))) (av_cons (ev_def0 C_columns_apart (hr.mono (by decide)) rfl (av_cons (ev_var 1) (av_cons (ev_var 3) av_nil))) av_nil)))))))
theorem sc_round_of : FnScope N_round_of ["circuit", "most"] (defScope s_round_of) := ⟨rfl, rfl, rfl, by decide +kernel, rfl, by decide +kernel, by decide +kernel⟩
theorem okx_round_of {f : Addr} {fd : FuncData} {dV : Value} (F : FunV K "round_of" "round_of" s_round_of f fd dV) (T : Txt mg) (T_FEW_BITS : TopV K mg "FEW_BITS" (.int 16)) (C_refuse_apart : Cal P w K mg base "refuse_apart" 3 g_refuse_apart []) (C_columns_apart : Cal P w K mg base "columns_apart" 7 g_columns_apart []) (C_all_done : Cal P w K mg base "all_done" 6 g_all_done []) (C_turn_to : Cal P w K mg base "turn_to" 2 g_turn_to []) (C_turn_apart : Cal P w K mg base "turn_apart" 8 g_turn_apart []) (Y_refuse_apart : CalX P w K mg base "refuse_apart" 3 x_refuse_apart []) : FnOk P w K mg base (CXX P w) 9 f fd ["circuit", "most"] (spX K x_round_of) :=
  fn_x (k := 8) (fx := bx_round_of) F sc_round_of fun cdv A outer s H E hr => (bx_next (SV.lift (sv_set 2 sc_round_of.nd (ev_tup (av_cons (ev_ix d_ix (ev_var 0) ev_int (fun _ _ => rfl)) (av_cons (ev_tup av_nil) av_nil))))) (bx_here (sx_expr (ex_def Y_refuse_apart (hr.mono (by decide)) rfl (AV.lift (av_cons (ev_var 0) (av_cons (ev_var 2) av_nil)))))))
theorem ok_round_of {f : Addr} {fd : FuncData} {dV : Value} (F : FunV K "round_of" "round_of" s_round_of f fd dV) (T : Txt mg) (T_FEW_BITS : TopV K mg "FEW_BITS" (.int 16)) (C_refuse_apart : Cal P w K mg base "refuse_apart" 3 g_refuse_apart []) (C_columns_apart : Cal P w K mg base "columns_apart" 7 g_columns_apart []) (C_all_done : Cal P w K mg base "all_done" 6 g_all_done []) (C_turn_to : Cal P w K mg base "turn_to" 2 g_turn_to []) (C_turn_apart : Cal P w K mg base "turn_apart" 8 g_turn_apart []) : FnOk P w K mg base CX0 9 f fd ["circuit", "most"] (spD K g_round_of) :=
  fn_b (k := 8) (b := b_round_of) F sc_round_of fun cdv A outer s H E hr => (bv_cons (sv_set 2 sc_round_of.nd (ev_tup (av_cons (ev_ix d_ix (ev_var 0) ev_int (fun _ _ => rfl)) (av_cons (ev_tup av_nil) av_nil)))) (bv_cons (sv_expr (ev_def0 C_refuse_apart (hr.mono (by decide)) rfl (av_cons (ev_var 0) (av_cons (ev_var 2) av_nil)))) (bv_cons (sv_set 3 sc_round_of.nd (ev_def0 C_columns_apart (hr.mono (by decide)) rfl (av_cons (ev_var 2) (av_cons (ev_topV T_FEW_BITS rfl) av_nil)))) (bv_cons (sv_set 4 sc_round_of.nd (ev_var 3)) (bv_cons (sv_for PassesOwn.never rfl (iv_range2 rfl T.range (av_cons ev_int (av_cons (ev_op d_add (ev_var 1) ev_int) av_nil))) (gv_name 5 sc_round_of.nd) (bv_cons (sv_set 4 sc_round_of.nd (ev_def0 C_all_done (hr.mono (by decide)) rfl (av_cons (ev_var 4) (av_cons (ev_ix d_ix (ev_var 0) ev_int (fun _ _ => rfl)) av_nil)))) (bv_one (sv_if (WV.tv (wv_and (tv_cmp d_isnt (ev_def0 C_turn_to (hr.mono (by decide)) rfl (av_cons (ev_var 3) (av_cons (ev_var 4) av_nil))) ev_non (nomark _)) (wv_and1 (tv_cmp d_isnt (ev_def0 C_turn_apart (hr.mono (by decide)) rfl (av_cons (ev_tup (av_cons (ev_ix d_ix (ev_var 0) ev_int (fun _ _ => rfl)) (av_cons (ev_op d_mulT (ev_ix d_ix (ev_var 0) ev_int (fun _ _ => rfl)) (ev_var 5)) av_nil))) (av_cons (ev_var 2) av_nil))) ev_non (nomark _))))) (bv_one (sv_ret (ev_var 5))) bv_nil)))) (bv_one (sv_ret ev_non)))))))
theorem sc__law_cell_at : FnScope N__law_cell_at ["script", "k"] (defScope s__law_cell_at) := ⟨rfl, rfl, rfl, by decide +kernel, rfl, by decide +kernel, by decide +kernel⟩
theorem ok__law_cell_at {f : Addr} {fd : FuncData} {dV : Value} (F : FunV K "_law_cell_at" "_law_cell_at" s__law_cell_at f fd dV) (T : Txt mg) : FnOk P w K mg base CX0 1 f fd ["script", "k"] (spD K g__law_cell_at) :=
  fn_b (k := 0) (b := b__law_cell_at) F sc__law_cell_at fun cdv A outer s H E hr => (bv_cons (sv_if (tv_cmp d_lt (ev_var 1) (ev_callB c_len rfl T.len (by decide +kernel) (av_cons (ev_var 0) av_nil)) (nomark _)) (bv_one (sv_ret (ev_ix d_ix (ev_var 0) (ev_var 1) (fun _ _ => rfl)))) bv_nil) (bv_one (sv_ret ev_int)))
theorem sc__law_row : FnScope N__law_row ["cell", "wires"] (defScope s__law_row) := ⟨rfl, rfl, rfl, by decide +kernel, rfl, by decide +kernel, by decide +kernel⟩
theorem ok__law_row {f : Addr} {fd : FuncData} {dV : Value} (F : FunV K "_law_row" "_law_row" s__law_row f fd dV) (T : Txt mg) : FnOk P w K mg base CX0 1 f fd ["cell", "wires"] (spD K g__law_row) :=
  fn_b (k := 0) (b := b__law_row) F sc__law_row fun cdv A outer s H E hr => (bv_cons (sv_set 2 sc__law_row.nd (ev_op d_mod (ev_var 0) ev_int)) (bv_cons (sv_set 3 sc__law_row.nd (ev_op d_mod (ev_op d_div (ev_var 0) ev_int) (ev_var 1))) (bv_cons (sv_if (WV.tv (wv_and (tv_cmp (d_eq hr.units) (ev_var 1) ev_int (nomark _)) (wv_and1 (tv_cmp d_gt (ev_var 2) ev_int (nomark _))))) (bv_one (sv_set 2 sc__law_row.nd (ev_op d_mod (ev_var 2) ev_int))) bv_nil) (bv_cons (sv_if (tv_cmp (d_eq hr.units) (ev_var 2) ev_int (nomark _)) (bv_one (sv_ret (ev_tup (av_cons ev_str (av_cons (ev_var 3) (av_cons (ev_op d_add ev_int (ev_op d_mod (ev_op d_div (ev_var 0) ev_int) ev_int)) av_nil)))))) bv_nil) (bv_cons (sv_if (WV.tv (wv_or (tv_cmp (d_eq hr.units) (ev_var 2) ev_int (nomark _)) (wv_or1 (tv_cmp (d_eq hr.units) (ev_var 2) ev_int (nomark _))))) (bv_one (sv_ret (ev_tup (av_cons (ev_ix d_ix (ev_lst (av_cons ev_str (av_cons ev_str (av_cons ev_str av_nil)))) (ev_var 2) (fun _ _ => rfl)) (av_cons (ev_var 3) av_nil))))) bv_nil) (bv_cons (sv_set 4 sc__law_row.nd (ev_op d_mod (ev_op d_add (ev_op d_add (ev_var 3) ev_int) (ev_op d_mod (ev_op d_div (ev_var 0) ev_int) (ev_op d_sub (ev_var 1) ev_int))) (ev_var 1))) (bv_one (sv_ret (ev_tup (av_cons (ev_ix d_ix (ev_lst (av_cons ev_str (av_cons ev_str (av_cons ev_str av_nil)))) (ev_op d_sub (ev_var 2) ev_int) (fun _ _ => rfl)) (av_cons (ev_var 4) (av_cons (ev_var 3) av_nil))))))))))))
theorem sc__law_turned : FnScope N__law_turned ["x", "e"] (defScope s__law_turned) := ⟨rfl, rfl, rfl, by decide +kernel, rfl, by decide +kernel, by decide +kernel⟩
theorem ok__law_turned {f : Addr} {fd : FuncData} {dV : Value} (F : FunV K "_law_turned" "_law_turned" s__law_turned f fd dV) (T : Txt mg) : FnOk P w K mg base CX0 1 f fd ["x", "e"] (spD K g__law_turned) :=
  fn_b (k := 0) (b := b__law_turned) F sc__law_turned fun cdv A outer s H E hr => (bv_cons (sv_for PassesOwn.never rfl (iv_range1 rfl T.range (av_cons (ev_op d_mod (ev_var 1) ev_int) av_nil)) (gv_name 2 sc__law_turned.nd) (bv_one (sv_set 0 sc__law_turned.nd (ev_tup (av_cons (ev_un d_neg (ev_ix d_ix (ev_var 0) ev_int (fun _ _ => rfl))) (av_cons (ev_ix d_ix (ev_var 0) ev_int (fun _ _ => rfl)) (av_cons (ev_ix d_ix (ev_var 0) ev_int (fun _ _ => rfl)) (av_cons (ev_ix d_ix (ev_var 0) ev_int (fun _ _ => rfl)) av_nil)))))))) (bv_one (sv_ret (ev_var 0))))
theorem sc__law_raised : FnScope N__law_raised ["x", "many"] (defScope s__law_raised) := ⟨rfl, rfl, rfl, by decide +kernel, rfl, by decide +kernel, by decide +kernel⟩
theorem ok__law_raised {f : Addr} {fd : FuncData} {dV : Value} (F : FunV K "_law_raised" "_law_raised" s__law_raised f fd dV) (T : Txt mg) : FnOk P w K mg base CX0 1 f fd ["x", "many"] (spD K g__law_raised) :=
  fn_b (k := 0) (b := b__law_raised) F sc__law_raised fun cdv A outer s H E hr => (bv_cons (sv_for PassesOwn.never rfl (iv_range1 rfl T.range (av_cons (ev_var 1) av_nil)) (gv_name 2 sc__law_raised.nd) (bv_one (sv_set 0 sc__law_raised.nd (ev_tup (av_cons (ev_op d_sub (ev_ix d_ix (ev_var 0) ev_int (fun _ _ => rfl)) (ev_ix d_ix (ev_var 0) ev_int (fun _ _ => rfl))) (av_cons (ev_op d_add (ev_ix d_ix (ev_var 0) ev_int (fun _ _ => rfl)) (ev_ix d_ix (ev_var 0) ev_int (fun _ _ => rfl))) (av_cons (ev_op d_add (ev_ix d_ix (ev_var 0) ev_int (fun _ _ => rfl)) (ev_ix d_ix (ev_var 0) ev_int (fun _ _ => rfl))) (av_cons (ev_op d_sub (ev_ix d_ix (ev_var 0) ev_int (fun _ _ => rfl)) (ev_ix d_ix (ev_var 0) ev_int (fun _ _ => rfl))) av_nil)))))))) (bv_one (sv_ret (ev_var 0))))
theorem sc__law_moved : FnScope N__law_moved ["place", "row", "wires"] (defScope s__law_moved) := ⟨rfl, rfl, rfl, by decide +kernel, rfl, by decide +kernel, by decide +kernel⟩
theorem ok__law_moved {f : Addr} {fd : FuncData} {dV : Value} (F : FunV K "_law_moved" "_law_moved" s__law_moved f fd dV) (T : Txt mg) : FnOk P w K mg base CX0 1 f fd ["place", "row", "wires"] (spD K g__law_moved) :=
  fn_b (k := 0) (b := b__law_moved) F sc__law_moved fun cdv A outer s H E hr => (bv_cons (sv_set 3 sc__law_moved.nd (ev_op d_shl ev_int (ev_op d_sub (ev_op d_sub (ev_var 2) ev_int) (ev_ix d_ix (ev_var 1) ev_int (fun _ _ => rfl))))) (bv_cons (sv_if (tv_cmp (d_eq hr.units) (ev_ix d_ix (ev_var 1) ev_int (fun _ _ => rfl)) ev_str (nomark _)) (bv_one (sv_ret (ev_op d_xor (ev_var 0) (ev_var 3)))) bv_nil) (bv_cons (sv_set 4 sc__law_moved.nd (ev_op d_shl ev_int (ev_op d_sub (ev_op d_sub (ev_var 2) ev_int) (ev_ix d_ix (ev_var 1) ev_int (fun _ _ => rfl))))) (bv_cons (sv_if (WV.tv (wv_and (tv_cmp (d_eq hr.units) (ev_ix d_ix (ev_var 1) ev_int (fun _ _ => rfl)) ev_str (nomark _)) (wv_and1 (tv_cmp d_gt (ev_op d_and (ev_var 0) (ev_var 3)) ev_int (nomark _))))) (bv_one (sv_ret (ev_op d_xor (ev_var 0) (ev_var 4)))) bv_nil) (bv_cons (sv_if (WV.tv (wv_and (tv_cmp (d_eq hr.units) (ev_ix d_ix (ev_var 1) ev_int (fun _ _ => rfl)) ev_str (nomark _)) (wv_and1 (tv_cmp (d_ne hr.units) (ev_cmp d_gt (ev_op d_and (ev_var 0) (ev_var 3)) ev_int (nomark _)) (ev_cmp d_gt (ev_op d_and (ev_var 0) (ev_var 4)) ev_int (nomark _)) (nomark _))))) (bv_one (sv_ret (ev_op d_xor (ev_var 0) (ev_op d_or (ev_var 3) (ev_var 4))))) bv_nil) (bv_one (sv_ret (ev_var 0))))))))
theorem sc__law_row_done : FnScope N__law_row_done ["state", "row", "wires"] (defScope s__law_row_done) := ⟨rfl, rfl, rfl, by decide +kernel, rfl, by decide +kernel, by decide +kernel⟩
theorem ok__law_row_done {f : Addr} {fd : FuncData} {dV : Value} (F : FunV K "_law_row_done" "_law_row_done" s__law_row_done f fd dV) (T : Txt mg) (C__law_turned : Cal P w K mg base "_law_turned" 1 g__law_turned []) (C__law_moved : Cal P w K mg base "_law_moved" 1 g__law_moved []) : FnOk P w K mg base CX0 2 f fd ["state", "row", "wires"] (spD K g__law_row_done) :=
  fn_b (k := 1) (b := b__law_row_done) F sc__law_row_done fun cdv A outer s H E hr => (bv_cons (sv_ownE 3 sc__law_row_done.nd (eo_list rfl T.list (av_cons (ev_var 0) av_nil))) (bv_cons (sv_set 4 sc__law_row_done.nd (ev_op d_shl ev_int (ev_op d_sub (ev_op d_sub (ev_var 2) ev_int) (ev_ix d_ix (ev_var 1) ev_int (fun _ _ => rfl))))) (bv_cons (sv_for PassesOwn.never rfl (iv_range1 rfl T.range (av_cons (ev_callB c_len rfl T.len (by decide +kernel) (av_cons (ev_var 0) av_nil)) av_nil)) (gv_name 5 sc__law_row_done.nd) (bv_cons (sv_set 6 sc__law_row_done.nd (ev_ix d_ix (ev_var 0) (ev_var 5) (fun _ _ => rfl))) (bv_one (sv_if (tv_cmp (d_eq hr.units) (ev_ix d_ix (ev_var 1) ev_int (fun _ _ => rfl)) ev_str (nomark _)) (bv_cons (sv_set 7 sc__law_row_done.nd (ev_ix d_ix (ev_var 0) (ev_op d_xor (ev_var 5) (ev_var 4)) (fun _ _ => rfl))) (bv_one (sv_if (tv_cmp d_gt (ev_op d_and (ev_var 5) (ev_var 4)) ev_int (nomark _)) (bv_one (sv_put 3 (ev_var 5) (ev_tup (av_cons (ev_op d_sub (ev_ix d_ix (ev_var 7) ev_int (fun _ _ => rfl)) (ev_ix d_ix (ev_var 6) ev_int (fun _ _ => rfl))) (av_cons (ev_op d_sub (ev_ix d_ix (ev_var 7) ev_int (fun _ _ => rfl)) (ev_ix d_ix (ev_var 6) ev_int (fun _ _ => rfl))) (av_cons (ev_op d_sub (ev_ix d_ix (ev_var 7) ev_int (fun _ _ => rfl)) (ev_ix d_ix (ev_var 6) ev_int (fun _ _ => rfl))) (av_cons (ev_op d_sub (ev_ix d_ix (ev_var 7) ev_int (fun _ _ => rfl)) (ev_ix d_ix (ev_var 6) ev_int (fun _ _ => rfl))) av_nil))))))) (bv_one (sv_put 3 (ev_var 5) (ev_tup (av_cons (ev_op d_add (ev_ix d_ix (ev_var 6) ev_int (fun _ _ => rfl)) (ev_ix d_ix (ev_var 7) ev_int (fun _ _ => rfl))) (av_cons (ev_op d_add (ev_ix d_ix (ev_var 6) ev_int (fun _ _ => rfl)) (ev_ix d_ix (ev_var 7) ev_int (fun _ _ => rfl))) (av_cons (ev_op d_add (ev_ix d_ix (ev_var 6) ev_int (fun _ _ => rfl)) (ev_ix d_ix (ev_var 7) ev_int (fun _ _ => rfl))) (av_cons (ev_op d_add (ev_ix d_ix (ev_var 6) ev_int (fun _ _ => rfl)) (ev_ix d_ix (ev_var 7) ev_int (fun _ _ => rfl))) av_nil)))))))))) (bv_one (sv_if (WV.tv (wv_and (tv_cmp (d_eq hr.units) (ev_ix d_ix (ev_var 1) ev_int (fun _ _ => rfl)) ev_str (nomark _)) (wv_and1 (tv_cmp d_gt (ev_op d_and (ev_var 5) (ev_var 4)) ev_int (nomark _))))) (bv_one (sv_put 3 (ev_var 5) (ev_def0 C__law_turned (hr.mono (by decide)) rfl (av_cons (ev_var 6) (av_cons (ev_ix d_ix (ev_var 1) ev_int (fun _ _ => rfl)) av_nil))))) (bv_one (sv_if (WV.tv (wv_and (tv_cmp (d_eq hr.units) (ev_ix d_ix (ev_var 1) ev_int (fun _ _ => rfl)) ev_str (nomark _)) (wv_and (tv_cmp d_gt (ev_op d_and (ev_var 5) (ev_var 4)) ev_int (nomark _)) (wv_and1 (tv_cmp d_gt (ev_op d_and (ev_var 5) (ev_op d_shl ev_int (ev_op d_sub (ev_op d_sub (ev_var 2) ev_int) (ev_ix d_ix (ev_var 1) ev_int (fun _ _ => rfl))))) ev_int (nomark _)))))) (bv_one (sv_put 3 (ev_var 5) (ev_def0 C__law_turned (hr.mono (by decide)) rfl (av_cons (ev_var 6) (av_cons ev_int av_nil))))) (bv_one (sv_if (tv_cmp d_in (ev_ix d_ix (ev_var 1) ev_int (fun _ _ => rfl)) (ev_tup (av_cons ev_str (av_cons ev_str (av_cons ev_str av_nil)))) (by with_unfolding_all rfl)) (bv_one (sv_put 3 (ev_def0 C__law_moved (hr.mono (by decide)) rfl (av_cons (ev_var 5) (av_cons (ev_var 1) (av_cons (ev_var 2) av_nil)))) (ev_var 6))) bv_nil)))))))))) (bv_one (sv_fz 3 (sv_ret (ev_var 3)))))))
theorem sc__law_columns : FnScope N__law_columns ["circuit"] (defScope s__law_columns) := ⟨rfl, rfl, rfl, by decide +kernel, rfl, by decide +kernel, by decide +kernel⟩
theorem ok__law_columns {f : Addr} {fd : FuncData} {dV : Value} (F : FunV K "_law_columns" "_law_columns" s__law_columns f fd dV) (T : Txt mg) (C__law_row_done : Cal P w K mg base "_law_row_done" 2 g__law_row_done []) : FnOk P w K mg base CX0 3 f fd ["circuit"] (spD K g__law_columns) :=
  fn_b (k := 2) (b := b__law_columns) F sc__law_columns fun cdv A outer s H E hr => (bv_cons (sv_own 1 sc__law_columns.nd av_nil) (bv_cons (sv_for PassesOwn.never rfl (iv_range1 rfl T.range (av_cons (ev_op d_shl ev_int (ev_ix d_ix (ev_var 0) ev_int (fun _ _ => rfl))) av_nil)) (gv_name 2 sc__law_columns.nd) (bv_cons (sv_ownE 3 sc__law_columns.nd (eo_mul (ev_lst (av_cons (ev_tup (av_cons ev_int (av_cons ev_int (av_cons ev_int (av_cons ev_int av_nil))))) av_nil)) (ev_op d_shl ev_int (ev_ix d_ix (ev_var 0) ev_int (fun _ _ => rfl))))) (bv_cons (sv_put 3 (ev_var 2) (ev_tup (av_cons ev_int (av_cons ev_int (av_cons ev_int (av_cons ev_int av_nil)))))) (bv_cons (sv_for PassesOwn.never rfl (iv_seq (ev_ix d_ix (ev_var 0) ev_int (fun _ _ => rfl))) (gv_name 4 sc__law_columns.nd) (bv_one (sv_fz 3 (sv_set 3 sc__law_columns.nd (ev_def0 C__law_row_done (hr.mono (by decide)) rfl (av_cons (ev_var 3) (av_cons (ev_var 4) (av_cons (ev_ix d_ix (ev_var 0) ev_int (fun _ _ => rfl)) av_nil)))))))) (bv_one (sv_fz 3 (sv_app 1 (ev_var 3)))))))) (bv_one (sv_retO 1))))
theorem oko__law_columns {f : Addr} {fd : FuncData} {dV : Value} (F : FunV K "_law_columns" "_law_columns" s__law_columns f fd dV) (T : Txt mg) (C__law_row_done : Cal P w K mg base "_law_row_done" 2 g__law_row_done []) : FnOk P w K mg base CX0 3 f fd ["circuit"] (spO K g__law_columns) :=
  fn_bO (k := 2) F sc__law_columns (fun cdv A outer s H E hr => (bo_cons (sv_own 1 sc__law_columns.nd av_nil) (nxt_own _ _) (bo_cons (sv_for PassesOwn.never rfl (iv_range1 rfl T.range (av_cons (ev_op d_shl ev_int (ev_ix d_ix (ev_var 0) ev_int (fun _ _ => rfl))) av_nil)) (gv_name 2 sc__law_columns.nd) (bv_cons (sv_ownE 3 sc__law_columns.nd (eo_mul (ev_lst (av_cons (ev_tup (av_cons ev_int (av_cons ev_int (av_cons ev_int (av_cons ev_int av_nil))))) av_nil)) (ev_op d_shl ev_int (ev_ix d_ix (ev_var 0) ev_int (fun _ _ => rfl))))) (bv_cons (sv_put 3 (ev_var 2) (ev_tup (av_cons ev_int (av_cons ev_int (av_cons ev_int (av_cons ev_int av_nil)))))) (bv_cons (sv_for PassesOwn.never rfl (iv_seq (ev_ix d_ix (ev_var 0) ev_int (fun _ _ => rfl))) (gv_name 4 sc__law_columns.nd) (bv_one (sv_fz 3 (sv_set 3 sc__law_columns.nd (ev_def0 C__law_row_done (hr.mono (by decide)) rfl (av_cons (ev_var 3) (av_cons (ev_var 4) (av_cons (ev_ix d_ix (ev_var 0) ev_int (fun _ _ => rfl)) av_nil)))))))) (bv_one (sv_fz 3 (sv_app 1 (ev_var 3)))))))) (nxt_for (show Nxt l2__law_columns from (nxt_seq (nxt_ownE _ _) (nxt_seq (nxt_put _ _ _) (nxt_seq (nxt_for (show Nxt l1__law_columns from (nxt_fz _ (nxt_set _ _)))) (nxt_fz _ (nxt_app _ _))))))) (bo_retV 1)))) (run_O (oe_cons (nxt_own _ _) (oe_cons (nxt_for (show Nxt l2__law_columns from (nxt_seq (nxt_ownE _ _) (nxt_seq (nxt_put _ _ _) (nxt_seq (nxt_for (show Nxt l1__law_columns from (nxt_fz _ (nxt_set _ _)))) (nxt_fz _ (nxt_app _ _))))))) (oe_retV 1))))
theorem sc__law_swings : FnScope N__law_swings ["circuit"] (defScope s__law_swings) := ⟨rfl, rfl, rfl, by decide +kernel, rfl, by decide +kernel, by decide +kernel⟩
theorem ok__law_swings {f : Addr} {fd : FuncData} {dV : Value} (F : FunV K "_law_swings" "_law_swings" s__law_swings f fd dV) (T : Txt mg) : FnOk P w K mg base CX0 1 f fd ["circuit"] (spD K g__law_swings) :=
  fn_b (k := 0) (b := b__law_swings) F sc__law_swings fun cdv A outer s H E hr => (bv_one (sv_ret (ev_callB c_len rfl T.len (by decide +kernel) (av_cons (ev_compI (vars := ["row"]) (caps := []) (by change BlkOk (defScope s__law_swings).names N__law_swings _ _ _; exact ⟨rfl, by decide +kernel, by decide +kernel, by decide +kernel, by decide +kernel⟩) rfl (iv_seq (ev_ix d_ix (ev_var 0) ev_int (fun _ _ => rfl))) tg_one (fun _ _ _ _ => pg_name (i := 0) (show (["row"] : List Str).Nodup by decide +kernel) rfl (Or.inl rfl) (.inr rfl)) (fun _ _ _ _ => (tv_cmp (d_eq hr.units) (ev_ix d_ix (ev_var 0) ev_int (fun _ _ => rfl)) ev_str (nomark _))) (fun _ _ _ _ => (ev_var 0))) av_nil))))
theorem sc__law_begun_again : FnScope N__law_begun_again ["columns", "swings"] (defScope s__law_begun_again) := ⟨rfl, rfl, rfl, by decide +kernel, rfl, by decide +kernel, by decide +kernel⟩
theorem ok__law_begun_again {f : Addr} {fd : FuncData} {dV : Value} (F : FunV K "_law_begun_again" "_law_begun_again" s__law_begun_again f fd dV) (T : Txt mg) (C__law_raised : Cal P w K mg base "_law_raised" 1 g__law_raised []) (C__law_turned : Cal P w K mg base "_law_turned" 1 g__law_turned []) : FnOk P w K mg base CX0 2 f fd ["columns", "swings"] (spD K g__law_begun_again) :=
  fn_b (k := 1) (b := b__law_begun_again) F sc__law_begun_again fun cdv A outer s H E hr => (bv_cons (sv_set 2 sc__law_begun_again.nd (ev_def0 C__law_raised (hr.mono (by decide)) rfl (av_cons (ev_tup (av_cons ev_int (av_cons ev_int (av_cons ev_int (av_cons ev_int av_nil))))) (av_cons (ev_var 1) av_nil)))) (bv_cons (sv_compI 3 sc__law_begun_again.nd (vars := ["e"]) (caps := [(0, "columns"), (2, "one")]) (by change BlkOk (defScope s__law_begun_again).names N__law_begun_again _ _ _; exact ⟨rfl, by decide +kernel, by decide +kernel, by decide +kernel, by decide +kernel⟩) rfl (iv_range1 rfl T.range (av_cons ev_int av_nil)) tg_one (fun _ _ _ _ => pg_name (i := 0) (show (["e", "columns", "one"] : List Str).Nodup by decide +kernel) rfl (Or.inl rfl) (.inr rfl)) (fun _ _ _ _ => (tv_cmp (d_eq hr.units) (ev_def0 C__law_turned (hr.mono (by decide)) rfl (av_cons (ev_var 2) (av_cons (ev_var 0) av_nil))) (ev_ix d_ix (ev_ix d_ix (ev_var 1) ev_int (fun _ _ => rfl)) ev_int (fun _ _ => rfl)) (nomark _))) (fun _ _ _ _ => (ev_var 0))) (bv_cons (sv_if (tv_cmp (d_eq hr.units) (ev_var 3) (ev_lst av_nil) (nomark _)) (bv_one (sv_ret ev_bl)) bv_nil) (bv_cons (sv_for PassesOwn.never rfl (iv_range1 rfl T.range (av_cons (ev_callB c_len rfl T.len (by decide +kernel) (av_cons (ev_var 0) av_nil)) av_nil)) (gv_name 4 sc__law_begun_again.nd) (bv_one (sv_for PassesOwn.never rfl (iv_range1 rfl T.range (av_cons (ev_callB c_len rfl T.len (by decide +kernel) (av_cons (ev_var 0) av_nil)) av_nil)) (gv_name 5 sc__law_begun_again.nd) (bv_cons (sv_set 6 sc__law_begun_again.nd (ev_tup (av_cons ev_int (av_cons ev_int (av_cons ev_int (av_cons ev_int av_nil)))))) (bv_cons (sv_if (tv_cmp (d_eq hr.units) (ev_var 5) (ev_var 4) (nomark _)) (bv_one (sv_set 6 sc__law_begun_again.nd (ev_def0 C__law_turned (hr.mono (by decide)) rfl (av_cons (ev_var 2) (av_cons (ev_ix d_ix (ev_var 3) ev_int (fun _ _ => rfl)) av_nil))))) bv_nil) (bv_one (sv_if (tv_cmp (d_ne hr.units) (ev_ix d_ix (ev_ix d_ix (ev_var 0) (ev_var 4) (fun _ _ => rfl)) (ev_var 5) (fun _ _ => rfl)) (ev_var 6) (nomark _)) (bv_one (sv_ret ev_bl)) bv_nil))))))) (bv_one (sv_ret ev_bl))))))
theorem sc__law_due : FnScope N__law_due ["one", "most"] (defScope s__law_due) := ⟨rfl, rfl, rfl, by decide +kernel, rfl, by decide +kernel, by decide +kernel⟩
theorem ok__law_due {f : Addr} {fd : FuncData} {dV : Value} (F : FunV K "_law_due" "_law_due" s__law_due f fd dV) (T : Txt mg) (C__law_columns : Cal P w K mg base "_law_columns" 3 g__law_columns []) (C__law_begun_again : Cal P w K mg base "_law_begun_again" 2 g__law_begun_again []) (C__law_row_done : Cal P w K mg base "_law_row_done" 2 g__law_row_done []) (C__law_swings : Cal P w K mg base "_law_swings" 1 g__law_swings []) (O__law_columns : CalO P w K mg base "_law_columns" 3 g__law_columns []) : FnOk P w K mg base CX0 4 f fd ["one", "most"] (spD K g__law_due) :=
  fn_b (k := 3) (b := b__law_due) F sc__law_due fun cdv A outer s H E hr => (bv_cons (sv_set 2 sc__law_due.nd (ev_ix d_ix (ev_var 0) ev_int (fun _ _ => rfl))) (bv_cons (sv_ownE 3 sc__law_due.nd (eo_def0 O__law_columns (hr.mono (by decide)) rfl (av_cons (ev_tup (av_cons (ev_var 2) (av_cons (ev_tup av_nil) av_nil))) av_nil))) (bv_cons (sv_for PassesOwn.never rfl (iv_range2 rfl T.range (av_cons ev_int (av_cons (ev_op d_add (ev_var 1) ev_int) av_nil))) (gv_name 4 sc__law_due.nd) (bv_cons (sv_for PassesOwn.never rfl (iv_range1 rfl T.range (av_cons (ev_lenO 3 rfl T.len) av_nil)) (gv_name 5 sc__law_due.nd) (bv_one (sv_for PassesOwn.never rfl (iv_seq (ev_ix d_ix (ev_var 0) ev_int (fun _ _ => rfl))) (gv_name 6 sc__law_due.nd) (bv_one (sv_put 3 (ev_var 5) (ev_def0 C__law_row_done (hr.mono (by decide)) rfl (av_cons (ev_ixO 3 (ev_var 5) (fun _ _ => rfl)) (av_cons (ev_var 6) (av_cons (ev_var 2) av_nil))))))))) (bv_one (sv_if (tv_peek 3 (tv_val (ev_def0 C__law_begun_again (hr.mono (by decide)) rfl (av_cons (ev_var 3) (av_cons (ev_op d_mulI (ev_var 4) (ev_def0 C__law_swings (hr.mono (by decide)) rfl (av_cons (ev_var 0) av_nil))) av_nil))))) (bv_one (sv_ret (ev_var 4))) bv_nil)))) (bv_one (sv_ret ev_non)))))
theorem sc__law_refused : FnScope N__law_refused ["one", "cell", "most"] (defScope s__law_refused) := ⟨rfl, rfl, rfl, by decide +kernel, rfl, by decide +kernel, by decide +kernel⟩
theorem ok__law_refused {f : Addr} {fd : FuncData} {dV : Value} (F : FunV K "_law_refused" "_law_refused" s__law_refused f fd dV) (T : Txt mg) (C_round_of : Cal P w K mg base "round_of" 9 g_round_of []) (Y_round_of : CalX P w K mg base "round_of" 9 x_round_of []) (H_WaveError : Hnd K "WaveError" hs_WaveError) (I_UnlikeWires : IsX K "UnlikeWires" tt_UnlikeWires) (I_OddTurn : IsX K "OddTurn" tt_OddTurn) (I_HasLooks : IsX K "HasLooks" tt_HasLooks) : FnOk P w K mg base CX0 10 f fd ["one", "cell", "most"] (spD K g__law_refused) :=
  fn_b (k := 9) (b := b__law_refused) F sc__law_refused fun cdv A outer s H E hr => (bv_cons (sv_set 3 sc__law_refused.nd (ev_op d_mod (ev_var 1) (ev_op d_add (ev_callB c_len rfl T.len (by decide +kernel) (av_cons (ev_ix d_ix (ev_var 0) ev_int (fun _ _ => rfl)) av_nil)) ev_int))) (bv_cons (sv_set 4 sc__law_refused.nd ev_non) (bv_cons (sv_try 5 H_WaveError rfl sc__law_refused.nd rfl rfl rfl rfl (bv_one (sv_expr (ev_def0 C_round_of (hr.mono (by decide)) rfl (av_cons (ev_tup (av_cons (ev_ix d_ix (ev_var 0) ev_int (fun _ _ => rfl)) (av_cons (ev_op d_add (ev_op d_add (ev_slice (ev_ix d_ix (ev_var 0) ev_int (fun _ _ => rfl)) ov_none (ov_some (ev_var 3))) (ev_tup (av_cons (ev_tup (av_cons ev_str (av_cons (ev_op d_mod (ev_op d_div (ev_var 1) ev_int) (ev_ix d_ix (ev_var 0) ev_int (fun _ _ => rfl))) av_nil))) av_nil))) (ev_slice (ev_ix d_ix (ev_var 0) ev_int (fun _ _ => rfl)) (ov_some (ev_var 3)) ov_none)) av_nil))) (av_cons (ev_var 2) av_nil))))) (fun _ _ => (bx_here (sx_expr (ex_def Y_round_of (hr.mono (by decide)) rfl (AV.lift (av_cons (ev_tup (av_cons (ev_ix d_ix (ev_var 0) ev_int (fun _ _ => rfl)) (av_cons (ev_op d_add (ev_op d_add (ev_slice (ev_ix d_ix (ev_var 0) ev_int (fun _ _ => rfl)) ov_none (ov_some (ev_var 3))) (ev_tup (av_cons (ev_tup (av_cons ev_str (av_cons (ev_op d_mod (ev_op d_div (ev_var 1) ev_int) (ev_ix d_ix (ev_var 0) ev_int (fun _ _ => rfl))) av_nil))) av_nil))) (ev_slice (ev_ix d_ix (ev_var 0) ev_int (fun _ _ => rfl)) (ov_some (ev_var 3)) ov_none)) av_nil))) (av_cons (ev_var 2) av_nil))))))) (fun _ => (bv_one (sv_set 4 sc__law_refused.nd (ev_var 5))))) (bv_one (sv_ret (ev_and (ev_isx I_HasLooks rfl T.isinstance rfl (ev_var 4)) (ev_and (ev_not (ev_isx I_OddTurn rfl T.isinstance rfl (ev_var 4))) (ev_one (ev_not (ev_isx I_UnlikeWires rfl T.isinstance rfl (ev_var 4)))))))))))
theorem sc_law : FnScope N_law ["script"] (defScope s_law) := ⟨rfl, rfl, rfl, by decide +kernel, rfl, by decide +kernel, by decide +kernel⟩
theorem ok_law {f : Addr} {fd : FuncData} {dV : Value} (F : FunV K "law" "law" s_law f fd dV) (T : Txt mg) (C__law_cell_at : Cal P w K mg base "_law_cell_at" 1 g__law_cell_at []) (C_round_of : Cal P w K mg base "round_of" 9 g_round_of []) (C__law_due : Cal P w K mg base "_law_due" 4 g__law_due []) (C__law_row : Cal P w K mg base "_law_row" 1 g__law_row []) (C__law_refused : Cal P w K mg base "_law_refused" 10 g__law_refused []) : FnOk P w K mg base CX0 11 f fd ["script"] (spD K g_law) :=
  fn_b (k := 10) (b := b_law) F sc_law fun cdv A outer s H E hr => (bv_cons (sv_set 1 sc_law.nd (ev_def0 C__law_cell_at (hr.mono (by decide)) rfl (av_cons (ev_var 0) (av_cons ev_int av_nil)))) (bv_cons (sv_set 2 sc_law.nd (ev_op d_add ev_int (ev_op d_mod (ev_var 1) ev_int))) (bv_cons (sv_set 3 sc_law.nd (ev_op d_mod (ev_op d_div (ev_var 1) ev_int) (ev_ix d_ix (ev_lst (av_cons ev_int (av_cons ev_int (av_cons ev_int av_nil)))) (ev_op d_sub (ev_var 2) ev_int) (fun _ _ => rfl)))) (bv_cons (sv_comp 4 sc_law.nd (vars := ["cell"]) (caps := [(2, "wires")]) (by change BlkOk (defScope s_law).names N_law _ _ _; exact ⟨rfl, by decide +kernel, by decide +kernel, by decide +kernel, by decide +kernel⟩) rfl (iv_seq (ev_slice (ev_var 0) (ov_some ev_int) (ov_some (ev_op d_add ev_int (ev_ix d_ix (ev_lst (av_cons ev_int (av_cons ev_int (av_cons ev_int av_nil)))) (ev_op d_sub (ev_var 2) ev_int) (fun _ _ => rfl)))))) tg_one (fun _ _ _ _ => pg_name (i := 0) (show (["cell", "wires"] : List Str).Nodup by decide +kernel) rfl (Or.inl rfl) (.inr rfl)) (fun _ _ _ _ => (ev_def0 C__law_row (hr.mono (by decide)) rfl (av_cons (ev_var 0) (av_cons (ev_var 1) av_nil))))) (bv_cons (sv_if (tv_cmp (d_eq hr.units) (ev_op d_mod (ev_op d_div (ev_var 1) ev_int) ev_int) ev_int (nomark _)) (bv_one (sv_compI 4 sc_law.nd (vars := ["row"]) (caps := []) (by change BlkOk (defScope s_law).names N_law _ _ _; exact ⟨rfl, by decide +kernel, by decide +kernel, by decide +kernel, by decide +kernel⟩) rfl (iv_seq (ev_var 4)) tg_one (fun _ _ _ _ => pg_name (i := 0) (show (["row"] : List Str).Nodup by decide +kernel) rfl (Or.inl rfl) (.inr rfl)) (fun _ _ _ _ => (WV.tv (wv_or (tv_cmp (d_ne hr.units) (ev_ix d_ix (ev_var 0) ev_int (fun _ _ => rfl)) ev_str (nomark _)) (wv_or1 (tv_cmp (d_eq hr.units) (ev_op d_mod (ev_ix d_ix (ev_var 0) ev_int (fun _ _ => rfl)) ev_int) ev_int (nomark _)))))) (fun _ _ _ _ => (ev_var 0)))) bv_nil) (bv_cons (sv_if (WV.tv (wv_and (tv_cmp (d_eq hr.units) (ev_var 2) ev_int (nomark _)) (wv_and1 (tv_cmp (d_eq hr.units) (ev_op d_mod (ev_op d_div (ev_var 1) ev_int) ev_int) ev_int (nomark _))))) (bv_cons (sv_set 4 sc_law.nd (ev_slice (ev_var 4) ov_none (ov_some ev_int))) (bv_one (sv_set 3 sc_law.nd (ev_op d_sub ev_int (ev_op d_mod (ev_op d_div (ev_var 1) ev_int) ev_int))))) bv_nil) (bv_cons (sv_set 5 sc_law.nd (ev_tup (av_cons (ev_var 2) (av_cons (ev_callTy c_tuple rfl T.tuple (by decide +kernel) (av_cons (ev_var 4) av_nil)) av_nil)))) (bv_cons (sv_if (tv_cmp (d_eq hr.units) (ev_op d_mod (ev_op d_div (ev_var 1) ev_int) ev_int) ev_int (nomark _)) (bv_one (sv_ret (ev_def0 C__law_refused (hr.mono (by decide)) rfl (av_cons (ev_var 5) (av_cons (ev_op d_div (ev_var 1) ev_int) (av_cons (ev_var 3) av_nil)))))) bv_nil) (bv_cons (sv_set 6 sc_law.nd (ev_def0 C_round_of (hr.mono (by decide)) rfl (av_cons (ev_var 5) (av_cons (ev_var 3) av_nil)))) (bv_cons (sv_set 7 sc_law.nd (ev_def0 C__law_due (hr.mono (by decide)) rfl (av_cons (ev_var 5) (av_cons (ev_var 3) av_nil)))) (bv_cons (sv_if (tv_cmp d_is (ev_var 7) ev_non (nomark _)) (bv_one (sv_ret (ev_cmp d_is (ev_var 6) ev_non (nomark _)))) bv_nil) (bv_one (sv_ret (ev_and (ev_isi (T := "int") rfl T.isinstance rfl T.int (by decide +kernel) (by decide) (by decide) (ev_var 6)) (ev_and (ev_not (ev_isi (T := "bool") rfl T.isinstance rfl T.bool (by decide +kernel) (by decide) (by decide) (ev_var 6))) (ev_one (ev_cmp (d_eq hr.units) (ev_var 6) (ev_var 7) (nomark _))))))))))))))))))
end

theorem bd_twos_shared : BindsAs "twos_shared" s_twos_shared ["joined", "most"] := fun _ _ _ _ _ _ us hl => by obtain ⟨_, _, rfl⟩ := len2 hl; exact rfl
theorem bd_by_root : BindsAs "by_root" s_by_root ["a", "b", "c", "d"] := fun _ _ _ _ _ _ us hl => by obtain ⟨_, _, _, _, rfl⟩ := len4 hl; exact rfl
theorem bd_parts_over : BindsAs "parts_over" s_parts_over ["x", "k"] := fun _ _ _ _ _ _ us hl => by obtain ⟨_, _, rfl⟩ := len2 hl; exact rfl
theorem bd_plus : BindsAs "plus" s_plus ["x", "y"] := fun _ _ _ _ _ _ us hl => by obtain ⟨_, _, rfl⟩ := len2 hl; exact rfl
theorem bd_against : BindsAs "against" s_against ["x"] := fun _ _ _ _ _ _ us hl => by obtain ⟨_, rfl⟩ := len1 hl; exact rfl
theorem bd_turned : BindsAs "turned" s_turned ["x", "e"] := fun _ _ _ _ _ _ us hl => by obtain ⟨_, _, rfl⟩ := len2 hl; exact rfl
theorem bd_halved : BindsAs "halved" s_halved ["x"] := fun _ _ _ _ _ _ us hl => by obtain ⟨_, rfl⟩ := len1 hl; exact rfl
theorem bd_worth : BindsAs "worth" s_worth ["wires", "wire"] := fun _ _ _ _ _ _ us hl => by obtain ⟨_, _, rfl⟩ := len2 hl; exact rfl
theorem bd_swung : BindsAs "swung" s_swung ["state", "bit"] := fun _ _ _ _ _ _ us hl => by obtain ⟨_, _, rfl⟩ := len2 hl; exact rfl
theorem bd_turned_where : BindsAs "turned_where" s_turned_where ["state", "held", "e"] := fun _ _ _ _ _ _ us hl => by obtain ⟨_, _, _, rfl⟩ := len3 hl; exact rfl
theorem bd_flipped_where : BindsAs "flipped_where" s_flipped_where ["state", "held", "bit"] := fun _ _ _ _ _ _ us hl => by obtain ⟨_, _, _, rfl⟩ := len3 hl; exact rfl
theorem bd_exchanged : BindsAs "exchanged" s_exchanged ["place", "both"] := fun _ _ _ _ _ _ us hl => by obtain ⟨_, _, rfl⟩ := len2 hl; exact rfl
theorem bd_done : BindsAs "done" s_done ["state", "row"] := fun _ _ _ _ _ _ us hl => by obtain ⟨_, _, rfl⟩ := len2 hl; exact rfl
theorem bd_all_done : BindsAs "all_done" s_all_done ["state", "rows"] := fun _ _ _ _ _ _ us hl => by obtain ⟨_, _, rfl⟩ := len2 hl; exact rfl
theorem bd_all_plain : BindsAs "all_plain" s_all_plain ["rows"] := fun _ _ _ _ _ _ us hl => by obtain ⟨_, rfl⟩ := len1 hl; exact rfl
theorem bd_is_plain : BindsAs "is_plain" s_is_plain ["circuit"] := fun _ _ _ _ _ _ us hl => by obtain ⟨_, rfl⟩ := len1 hl; exact rfl
theorem bd_refuse_apart : BindsAs "refuse_apart" s_refuse_apart ["one", "other"] := fun _ _ _ _ _ _ us hl => by obtain ⟨_, _, rfl⟩ := len2 hl; exact rfl
theorem bd_columns_apart : BindsAs "columns_apart" s_columns_apart ["circuit", "apart"] := fun _ _ _ _ _ _ us hl => by obtain ⟨_, _, rfl⟩ := len2 hl; exact rfl
theorem bd_turn_to : BindsAs "turn_to" s_turn_to ["one", "other"] := fun _ _ _ _ _ _ us hl => by obtain ⟨_, _, rfl⟩ := len2 hl; exact rfl
theorem bd_turn_apart : BindsAs "turn_apart" s_turn_apart ["one", "other"] := fun _ _ _ _ _ _ us hl => by obtain ⟨_, _, rfl⟩ := len2 hl; exact rfl
theorem bd_round_of : BindsAs "round_of" s_round_of ["circuit", "most"] := fun _ _ _ _ _ _ us hl => by obtain ⟨_, _, rfl⟩ := len2 hl; exact rfl
theorem bd__law_cell_at : BindsAs "_law_cell_at" s__law_cell_at ["script", "k"] := fun _ _ _ _ _ _ us hl => by obtain ⟨_, _, rfl⟩ := len2 hl; exact rfl
theorem bd__law_row : BindsAs "_law_row" s__law_row ["cell", "wires"] := fun _ _ _ _ _ _ us hl => by obtain ⟨_, _, rfl⟩ := len2 hl; exact rfl
theorem bd__law_turned : BindsAs "_law_turned" s__law_turned ["x", "e"] := fun _ _ _ _ _ _ us hl => by obtain ⟨_, _, rfl⟩ := len2 hl; exact rfl
theorem bd__law_raised : BindsAs "_law_raised" s__law_raised ["x", "many"] := fun _ _ _ _ _ _ us hl => by obtain ⟨_, _, rfl⟩ := len2 hl; exact rfl
theorem bd__law_moved : BindsAs "_law_moved" s__law_moved ["place", "row", "wires"] := fun _ _ _ _ _ _ us hl => by obtain ⟨_, _, _, rfl⟩ := len3 hl; exact rfl
theorem bd__law_row_done : BindsAs "_law_row_done" s__law_row_done ["state", "row", "wires"] := fun _ _ _ _ _ _ us hl => by obtain ⟨_, _, _, rfl⟩ := len3 hl; exact rfl
theorem bd__law_columns : BindsAs "_law_columns" s__law_columns ["circuit"] := fun _ _ _ _ _ _ us hl => by obtain ⟨_, rfl⟩ := len1 hl; exact rfl
theorem bd__law_swings : BindsAs "_law_swings" s__law_swings ["circuit"] := fun _ _ _ _ _ _ us hl => by obtain ⟨_, rfl⟩ := len1 hl; exact rfl
theorem bd__law_begun_again : BindsAs "_law_begun_again" s__law_begun_again ["columns", "swings"] := fun _ _ _ _ _ _ us hl => by obtain ⟨_, _, rfl⟩ := len2 hl; exact rfl
theorem bd__law_due : BindsAs "_law_due" s__law_due ["one", "most"] := fun _ _ _ _ _ _ us hl => by obtain ⟨_, _, rfl⟩ := len2 hl; exact rfl
theorem bd__law_refused : BindsAs "_law_refused" s__law_refused ["one", "cell", "most"] := fun _ _ _ _ _ _ us hl => by obtain ⟨_, _, _, rfl⟩ := len3 hl; exact rfl
theorem all_mk {l : PySem.W.OpenLaw} {w : World} {K : PySem.W.Frag} {h : Heap} {mg : Str → Option Value} {fa f2 f33 t2 xc_WaveError xc_UnlikeWires xc_OddTurn xc_HasLooks f_PLAIN : Addr} {od2 an2 od33 an33 td2 td_PLAIN : Option Addr} {sl2 sl33 ts2 ts_PLAIN : Array (Option Value)} {oc2 kV2 dc2 pm2 cd2 ct2 oc33 kV33 dc33 pm33 cd33 ct33 tc2 : Value} {tn2 tn_PLAIN : Nat} {tk2_0 tk_PLAIN_0 tk_PLAIN_1 tk_PLAIN_2 tk_PLAIN_3 tk_PLAIN_4 tk_PLAIN_5 tk_FEW_BITS_0 : Tok} (X : K.In h) (G : h.Ns mainGlobals mg) (hfa : mg "law" = some (.ref fa))
    (D0 : DefIn K "twos_shared" "twos_shared" s_twos_shared)
    (D1 : DefIn K "by_root" "by_root" s_by_root)
    (a2 : PySem.W.nsIn K mainGlobals "number" = some (some (.ref f2))) (l2 : K.lookup f2 = some ⟨oc2, od2, .func (PySem.W.fnOf "number" "number" (defArgs s_number) (defBody s_number) (defScope s_number) (.ref t2) kV2 dc2 pm2 an2 cd2 ct2), sl2⟩) (c2 : PySem.W.codeIn K cd2 "number" = true) (k2 : PySem.W.keepIn K (.ref f2) = true)
    (d2 : K.lookup t2 = some ⟨tc2, td2, .seq #[.int 0 tk2_0] tn2, ts2⟩)
    (D3 : DefIn K "parts_over" "parts_over" s_parts_over)
    (D4 : DefIn K "plus" "plus" s_plus)
    (D5 : DefIn K "against" "against" s_against)
    (D6 : DefIn K "turned" "turned" s_turned)
    (D7 : DefIn K "halved" "halved" s_halved)
    (D8 : DefIn K "worth" "worth" s_worth)
    (D9 : DefIn K "swung" "swung" s_swung)
    (D10 : DefIn K "turned_where" "turned_where" s_turned_where)
    (D11 : DefIn K "flipped_where" "flipped_where" s_flipped_where)
    (D12 : DefIn K "exchanged" "exchanged" s_exchanged)
    (D13 : DefIn K "done" "done" s_done)
    (D14 : DefIn K "all_done" "all_done" s_all_done)
    (D15 : DefIn K "all_plain" "all_plain" s_all_plain)
    (D16 : DefIn K "is_plain" "is_plain" s_is_plain)
    (D17 : DefIn K "refuse_apart" "refuse_apart" s_refuse_apart)
    (D18 : DefIn K "columns_apart" "columns_apart" s_columns_apart)
    (D19 : DefIn K "turn_to" "turn_to" s_turn_to)
    (D20 : DefIn K "turn_apart" "turn_apart" s_turn_apart)
    (D21 : DefIn K "round_of" "round_of" s_round_of)
    (D22 : DefIn K "_law_cell_at" "_law_cell_at" s__law_cell_at)
    (D23 : DefIn K "_law_row" "_law_row" s__law_row)
    (D24 : DefIn K "_law_turned" "_law_turned" s__law_turned)
    (D25 : DefIn K "_law_raised" "_law_raised" s__law_raised)
    (D26 : DefIn K "_law_moved" "_law_moved" s__law_moved)
    (D27 : DefIn K "_law_row_done" "_law_row_done" s__law_row_done)
    (D28 : DefIn K "_law_columns" "_law_columns" s__law_columns)
    (D29 : DefIn K "_law_swings" "_law_swings" s__law_swings)
    (D30 : DefIn K "_law_begun_again" "_law_begun_again" s__law_begun_again)
    (D31 : DefIn K "_law_due" "_law_due" s__law_due)
    (D32 : DefIn K "_law_refused" "_law_refused" s__law_refused)
    (a33 : PySem.W.nsIn K mainGlobals "law" = some (some (.ref f33))) (l33 : K.lookup f33 = some ⟨oc33, od33, .func (PySem.W.fnOf "law" "law" (defArgs s_law) (defBody s_law) (defScope s_law) .none kV33 dc33 pm33 an33 cd33 ct33), sl33⟩) (c33 : PySem.W.codeIn K cd33 "law" = true) (k33 : PySem.W.keepIn K (.ref f33) = true)
    (z_min : PySem.W.nsIn K mainGlobals "min" = some none)
    (z_max : PySem.W.nsIn K mainGlobals "max" = some none)
    (z_range : PySem.W.nsIn K mainGlobals "range" = some none)
    (z_tuple : PySem.W.nsIn K mainGlobals "tuple" = some none)
    (z_len : PySem.W.nsIn K mainGlobals "len" = some none)
    (z_all : PySem.W.nsIn K mainGlobals "all" = some none)
    (z_list : PySem.W.nsIn K mainGlobals "list" = some none)
    (z_isinstance : PySem.W.nsIn K mainGlobals "isinstance" = some none)
    (z_int : PySem.W.nsIn K mainGlobals "int" = some none)
    (z_bool : PySem.W.nsIn K mainGlobals "bool" = some none)
    (a_PLAIN : PySem.W.nsIn K mainGlobals "PLAIN" = some (some (.ref f_PLAIN))) (d_PLAIN : K.lookup f_PLAIN = some ⟨.type "tuple", td_PLAIN, .seq #[.str "swing" tk_PLAIN_0, .str "turn" tk_PLAIN_1, .str "flip" tk_PLAIN_2, .str "tie" tk_PLAIN_3, .str "sign" tk_PLAIN_4, .str "cross" tk_PLAIN_5] tn_PLAIN, ts_PLAIN⟩)
    (a_FEW_BITS : PySem.W.nsIn K mainGlobals "FEW_BITS" = some (some (.int 16 tk_FEW_BITS_0)))
    (xn_WaveError : PySem.W.nsIn K mainGlobals "WaveError" = some (some (.ref xc_WaveError)))
    (xn_UnlikeWires : PySem.W.nsIn K mainGlobals "UnlikeWires" = some (some (.ref xc_UnlikeWires)))
    (xn_OddTurn : PySem.W.nsIn K mainGlobals "OddTurn" = some (some (.ref xc_OddTurn)))
    (xn_HasLooks : PySem.W.nsIn K mainGlobals "HasLooks" = some (some (.ref xc_HasLooks)))
    (xe_WaveError : PySem.W.excIn K xc_WaveError [.type "ValueError", .type "Exception", .type "BaseException", .type "object"] "ValueError.__new__" = true)
    (xe_UnlikeWires : PySem.W.excIn K xc_UnlikeWires [.type "ValueError", .type "Exception", .type "BaseException", .type "object"] "ValueError.__new__" = true)
    (xe_HasLooks : PySem.W.excIn K xc_HasLooks [.type "ValueError", .type "Exception", .type "BaseException", .type "object"] "ValueError.__new__" = true)
    (xga_HasLooks : PySem.W.findIn K (.ref xc_HasLooks) "__getattribute__" = some (some (.builtin "BaseException.__getattribute__")))
    (xgt_HasLooks : PySem.W.findIn K (.ref xc_HasLooks) "__getattr__" = some none)
    (xcl_HasLooks : PySem.W.findIn K (.ref xc_HasLooks) "__class__" = some (some (.builtin "object.__class__")))
    (xmo_HasLooks : PySem.W.mroIn K xc_HasLooks (.type "object") = some true)
    (xbe_HasLooks : PySem.W.mroIn K xc_HasLooks (.type "BaseException") = some true)
    (xga_UnlikeWires : PySem.W.findIn K (.ref xc_UnlikeWires) "__getattribute__" = some (some (.builtin "BaseException.__getattribute__")))
    (xgt_UnlikeWires : PySem.W.findIn K (.ref xc_UnlikeWires) "__getattr__" = some none)
    (xcl_UnlikeWires : PySem.W.findIn K (.ref xc_UnlikeWires) "__class__" = some (some (.builtin "object.__class__")))
    (xmo_UnlikeWires : PySem.W.mroIn K xc_UnlikeWires (.type "object") = some true)
    (xbe_UnlikeWires : PySem.W.mroIn K xc_UnlikeWires (.type "BaseException") = some true)
    (xs_HasLooks_WaveError : PySem.W.subIn K (.ref xc_HasLooks) (.ref xc_WaveError) = some true)
    (xs_UnlikeWires_WaveError : PySem.W.subIn K (.ref xc_UnlikeWires) (.ref xc_WaveError) = some true)
    (xk_HasLooks_UnlikeWires : PySem.W.kitOne K (.ref xc_HasLooks) (.ref xc_UnlikeWires) = some false)
    (xk_UnlikeWires_UnlikeWires : PySem.W.kitOne K (.ref xc_UnlikeWires) (.ref xc_UnlikeWires) = some true)
    (xk_HasLooks_OddTurn : PySem.W.kitOne K (.ref xc_HasLooks) (.ref xc_OddTurn) = some false)
    (xk_UnlikeWires_OddTurn : PySem.W.kitOne K (.ref xc_UnlikeWires) (.ref xc_OddTurn) = some false)
    (xk_HasLooks_HasLooks : PySem.W.kitOne K (.ref xc_HasLooks) (.ref xc_HasLooks) = some true)
    (xk_UnlikeWires_HasLooks : PySem.W.kitOne K (.ref xc_UnlikeWires) (.ref xc_HasLooks) = some false)
    : ∃ fd : FuncData, (∀ (s : Shared) (v : Value), BindsTo s fd ⟨[v], []⟩ [("script", v)]) ∧ ∀ base : Heap, K.In base → base.Ns mainGlobals mg → FnOk l.prog w K mg base CX0 11 fa fd ["script"] (spLaw K) := by
  have e := hfa.symm.trans (PySem.W.mg_of X G a33)
  cases e
  have T : Txt mg := ⟨PySem.W.mg_none_of X G z_min, PySem.W.mg_none_of X G z_max, PySem.W.mg_none_of X G z_range, PySem.W.mg_none_of X G z_tuple, PySem.W.mg_none_of X G z_len, PySem.W.mg_none_of X G z_all, PySem.W.mg_none_of X G z_list, PySem.W.mg_none_of X G z_isinstance, PySem.W.mg_none_of X G z_int, PySem.W.mg_none_of X G z_bool⟩
  have T_PLAIN : TopV K mg "PLAIN" (.tuple [.str "swing", .str "turn", .str "flip", .str "tie", .str "sign", .str "cross"]) := TopV.tup (xs := [.str "swing", .str "turn", .str "flip", .str "tie", .str "sign", .str "cross"]) (PySem.W.mg_of X G a_PLAIN) d_PLAIN (by simp [sizeLine]) (.cons ⟨_, rfl⟩ (.cons ⟨_, rfl⟩ (.cons ⟨_, rfl⟩ (.cons ⟨_, rfl⟩ (.cons ⟨_, rfl⟩ (.cons ⟨_, rfl⟩ (.nil))))))) fun _ => .cons (.str _) (.cons (.str _) (.cons (.str _) (.cons (.str _) (.cons (.str _) (.cons (.str _) (.nil))))))
  have T_FEW_BITS : TopV K mg "FEW_BITS" (.int 16) := TopV.int (PySem.W.mg_of X G a_FEW_BITS)
  have F2 := funV_mk (st := s_number) l2 c2 k2
  have F33 := funV_mk (st := s_law) l33 c33 k33
  have F_HasLooks : ExcC K "HasLooks" xc_HasLooks := ⟨xn_HasLooks, xe_HasLooks, xga_HasLooks, xgt_HasLooks, xcl_HasLooks, xmo_HasLooks, xbe_HasLooks⟩
  have E_HasLooks : ExcX K "HasLooks" := ⟨⟨_, F_HasLooks⟩⟩
  have F_UnlikeWires : ExcC K "UnlikeWires" xc_UnlikeWires := ⟨xn_UnlikeWires, xe_UnlikeWires, xga_UnlikeWires, xgt_UnlikeWires, xcl_UnlikeWires, xmo_UnlikeWires, xbe_UnlikeWires⟩
  have E_UnlikeWires : ExcX K "UnlikeWires" := ⟨⟨_, F_UnlikeWires⟩⟩
  have H_WaveError : Hnd K "WaveError" hs_WaveError := ⟨⟨_, xn_WaveError, xe_WaveError, (.cons F_HasLooks xs_HasLooks_WaveError (.cons F_UnlikeWires xs_UnlikeWires_WaveError .nil))⟩⟩
  have I_UnlikeWires : IsX K "UnlikeWires" tt_UnlikeWires := (.cons F_HasLooks xn_UnlikeWires xk_HasLooks_UnlikeWires (.cons F_UnlikeWires xn_UnlikeWires xk_UnlikeWires_UnlikeWires .nil))
  have I_OddTurn : IsX K "OddTurn" tt_OddTurn := (.cons F_HasLooks xn_OddTurn xk_HasLooks_OddTurn (.cons F_UnlikeWires xn_OddTurn xk_UnlikeWires_OddTurn .nil))
  have I_HasLooks : IsX K "HasLooks" tt_HasLooks := (.cons F_HasLooks xn_HasLooks xk_HasLooks_HasLooks (.cons F_UnlikeWires xn_HasLooks xk_UnlikeWires_HasLooks .nil))
  refine ⟨PySem.W.fnOf "law" "law" (defArgs s_law) (defBody s_law) (defScope s_law) .none kV33 dc33 pm33 an33 cd33 ct33, fun s v => .of_eq rfl, fun base _ _ => ?_⟩
  have C_twos_shared : Cal l.prog w K mg base "twos_shared" 1 g_twos_shared [] := D0.cal X G bd_twos_shared fun _ _ F => ok_twos_shared F T
  have C_by_root : Cal l.prog w K mg base "by_root" 1 g_by_root [] := D1.cal X G bd_by_root fun _ _ F => ok_by_root F T
  have O2 : FnOk l.prog w K mg base CX0 2 _ _ _ (spD K g_number) := ok_number F2 T C_twos_shared C_by_root
  have C_number : Cal l.prog w K mg base "number" 2 g_number [] := ⟨⟨_, _, _, [], [], O2, PySem.W.mg_of X G a2, k2, F2.bindsK d2 rfl (ps := ["a", "b", "c", "d", "k"]) 5 rfl (fun _ _ _ _ _ _ us hl => by obtain ⟨_, _, _, _, _, rfl⟩ := len5 hl; exact rfl), .nil, fun _ => .nil⟩⟩
  have C_parts_over : Cal l.prog w K mg base "parts_over" 2 g_parts_over [] := D3.cal X G bd_parts_over fun _ _ F => ok_parts_over F T C_by_root
  have C_plus : Cal l.prog w K mg base "plus" 3 g_plus [] := D4.cal X G bd_plus fun _ _ F => ok_plus F T C_parts_over C_number
  have C_against : Cal l.prog w K mg base "against" 1 g_against [] := D5.cal X G bd_against fun _ _ F => ok_against F T
  have C_turned : Cal l.prog w K mg base "turned" 1 g_turned [] := D6.cal X G bd_turned fun _ _ F => ok_turned F T
  have C_halved : Cal l.prog w K mg base "halved" 3 g_halved [] := D7.cal X G bd_halved fun _ _ F => ok_halved F T C_number
  have C_worth : Cal l.prog w K mg base "worth" 1 g_worth [] := D8.cal X G bd_worth fun _ _ F => ok_worth F T
  have C_swung : Cal l.prog w K mg base "swung" 4 g_swung [] := D9.cal X G bd_swung fun _ _ F => ok_swung F T C_halved C_plus C_against
  have C_turned_where : Cal l.prog w K mg base "turned_where" 2 g_turned_where [] := D10.cal X G bd_turned_where fun _ _ F => ok_turned_where F T C_turned
  have C_flipped_where : Cal l.prog w K mg base "flipped_where" 1 g_flipped_where [] := D11.cal X G bd_flipped_where fun _ _ F => ok_flipped_where F T
  have C_exchanged : Cal l.prog w K mg base "exchanged" 1 g_exchanged [] := D12.cal X G bd_exchanged fun _ _ F => ok_exchanged F T
  have C_done : Cal l.prog w K mg base "done" 5 g_done [] := D13.cal X G bd_done fun _ _ F => ok_done F T C_worth C_swung C_turned_where C_flipped_where C_exchanged
  have C_all_done : Cal l.prog w K mg base "all_done" 6 g_all_done [] := D14.cal X G bd_all_done fun _ _ F => ok_all_done F T C_done
  have C_all_plain : Cal l.prog w K mg base "all_plain" 1 g_all_plain [] := D15.cal X G bd_all_plain fun _ _ F => ok_all_plain F T T_PLAIN
  have C_is_plain : Cal l.prog w K mg base "is_plain" 2 g_is_plain [] := D16.cal X G bd_is_plain fun _ _ F => ok_is_plain F T C_all_plain
  have Y_refuse_apart : CalX l.prog w K mg base "refuse_apart" 3 x_refuse_apart [] := D17.calX X G bd_refuse_apart fun _ _ F => okx_refuse_apart F T C_is_plain E_HasLooks E_UnlikeWires
  have C_refuse_apart : Cal l.prog w K mg base "refuse_apart" 3 g_refuse_apart [] := D17.cal X G bd_refuse_apart fun _ _ F => ok_refuse_apart F T C_is_plain
  have C_columns_apart : Cal l.prog w K mg base "columns_apart" 7 g_columns_apart [] := D18.cal X G bd_columns_apart fun _ _ F => ok_columns_apart F T C_all_done
  have C_turn_to : Cal l.prog w K mg base "turn_to" 2 g_turn_to [] := D19.cal X G bd_turn_to fun _ _ F => ok_turn_to F T C_turned
  have C_turn_apart : Cal l.prog w K mg base "turn_apart" 8 g_turn_apart [] := D20.cal X G bd_turn_apart fun _ _ F => ok_turn_apart F T C_turn_to C_columns_apart
  have Y_round_of : CalX l.prog w K mg base "round_of" 9 x_round_of [] := D21.calX X G bd_round_of fun _ _ F => okx_round_of F T T_FEW_BITS C_refuse_apart C_columns_apart C_all_done C_turn_to C_turn_apart Y_refuse_apart
  have C_round_of : Cal l.prog w K mg base "round_of" 9 g_round_of [] := D21.cal X G bd_round_of fun _ _ F => ok_round_of F T T_FEW_BITS C_refuse_apart C_columns_apart C_all_done C_turn_to C_turn_apart
  have C__law_cell_at : Cal l.prog w K mg base "_law_cell_at" 1 g__law_cell_at [] := D22.cal X G bd__law_cell_at fun _ _ F => ok__law_cell_at F T
  have C__law_row : Cal l.prog w K mg base "_law_row" 1 g__law_row [] := D23.cal X G bd__law_row fun _ _ F => ok__law_row F T
  have C__law_turned : Cal l.prog w K mg base "_law_turned" 1 g__law_turned [] := D24.cal X G bd__law_turned fun _ _ F => ok__law_turned F T
  have C__law_raised : Cal l.prog w K mg base "_law_raised" 1 g__law_raised [] := D25.cal X G bd__law_raised fun _ _ F => ok__law_raised F T
  have C__law_moved : Cal l.prog w K mg base "_law_moved" 1 g__law_moved [] := D26.cal X G bd__law_moved fun _ _ F => ok__law_moved F T
  have C__law_row_done : Cal l.prog w K mg base "_law_row_done" 2 g__law_row_done [] := D27.cal X G bd__law_row_done fun _ _ F => ok__law_row_done F T C__law_turned C__law_moved
  have O__law_columns : CalO l.prog w K mg base "_law_columns" 3 g__law_columns [] := D28.calO X G bd__law_columns fun _ _ F => oko__law_columns F T C__law_row_done
  have C__law_columns : Cal l.prog w K mg base "_law_columns" 3 g__law_columns [] := D28.cal X G bd__law_columns fun _ _ F => ok__law_columns F T C__law_row_done
  have C__law_swings : Cal l.prog w K mg base "_law_swings" 1 g__law_swings [] := D29.cal X G bd__law_swings fun _ _ F => ok__law_swings F T
  have C__law_begun_again : Cal l.prog w K mg base "_law_begun_again" 2 g__law_begun_again [] := D30.cal X G bd__law_begun_again fun _ _ F => ok__law_begun_again F T C__law_raised C__law_turned
  have C__law_due : Cal l.prog w K mg base "_law_due" 4 g__law_due [] := D31.cal X G bd__law_due fun _ _ F => ok__law_due F T C__law_columns C__law_begun_again C__law_row_done C__law_swings O__law_columns
  have C__law_refused : Cal l.prog w K mg base "_law_refused" 10 g__law_refused [] := D32.cal X G bd__law_refused fun _ _ F => ok__law_refused F T C_round_of Y_round_of H_WaveError I_UnlikeWires I_OddTurn I_HasLooks
  have O33 : FnOk l.prog w K mg base CX0 11 _ _ _ (spD K g_law) := ok_law F33 T C__law_cell_at C_round_of C__law_due C__law_row C__law_refused
  exact law_v O33 fun ns hl => law_true ns hl

end GN
open PySem PySem.W PyProof.Rows
set_option maxRecDepth 100000 in
set_option maxHeartbeats 0 in
theorem PySem.Challenge.cw_wavewires_k60_rounds_holds : PySem.Challenge.rw_wavewires_k60_rounds.Holds := by
  w_on; o_law; k_head; (case hw => w_witness2)
  k_fill
  refine VL.walkV (k := 11) (l := PySem.Challenge.rw_wavewires_k60_rounds) rfl ⟨rfl, by decide, by decide⟩ rfl (fun w h Y => PySem.W.kIn_of Y) ?F
  case F =>
    intro w mg fa h KX G hmg
    refine' GN.all_mk KX G hmg (VL.DefIn.mk ?a0 ?l0 ?c0 ?k0) (VL.DefIn.mk ?a1 ?l1 ?c1 ?k1) ?a2 ?l2 ?c2 ?k2 ?d2 (VL.DefIn.mk ?a3 ?l3 ?c3 ?k3) (VL.DefIn.mk ?a4 ?l4 ?c4 ?k4) (VL.DefIn.mk ?a5 ?l5 ?c5 ?k5) (VL.DefIn.mk ?a6 ?l6 ?c6 ?k6) (VL.DefIn.mk ?a7 ?l7 ?c7 ?k7) (VL.DefIn.mk ?a8 ?l8 ?c8 ?k8) (VL.DefIn.mk ?a9 ?l9 ?c9 ?k9) (VL.DefIn.mk ?a10 ?l10 ?c10 ?k10) (VL.DefIn.mk ?a11 ?l11 ?c11 ?k11) (VL.DefIn.mk ?a12 ?l12 ?c12 ?k12) (VL.DefIn.mk ?a13 ?l13 ?c13 ?k13) (VL.DefIn.mk ?a14 ?l14 ?c14 ?k14) (VL.DefIn.mk ?a15 ?l15 ?c15 ?k15) (VL.DefIn.mk ?a16 ?l16 ?c16 ?k16) (VL.DefIn.mk ?a17 ?l17 ?c17 ?k17) (VL.DefIn.mk ?a18 ?l18 ?c18 ?k18) (VL.DefIn.mk ?a19 ?l19 ?c19 ?k19) (VL.DefIn.mk ?a20 ?l20 ?c20 ?k20) (VL.DefIn.mk ?a21 ?l21 ?c21 ?k21) (VL.DefIn.mk ?a22 ?l22 ?c22 ?k22) (VL.DefIn.mk ?a23 ?l23 ?c23 ?k23) (VL.DefIn.mk ?a24 ?l24 ?c24 ?k24) (VL.DefIn.mk ?a25 ?l25 ?c25 ?k25) (VL.DefIn.mk ?a26 ?l26 ?c26 ?k26) (VL.DefIn.mk ?a27 ?l27 ?c27 ?k27) (VL.DefIn.mk ?a28 ?l28 ?c28 ?k28) (VL.DefIn.mk ?a29 ?l29 ?c29 ?k29) (VL.DefIn.mk ?a30 ?l30 ?c30 ?k30) (VL.DefIn.mk ?a31 ?l31 ?c31 ?k31) (VL.DefIn.mk ?a32 ?l32 ?c32 ?k32) ?a33 ?l33 ?c33 ?k33 ?z_min ?z_max ?z_range ?z_tuple ?z_len ?z_all ?z_list ?z_isinstance ?z_int ?z_bool ?a_PLAIN ?d_PLAIN ?a_FEW_BITS ?xn_WaveError ?xn_UnlikeWires ?xn_OddTurn ?xn_HasLooks ?xe_WaveError ?xe_UnlikeWires ?xe_HasLooks ?xga_HasLooks ?xgt_HasLooks ?xcl_HasLooks ?xmo_HasLooks ?xbe_HasLooks ?xga_UnlikeWires ?xgt_UnlikeWires ?xcl_UnlikeWires ?xmo_UnlikeWires ?xbe_UnlikeWires ?xs_HasLooks_WaveError ?xs_UnlikeWires_WaveError ?xk_HasLooks_UnlikeWires ?xk_UnlikeWires_UnlikeWires ?xk_HasLooks_OddTurn ?xk_UnlikeWires_OddTurn ?xk_HasLooks_HasLooks ?xk_UnlikeWires_HasLooks
    (case a0 => k_is)
    (case l0 => k_is)
    (case c0 => k_is)
    (case k0 => k_is)
    (case a1 => k_is)
    (case l1 => k_is)
    (case c1 => k_is)
    (case k1 => k_is)
    (case a2 => k_is)
    (case l2 => k_is)
    (case c2 => k_is)
    (case k2 => k_is)
    (case d2 => k_is)
    (case a3 => k_is)
    (case l3 => k_is)
    (case c3 => k_is)
    (case k3 => k_is)
    (case a4 => k_is)
    (case l4 => k_is)
    (case c4 => k_is)
    (case k4 => k_is)
    (case a5 => k_is)
    (case l5 => k_is)
    (case c5 => k_is)
    (case k5 => k_is)
    (case a6 => k_is)
    (case l6 => k_is)
    (case c6 => k_is)
    (case k6 => k_is)
    (case a7 => k_is)
    (case l7 => k_is)
    (case c7 => k_is)
    (case k7 => k_is)
    (case a8 => k_is)
    (case l8 => k_is)
    (case c8 => k_is)
    (case k8 => k_is)
    (case a9 => k_is)
    (case l9 => k_is)
    (case c9 => k_is)
    (case k9 => k_is)
    (case a10 => k_is)
    (case l10 => k_is)
    (case c10 => k_is)
    (case k10 => k_is)
    (case a11 => k_is)
    (case l11 => k_is)
    (case c11 => k_is)
    (case k11 => k_is)
    (case a12 => k_is)
    (case l12 => k_is)
    (case c12 => k_is)
    (case k12 => k_is)
    (case a13 => k_is)
    (case l13 => k_is)
    (case c13 => k_is)
    (case k13 => k_is)
    (case a14 => k_is)
    (case l14 => k_is)
    (case c14 => k_is)
    (case k14 => k_is)
    (case a15 => k_is)
    (case l15 => k_is)
    (case c15 => k_is)
    (case k15 => k_is)
    (case a16 => k_is)
    (case l16 => k_is)
    (case c16 => k_is)
    (case k16 => k_is)
    (case a17 => k_is)
    (case l17 => k_is)
    (case c17 => k_is)
    (case k17 => k_is)
    (case a18 => k_is)
    (case l18 => k_is)
    (case c18 => k_is)
    (case k18 => k_is)
    (case a19 => k_is)
    (case l19 => k_is)
    (case c19 => k_is)
    (case k19 => k_is)
    (case a20 => k_is)
    (case l20 => k_is)
    (case c20 => k_is)
    (case k20 => k_is)
    (case a21 => k_is)
    (case l21 => k_is)
    (case c21 => k_is)
    (case k21 => k_is)
    (case a22 => k_is)
    (case l22 => k_is)
    (case c22 => k_is)
    (case k22 => k_is)
    (case a23 => k_is)
    (case l23 => k_is)
    (case c23 => k_is)
    (case k23 => k_is)
    (case a24 => k_is)
    (case l24 => k_is)
    (case c24 => k_is)
    (case k24 => k_is)
    (case a25 => k_is)
    (case l25 => k_is)
    (case c25 => k_is)
    (case k25 => k_is)
    (case a26 => k_is)
    (case l26 => k_is)
    (case c26 => k_is)
    (case k26 => k_is)
    (case a27 => k_is)
    (case l27 => k_is)
    (case c27 => k_is)
    (case k27 => k_is)
    (case a28 => k_is)
    (case l28 => k_is)
    (case c28 => k_is)
    (case k28 => k_is)
    (case a29 => k_is)
    (case l29 => k_is)
    (case c29 => k_is)
    (case k29 => k_is)
    (case a30 => k_is)
    (case l30 => k_is)
    (case c30 => k_is)
    (case k30 => k_is)
    (case a31 => k_is)
    (case l31 => k_is)
    (case c31 => k_is)
    (case k31 => k_is)
    (case a32 => k_is)
    (case l32 => k_is)
    (case c32 => k_is)
    (case k32 => k_is)
    (case a33 => k_is)
    (case l33 => k_is)
    (case c33 => k_is)
    (case k33 => k_is)
    (case z_min => k_is)
    (case z_max => k_is)
    (case z_range => k_is)
    (case z_tuple => k_is)
    (case z_len => k_is)
    (case z_all => k_is)
    (case z_list => k_is)
    (case z_isinstance => k_is)
    (case z_int => k_is)
    (case z_bool => k_is)
    (case a_PLAIN => k_is)
    (case d_PLAIN => k_is)
    (case a_FEW_BITS => k_is)
    (case xn_WaveError => k_is)
    (case xn_UnlikeWires => k_is)
    (case xn_OddTurn => k_is)
    (case xn_HasLooks => k_is)
    (case xe_WaveError => k_exc)
    (case xe_UnlikeWires => k_exc)
    (case xe_HasLooks => k_exc)
    (case xga_HasLooks => k_is)
    (case xgt_HasLooks => k_is)
    (case xcl_HasLooks => k_is)
    (case xmo_HasLooks => k_is)
    (case xbe_HasLooks => k_is)
    (case xga_UnlikeWires => k_is)
    (case xgt_UnlikeWires => k_is)
    (case xcl_UnlikeWires => k_is)
    (case xmo_UnlikeWires => k_is)
    (case xbe_UnlikeWires => k_is)
    (case xs_HasLooks_WaveError => k_is)
    (case xs_UnlikeWires_WaveError => k_is)
    (case xk_HasLooks_UnlikeWires => kit_is)
    (case xk_UnlikeWires_UnlikeWires => kit_is)
    (case xk_HasLooks_OddTurn => kit_is)
    (case xk_UnlikeWires_OddTurn => kit_is)
    (case xk_HasLooks_HasLooks => kit_is)
    (case xk_UnlikeWires_HasLooks => kit_is)
