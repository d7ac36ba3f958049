import PyProof.Rows.All
import Wide.All
import OpenK.AllK
import Wide.FinOn
import Lean
import PyProof.EqAt
import PyProof.EqKinds
import PyProof.TupleCall
import PySem.Challenge.RW_wavewires_k57_alike_by_moves
set_option Elab.async false
set_option linter.all false
set_option maxRecDepth 100000
/-! THE HAND LAYER, for ints, bools, texts, own classes, LISTS and tuples (index, slices, in, append, pop ..), calls, loops. Paste it whole ahead of your own text; what your proof does not reach may be deleted. -/
namespace L2
open PySem PySem.Spec PyProof.Rows

/-- a key: an int or a str -/
noncomputable abbrev Key := Sum Int Str
noncomputable def keyIs : Key → Value → Bool
  | .inl k, v => Value.isInt k v
  | .inr x, v => Value.isStrOf x v
noncomputable def keyH (w : World) : Key → Int
  | .inl k => hashInt k
  | .inr x => hashStr w x
theorem keyIs_shape : ∀ {k : Key} {v : Value}, keyIs k v = true → (∃ i t, k = Sum.inl i ∧ v = Value.int i t) ∨ (∃ x t, k = Sum.inr x ∧ v = Value.str x t)
  | .inl i, v, h => by
    obtain ⟨t, e⟩ := Value.isInt_shape (k := i) (v := v) h
    exact .inl ⟨i, t, rfl, e⟩
  | .inr x, v, h => by
    obtain ⟨t, e⟩ := Value.isStrOf_shape (x := x) (v := v) h
    exact .inr ⟨x, t, rfl, e⟩
theorem key_ll (a b : Int) : decide ((Sum.inl a : Key) = Sum.inl b) = (a == b) := by
  by_cases e : a = b
  · subst e; simp
  · have h : ¬ (Sum.inl a : Key) = Sum.inl b := fun q => e (Sum.inl.inj q)
    rw [decide_eq_false h]
    exact (beq_eq_false_iff_ne.mpr e).symm
theorem key_rr (a b : Str) : decide ((Sum.inr a : Key) = Sum.inr b) = decide (a = b) := by
  by_cases e : a = b
  · subst e; simp
  · have h : ¬ (Sum.inr a : Key) = Sum.inr b := fun q => e (Sum.inr.inj q)
    rw [decide_eq_false h, decide_eq_false e]
theorem key_lr (a : Int) (b : Str) : decide ((Sum.inl a : Key) = Sum.inr b) = false := decide_eq_false (fun q => nomatch q)
theorem key_rl (a : Str) (b : Int) : decide ((Sum.inr a : Key) = Sum.inl b) = false := decide_eq_false (fun q => nomatch q)

noncomputable def mixKind (prog : Program) (w : World) : PySem.KeyKind prog w Key where
  is := keyIs
  hash := keyH w
  inj := fun v a b ha hb => by
    rcases keyIs_shape ha with ⟨i, t, rfl, rfl⟩ | ⟨x, t, rfl, rfl⟩
    · rcases keyIs_shape hb with ⟨j, u, rfl, e⟩ | ⟨y, u, rfl, e⟩
      · injection e with e1 _; rw [e1]
      · exact nomatch e
    · rcases keyIs_shape hb with ⟨j, u, rfl, e⟩ | ⟨y, u, rfl, e⟩
      · exact nomatch e
      · injection e with e1 _; rw [e1]
  byValue := fun k v h => by
    rcases keyIs_shape h with ⟨i, t, rfl, rfl⟩ | ⟨x, t, rfl, rfl⟩ <;> rfl
  pyHash := fun hv h => by
    rcases keyIs_shape hv with ⟨i, t, rfl, rfl⟩ | ⟨x, t, rfl, rfl⟩
    · exact wpAny_pyHash_int h
    · exact wpAny_pyHash_str h
  eqBool := fun hu hv h => by
    rcases keyIs_shape hu with ⟨i, t, rfl, rfl⟩ | ⟨x, t, rfl, rfl⟩
    · rcases keyIs_shape hv with ⟨j, u, rfl, rfl⟩ | ⟨y, u, rfl, rfl⟩
      · rw [key_ll] at h; exact wpAny_eqBool_int h
      · rw [key_lr] at h; exact SeqAt.EqAt.int_str i t y u _ _ _ _ h
    · rcases keyIs_shape hv with ⟨j, u, rfl, rfl⟩ | ⟨y, u, rfl, rfl⟩
      · rw [key_rl] at h; exact SeqAt.EqAt.str_int x t j u _ _ _ _ h
      · rw [key_rr] at h; exact wpAny_eqBool_str h
  «strs» := fun k x t v h => by
    rcases keyIs_shape h with ⟨i, u, rfl, e⟩ | ⟨y, u, rfl, e⟩
    · exact nomatch e
    · injection e with e1 _
      subst e1
      cases v <;> rfl

end L2

namespace L2
open PySem PySem.Spec PyProof.Rows

/-- a value, without the heap -/
inductive V where
  | non | bl (b : Bool) | int (i : Int) | str (x : Str) | byt (b : Array UInt8) | flt (b : UInt64) | ref (a : Addr) | ty (n : String)
  deriving DecidableEq

noncomputable def RelV : V → Value → Prop
  | .non, u => u = Value.none
  | .bl b, u => u = Value.bool b
  | .int i, u => ∃ t, u = Value.int i t
  | .str x, u => ∃ t, u = Value.str x t
  | .byt b, u => ∃ t, u = Value.bytes b t
  | .flt b, u => ∃ t, u = Value.float b t
  | .ref a, u => u = Value.ref a
  | .ty n, u => u = Value.type n

noncomputable abbrev Vals : List V → List Value → Prop := Paired RelV
theorem Vals.length {xs : List V} {us : List Value} (r : Vals xs us) : xs.length = us.length := Paired.length r
theorem Vals.get : ∀ {xs : List V} {us : List Value} {i : Nat} {x : V}, Vals xs us → xs[i]? = some x → ∃ u, us[i]? = some u ∧ RelV x u
  | _, _, _, _, .nil, e => by simp at e
  | _, _, 0, _, .cons r _, e => by simp at e; subst e; exact ⟨_, rfl, r⟩
  | _, _, i + 1, x, .cons _ t, e => by
    obtain ⟨u, h1, h2⟩ := Vals.get (i := i) (x := x) t (by simpa using e)
    exact ⟨u, by simpa using h1, h2⟩
theorem Vals.set {x : V} {u : Value} (r : RelV x u) : ∀ {xs : List V} {us : List Value} (i : Nat), Vals xs us → Vals (xs.set i x) (us.set i u)
  | _, _, _, .nil => .nil
  | _, _, 0, .cons _ t => .cons r t
  | _, _, i + 1, .cons q t => .cons q (Vals.set r i t)
theorem Vals.append : ∀ {xs ys : List V} {us ws : List Value}, Vals xs us → Vals ys ws → Vals (xs ++ ys) (us ++ ws)
  | _, _, _, _, .nil, s => s
  | _, _, _, _, .cons r t, s => .cons r (Vals.append t s)
theorem Vals.take : ∀ {xs : List V} {us : List Value} (n : Nat), Vals xs us → Vals (xs.take n) (us.take n)
  | _, _, 0, _ => .nil
  | _, _, _ + 1, .nil => .nil
  | _, _, n + 1, .cons r t => .cons r (Vals.take n t)
theorem Vals.drop : ∀ {xs : List V} {us : List Value} (n : Nat), Vals xs us → Vals (xs.drop n) (us.drop n)
  | _, _, 0, r => r
  | _, _, _ + 1, .nil => .nil
  | _, _, n + 1, .cons _ t => Vals.drop n t
noncomputable def RelO : Option V → Option Value → Prop
  | some v, some u => RelV v u
  | none, none => True
  | _, _ => False
noncomputable def KV {κ : Type} : List (κ × V) → List (κ × Value) → Prop := Paired fun (p : κ × V) (q : κ × Value) => p.1 = q.1 ∧ RelV p.2 q.2

/-- a key of a dict (00_mix): an int or a text -/
noncomputable def kV : Key → V
  | .inl i => .int i
  | .inr x => .str x

/-- what stands at a tracked address -/
inductive HO where
  /-- a list -/
  | lst (xs : List V)
  /-- a tuple (never changes) -/
  | tup (xs : List V)
  /-- a dict whose keys are ints and texts; one whose keys are tuples of ints and texts (the empty one is both) -/
  | dK (kvs : List (Key × V)) | dT (kvs : List (List Key × V))
  /-- a set of ints: its members, its size -/
  | set (S : Int → Bool) (n : Nat)
  /-- an instance of the class at C, its dict at dx, its attributes -/
  | ins (C dx : Addr) (fs : List (Str × V))
  /-- the dict of the instance at x -/
  | own (x : Addr)
  /-- the dict of an exception -/
  | xd (fs : List (Str × V))
  /-- a bound method, f of x -/
  | met (f x : Addr)
  /-- a range object lo, lo + 1, .. below hi -/
  | rng (lo hi : Int)
  /-- a thing that is known to the object (the script; a dict while a loop walks it): read, never written while it is so -/
  | frz (o : Obj) (u : HO)
  /-- a code object's table -/
  | tbl (ps : Array Value)
  /-- any other thing, by what is true of its one object (a def of one's own: SetO a S n := HO.ext fun h => ..) -/
  | ext (φ : Heap → Prop)

noncomputable abbrev Hp := Addr → Option HO
noncomputable def upd (H : Hp) (a : Addr) (o : HO) : Hp := fun b => if b = a then some o else H b
theorem upd_same {H : Hp} {a : Addr} {o : HO} : upd H a o a = some o := by unfold upd; rw [if_pos rfl]
theorem upd_ne {H : Hp} {a b : Addr} {o : HO} (h : b ≠ a) : upd H a o b = H b := by unfold upd; rw [if_neg h]
theorem ne_of_none {H : Hp} {a b : Addr} {o : HO} (h : H a = some o) (h' : H b = none) : a ≠ b := by
  intro e; subst e; rw [h] at h'; cases h'

section
variable (P : Program) (w : World)
noncomputable def ObjOk (H : Hp) (h : Heap) (a : Addr) : HO → Prop
  | .lst xs => xs.length ≤ sizeLine ∧ ∃ (its : List Value) (n : Nat), Vals xs its ∧ h.get? a = some { cls := .type "list", data := .seq its.toArray n }
  | .tup xs => xs.length ≤ sizeLine ∧ ∃ its : List Value, Vals xs its ∧ IsTup h a its.toArray
  | .dK kvs => kvs.length ≤ sizeLine ∧ (a == sysModules) = false ∧ ∃ vs, KV kvs vs ∧ h.DictOf (mixKind P w) a vs
  | .dT kvs => kvs.length ≤ sizeLine ∧ (a == sysModules) = false ∧ ∃ xs : List (List Key × Addr × Value),
      Paired (fun (p : List Key × V) (q : List Key × Addr × Value) => p.1 = q.1 ∧ H q.2.1 = some (.tup (p.1.map kV)) ∧ RelV p.2 q.2.2) kvs xs ∧
      ∃ o es ep, h.get? a = some o ∧ o.ExactDict ∧ o.data = .dict es ep ∧ es.toList = xs.map (entryOfKey (tupleKind (mixKind P w))) ∧ (xs.map (·.1)).Nodup
  | .set S n => h.SetOf (intKind P w) a S n
  | .ins C dx fs => H dx = some (.own a) ∧ fs.length ≤ 1000 ∧ dx ≠ a ∧ h.get? a = some (PySem.W.instObj C dx) ∧
      ∃ mA, h.Ns1 dx mA ∧ (∀ f, RelO (fs.lookup f) (mA f)) ∧ PySem.Within mA (fs.map (·.1))
  | .own _ => ∃ o, h.get? a = some o
  | .xd fs => ∃ mA, h.Ns1 a mA ∧ ∀ f, RelO (fs.lookup f) (mA f)
  | .rng lo hi => ∃ t u v, h.get? a = some { cls := .type "range", data := .fields #[.int lo t, .int hi u, .int 1 v] }
  | .frz o u => h.get? a = some o ∧ ObjOk H h a u
  | .tbl ps => h.get? a = some { cls := .none, data := .fields ps }
  | .met f x => h.get? a = some (PySem.W.methodObj (.ref f) (.ref x))
  | .ext φ => φ h ∧ (∃ o, h.get? a = some o) ∧ ∀ h1 h2 : Heap, φ h1 → (∀ o, h1.get? a = some o → h2.get? a = some o) → φ h2
/-- the abstract heap is held -/
noncomputable def HOk (H : Hp) (h : Heap) : Prop := ∀ a o, H a = some o → ObjOk P w H h a o
end

section
variable {P : Program} {w : World} {H H' : Hp} {h h' : Heap} {a : Addr} {o : HO}
theorem ObjOk.lt (x : ObjOk P w H h a o) : a < h.objs.size := by
  cases o with
  | lst xs => obtain ⟨_, _, _, _, e⟩ := x; exact Heap.lt_size e
  | tup xs => obtain ⟨_, _, _, p⟩ := x; exact p.lt
  | dK kvs => obtain ⟨_, _, _, _, o, _, _, e, _⟩ := x; exact Heap.lt_size e
  | dT kvs => obtain ⟨_, _, _, _, o, _, _, e, _⟩ := x; exact Heap.lt_size e
  | set S n => obtain ⟨o, _, _, _, e, _⟩ := x; exact Heap.lt_size e
  | ins C dx fs => obtain ⟨_, _, _, e, _⟩ := x; exact Heap.lt_size e
  | own y => obtain ⟨_, e⟩ := x; exact Heap.lt_size e
  | xd fs => obtain ⟨_, ⟨_, _, _, e, _⟩, _⟩ := x; exact Heap.lt_size e
  | rng lo hi => obtain ⟨_, _, _, e⟩ := x; exact Heap.lt_size e
  | frz ob u => obtain ⟨e, _⟩ := x; exact Heap.lt_size e
  | tbl ps => exact Heap.lt_size (show h.get? a = some _ from x)
  | met f y => exact Heap.lt_size (show h.get? a = some _ from x)
  | ext φ => obtain ⟨_, ⟨_, e⟩, _⟩ := x; exact Heap.lt_size e
theorem Paired.mapP {α β : Type} {F G : α → β → Prop} : ∀ {l₁ : List α} {l₂ : List β}, Paired F l₁ l₂ → (∀ a b, F a b → G a b) → Paired G l₁ l₂
  | _, _, .nil, _ => .nil
  | _, _, .cons r t, f => .cons (f _ _ r) (Paired.mapP t f)
/-- what an object's description leans on: its own object, its own dict, the tuples -/
theorem ObjOk.stay (x : ObjOk P w H h a o) (k : ∀ b u, (b = a ∨ H b = some (.own a)) → h.get? b = some u → h'.get? b = some u)
    (ho : ∀ b, H b = some (.own a) → H' b = some (.own a)) (ht : ∀ b xs, H b = some (.tup xs) → H' b = some (.tup xs)) : ObjOk P w H' h' a o := by
  induction o with
  | lst xs => obtain ⟨z, its, n, r, e⟩ := x; exact ⟨z, its, n, r, k _ _ (.inl rfl) e⟩
  | tup xs => obtain ⟨z, its, r, ob, e, c⟩ := x; exact ⟨z, its, r, ob, k _ _ (.inl rfl) e, c⟩
  | dK kvs => obtain ⟨z, y, vs, r, ob, es, ep, e, c⟩ := x; exact ⟨z, y, vs, r, ob, es, ep, k _ _ (.inl rfl) e, c⟩
  | dT kvs =>
    obtain ⟨z, y, xs, r, ob, es, ep, e, c⟩ := x
    exact ⟨z, y, xs, Paired.mapP r fun p q z => ⟨z.1, ht _ _ z.2.1, z.2.2⟩, ob, es, ep, k _ _ (.inl rfl) e, c⟩
  | set S n => obtain ⟨ob, es, ep, t, e, c⟩ := x; exact ⟨ob, es, ep, t, k _ _ (.inl rfl) e, c⟩
  | ins C dx fs =>
    obtain ⟨d, z, ne, e, mA, ⟨od, es, ep, e2, c⟩, r⟩ := x
    exact ⟨ho _ d, z, ne, k _ _ (.inl rfl) e, mA, ⟨od, es, ep, k _ _ (.inr d) e2, c⟩, r⟩
  | own y => obtain ⟨ob, e⟩ := x; exact ⟨ob, k _ _ (.inl rfl) e⟩
  | xd fs => obtain ⟨mA, ⟨od, es, ep, e, c⟩, r⟩ := x; exact ⟨mA, ⟨od, es, ep, k _ _ (.inl rfl) e, c⟩, r⟩
  | rng lo hi => obtain ⟨t, u, v, e⟩ := x; exact ⟨t, u, v, k _ _ (.inl rfl) e⟩
  | frz ob u ih => obtain ⟨e, q⟩ := x; exact ⟨k _ _ (.inl rfl) e, ih q⟩
  | tbl ps =>
    have e : h.get? a = some { cls := .none, data := .fields ps } := x
    show h'.get? a = some { cls := .none, data := .fields ps }
    exact k a _ (.inl rfl) e
  | met f y =>
    have e : h.get? a = some (PySem.W.methodObj (.ref f) (.ref y)) := x
    show h'.get? a = some (PySem.W.methodObj (.ref f) (.ref y))
    exact k a _ (.inl rfl) e
  | ext φ => obtain ⟨p, ⟨o, e⟩, st⟩ := x; exact ⟨st _ _ p fun o q => k _ _ (.inl rfl) q, ⟨o, k _ _ (.inl rfl) e⟩, st⟩
theorem HOk.lt (x : HOk P w H h) (e : H a = some o) : a < h.objs.size := (x a o e).lt
theorem HOk.fresh (x : HOk P w H h) (e : h.objs.size ≤ a) : H a = none := by
  cases q : H a with
  | none => rfl
  | some u => exact absurd (Nat.lt_of_lt_of_le (x.lt q) e) (Nat.lt_irrefl _)
/-- every object of the heap is kept -/
theorem HOk.kept (x : HOk P w H h) (k : ∀ b u, h.get? b = some u → h'.get? b = some u) : HOk P w H h' := fun a o e =>
  (x a o e).stay (fun b u _ q => k b u q) (fun _ q => q) fun _ _ q => q
/-- a new object is laid and tracked -/
theorem HOk.laid (x : HOk P w H h) (k : ∀ b u, h.get? b = some u → h'.get? b = some u) (hp : h.objs.size ≤ a) (new : ObjOk P w (upd H a o) h' a o) : HOk P w (upd H a o) h' := fun b u e => by
  have hn := x.fresh hp
  by_cases hb : b = a
  · subst hb; rw [upd_same] at e; cases e; exact new
  · rw [upd_ne hb] at e
    exact (x b u e).stay (fun c v _ q => k c v q) (fun c q => by rw [upd_ne (ne_of_none q hn)]; exact q) fun c xs q => by rw [upd_ne (ne_of_none q hn)]; exact q
end

/-- what may be read as u: it is u, or a known u -/
noncomputable def Rd (H : Hp) (a : Addr) (u : HO) : Prop := H a = some u ∨ ∃ o, H a = some (.frz o u)
theorem Rd.of {H : Hp} {a : Addr} {u : HO} (h : H a = some u) : Rd H a u := .inl h
theorem Rd.ok {P : Program} {w : World} {H : Hp} {h : Heap} {a : Addr} {u : HO} (r : Rd H a u) (x : HOk P w H h) : ObjOk P w H h a u := by
  rcases r with r | ⟨o, r⟩
  · exact x a u r
  · obtain ⟨_, q⟩ := x a _ r
    exact q
/-- what may be written -/
noncomputable def Mut : Option HO → Prop
  | some (.lst _) => True
  | some (.dK _) => True
  | some (.dT _) => True
  | some (.set _ _) => True
  | some (.ins _ _ _) => True
  | some (.ext _) => True
  | _ => False
section
variable {P : Program} {w : World} {H : Hp} {h h' : Heap} {x e : Addr} {o' : HO}
/-- the object at e is changed: x itself, or the dict of the instance x -/
theorem HOk.write (ok : HOk P w H h) (mu : Mut (H x)) (he : e = x ∨ H e = some (.own x)) (k : ∀ b u, b ≠ e → h.get? b = some u → h'.get? b = some u) (heo : ∃ u, h'.get? e = some u)
    (new : ObjOk P w (upd H x o') h' x o') : HOk P w (upd H x o') h' := fun b u q => by
  have nown : ∀ c y, H c = some (.own y) → c ≠ x := fun c y r z => by subst z; rw [r] at mu; exact mu
  have ntup : ∀ c xs, H c = some (.tup xs) → c ≠ x := fun c xs r z => by subst z; rw [r] at mu; exact mu
  by_cases hb : b = x
  · subst hb; rw [upd_same] at q; cases q; exact new
  · rw [upd_ne hb] at q
    by_cases hbe : b = e
    · have q' : H b = some (.own x) := by
        rcases he with z | z
        · exact absurd (hbe.trans z) hb
        · rw [hbe]; exact z
      rw [q] at q'; cases q'
      obtain ⟨v, hv⟩ := heo
      exact ⟨v, by rw [hbe]; exact hv⟩
    · refine (ok b u q).stay (fun c v hc r => k c v ?_ r) (fun c r => by rw [upd_ne (nown c b r)]; exact r) fun c xs r => by rw [upd_ne (ntup c xs r)]; exact r
      rcases hc with rfl | hc
      · exact hbe
      · rintro rfl
        rcases he with z | z
        · exact nown c b hc z
        · rw [hc] at z; cases z; exact hb rfl
end

/-! ### kept unless tracked; of the frames at fs (the callers') the slots may change (an exception that passes writes there); of the records at ex (iterators) nothing is said -/
structure Un (fs ex : List Addr) (H H' : Hp) (h h' : Heap) : Prop where
  keep : ∀ b o, h.get? b = some o → H b = none → b ∉ fs → b ∉ ex → h'.get? b = some o
  slot : ∀ b o, h.get? b = some o → H b = none → b ∈ fs → b ∉ ex → ∃ sl, h'.get? b = some { o with slots := sl }
  free : ∀ b o, h.get? b = some o → H b = none → b ∉ ex → H' b = none
  there : ∀ b o, h.get? b = some o → b ∉ ex → ∃ o', h'.get? b = some o'
  tups : ∀ b xs, H b = some (.tup xs) → H' b = some (.tup xs)
  frzs : ∀ b o u, H b = some (.frz o u) → H' b = some (.frz o u)
  tbls : ∀ b ps, H b = some (.tbl ps) → ∃ more, H' b = some (.tbl (ps ++ more))
section
variable {fs fs' ex ex' : List Addr} {H H1 H2 : Hp} {h h1 h2 h' : Heap} {a x e : Addr} {o : HO}
theorem Un.any (u : Un fs ex H H1 h h1) {b : Addr} {ob : Obj} (q : h.get? b = some ob) (n : H b = none) (hx : b ∉ ex) : ∃ sl, h1.get? b = some { ob with slots := sl } := by
  by_cases hb : b ∈ fs
  · exact u.slot b ob q n hb hx
  · exact ⟨ob.slots, u.keep b ob q n hb hx⟩
theorem Un.trans (a : Un fs ex H H1 h h1) (b : Un fs ex H1 H2 h1 h2) : Un fs ex H H2 h h2 where
  keep := fun c ob q n hc hx => b.keep c ob (a.keep c ob q n hc hx) (a.free c ob q n hx) hc hx
  slot := fun c ob q n hc hx => by
    obtain ⟨sl, e1⟩ := a.slot c ob q n hc hx
    obtain ⟨sl', e2⟩ := b.slot c _ e1 (a.free c ob q n hx) hc hx
    exact ⟨sl', e2⟩
  free := fun c ob q n hx => by
    obtain ⟨o', e1⟩ := a.there c ob q hx
    exact b.free c o' e1 (a.free c ob q n hx) hx
  there := fun c ob q hx => by
    obtain ⟨o', e1⟩ := a.there c ob q hx
    exact b.there c o' e1 hx
  tups := fun c xs q => b.tups c xs (a.tups c xs q)
  frzs := fun c ob xs q => b.frzs c ob xs (a.frzs c ob xs q)
  tbls := fun c ps q => by
    obtain ⟨m1, e1⟩ := a.tbls c ps q
    obtain ⟨m2, e2⟩ := b.tbls c _ e1
    exact ⟨m1 ++ m2, by rw [e2, Array.append_assoc]⟩
theorem Un.kept (k : ∀ b u, h.get? b = some u → h'.get? b = some u) : Un fs ex H H h h' :=
  ⟨fun b ob q _ _ _ => k b ob q, fun b ob q _ _ _ => ⟨ob.slots, k b ob q⟩, fun _ _ _ n _ => n, fun b ob q _ => ⟨ob, k b ob q⟩, fun _ _ q => q, fun _ _ _ q => q, fun _ ps q => ⟨#[], by rw [q]; simp⟩⟩
theorem Un.refl : Un fs ex H H h h := Un.kept fun _ _ q => q
theorem Un.laid (k : ∀ b u, h.get? b = some u → h'.get? b = some u) (hp : h.objs.size ≤ a) (hn : H a = none) : Un fs ex H (upd H a o) h h' where
  keep := fun b u q _ _ _ => k b u q
  slot := fun b u q _ _ _ => ⟨u.slots, k b u q⟩
  free := fun b u q n _ => by rw [upd_ne (Nat.ne_of_lt (Nat.lt_of_lt_of_le (Heap.lt_size q) hp))]; exact n
  there := fun b u q _ => ⟨u, k b u q⟩
  tups := fun b xs q => by rw [upd_ne (ne_of_none q hn)]; exact q
  frzs := fun b u xs q => by rw [upd_ne (ne_of_none q hn)]; exact q
  tbls := fun b ps q => ⟨#[], by rw [upd_ne (ne_of_none q hn), q]; simp⟩
theorem Un.write (mu : Mut (H x)) (he : e = x ∨ H e = some (.own x)) (k : ∀ b u, b ≠ e → h.get? b = some u → h'.get? b = some u) (heo : ∃ u, h'.get? e = some u) : Un fs ex H (upd H x o) h h' := by
  have hx : ∀ b, H b = none → b ≠ x := fun b n z => by subst z; rw [n] at mu; exact mu
  have hb : ∀ b, H b = none → b ≠ e := fun b n z => by
    subst z
    rcases he with r | r
    · exact hx b n r
    · rw [n] at r; cases r
  have hm : ∀ b u, H b = some u → ¬ Mut (some u) → b ≠ x := fun b u q nm z => by subst z; rw [q] at mu; exact nm mu
  refine ⟨fun b u q n _ _ => k b u (hb b n) q, fun b u q n _ _ => ⟨u.slots, k b u (hb b n) q⟩, fun b u q n _ => by rw [upd_ne (hx b n)]; exact n, fun b u q _ => ?_,
    fun b xs q => by rw [upd_ne (hm b _ q fun z => z)]; exact q, fun b u xs q => by rw [upd_ne (hm b _ q fun z => z)]; exact q, fun b ps q => ⟨#[], by rw [upd_ne (hm b _ q fun z => z), q]; simp⟩⟩
  by_cases hbe : b = e
  · subst hbe; exact heo
  · exact ⟨u, k b u hbe q⟩
theorem Un.mono (u : Un fs ex H H1 h h1) (hs : ∀ b ∈ fs, b ∈ fs') (hx : ∀ b ∈ ex, b ∈ ex') : Un fs' ex' H H1 h h1 :=
  ⟨fun b ob q n hb he => u.keep b ob q n (fun z => hb (hs b z)) fun z => he (hx b z), fun _ _ q n _ he => u.any q n fun z => he (hx _ z), fun b ob q n he => u.free b ob q n fun z => he (hx b z), fun b ob q he => u.there b ob q fun z => he (hx b z), u.tups, u.frzs, u.tbls⟩
end

/-! ### the heap without what is tracked -/
noncomputable def trk (h : Heap) (H : Hp) : List Addr := (List.range h.objs.size).filter fun a => (H a).isSome
noncomputable def hidT (h : Heap) (H : Hp) : Heap := PySem.W.hideAll h (trk h H)
theorem hidT_size (h : Heap) (H : Hp) : (hidT h H).objs.size = h.objs.size := PySem.W.hideAll_size _ _
theorem hidT_get {h : Heap} {H : Hp} {b : Addr} {o : Obj} (e : h.get? b = some o) (n : H b = none) : (hidT h H).get? b = some o :=
  PySem.W.hideAll_get _ e fun hm => by
    have q : (H b).isSome = true := (List.mem_filter.mp hm).2
    rw [n] at q; simp at q
theorem of_hidT {h : Heap} {H : Hp} {b : Addr} {o : Obj} (e : (hidT h H).get? b = some o) : h.get? b = some o ∧ H b = none := by
  have e' : h.get? b = some o := PySem.W.of_hideAll (trk h H) e
  refine ⟨e', ?_⟩
  cases q : H b with
  | none => rfl
  | some x =>
    have hm : b ∈ trk h H := List.mem_filter.mpr ⟨List.mem_range.mpr (Heap.lt_size e'), by simp [q]⟩
    have z : (hidT h H).get? b = none := PySem.W.hideAll_none (trk h H) hm
    rw [z] at e; cases e

/-! ### OpenK's ledger, filled with every new object but one -/
noncomputable def allNews (g h : Heap) (L : Addr) : List (Addr × Obj) := (List.range h.objs.size).filterMap fun a => if a = L ∨ (g.get? a).isSome = true then none else (h.get? a).map fun o => (a, o)
noncomputable def rest (g h : Heap) (L d : Addr) : List (Addr × Obj) := (allNews g h L).filter fun p => decide (p.1 ≠ d)
end L2

namespace L2
open PySem PySem.Spec PyProof.Rows

/-- the module's facts, over the base: the heap at the law's entry without what is tracked there -/
structure Mod (K : PySem.W.Frag) (mg : Str → Option Value) (base : Heap) : Prop where
  kin : K.In base
  glob : base.Ns mainGlobals mg
  blt : ∃ mb, base.Ns builtinsNs mb ∧ ∀ x : Str, x ≠ "__name__" → mb x = bootBuiltins x
  nolimit : base.NoLimit

/-- the context: a def's body (or a comprehension's block) running. base: fixed through the whole law; s₀, H₀: the entry; outer: the frames whose slots others may change (a def's callers); stack: all frames that run;
   ex: iterators that were made ahead of the entry and are walked here (a comprehension's); fn: the names whose cells were made at the entry (a def: all; a comprehension's block: its own); calm: not within an except suite; pn: pins that every state bears; xe: what is wanted of an exception that leaves the code -/
structure Cx where
  prog : Program
  w : World
  K : PySem.W.Frag
  mg : Str → Option Value
  base : Heap
  A : Around
  N : List Str
  s₀ : Shared
  H₀ : Hp
  env : Env
  outer : List Env
  stack : List Env
  ex : List Addr
  fn : Str → Bool
  calm : Bool
  pn : List (Addr × Obj)
  xe : Value → Shared → Prop
/-- the callers' frames -/
noncomputable def frs (l : List Env) : List Addr := l.filterMap (·.frame)
noncomputable abbrev Cx.fs (X : Cx) : List Addr := frs X.outer

noncomputable def Vis (sc : Scope) (x : Str) : Prop := sc.names.lookup x = some .local ∨ sc.names.lookup x = some .cell ∨ sc.names.lookup x = some .free
noncomputable def Loc (sc : Scope) (x : Str) : Prop := sc.names.lookup x = some .local ∨ sc.names.lookup x = some .cell
noncomputable def Look (env : Env) (h : Heap) (m : Str → Option Value) (x : Str) (u : Value) : Prop :=
  (env.kindOf x = some .local ∧ m x = some u) ∨ ((env.kindOf x = some .cell ∨ env.kindOf x = some .free) ∧ ∃ c, env.cells.lookup x = some c ∧ h.IsCell c (some u))

structure Cx.Ok (X : Cx) : Prop where
  mod : Mod X.K X.mg X.base
  kind : X.env.scope.kind = .function
  glob : X.env.globals = mainGlobals
  blt : X.env.builtins = builtinsNs
  above : X.s₀.heap.objs.size ≤ X.env.locals
  inj : ∀ x y c, X.env.cells.lookup x = some c → X.env.cells.lookup y = some c → x = y
  has : ∀ x, (X.env.kindOf x = some .cell ∨ X.env.kindOf x = some .free) → ∃ c, X.env.cells.lookup x = some c
  cab : ∀ x c, X.fn x = true → X.env.cells.lookup x = some c → X.s₀.heap.objs.size ≤ c
  hd : X.calm = true → X.A.handled = none
  frames : X.A.frames = some X.stack
  stk : X.stack = X.outer ∨ (X.stack = X.env :: X.outer ∧ X.env.frame = some X.env.locals)
  exf : ∀ b ∈ X.ex, b ≠ X.env.locals ∧ ∀ x c, X.env.cells.lookup x = some c → c ≠ b
  bs : ∀ b o, X.base.get? b = some o → X.s₀.heap.get? b = some o ∧ X.H₀ b = none
  bsz : X.base.objs.size ≤ X.s₀.heap.objs.size
  noex : ∀ b o, X.base.get? b = some o → b ∉ X.ex
  exfs : ∀ b ∈ X.ex, b ∉ X.fs
  funs : X.s₀.heap.FunFrames X.base X.outer
  frf : ∀ b ∈ X.fs, X.H₀ b = none

structure Inv (X : Cx) (pins : List (Addr × Obj)) (σ : List (Option V)) (H : Hp) (s : Shared) : Prop where
  ok : X.Ok
  os : s.os = X.s₀.os
  bare : AllBare s.gens
  base : Un X.fs X.ex X.H₀ H X.s₀.heap s.heap
  loc : ∃ m, s.heap.Ns X.env.locals m ∧ ∀ (i : Nat) (x : Str) (v : V), X.N[i]? = some x → σ[i]? = some (some v) → Vis X.env.scope x → ∃ u, RelV v u ∧ Look X.env s.heap m x u
  cell : ∀ x c, X.env.cells.lookup x = some c → ∃ v, s.heap.IsCell c v
  free : H X.env.locals = none
  freeC : ∀ x c, X.env.cells.lookup x = some c → H c = none
  pin : ∀ p ∈ X.pn ++ pins, s.heap.get? p.1 = some p.2 ∧ H p.1 = none ∧ p.1 ≠ X.env.locals ∧ p.1 ∉ X.fs ∧ ∀ v, p.2.data ≠ .cell v
  hok : HOk X.prog X.w H s.heap
  len : σ.length = X.N.length

section
variable {X : Cx} {pins : List (Addr × Obj)} {σ : List (Option V)} {H H' : Hp} {s : Shared} {h' : Heap}

theorem Cx.Ok.nofr (ok : X.Ok) {b : Addr} {o : Obj} (e : X.base.get? b = some o) : b ∉ X.fs := fun hb => by
  have := (ok.funs.mem hb).1
  rw [e] at this; cases this
theorem Inv.bs (I : Inv X pins σ H s) : ∀ b o, X.base.get? b = some o → s.heap.get? b = some o ∧ H b = none := fun b o e =>
  ⟨I.base.keep b o (I.ok.bs b o e).1 (I.ok.bs b o e).2 (I.ok.nofr e) (I.ok.noex b o e), I.base.free b o (I.ok.bs b o e).1 (I.ok.bs b o e).2 (I.ok.noex b o e)⟩
theorem Inv.bk (I : Inv X pins σ H s) : ∀ b o, X.base.get? b = some o → s.heap.get? b = some o := fun b o e => (I.bs b o e).1
theorem Inv.mod (I : Inv X pins σ H s) : Mod X.K X.mg X.base := I.ok.mod
theorem Inv.kIn (I : Inv X pins σ H s) : X.K.In s.heap := I.ok.mod.kin.keeps I.bk
theorem Inv.nolimit (I : Inv X pins σ H s) : s.heap.NoLimit := I.ok.mod.nolimit.keeps I.bk
theorem Inv.lt (I : Inv X pins σ H s) : X.env.locals < s.heap.objs.size := let ⟨_, hn, _⟩ := I.loc; hn.lt
theorem Inv.sz (I : Inv X pins σ H s) : X.s₀.heap.objs.size ≤ s.heap.objs.size := Nat.le_trans I.ok.above (Nat.le_of_lt I.lt)
theorem Inv.nofs (I : Inv X pins σ H s) {a : Addr} (h : s.heap.objs.size ≤ a) : a ∉ X.fs := fun hb => by
  obtain ⟨_, o, ho, _⟩ := I.ok.funs.mem hb
  exact absurd (Nat.lt_of_lt_of_le (Heap.lt_size ho) (Nat.le_trans I.sz h)) (Nat.lt_irrefl _)
theorem Inv.cne (I : Inv X pins σ H s) : ∀ x c, X.env.cells.lookup x = some c → c ≠ X.env.locals := fun x c e z => by
  obtain ⟨v, o, ho, hd⟩ := I.cell x c e
  obtain ⟨m, ⟨o', es, ep, ho', hd', _⟩, _⟩ := I.loc
  rw [z, ho'] at ho; cases ho; rw [hd'] at hd; cases hd
theorem Inv.funs (I : Inv X pins σ H s) : s.heap.FunFrames X.base X.outer := by
  have all : ∀ (l : List Env), (∀ b ∈ frs l, b ∈ X.fs) → X.s₀.heap.FunFrames X.base l → s.heap.FunFrames X.base l := by
    intro l
    induction l with
    | nil => intro _ _; trivial
    | cons env r ih =>
      intro hs hl
      obtain ⟨hk, ⟨L, o, hf, hn, ho, hd⟩, hr⟩ := hl
      have hL : L ∈ X.fs := hs L (by unfold frs; rw [List.filterMap_cons, hf]; exact List.mem_cons_self)
      obtain ⟨sl, e⟩ := I.base.slot L o ho (I.ok.frf L hL) hL fun z => I.ok.exfs L z hL
      exact ⟨hk, ⟨L, _, hf, hn, e, hd⟩, ih (fun b hb => hs b (by unfold frs; rw [List.filterMap_cons, hf]; exact List.mem_cons_of_mem _ hb)) hr⟩
  exact all X.outer (fun _ hb => hb) I.ok.funs

/-- the frames that run, for a call -/
theorem Inv.stack (I : Inv X pins σ H s) : s.heap.FunFrames X.base X.stack := by
  rcases I.ok.stk with e | ⟨e, hf⟩
  · rw [e]; exact I.funs
  · rw [e]
    obtain ⟨m, hn, _⟩ := I.loc
    refine .cons (by rw [I.ok.kind]; decide) hf hn ?_ I.funs
    exact Heap.get?_none_of_le (Nat.le_trans I.ok.bsz I.ok.above)
theorem Inv.stkSub (I : Inv X pins σ H s) : ∀ b ∈ frs X.stack, b ∈ X.env.locals :: X.fs := fun b hb => by
  rcases I.ok.stk with e | ⟨e, hf⟩
  · rw [e] at hb; exact List.mem_cons_of_mem _ hb
  · rw [e] at hb
    unfold frs at hb
    rw [List.filterMap_cons, hf] at hb
    exact hb
theorem Inv.stkFree (I : Inv X pins σ H s) : ∀ b ∈ frs X.stack, H b = none := fun b hb => by
  rcases List.mem_cons.mp (I.stkSub b hb) with e | hb
  · rw [e]; exact I.free
  · obtain ⟨_, o, ho, _⟩ := I.ok.funs.mem hb
    exact I.base.free b o ho (I.ok.frf b hb) fun z => I.ok.exfs b z hb

/-- THE STEP: the untracked objects but the frame and the records at ch are kept (the callers' frames up to slots), the frame's map is kept, the new abstract heap is held -/
theorem Inv.step {g' : Array GenState} {t' : Nat} {d' : Drawn} {ch : List Addr} (I : Inv X pins σ H s)
    (hch : ∀ b ∈ ch, (b ∈ X.ex ∨ X.s₀.heap.objs.size ≤ b) ∧ b ≠ X.env.locals ∧ (∀ x c, X.env.cells.lookup x = some c → c ≠ b) ∧ ∀ p ∈ X.pn ++ pins, p.1 ≠ b)
    (keep : ∀ b o, b ≠ X.env.locals → b ∉ X.fs → b ∉ ch → s.heap.get? b = some o → H b = none → h'.get? b = some o)
    (slot : ∀ b o, b ≠ X.env.locals → b ∈ X.fs → b ∉ ch → s.heap.get? b = some o → H b = none → ∃ sl, h'.get? b = some { o with slots := sl }) (free : ∀ b o, b ∉ ch → s.heap.get? b = some o → H b = none → H' b = none)
    (there : ∀ b o, b ∉ ch → s.heap.get? b = some o → ∃ o', h'.get? b = some o')
    (tups : ∀ b xs, H b = some (.tup xs) → H' b = some (.tup xs)) (frzs : ∀ b o u, H b = some (.frz o u) → H' b = some (.frz o u)) (tbls : ∀ b ps, H b = some (.tbl ps) → ∃ more, H' b = some (.tbl (ps ++ more)))
    (ns : ∀ m, s.heap.Ns X.env.locals m → h'.Ns X.env.locals m) (hok : HOk X.prog X.w H' h') (hg : AllBare g') :
    Inv X pins σ H' { s with heap := h', gens := g', drawn := d', toks := t' } := by
  have neL : ∀ b o, X.s₀.heap.get? b = some o → b ≠ X.env.locals := fun b o e => Nat.ne_of_lt (Nat.lt_of_lt_of_le (Heap.lt_size e) I.ok.above)
  have neC : ∀ b o, X.s₀.heap.get? b = some o → b ∉ X.ex → b ∉ ch := fun b o e hx hb => by
    rcases (hch b hb).1 with z | z
    · exact hx z
    · exact absurd (Nat.lt_of_lt_of_le (Heap.lt_size e) z) (Nat.lt_irrefl _)
  have cellK : ∀ x c, X.env.cells.lookup x = some c → ∀ v, s.heap.IsCell c v → h'.IsCell c v := fun x c e v ⟨o, ho, hd⟩ => by
    have nch : c ∉ ch := fun z => (hch c z).2.2.1 x c e rfl
    by_cases hc : c ∈ X.fs
    · obtain ⟨sl, q⟩ := slot c o (I.cne x c e) hc nch ho (I.freeC x c e)
      exact ⟨_, q, hd⟩
    · exact ⟨o, keep c o (I.cne x c e) hc nch ho (I.freeC x c e), hd⟩
  refine ⟨I.ok, I.os, hg, ⟨fun b o e n hb hx => ?_, fun b o e n hb hx => ?_, fun b o e n hx => ?_, fun b o e hx => ?_, fun b xs e => tups b xs (I.base.tups b xs e), fun b o xs e => frzs b o xs (I.base.frzs b o xs e), fun b ps e => ?_⟩, ?_, fun x c e => ?_, ?_, fun x c e => ?_, fun p hp => ?_, hok, I.len⟩
  · exact keep b o (neL b o e) hb (neC b o e hx) (I.base.keep b o e n hb hx) (I.base.free b o e n hx)
  · obtain ⟨sl, e1⟩ := I.base.slot b o e n hb hx
    obtain ⟨sl', e2⟩ := slot b _ (neL b o e) hb (neC b o e hx) e1 (I.base.free b o e n hx)
    exact ⟨sl', e2⟩
  · obtain ⟨o', e1⟩ := I.base.there b o e hx
    exact free b o' (neC b o e hx) e1 (I.base.free b o e n hx)
  · obtain ⟨o', e1⟩ := I.base.there b o e hx
    exact there b o' (neC b o e hx) e1
  · obtain ⟨m1, e1⟩ := I.base.tbls b ps e
    obtain ⟨m2, e2⟩ := tbls b _ e1
    exact ⟨m1 ++ m2, by rw [e2, Array.append_assoc]⟩
  · obtain ⟨m, hn, hl⟩ := I.loc
    refine ⟨m, ns m hn, fun i x v e1 e2 e3 => ?_⟩
    obtain ⟨u, r, l⟩ := hl i x v e1 e2 e3
    refine ⟨u, r, ?_⟩
    rcases l with l | ⟨k, c, e, z⟩
    · exact .inl l
    · exact .inr ⟨k, c, e, cellK x c e _ z⟩
  · obtain ⟨v, z⟩ := I.cell x c e
    exact ⟨v, cellK x c e v z⟩
  · obtain ⟨m, ⟨o, _, _, ho, _⟩, _⟩ := I.loc
    exact free _ o (fun z => (hch _ z).2.1 rfl) ho I.free
  · obtain ⟨v, o, ho, hd⟩ := I.cell x c e
    exact free c o (fun z => (hch c z).2.2.1 x c e rfl) ho (I.freeC x c e)
  · obtain ⟨e, n, ne, nf, d⟩ := I.pin p hp
    have nch : p.1 ∉ ch := fun z => (hch p.1 z).2.2.2 p hp rfl
    exact ⟨keep p.1 p.2 ne nf nch e n, free p.1 p.2 nch e n, ne, nf, d⟩
/-- .. where the frame's own object is kept too -/
theorem Inv.un {t' : Nat} (I : Inv X pins σ H s) (u : Un X.fs [] H H' s.heap h') (hok : HOk X.prog X.w H' h') : Inv X pins σ H' { s with heap := h', toks := t' } := by
  obtain ⟨m, ⟨o, es, ep, ho, r⟩, _⟩ := id I.loc
  obtain ⟨sl, hL⟩ := u.any ho I.free (by simp)
  exact I.step (g' := s.gens) (d' := s.drawn) (ch := []) (fun _ z => nomatch z) (fun b o _ hb _ e n => u.keep b o e n hb (by simp)) (fun b o _ hb _ e n => u.slot b o e n hb (by simp)) (fun b o _ e n => u.free b o e n (by simp)) (fun b o _ e => u.there b o e (by simp)) u.tups u.frzs u.tbls (fun m' hm => by
    obtain ⟨o', es', ep', ho', r'⟩ := hm
    rw [ho] at ho'; cases ho'
    exact ⟨_, es', ep', hL, r'⟩) hok I.bare
/-- behind a call (or a comprehension's block): the slots of this frame may have changed too, the records at ch may have turned -/
theorem Inv.call {g' : Array GenState} {t' : Nat} {d' : Drawn} {ch : List Addr} (I : Inv X pins σ H s) (u : Un (frs X.stack) ch H H' s.heap h') (hok : HOk X.prog X.w H' h') (hg : AllBare g')
    (hch : ∀ b ∈ ch, (b ∈ X.ex ∨ X.s₀.heap.objs.size ≤ b) ∧ b ≠ X.env.locals ∧ (∀ x c, X.env.cells.lookup x = some c → c ≠ b) ∧ ∀ p ∈ X.pn ++ pins, p.1 ≠ b) :
    Inv X pins σ H' { s with heap := h', gens := g', drawn := d', toks := t' } := by
  obtain ⟨m, ⟨o, es, ep, ho, r⟩, _⟩ := id I.loc
  obtain ⟨sl, hL⟩ := u.any ho I.free fun z => (hch _ z).2.1 rfl
  exact I.step (ch := ch) hch (fun b o hL hb hc e n => u.keep b o e n (fun z => (List.mem_cons.mp (I.stkSub b z)).elim hL hb) hc) (fun b o _ _ hc e n => u.any e n hc) (fun b o hc e n => u.free b o e n hc) (fun b o hc e => u.there b o e hc) u.tups u.frzs u.tbls (fun m' hm => by
    obtain ⟨o', es', ep', ho', r'⟩ := hm
    rw [ho] at ho'; cases ho'
    exact ⟨_, es', ep', hL, r'⟩) hok hg
/-- an untracked record of ours (an iterator) has turned -/
theorem Inv.turned {t' : Nat} {it : Addr} (I : Inv X pins σ H s) (k : ∀ b o, b ≠ it → s.heap.get? b = some o → h'.get? b = some o) (hn : H it = none) (hL : it ≠ X.env.locals)
    (h1 : it ∈ X.ex ∨ X.s₀.heap.objs.size ≤ it) (h2 : ∀ x c, X.env.cells.lookup x = some c → c ≠ it) (h3 : ∀ p ∈ X.pn ++ pins, p.1 ≠ it) : Inv X pins σ H { s with heap := h', toks := t' } := by
  have nit : ∀ b u, H b = some u → b ≠ it := fun b u e z => by rw [z, hn] at e; cases e
  refine I.step (g' := s.gens) (d' := s.drawn) (ch := [it]) (fun b hb => ?_) (fun b o _ _ hc e _ => k b o (fun z => hc (by simp [z])) e) (fun b o _ _ hc e _ => ⟨o.slots, k b o (fun z => hc (by simp [z])) e⟩) (fun _ _ _ _ n => n)
    (fun b o hc e => ⟨o, k b o (fun z => hc (by simp [z])) e⟩) (fun _ _ e => e) (fun _ _ _ e => e) (fun b ps e => ⟨#[], by rw [e]; simp⟩) (fun m hm => ?_) (fun b u e => ?_) I.bare
  · have e : b = it := by simpa using hb
    subst e
    exact ⟨h1, hL, h2, h3⟩
  · obtain ⟨o, es, ep, ho, r⟩ := hm
    exact ⟨o, es, ep, k _ o (Ne.symm hL) ho, r⟩
  · refine (I.hok b u e).stay (fun c v hc q => k c v ?_ q) (fun _ q => q) fun _ _ q => q
    rcases hc with z | z
    · rw [z]; exact nit b u e
    · exact nit c _ z
theorem Inv.tok (I : Inv X pins σ H s) (t : Nat) : Inv X pins σ H { s with toks := t } := I.un (h' := s.heap) (t' := t) Un.refl I.hok
/-- all objects kept -/
theorem Inv.kept {t' : Nat} (I : Inv X pins σ H s) (k : ∀ b u, s.heap.get? b = some u → h'.get? b = some u) : Inv X pins σ H { s with heap := h', toks := t' } := I.un (Un.kept k) (I.hok.kept k)
/-- a new object laid and tracked -/
theorem Inv.laid {a : Addr} {o : HO} {t' : Nat} (I : Inv X pins σ H s) (k : ∀ b u, s.heap.get? b = some u → h'.get? b = some u) (hp : s.heap.objs.size ≤ a) (new : ObjOk X.prog X.w (upd H a o) h' a o) :
    Inv X pins σ (upd H a o) { s with heap := h', toks := t' } := I.un (Un.laid k hp (I.hok.fresh hp)) (I.hok.laid k hp new)
/-- an object written -/
theorem Inv.write {x e : Addr} {o : HO} {t' : Nat} (I : Inv X pins σ H s) (mu : Mut (H x)) (he : e = x ∨ H e = some (.own x)) (k : ∀ b u, b ≠ e → s.heap.get? b = some u → h'.get? b = some u) (heo : ∃ u, h'.get? e = some u)
    (new : ObjOk X.prog X.w (upd H x o) h' x o) : Inv X pins σ (upd H x o) { s with heap := h', toks := t' } := I.un (Un.write mu he k heo) (I.hok.write mu he k heo new)
/-- forgetting slots, pins -/
theorem Inv.weak {σ' : List (Option V)} (I : Inv X pins σ H s) (hl : σ'.length = σ.length) (w : ∀ (i : Nat) v, σ'[i]? = some (some v) → σ[i]? = some (some v)) : Inv X pins σ' H s :=
  ⟨I.ok, I.os, I.bare, I.base, let ⟨m, hn, hl'⟩ := I.loc; ⟨m, hn, fun i x v e1 e2 e3 => hl' i x v e1 (w i v e2) e3⟩, I.cell, I.free, I.freeC, I.pin, I.hok, hl.trans I.len⟩
theorem Inv.pins_of {pins' : List (Addr × Obj)} (I : Inv X pins σ H s) (h : ∀ p ∈ pins', s.heap.get? p.1 = some p.2 ∧ H p.1 = none ∧ p.1 ≠ X.env.locals ∧ p.1 ∉ X.fs ∧ ∀ v, p.2.data ≠ .cell v) : Inv X pins' σ H s :=
  ⟨I.ok, I.os, I.bare, I.base, I.loc, I.cell, I.free, I.freeC, fun p hp => (List.mem_append.mp hp).elim (fun z => I.pin p (List.mem_append_left _ z)) (h p), I.hok, I.len⟩

theorem nodup_ix {N : List Str} (hN : N.Nodup) {i j : Nat} {x : Str} (a : N[i]? = some x) (b : N[j]? = some x) : i = j := by
  obtain ⟨h1, e1⟩ := List.getElem?_eq_some_iff.mp a
  obtain ⟨h2, e2⟩ := List.getElem?_eq_some_iff.mp b
  exact (List.getElem_inj hN).mp (e1.trans e2.symm)

/-- a name is stored; what changed -/
theorem store_ok2 {M : Model} {A : Around} {E : Value → Shared → Prop} {i : Nat} {x : Str} {v : V} {u : Value} {Q : Unit → Shared → Prop} (I : Inv X pins σ H s) (hN : X.N.Nodup) (hi : X.N[i]? = some x) (hx : Loc X.env.scope x) (r : RelV v u)
    (h : ∀ s', Inv X pins (σ.set i (some v)) H s' → (∃ a, Heap.SameBut a s.heap s'.heap ∧ (a = X.env.locals ∨ X.env.cells.lookup x = some a)) → Q () s') (hf : X.fn x = true ∨ X.env.scope.names.lookup x = some .local := by first | exact .inl rfl | exact .inr rfl | assumption) : wpAny M A (storeName X.env x u) Q E s := by
  obtain ⟨m, hn, hl⟩ := id I.loc
  have hcls : (X.env.scope.kind == .class || (X.env.scope.kind == .module && X.env.locals != X.env.globals)) = false := by rw [I.ok.kind]; rfl
  have hiσ : i < σ.length := by rw [I.len]; exact (List.getElem?_eq_some_iff.mp hi).1
  have cne := I.cne
  have tracked : ∀ {a : Addr} {h' : Heap}, (∃ o, s.heap.get? a = some o ∧ H a = none) → Heap.SameBut a s.heap h' → HOk X.prog X.w H h' := fun {a h'} ha hs b ob e => by
    obtain ⟨_, _, hfree⟩ := ha
    refine (I.hok b ob e).stay (fun c w' hc q => (hs.2 c ?_).trans q) (fun _ q => q) fun _ _ q => q
    rintro rfl
    rcases hc with rfl | hc
    · rw [hfree] at e; cases e
    · rw [hfree] at hc; cases hc
  rcases hx with hk | hk
  · refine wpAny_storeName_local hk hn (fun h' hn' hs => ?_) hcls
    obtain ⟨oL, _, _, hoL, _⟩ := id hn
    refine h _ ⟨I.ok, I.os, I.bare, ⟨fun b o e n hb hx => ?_, fun b o e n hb hx => ?_, I.base.free, fun b o e hx => ?_, I.base.tups, I.base.frzs, I.base.tbls⟩, ⟨_, hn', fun j y v' e1 e2 e3 => ?_⟩, fun y c e => ?_, I.free, I.freeC, fun p hp => ?_, tracked ⟨oL, hoL, I.free⟩ hs, by simpa using I.len⟩ ⟨_, hs, .inl rfl⟩
    · exact (hs.2 b (Nat.ne_of_lt (Nat.lt_of_lt_of_le (Heap.lt_size e) I.ok.above))).trans (I.base.keep b o e n hb hx)
    · obtain ⟨sl, e1⟩ := I.base.slot b o e n hb hx
      exact ⟨sl, (hs.2 b (Nat.ne_of_lt (Nat.lt_of_lt_of_le (Heap.lt_size e) I.ok.above))).trans e1⟩
    · obtain ⟨o', e1⟩ := I.base.there b o e hx
      exact ⟨o', (hs.2 b (Nat.ne_of_lt (Nat.lt_of_lt_of_le (Heap.lt_size e) I.ok.above))).trans e1⟩
    · by_cases hj : j = i
      · subst hj
        rw [hi] at e1; cases e1
        rw [List.getElem?_set_self hiσ] at e2
        cases e2
        exact ⟨u, r, .inl ⟨hk, by simp⟩⟩
      · rw [List.getElem?_set_ne (Ne.symm hj)] at e2
        obtain ⟨u', r', q⟩ := hl j y v' e1 e2 e3
        refine ⟨u', r', ?_⟩
        rcases q with ⟨k, e⟩ | ⟨k, c, e, z⟩
        · refine .inl ⟨k, ?_⟩
          have : y ≠ x := fun e => hj (nodup_ix hN e1 (e ▸ hi))
          simp [this, e]
        · exact .inr ⟨k, c, e, z.sameBut hs (cne y c e)⟩
    · obtain ⟨w', z⟩ := I.cell y c e
      exact ⟨w', z.sameBut hs (cne y c e)⟩
    · obtain ⟨e, n, ne, nf, d⟩ := I.pin p hp
      exact ⟨(hs.2 p.1 ne).trans e, n, ne, nf, d⟩
  · have hfn : X.fn x = true := by
      rcases hf with z | z
      · exact z
      · rw [z] at hk; cases hk
    obtain ⟨c, hc⟩ := I.ok.has x (.inl hk)
    obtain ⟨w', z⟩ := I.cell x c hc
    refine wpAny_storeName_cell I.ok.kind hk hc z (fun h' hc' hs => ?_)
    obtain ⟨oc, hoc, hocd⟩ := id z
    refine h { s with heap := h' } ⟨I.ok, I.os, I.bare, ⟨fun b o e n hb hx => ?_, fun b o e n hb hx => ?_, I.base.free, fun b o e hx => ?_, I.base.tups, I.base.frzs, I.base.tbls⟩, ⟨m, hn.sameBut hs (Ne.symm (cne x c hc)), fun j y v' e1 e2 e3 => ?_⟩, fun y c' e => ?_, I.free, I.freeC, fun p hp => ?_, tracked ⟨oc, hoc, I.freeC x c hc⟩ hs, by simpa using I.len⟩ ⟨c, hs, .inr hc⟩
    · exact (hs.2 b (Nat.ne_of_lt (Nat.lt_of_lt_of_le (Heap.lt_size e) (I.ok.cab x c hfn hc)))).trans (I.base.keep b o e n hb hx)
    · obtain ⟨sl, e1⟩ := I.base.slot b o e n hb hx
      exact ⟨sl, (hs.2 b (Nat.ne_of_lt (Nat.lt_of_lt_of_le (Heap.lt_size e) (I.ok.cab x c hfn hc)))).trans e1⟩
    · obtain ⟨o', e1⟩ := I.base.there b o e hx
      exact ⟨o', (hs.2 b (Nat.ne_of_lt (Nat.lt_of_lt_of_le (Heap.lt_size e) (I.ok.cab x c hfn hc)))).trans e1⟩
    · by_cases hj : j = i
      · subst hj
        rw [hi] at e1; cases e1
        rw [List.getElem?_set_self hiσ] at e2
        cases e2
        exact ⟨u, r, .inr ⟨.inl hk, c, hc, hc'⟩⟩
      · rw [List.getElem?_set_ne (Ne.symm hj)] at e2
        obtain ⟨u', r', q⟩ := hl j y v' e1 e2 e3
        refine ⟨u', r', ?_⟩
        rcases q with q | ⟨k, c', e, z'⟩
        · exact .inl q
        · refine .inr ⟨k, c', e, z'.sameBut hs ?_⟩
          rintro rfl
          exact hj (nodup_ix hN e1 (I.ok.inj _ _ _ e hc ▸ hi))
    · by_cases hcc : c' = c
      · subst hcc; exact ⟨_, hc'⟩
      · obtain ⟨w2, z2⟩ := I.cell y c' e
        exact ⟨w2, z2.sameBut hs hcc⟩
    · obtain ⟨e, n, ne, nf, d⟩ := I.pin p hp
      refine ⟨(hs.2 p.1 ?_).trans e, n, ne, nf, d⟩
      intro q
      rw [q, hoc] at e
      have q' : oc = p.2 := Option.some.inj e
      exact d w' (by rw [← q']; exact hocd)
theorem store_ok {M : Model} {A : Around} {E : Value → Shared → Prop} {i : Nat} {x : Str} {v : V} {u : Value} {Q : Unit → Shared → Prop} (I : Inv X pins σ H s) (hN : X.N.Nodup) (hi : X.N[i]? = some x) (hx : Loc X.env.scope x) (r : RelV v u)
    (h : ∀ s', Inv X pins (σ.set i (some v)) H s' → Q () s') (hf : X.fn x = true ∨ X.env.scope.names.lookup x = some .local := by first | exact .inl rfl | exact .inr rfl | assumption) : wpAny M A (storeName X.env x u) Q E s :=
  store_ok2 I hN hi hx r (fun s' I' _ => h s' I') hf
/-- behind a call or a block, the state as it is -/
theorem Inv.call' {s' : Shared} {ch : List Addr} (I : Inv X pins σ H s) (ho : s'.os = s.os) (u : Un (frs X.stack) ch H H' s.heap s'.heap) (hok : HOk X.prog X.w H' s'.heap) (hg : AllBare s'.gens)
    (hch : ∀ b ∈ ch, (b ∈ X.ex ∨ X.s₀.heap.objs.size ≤ b) ∧ b ≠ X.env.locals ∧ (∀ x c, X.env.cells.lookup x = some c → c ≠ b) ∧ ∀ p ∈ X.pn ++ pins, p.1 ≠ b) : Inv X pins σ H' s' := by
  obtain ⟨h', g', d', t', o'⟩ := s'
  have e : o' = s.os := ho
  subst e
  exact I.call (g' := g') (t' := t') (d' := d') u hok hg hch
end

/-! ### the judgements -/
/-- an exception: its class, its own dict's address (where it has one), the abstract heap behind it -/
noncomputable abbrev XK := Value → Option Addr → Hp → Prop
noncomputable abbrev St := List (Option V)
noncomputable abbrev VK := V → Hp → Prop
/-- an expression's reading; a test's; an argument list's -/
noncomputable abbrev TE := St → Hp → VK → Prop
noncomputable abbrev TT := St → Hp → (Bool → Hp → Prop) → Prop
noncomputable abbrev TA := St → Hp → (List V → Hp → Prop) → Prop
/-- what is wanted behind a statement -/
structure Ends where
  nx : St → Hp → Prop
  rt : VK
  bk : St → Hp → Prop := fun _ _ => False
  ct : St → Hp → Prop := fun _ _ => False
noncomputable abbrev TS := Ends → St → Hp → Prop

noncomputable def EP (X : Cx) (pins : List (Addr × Obj)) (σ : St) (Q : VK) (u : Value) (s' : Shared) : Prop := ∃ v H', Inv X pins σ H' s' ∧ RelV v u ∧ Q v H'
noncomputable def TP (X : Cx) (pins : List (Addr × Obj)) (σ : St) (Q : Bool → Hp → Prop) (b : Bool) (s' : Shared) : Prop := ∃ H', Inv X pins σ H' s' ∧ Q b H'
noncomputable def AP (X : Cx) (pins : List (Addr × Obj)) (σ : St) (Q : List V → Hp → Prop) (us : List Value) (s' : Shared) : Prop := ∃ vs H', Inv X pins σ H' s' ∧ Vals vs us ∧ Q vs H'
noncomputable def SP (X : Cx) (pins : List (Addr × Obj)) (D : Ends) (f : Flow) (s' : Shared) : Prop :=
  match f with
  | .next => ∃ σ' H', Inv X pins σ' H' s' ∧ D.nx σ' H'
  | .brk => ∃ σ' H', Inv X pins σ' H' s' ∧ D.bk σ' H'
  | .cont => ∃ σ' H', Inv X pins σ' H' s' ∧ D.ct σ' H'
  | .ret u => ∃ v σ' H', Inv X pins σ' H' s' ∧ RelV v u ∧ D.rt v H'

noncomputable def PE (X : Cx) (e : Expr) (t : TE) : Prop :=
  ∀ (pins : List (Addr × Obj)) (s : Shared) (σ : St) (H : Hp) (Q : VK), Inv X pins σ H s → t σ H Q → wpAny (model X.prog X.w) X.A (eval e X.env) (EP X pins σ Q) X.xe s
noncomputable def PT (X : Cx) (e : Expr) (t : TT) : Prop :=
  ∀ (pins : List (Addr × Obj)) (s : Shared) (σ : St) (H : Hp) (Q : Bool → Hp → Prop), Inv X pins σ H s → t σ H Q → wpAny (model X.prog X.w) X.A (isTrue e X.env (eval e X.env)) (TP X pins σ Q) X.xe s
/-- a test whatever its 'whole' is (and, or) -/
noncomputable def PW (X : Cx) (e : Expr) (t : TT) : Prop :=
  ∀ (whole : Sem Value) (pins : List (Addr × Obj)) (s : Shared) (σ : St) (H : Hp) (Q : Bool → Hp → Prop), Inv X pins σ H s → t σ H Q → wpAny (model X.prog X.w) X.A (isTrue e X.env whole) (TP X pins σ Q) X.xe s
theorem PW.pt {X : Cx} {e : Expr} {t : TT} (h : PW X e t) : PT X e t := h _
/-- an argument list (no star), from the left -/
noncomputable def PA (X : Cx) (es : List Expr) (t : TA) : Prop :=
  ∀ (pos : Pos) (pins : List (Addr × Obj)) (s : Shared) (σ : St) (H : Hp) (Q : List V → Hp → Prop), Inv X pins σ H s → t σ H Q → wpAny (model X.prog X.w) X.A (spliced (backTo pos (starEach es X.env))) (AP X pins σ Q) X.xe s
noncomputable def PS (X : Cx) (st : Stmt) (t : TS) : Prop :=
  ∀ (pins : List (Addr × Obj)) (s : Shared) (σ : St) (H : Hp) (D : Ends), Inv X pins σ H s → t D σ H → wpAny (model X.prog X.w) X.A (exec st X.env) (SP X pins D) X.xe s
noncomputable def PSs (X : Cx) (st : List Stmt) (t : TS) : Prop :=
  ∀ (pins : List (Addr × Obj)) (s : Shared) (σ : St) (H : Hp) (D : Ends), Inv X pins σ H s → t D σ H → wpAny (model X.prog X.w) X.A (execs st X.env) (SP X pins D) X.xe s
/-- weaken the end -/
theorem thn {α : Type} {t : Sem α} {Q Q' : α → Shared → Prop} {M : Model} {A : Around} {E : Value → Shared → Prop} {s : Shared} (h : wpAny M A t Q E s) (hQ : ∀ a s, Q a s → Q' a s) : wpAny M A t Q' E s := wpAny_mono h hQ fun _ _ x => x
end L2

namespace L2
open PySem PySem.Spec PyProof.Rows
section
variable {X : Cx}

/-! ### names and constants -/
noncomputable def tVar (i : Nat) : TE := fun σ H Q => ∃ v, σ[i]? = some (some v) ∧ Q v H
noncomputable def tC (v : V) : TE := fun _ H Q => Q v H
theorem pe_var {i : Nat} {x : Str} {pos : Pos} (hN : X.N[i]? = some x) (hv : Vis X.env.scope x) (hd : (x == ("__debug__" : Str)) = false := by decide) (hcd : (x == ("__classdict__" : Str)) = false := by decide) : PE X (.Name x pos) (tVar i) := by
  intro pins s σ H Q I h
  obtain ⟨v, e, h⟩ := h
  obtain ⟨m, hn, hl⟩ := I.loc
  obtain ⟨u, r, l⟩ := hl i x v hN e hv
  have fin : EP X pins σ Q u s := ⟨v, H, I, r, h⟩
  rcases l with ⟨hk, hm⟩ | ⟨hk, c, hc, hcell⟩
  · exact wpAny_Name (wpAny_loadName_local I.ok.kind hk hn hm fin) hd
  · rcases hk with hk | hk
    · exact wpAny_Name (wpAny_loadName_cell I.ok.kind hk hc hcell fin) hd
    · exact wpAny_Name (wpAny_loadName_free I.ok.kind hk hc hcell fin hcd) hd
theorem pe_int {i j pos} : PE X (.Constant (.int i) j pos) (tC (.int i)) := fun _ _ _ H _ I h => wpAny_Constant_int ⟨.int i, H, I.tok _, ⟨_, rfl⟩, h⟩
theorem pe_bl {b j pos} : PE X (.Constant (.bool b) j pos) (tC (.bl b)) := fun _ _ _ H _ I h => Constant_bool ⟨.bl b, H, I, rfl, h⟩
theorem pe_non {j pos} : PE X (.Constant .none j pos) (tC .non) := fun _ _ _ H _ I h => Constant_none ⟨.non, H, I, rfl, h⟩
theorem pe_str {x j pos} : PE X (.Constant (.str x) j pos) (tC (.str x)) := fun _ _ _ H _ I h => Calls.Constant_str ⟨.str x, H, I.tok _, ⟨_, rfl⟩, h⟩

/-- a global name of the def -/
noncomputable def Gl (X : Cx) (x : Str) : Prop := X.env.kindOf x = some .globalImplicit
theorem ld_glob {E : Value → Shared → Prop} {pins : List (Addr × Obj)} {s : Shared} {σ : St} {H : Hp} {x : Str} {u : Value} {pos : Pos} {Q : Value → Shared → Prop} (I : Inv X pins σ H s) (hg : Gl X x) (hm : X.mg x = some u) (h : Q u s)
    (hd : (x == ("__debug__" : Str)) = false := by decide) : wpAny (model X.prog X.w) X.A (eval (.Name x pos) X.env) Q E s :=
  Calls.Name_function_global I.ok.kind hg (Calls.loadGlobal_global (by rw [I.ok.glob]; exact I.mod.glob.keeps I.bk) hm h) hd
theorem ld_blt {E : Value → Shared → Prop} {pins : List (Addr × Obj)} {s : Shared} {σ : St} {H : Hp} {x : Str} {u : Value} {pos : Pos} {Q : Value → Shared → Prop} (I : Inv X pins σ H s) (hg : Gl X x) (hm : X.mg x = none) (hv : bootBuiltins x = some u) (h : Q u s)
    (hn : x ≠ "__name__" := by decide) (hd : (x == ("__debug__" : Str)) = false := by decide) : wpAny (model X.prog X.w) X.A (eval (.Name x pos) X.env) Q E s := by
  obtain ⟨mb, h1, h2⟩ := I.mod.blt
  exact Calls.Name_function_global I.ok.kind hg (Calls.loadGlobal_builtin (by rw [I.ok.glob]; exact I.mod.glob.keeps I.bk) hm (by rw [I.ok.blt]; exact h1.keeps I.bk) ((h2 x hn).trans hv) h) hd
/-- a module's constant, a class, a function, as a value -/
theorem pe_glob {x : Str} {v : V} {u : Value} {pos : Pos} (hg : Gl X x) (hm : X.mg x = some u) (r : RelV v u) (hd : (x == ("__debug__" : Str)) = false := by decide) : PE X (.Name x pos) (tC v) :=
  fun _ _ _ H _ I h => ld_glob I hg hm ⟨v, H, I, r, h⟩ hd
theorem pe_bltn {x : Str} {v : V} {u : Value} {pos : Pos} (hg : Gl X x) (hm : X.mg x = none) (hv : bootBuiltins x = some u) (r : RelV v u) (hn : x ≠ "__name__" := by decide) (hd : (x == ("__debug__" : Str)) = false := by decide) : PE X (.Name x pos) (tC v) :=
  fun _ _ _ H _ I h => ld_blt I hg hm hv ⟨v, H, I, r, h⟩ hn hd

/-! ### arithmetic -/
variable {a b : Expr} {ta tb : TE} {pos : Pos}
/-! ### comparisons -/
/-- a comparison as a value, as a test -/
noncomputable def tB (t : TE) : TT := fun σ H Q => t σ H fun x H1 => ∃ c, x = .bl c ∧ Q c H1
/-- an expression whose value is a bool, as a test -/
theorem pt_val {e : Expr} {t : TE} (h : PE X e t) (he : ∀ whole, isTrue e X.env whole = (do let v ← whole; standAt e.pos; holding [v] (truthy v)) := by intro _; rfl) : PT X e (tB t) := by
  intro pins s σ H Q I hw
  refine isTrue_plain (thn (h pins s σ H _ I hw) fun v s1 ⟨x, H1, I1, r1, q1⟩ => ?_) (he _)
  obtain ⟨d, rfl, q⟩ := q1
  cases r1
  exact wpAny_truthy_bool ⟨H1, I1, q⟩

/-! ### and, or, not -/
variable {tA tB' : TT} {rest : List Expr}
noncomputable def tAnd (t u : TT) : TT := fun σ H Q => t σ H fun c H1 => if c = true then u σ H1 Q else Q false H1
noncomputable def tOr (t u : TT) : TT := fun σ H Q => t σ H fun c H1 => if c = true then Q true H1 else u σ H1 Q
noncomputable def tNot (t : TT) : TT := fun σ H Q => t σ H fun c H1 => Q (!c) H1
theorem pw_and1 (ha : PT X a tA) : PW X (.BoolOp .And [a] pos) tA := by
  intro wh pins s σ H Q I h
  refine isTrue_and (thn (ha pins s σ H Q I h) fun c s1 e => ?_)
  cases c with
  | true => exact isTrue_and_nil e
  | false => exact e
theorem pw_or1 (ha : PT X a tA) : PW X (.BoolOp .Or [a] pos) tA := by
  intro wh pins s σ H Q I h
  refine isTrue_or (thn (ha pins s σ H Q I h) fun c s1 e => ?_)
  cases c with
  | false => exact isTrue_or_nil e
  | true => exact e
theorem pw_and (ha : PT X a tA) (hb : PW X (.BoolOp .And (b :: rest) pos) tB') : PW X (.BoolOp .And (a :: b :: rest) pos) (tAnd tA tB') := by
  intro wh pins s σ H Q I h
  refine isTrue_and (thn (ha pins s σ H _ I h) fun c s1 ⟨H1, I1, q1⟩ => ?_)
  cases c with
  | true => exact hb wh pins s1 σ H1 Q I1 q1
  | false => exact ⟨H1, I1, q1⟩
theorem pw_or (ha : PT X a tA) (hb : PW X (.BoolOp .Or (b :: rest) pos) tB') : PW X (.BoolOp .Or (a :: b :: rest) pos) (tOr tA tB') := by
  intro wh pins s σ H Q I h
  refine isTrue_or (thn (ha pins s σ H _ I h) fun c s1 ⟨H1, I1, q1⟩ => ?_)
  cases c with
  | true => exact ⟨H1, I1, q1⟩
  | false => exact hb wh pins s1 σ H1 Q I1 q1
theorem pt_not (ha : PT X a tA) : PT X (.UnaryOp .Not a pos) (tNot tA) := by
  intro pins s σ H Q I h
  exact isTrue_not (ha pins s σ H (fun c H1 => Q (!c) H1) I h)
/-- .. as values (bools) -/
noncomputable def tAndV (ta tb : TE) : TE := fun σ H Q => ta σ H fun x H1 => ∃ c, x = .bl c ∧ if c = true then tb σ H1 Q else Q (.bl false) H1
theorem pe_one {op} {t : TE} (h : PE X a t) : PE X (.BoolOp op [a] pos) t := fun pins s σ H Q I hw => BoolOp_one (h pins s σ H Q I hw)
theorem pe_and (ha : PE X a ta) (hb : PE X (.BoolOp .And (b :: rest) pos) tb) : PE X (.BoolOp .And (a :: b :: rest) pos) (tAndV ta tb) := by
  intro pins s σ H Q I h
  refine BoolOp_and (thn (ha pins s σ H _ I h) fun v s1 ⟨x, H1, I1, r1, q1⟩ => ?_)
  obtain ⟨c, rfl, q1⟩ := q1
  cases r1
  refine wpAny_truthy_bool ?_
  cases c with
  | true => exact hb pins s1 σ H1 Q I1 q1
  | false => exact ⟨.bl false, H1, I1, rfl, q1⟩
/-- a if t else b -/
noncomputable def tIf (t : TT) (ta tb : TE) : TE := fun σ H Q => t σ H fun c H1 => if c = true then ta σ H1 Q else tb σ H1 Q
theorem pe_ifExp {c : Expr} (hc : PT X c tA) (ha : PE X a ta) (hb : PE X b tb) : PE X (.IfExp c a b pos) (tIf tA ta tb) := by
  intro pins s σ H Q I h
  refine wpAny_IfExp (thn (hc pins s σ H _ I h) fun d s1 ⟨H1, I1, q1⟩ => ?_)
  cases d with
  | true => exact ha pins s1 σ H1 Q I1 q1
  | false => exact hb pins s1 σ H1 Q I1 q1
end
end L2

namespace L2
open PySem PySem.Spec PyProof.Rows

/-! ### a list, a tuple that is read: tracked, frozen, or an object of the module -/
noncomputable def SqL (K : PySem.W.Frag) (H : Hp) (a : Addr) (xs : List V) : Prop :=
  Rd H a (.lst xs) ∨
    ∃ (o : Obj) (its : Array Value) (n : Nat), K.lookup a = some o ∧ o.cls = .type "list" ∧ o.dict = none ∧ o.data = .seq its n ∧ its.size ≤ sizeLine ∧ Vals xs its.toList
noncomputable def SqT (K : PySem.W.Frag) (H : Hp) (a : Addr) (xs : List V) : Prop :=
  Rd H a (.tup xs) ∨
    ∃ (o : Obj) (its : Array Value) (n : Nat), K.lookup a = some o ∧ o.cls = .type "tuple" ∧ o.data = .seq its n ∧ its.size ≤ sizeLine ∧ Vals xs its.toList
noncomputable def absV : Value → Option V
  | .none => some .non
  | .bool b => some (.bl b)
  | .int i _ => some (.int i)
  | .str x _ => some (.str x)
  | .bytes b _ => some (.byt b)
  | .float b _ => some (.flt b)
  | .ref a => some (.ref a)
  | .type n => some (.ty n)
  | _ => none
theorem RelV.abs {x : V} {u : Value} (r : RelV x u) : absV u = some x := by
  cases x with
  | non => cases r; rfl
  | bl _ => cases r; rfl
  | int _ => obtain ⟨t, rfl⟩ := r; rfl
  | str _ => obtain ⟨t, rfl⟩ := r; rfl
  | byt _ => obtain ⟨t, rfl⟩ := r; rfl
  | flt _ => obtain ⟨t, rfl⟩ := r; rfl
  | ref _ => cases r; rfl
  | ty _ => cases r; rfl
theorem RelV.inj {x y : V} {u : Value} (r : RelV x u) (q : RelV y u) : x = y := Option.some.inj (r.abs.symm.trans q.abs)
theorem Vals.inj : ∀ {xs ys : List V} {us : List Value}, Vals xs us → Vals ys us → xs = ys
  | _, _, _, .nil, .nil => rfl
  | _, _, _, .cons r t, .cons r' t' => by rw [r.inj r', Vals.inj t t']
section
variable {X : Cx} {pins : List (Addr × Obj)} {σ : St} {H : Hp} {s : Shared} {a : Addr} {xs ys : List V}
theorem SqL.of {K : PySem.W.Frag} (h : H a = some (.lst xs)) : SqL K H a xs := .inl (.inl h)
theorem SqT.of {K : PySem.W.Frag} (h : H a = some (.tup xs)) : SqT K H a xs := .inl (.inl h)
theorem Inv.list (I : Inv X pins σ H s) (h : SqL X.K H a xs) : ∃ its : List Value, Vals xs its ∧ PlainL s.heap a its.toArray ∧ xs.length ≤ sizeLine := by
  rcases h with h | ⟨o, its, n, hk, hc, hd, hs, hz, r⟩
  · obtain ⟨z, its, n, r, e⟩ := h.ok I.hok
    exact ⟨its, r, ⟨_, n, e, rfl, rfl, rfl⟩, z⟩
  · refine ⟨its.toList, r, ⟨o, n, I.kIn a o hk, hc, hd, by simpa using hs⟩, ?_⟩
    have e := r.length
    simp only [Array.length_toList] at e
    omega
theorem Inv.tuple (I : Inv X pins σ H s) (h : SqT X.K H a xs) : ∃ its : List Value, Vals xs its ∧ IsTup s.heap a its.toArray ∧ xs.length ≤ sizeLine := by
  rcases h with h | ⟨o, its, n, hk, hc, hs, hz, r⟩
  · obtain ⟨z, its, r, p⟩ := h.ok I.hok
    exact ⟨its, r, p, z⟩
  · refine ⟨its.toList, r, ⟨o, I.kIn a o hk, hc, n, by simpa using hs⟩, ?_⟩
    have e := r.length
    simp only [Array.length_toList] at e
    omega
theorem Inv.list_inj (I : Inv X pins σ H s) (h : SqL X.K H a xs) (h' : SqL X.K H a ys) : xs = ys := by
  obtain ⟨its, r, ⟨o, n, e, _, _, d⟩, _⟩ := I.list h
  obtain ⟨its', r', ⟨o', n', e', _, _, d'⟩, _⟩ := I.list h'
  rw [e] at e'; cases e'
  rw [d] at d'
  injection d' with d1 _
  have : its = its' := by simpa using congrArg Array.toList d1
  subst this
  exact r.inj r'
theorem Inv.tuple_inj (I : Inv X pins σ H s) (h : SqT X.K H a xs) (h' : SqT X.K H a ys) : xs = ys := by
  obtain ⟨its, r, ⟨o, e, _, n, d⟩, _⟩ := I.tuple h
  obtain ⟨its', r', ⟨o', e', _, n', d'⟩, _⟩ := I.tuple h'
  rw [e] at e'; cases e'
  rw [d] at d'
  injection d' with d1 _
  have : its = its' := by simpa using congrArg Array.toList d1
  subst this
  exact r.inj r'
end

/-! ### another wish about exceptions -/
noncomputable abbrev Cx.wish (X : Cx) (E : Value → Shared → Prop) : Cx := { X with xe := E }
/-- no exception leaves -/
noncomputable abbrev Cx.nox (X : Cx) : Cx := X.wish fun _ _ => False
theorem Cx.Ok.wish {X : Cx} (ok : X.Ok) (E : Value → Shared → Prop) : (X.wish E).Ok :=
  ⟨ok.mod, ok.kind, ok.glob, ok.blt, ok.above, ok.inj, ok.has, ok.cab, ok.hd, ok.frames, ok.stk, ok.exf, ok.bs, ok.bsz, ok.noex, ok.exfs, ok.funs, ok.frf⟩
theorem Cx.Ok.unwish {X : Cx} {E : Value → Shared → Prop} (ok : (X.wish E).Ok) : X.Ok :=
  ⟨ok.mod, ok.kind, ok.glob, ok.blt, ok.above, ok.inj, ok.has, ok.cab, ok.hd, ok.frames, ok.stk, ok.exf, ok.bs, ok.bsz, ok.noex, ok.exfs, ok.funs, ok.frf⟩
section
variable {X : Cx} {pins : List (Addr × Obj)} {σ : St} {H : Hp} {s : Shared} {E : Value → Shared → Prop}
theorem Inv.wish (I : Inv X pins σ H s) (E : Value → Shared → Prop) : Inv (X.wish E) pins σ H s := ⟨I.ok.wish E, I.os, I.bare, I.base, I.loc, I.cell, I.free, I.freeC, I.pin, I.hok, I.len⟩
theorem Inv.unwish (I : Inv (X.wish E) pins σ H s) : Inv X pins σ H s := ⟨I.ok.unwish, I.os, I.bare, I.base, I.loc, I.cell, I.free, I.freeC, I.pin, I.hok, I.len⟩
theorem SP.unwish {D : Ends} {f : Flow} {s' : Shared} (h : SP (X.wish E) pins D f s') : SP X pins D f s' := by
  cases f with
  | next => obtain ⟨σ', H', I, q⟩ := h; exact ⟨σ', H', I.unwish, q⟩
  | brk => obtain ⟨σ', H', I, q⟩ := h; exact ⟨σ', H', I.unwish, q⟩
  | cont => obtain ⟨σ', H', I, q⟩ := h; exact ⟨σ', H', I.unwish, q⟩
  | ret u => obtain ⟨v, σ', H', I, r, q⟩ := h; exact ⟨v, σ', H', I.unwish, r, q⟩
theorem PE.nox {e : Expr} {t : TE} (h : PE X.nox e t) : PE X e t := fun pins s σ H Q I hw =>
  wpAny_mono (h pins s σ H Q (I.wish _) hw) (fun _ _ ⟨v, H', I', r, q⟩ => ⟨v, H', I'.unwish, r, q⟩) fun _ _ z => False.elim z
theorem PT.nox {e : Expr} {t : TT} (h : PT X.nox e t) : PT X e t := fun pins s σ H Q I hw =>
  wpAny_mono (h pins s σ H Q (I.wish _) hw) (fun _ _ ⟨H', I', q⟩ => ⟨H', I'.unwish, q⟩) fun _ _ z => False.elim z
theorem PSs.nox {st : List Stmt} {t : TS} (h : PSs X.nox st t) : PSs X st t := fun pins s σ H D I hw =>
  wpAny_mono (h pins s σ H D (I.wish _) hw) (fun _ _ q => q.unwish) fun _ _ z => False.elim z
end

/-! ### blocks and small statements -/
section
variable {X : Cx} {st : Stmt} {rest : List Stmt} {t u : TS} {e : Expr} {te : TE} {pos : Pos}
noncomputable def tNext : TS := fun D σ H => D.nx σ H
noncomputable def tSeq (t u : TS) : TS := fun D σ H => t { D with nx := u D } σ H
theorem pss_nil : PSs X [] tNext := fun _ _ σ H _ I h => wpAny_execs_nil ⟨σ, H, I, h⟩
theorem pss_cons (h1 : PS X st t) (h2 : PSs X rest u) : PSs X (st :: rest) (tSeq t u) := by
  intro pins s σ H D I h
  refine wpAny_execs_cons (thn (h1 pins s σ H { D with nx := u D } I h) fun f s1 q => ?_)
  cases f with
  | next =>
    obtain ⟨σ', H', I', q⟩ := q
    exact h2 pins s1 σ' H' D I' q
  | ret v => exact q
  | brk => exact q
  | cont => exact q
theorem pss_one (h1 : PS X st t) : PSs X [st] t := by
  intro pins s σ H D I h
  refine wpAny_execs_cons (thn (h1 pins s σ H D I h) fun f s1 q => ?_)
  cases f with
  | next => exact wpAny_execs_nil q
  | ret v => exact q
  | brk => exact q
  | cont => exact q
/-- in a def's body nothing is shown -/
theorem Inv.quiet {pins : List (Addr × Obj)} {σ : St} {H : Hp} {s : Shared} (I : Inv X pins σ H s) : interactive X.env = false := by simp [interactive, I.ok.kind]
/-- an expression whose value is dropped -/
noncomputable def tDrop (te : TE) : TS := fun D σ H => te σ H fun _ H1 => D.nx σ H1
theorem ps_expr (he : PE X e te) (hs : swapsWith e none pos.line X.env = pure false := by rfl) : PS X (.Expr e pos) (tDrop te) := by
  intro pins s σ H D I h
  exact wpAny_Expr_any (thn (he pins s σ H _ I h) fun v s1 ⟨x, H1, I1, r1, q1⟩ => ⟨σ, H1, I1, q1⟩) I.quiet hs
noncomputable def tRet (te : TE) : TS := fun D σ H => te σ H D.rt
theorem ps_ret (he : PE X e te) : PS X (.Return (some e) pos) (tRet te) := by
  intro pins s σ H D I h
  exact wpAny_Return_some (thn (he pins s σ H _ I h) fun v s1 ⟨x, H1, I1, r1, q1⟩ => ⟨x, σ, H1, I1, r1, q1⟩)
noncomputable def tIfS (c : TT) (t u : TS) : TS := fun D σ H => c σ H fun b H1 => if b = true then t D σ H1 else u D σ H1
theorem ps_if {c : Expr} {a b : List Stmt} {tc : TT} (hc : PT X c tc) (ha : PSs X a t) (hb : PSs X b u) : PS X (.If c a b pos) (tIfS tc t u) := by
  intro pins s σ H D I h
  refine wpAny_If (thn (hc pins s σ H _ I h) fun d s1 ⟨H1, I1, q1⟩ => ?_)
  cases d with
  | true => exact ha pins s1 σ H1 D I1 q1
  | false => exact hb pins s1 σ H1 D I1 q1
end

/-! ### targets -/
noncomputable abbrev TG := V → St → Hp → (St → Hp → Prop) → Prop
noncomputable abbrev TGs := List V → St → Hp → (St → Hp → Prop) → Prop
noncomputable def PG (X : Cx) (target : Expr) (t : TG) : Prop :=
  ∀ (pins : List (Addr × Obj)) (s : Shared) (σ : St) (H : Hp) (v : V) (u : Value) (Q : St → Hp → Prop), Inv X pins σ H s → RelV v u → t v σ H Q →
    wpAny (model X.prog X.w) X.A (assign target X.env u) (fun _ s' => ∃ σ' H', Inv X pins σ' H' s' ∧ Q σ' H') X.xe s
/-- several targets, one after another -/
noncomputable def PGs (X : Cx) (ts : List Expr) (t : TGs) : Prop :=
  ∀ (pins : List (Addr × Obj)) (s : Shared) (σ : St) (H : Hp) (vs : List V) (us : List Value) (Q : St → Hp → Prop), Inv X pins σ H s → Vals vs us → t vs σ H Q →
    wpAny (model X.prog X.w) X.A (assignInOrder ((assignEach ts X.env).map (·.2)) us) (fun _ s' => ∃ σ' H', Inv X pins σ' H' s' ∧ Q σ' H') X.xe s
section
variable {X : Cx} {pos : Pos}
noncomputable def gName (i : Nat) : TG := fun v σ H Q => Q (σ.set i (some v)) H
theorem pg_name {i : Nat} {x : Str} (hN : X.N.Nodup) (hi : X.N[i]? = some x) (hx : Loc X.env.scope x) (hf : X.fn x = true ∨ X.env.scope.names.lookup x = some .local := by first | exact .inl rfl | exact .inr rfl | assumption) : PG X (.Name x pos) (gName i) := by
  intro pins s σ H v u Q I r h
  exact wpAny_assign_Name (store_ok I hN hi hx r (fun s' I' => ⟨_, H, I', h⟩) hf)
noncomputable def gNil : TGs := fun vs σ H Q => vs = [] ∧ Q σ H
noncomputable def gCons (t : TG) (u : TGs) : TGs := fun vs σ H Q => ∃ v r, vs = v :: r ∧ t v σ H fun σ' H' => u r σ' H' Q
theorem pgs_nil : PGs X [] gNil := by
  intro pins s σ H vs us Q I r h
  obtain ⟨e, h⟩ := h
  subst e
  cases r
  exact assignInOrder_nil ⟨σ, H, I, h⟩
theorem pgs_cons {e : Expr} {es : List Expr} {t : TG} {u : TGs} (h1 : PG X e t) (h2 : PGs X es u)
    (hs : (assignEach (e :: es) X.env).map (·.2) = assign e X.env :: (assignEach es X.env).map (·.2) := by rfl) : PGs X (e :: es) (gCons t u) := by
  intro pins s σ H vs us Q I r h
  obtain ⟨v, vr, e1, h⟩ := h
  subst e1
  cases r with
  | cons r rr =>
    rw [hs]
    refine assignInOrder_cons (thn (h1 pins s σ H _ _ _ I r h) fun _ s1 ⟨σ1, H1, I1, q1⟩ => ?_)
    exact h2 pins s1 σ1 H1 _ _ Q I1 rr q1
/-- (a, b, ..) = a tuple of that length -/
noncomputable def gTup (K : PySem.W.Frag) (n : Nat) (t : TGs) : TG := fun v σ H Q => ∃ a xs, v = .ref a ∧ SqT K H a xs ∧ xs.length = n ∧ t xs σ H Q
theorem pg_tup {es : List Expr} {k : Nat} {t : TGs} {n : Nat} (hc : X.calm = true) (h : PGs X es t)
    (hn : (assignEach es X.env).length = n := by rfl) (hst : (assignEach es X.env).findIdx? (·.1) = none := by rfl) : PG X (.Tuple es k pos) (gTup X.K n t) := by
  intro pins s σ H v u Q I r hw
  obtain ⟨a, xs, e1, hq, hl, hw⟩ := hw
  subst e1
  cases r
  obtain ⟨its, rv, ht, hz⟩ := I.tuple hq
  refine assign_Tuple_tuple (I.ok.hd hc) ht (by simp [hn, ← hl, rv.length]) hst fun h' hx => ?_
  have I1 : Inv X pins σ H { s with heap := h' } := I.kept (t' := s.toks) fun b o e => hx b o (Nat.ne_of_lt (Heap.lt_size e)) e
  exact h pins _ σ H xs _ Q I1 (by simpa using rv) hw
/-- target = value -/
noncomputable def tAsg (te : TE) (g : TG) : TS := fun D σ H => te σ H fun x H1 => g x σ H1 D.nx
theorem ps_asg {tg e : Expr} {te : TE} {g : TG} (he : PE X e te) (hg : PG X tg g) (hs : swapsWithSole [tg] e pos.line X.env = pure false := by rfl) (hw : swappedStores [tg] e X.env = pure none := by rfl)
    (h1 : (assignEach [tg] X.env).map (·.2) = [assign tg X.env] := by rfl) : PS X (.Assign [tg] e pos) (tAsg te g) := by
  intro pins s σ H D I h
  refine wpAny_Assign_stores (thn (he pins s σ H _ I h) fun v s1 ⟨x, H1, I1, r1, q1⟩ => ?_) hs hw
  rw [h1]
  exact thn (hg pins s1 σ H1 x v _ I1 r1 q1) fun _ s2 q => q
/-- name = value -/
theorem ps_set {i : Nat} {x : Str} {e : Expr} {te : TE} {pos' : Pos} (hN : X.N.Nodup) (hi : X.N[i]? = some x) (hx : Loc X.env.scope x) (he : PE X e te) (hs : swapsWith e (some (.Name x pos')) pos.line X.env = pure false := by rfl) (hf : X.fn x = true ∨ X.env.scope.names.lookup x = some .local := by first | exact .inl rfl | exact .inr rfl | assumption) :
    PS X (.Assign [.Name x pos'] e pos) (tAsg te (gName i)) := by
  intro pins s σ H D I h
  refine wpAny_Assign_Name (thn (he pins s σ H _ I h) fun v s1 ⟨y, H1, I1, r1, q1⟩ => ?_) hs
  exact store_ok I1 hN hi hx r1 (fun s2 I2 => ⟨_, H1, I2, q1⟩) hf
end

/-! ### while -/
section
variable {X : Cx} {pos : Pos}
end

/-! ### what a loop or a comprehension walks -/
/-- at turn i: it yields x (the heap may grow), or it stops -/
structure It where
  go : Nat → Hp → Prop
  yld : Nat → Hp → V → Hp → Prop
  stop : Nat → Hp → Prop
/-- the iterator's own objects may turn: they are not the frame's, not pinned, younger than the entry (or a comprehension's own) -/
noncomputable def FpOk (X : Cx) (pins : List (Addr × Obj)) (H : Hp) (b : Addr) : Prop :=
  H b = none ∧ b ≠ X.env.locals ∧ b ∉ X.fs ∧ (b ∈ X.ex ∨ X.s₀.heap.objs.size ≤ b) ∧ (∀ x c, X.env.cells.lookup x = some c → c ≠ b) ∧ ∀ p ∈ X.pn ++ pins, p.1 ≠ b
theorem Inv.fpOk {X : Cx} {pins : List (Addr × Obj)} {σ : St} {H H' : Hp} {s : Shared} {b : Addr} (I : Inv X pins σ H s) (hb : s.heap.objs.size ≤ b) (hn : H' b = none) : FpOk X pins H' b := by
  refine ⟨hn, Nat.ne_of_gt (Nat.lt_of_lt_of_le I.lt hb), I.nofs hb, .inr (Nat.le_trans I.sz hb), fun x c e z => ?_, fun p hp z => ?_⟩
  · obtain ⟨v, q⟩ := I.cell x c e
    exact absurd (Nat.lt_of_lt_of_le q.lt (by rw [z]; exact hb)) (Nat.lt_irrefl _)
  · exact absurd (Nat.lt_of_lt_of_le (Heap.lt_size (I.pin p hp).1) (by rw [z]; exact hb)) (Nat.lt_irrefl _)
structure Turn (P : Program) (w : World) (K : PySem.W.Frag) (tg : Expr) (J : It) (fp : List Addr) (it : Addr) (tn : Nat → Heap → Prop) : Prop where
  mem : it ∈ fp
  obj : ∀ i h, tn i h → ∀ b ∈ fp, ∃ o, h.get? b = some o ∧ ∀ v, o.data ≠ .cell v
  keep : ∀ i h h', tn i h → (∀ b ∈ fp, ∀ o, h.get? b = some o → h'.get? b = some o) → tn i h'
  item : ∀ (X : Cx), X.prog = P → X.w = w → X.K = K → X.calm = true → ∀ (i : Nat) (pins : List (Addr × Obj)) (s : Shared) (σ : St) (H : Hp) (E : Value → Shared → Prop), Inv X pins σ H s → (∀ b ∈ fp, FpOk X pins H b) → tn i s.heap → J.go i H →
    wpAny (model P w) X.A (pyNext (.ref it)) (fun r s1 => ∃ u, r = some u ∧
      wpAny (model P w) X.A (letOwnedTupleGo tg (.ref it) u) (fun _ s2 => ∃ x H', Inv X pins σ H' s2 ∧ RelV x u ∧ J.yld i H x H' ∧ tn (i + 1) s2.heap ∧ ∀ b ∈ fp, H' b = none) E s1) E s
  done : ∀ (X : Cx), X.prog = P → X.w = w → X.K = K → X.calm = true → ∀ (i : Nat) (pins : List (Addr × Obj)) (s : Shared) (σ : St) (H : Hp) (E : Value → Shared → Prop), Inv X pins σ H s → (∀ b ∈ fp, FpOk X pins H b) → tn i s.heap → J.stop i H →
    wpAny (model P w) X.A (pyNext (.ref it)) (fun r s1 => r = none ∧ Inv X pins σ H s1) E s
  self : ∀ (A : Around) (i : Nat) (s : Shared) (Q : Value → Shared → Prop) (E : Value → Shared → Prop), tn i s.heap → Q (.ref it) s → wpAny (model P w) A (pyIter (.ref it)) Q E s
noncomputable abbrev TI := St → Hp → (It → Hp → Prop) → Prop
/-- an iterator has come -/
noncomputable def PIE (X : Cx) (pins : List (Addr × Obj)) (σ : St) (tg : Expr) (R : It → Hp → Prop) (itv : Value) (s2 : Shared) : Prop :=
  ∃ (it : Addr) (fp : List Addr) (tn : Nat → Heap → Prop) (J : It) (H' : Hp), itv = .ref it ∧ Inv X pins σ H' s2 ∧ Turn X.prog X.w X.K tg J fp it tn ∧ tn 0 s2.heap ∧ (∀ b ∈ fp, FpOk X pins H' b) ∧ R J H'
noncomputable def PI (X : Cx) (tg iter : Expr) (wi : TI) : Prop :=
  ∀ (pins : List (Addr × Obj)) (s : Shared) (σ : St) (H : Hp) (R : It → Hp → Prop), Inv X pins σ H s → wi σ H R →
    wpAny (model X.prog X.w) X.A (eval iter X.env) (fun v s1 => wpAny (model X.prog X.w) X.A (pyIter v) (PIE X pins σ tg R) X.xe s1) X.xe s

/-- the step ahead of the store is nothing for an iterator that keeps no tuple -/
theorem go_of {M : Model} {A : Around} {E : Value → Shared → Prop} {s : Shared} {tg : Expr} {it : Addr} {u : Value} {o : Obj} {n : String} {vs : Array Value} {Q : Unit → Shared → Prop} (ho : s.heap.get? it = some o) (hc : o.cls = .type n) (hd : o.data = .fields vs)
    (hn : ["enumerate", "zip", "dict_itemiterator", "dict_reverseitemiterator", "odict_iterator", "itertools.zip_longest", "itertools.pairwise"].contains n = false) (hQ : Q () s) : wpAny M A (letOwnedTupleGo tg (.ref it) u) Q E s := by
  unfold letOwnedTupleGo
  cases tg <;> first
    | exact wpAny_pure hQ
    | (cases u <;> first
        | exact wpAny_pure hQ
        | (refine wpAny_bind (wpAny_load ho ?_)
           rw [hc, hd]
           show wpAny M A (if (["enumerate", "zip", "dict_itemiterator", "dict_reverseitemiterator", "odict_iterator", "itertools.zip_longest", "itertools.pairwise"].contains n && vs[0]? == some (rawInt _)) = true then _ else _) Q E s
           rw [if_neg (by intro h; rw [hn, Bool.false_and] at h; cases h)]
           exact wpAny_pure hQ))

/-- the list at a, as it stands at each turn (a loop may append to it) -/
noncomputable def Itl (K : PySem.W.Frag) (a : Addr) : It :=
  ⟨fun i H => ∃ xs x, SqL K H a xs ∧ xs[i]? = some x, fun i H x H' => H' = H ∧ ∀ xs, SqL K H a xs → xs[i]? = some x, fun i H => ∃ xs, SqL K H a xs ∧ xs.length ≤ i⟩
noncomputable def Itt (K : PySem.W.Frag) (a : Addr) : It :=
  ⟨fun i H => ∃ xs x, SqT K H a xs ∧ xs[i]? = some x, fun i H x H' => H' = H ∧ ∀ xs, SqT K H a xs → xs[i]? = some x, fun i H => ∃ xs, SqT K H a xs ∧ xs.length ≤ i⟩
/-- lo, lo + 1, .. (n of them) -/
noncomputable def Itr (lo : Int) (n : Nat) : It := ⟨fun i _ => i < n, fun i H x H' => H' = H ∧ x = .int (lo + i), fun i _ => n ≤ i⟩
theorem turn_list {P : Program} {w : World} {K : PySem.W.Frag} {tg : Expr} (a it : Addr) : Turn P w K tg (Itl K a) [it] it (fun i h => h.IsListIter it a i) where
  mem := by simp
  obj := fun i h st b hb => by
    have e : b = it := by simpa using hb
    subst e
    obtain ⟨o, e, c, d⟩ := st
    exact ⟨o, e, fun v z => by rw [d] at z; cases z⟩
  keep := fun i h h' st k => st.at fun o e => k it (by simp) o e
  item := by
    intro X hP hw hK hc i pins s σ H E I hf st hg
    subst hP hw hK
    obtain ⟨xs, x, hq, hx⟩ := hg
    obtain ⟨its, rv, p, hz⟩ := I.list hq
    obtain ⟨u, hu, ru⟩ := rv.get hx
    obtain ⟨f0, f1, f2, f3, f4, f5⟩ := hf it (by simp)
    refine wpAny_pyNext_list_item st p.isList (x := u) (by simpa using hu) fun h' st' sb => ?_
    have I1 : Inv X pins σ H { s with heap := h' } := I.turned (t' := s.toks) (fun b o hb e => (sb.2 b hb).trans e) f0 f1 f3 f4 f5
    obtain ⟨o, e, c, d⟩ := id st'
    exact ⟨u, rfl, go_of (s := { s with heap := h' }) e c d (by decide) ⟨x, H, I1, ru, ⟨rfl, fun ys hy => by rw [I.list_inj hy hq]; exact hx⟩, st', fun b hb => (hf b hb).1⟩⟩
  done := by
    intro X hP hw hK hc i pins s σ H E I hf st hg
    subst hP hw hK
    obtain ⟨xs, hq, hx⟩ := hg
    obtain ⟨its, rv, p, hz⟩ := I.list hq
    obtain ⟨f0, f1, f2, f3, f4, f5⟩ := hf it (by simp)
    have hl := rv.length
    exact wpAny_pyNext_list_end (I.ok.hd hc) st p.isList (by simp; omega) fun h' eb => ⟨rfl, I.turned (t' := s.toks) (fun b o hb e => eb b o hb e) f0 f1 f3 f4 f5⟩
  self := fun _ _ _ _ _ st h => wpAny_pyIter_listiter st h
theorem turn_tuple {P : Program} {w : World} {K : PySem.W.Frag} {tg : Expr} (a it : Addr) : Turn P w K tg (Itt K a) [it] it (fun i h => h.IsTupleIter it a i) where
  mem := by simp
  obj := fun i h st b hb => by
    have e : b = it := by simpa using hb
    subst e
    obtain ⟨o, e, c, d⟩ := st
    exact ⟨o, e, fun v z => by rw [d] at z; cases z⟩
  keep := fun i h h' st k => st.at fun o e => k it (by simp) o e
  item := by
    intro X hP hw hK hc i pins s σ H E I hf st hg
    subst hP hw hK
    obtain ⟨xs, x, hq, hx⟩ := hg
    obtain ⟨its, rv, p, hz⟩ := I.tuple hq
    obtain ⟨u, hu, ru⟩ := rv.get hx
    obtain ⟨f0, f1, f2, f3, f4, f5⟩ := hf it (by simp)
    refine wpAny_pyNext_tuple_item st (show s.heap.IsTuple a its.toArray from p) (x := u) (by simpa using hu) fun h' st' sb => ?_
    have I1 : Inv X pins σ H { s with heap := h' } := I.turned (t' := s.toks) (fun b o hb e => (sb.2 b hb).trans e) f0 f1 f3 f4 f5
    obtain ⟨o, e, c, d⟩ := id st'
    exact ⟨u, rfl, go_of (s := { s with heap := h' }) e c d (by decide) ⟨x, H, I1, ru, ⟨rfl, fun ys hy => by rw [I.tuple_inj hy hq]; exact hx⟩, st', fun b hb => (hf b hb).1⟩⟩
  done := by
    intro X hP hw hK hc i pins s σ H E I hf st hg
    subst hP hw hK
    obtain ⟨xs, hq, hx⟩ := hg
    obtain ⟨its, rv, p, hz⟩ := I.tuple hq
    obtain ⟨f0, f1, f2, f3, f4, f5⟩ := hf it (by simp)
    have hl := rv.length
    exact wpAny_pyNext_tuple_end (I.ok.hd hc) st (show s.heap.IsTuple a its.toArray from p) (by simp; omega) fun h' eb => ⟨rfl, I.turned (t' := s.toks) (fun b o hb e => eb b o hb e) f0 f1 f3 f4 f5⟩
  self := fun _ _ _ _ _ st h => wpAny_pyIter_tupleiter st h
theorem turn_range {P : Program} {w : World} {K : PySem.W.Frag} {tg : Expr} (it : Addr) (lo : Int) (n : Nat) : Turn P w K tg (Itr lo n) [it] it (fun i h => IsRangeIter h it (lo + (i : Nat) * 1) ((n : Int) - (i : Nat)) 1) where
  mem := by simp
  obj := fun i h st b hb => by
    have e : b = it := by simpa using hb
    subst e
    exact ⟨_, st, fun v z => by
      have z' : Data.fields _ = Data.cell v := z
      cases z'⟩
  keep := fun i h h' st k => k it (by simp) _ st
  item := by
    intro X hP hw hK hc i pins s σ H E I hf st hg
    subst hP hw hK
    obtain ⟨f0, f1, f2, f3, f4, f5⟩ := hf it (by simp)
    have W := Walks.range (prog := X.prog) (w := X.w) (I.ok.hd hc) it lo 1 n
    refine W.item i s _ _ hg st fun v h' tk hv st' kk => ?_
    obtain ⟨t, rfl⟩ := hv
    have I1 : Inv X pins σ H { s with heap := h', toks := tk } := I.turned (fun b o hb e => kk b o (by simpa using hb) e) f0 f1 f3 f4 f5
    refine ⟨_, rfl, go_of (s := { s with heap := h', toks := tk }) (n := "range_iterator") st' rfl rfl (by decide) ⟨.int (lo + i), H, I1, ⟨t, ?_⟩, ⟨rfl, rfl⟩, st', fun b hb => (hf b hb).1⟩⟩
    rw [Int.mul_one]
  done := by
    intro X hP hw hK hc i pins s σ H E I hf st hg
    subst hP hw hK
    obtain ⟨f0, f1, f2, f3, f4, f5⟩ := hf it (by simp)
    exact wpAny_pyNext_range_end (I.ok.hd hc) st (by have : n ≤ i := hg; omega) fun h' eb => ⟨rfl, I.turned (t' := s.toks) (fun b o hb e => eb b o hb e) f0 f1 f3 f4 f5⟩
  self := fun _ _ _ _ _ st h => wpAny_pyIter_rangeiter st h
end L2

namespace L2
open PySem PySem.Spec PyProof.Rows
section
variable {X : Cx} {tg : Expr}
noncomputable def iList (K : PySem.W.Frag) (tl : TE) : TI := fun σ H R => tl σ H fun x H1 => ∃ a, x = .ref a ∧ (∃ xs, SqL K H1 a xs) ∧ R (Itl K a) H1
noncomputable def iTup (K : PySem.W.Frag) (tl : TE) : TI := fun σ H R => tl σ H fun x H1 => ∃ a, x = .ref a ∧ (∃ xs, SqT K H1 a xs) ∧ R (Itt K a) H1
theorem pi_list {l : Expr} {tl : TE} (hl : PE X l tl) : PI X tg l (iList X.K tl) := by
  intro pins s σ H R I h
  refine thn (hl pins s σ H _ I h) fun v s1 ⟨x, H1, I1, r1, q1⟩ => ?_
  obtain ⟨a, e, ⟨xs, hq⟩, q⟩ := q1
  subst e
  cases r1
  obtain ⟨its, rv, p, hz⟩ := I1.list hq
  refine wpAny_pyIter_list p.isList ?_
  refine ⟨s1.heap.objs.size, [s1.heap.objs.size], _, _, H1, rfl, I1.kept (t' := s1.toks) fun b o e => Heap.get?_push_of_some _ e, turn_list a _, ⟨_, Heap.get?_push_size _ rfl, rfl, rfl⟩, fun b hb => ?_, q⟩
  have e : b = s1.heap.objs.size := by simpa using hb
  subst e
  exact I1.fpOk (Nat.le_refl _) (I1.hok.fresh (Nat.le_refl _))
theorem pi_tup {l : Expr} {tl : TE} (hl : PE X l tl) : PI X tg l (iTup X.K tl) := by
  intro pins s σ H R I h
  refine thn (hl pins s σ H _ I h) fun v s1 ⟨x, H1, I1, r1, q1⟩ => ?_
  obtain ⟨a, e, ⟨xs, hq⟩, q⟩ := q1
  subst e
  cases r1
  obtain ⟨its, rv, p, hz⟩ := I1.tuple hq
  refine wpAny_pyIter_tuple (show s1.heap.IsTuple a its.toArray from p) ?_
  refine ⟨s1.heap.objs.size, [s1.heap.objs.size], _, _, H1, rfl, I1.kept (t' := s1.toks) fun b o e => Heap.get?_push_of_some _ e, turn_tuple a _, ⟨_, Heap.get?_push_size _ rfl, rfl, rfl⟩, fun b hb => ?_, q⟩
  have e : b = s1.heap.objs.size := by simpa using hb
  subst e
  exact I1.fpOk (Nat.le_refl _) (I1.hok.fresh (Nat.le_refl _))
/-- a range object just made, walked -/
theorem range_it {pins : List (Addr × Obj)} {σ : St} {H : Hp} {s : Shared} {R : It → Hp → Prop} {E : Value → Shared → Prop} {lo hi : Int} {t u v : Tok} {tk : Nat} (I : Inv X pins σ H s) (h1 : -(2 ^ 62) ≤ lo) (h2 : lo < 2 ^ 62) (h3 : -(2 ^ 62) ≤ hi) (h4 : hi < 2 ^ 62)
    (q : R (Itr lo (hi - lo).toNat) H) : wpAny (model X.prog X.w) X.A (pyIter (.ref s.heap.objs.size)) (PIE X pins σ tg R) E { s with heap := s.heap.push { cls := .type "range", data := .fields #[.int lo t, .int hi u, .int 1 v] }, toks := tk } := by
  refine wpAny_pyIter_range (IsRange.new ..) (small_one h1 h2 h3 h4) ?_
  have I1 : Inv X pins σ H { s with heap := s.heap.push { cls := .type "range", data := .fields #[.int lo t, .int hi u, .int 1 v] }, toks := tk } := I.kept fun b o e => Heap.get?_push_of_some _ e
  refine ⟨(s.heap.push { cls := .type "range", data := .fields #[.int lo t, .int hi u, .int 1 v] }).objs.size, [(s.heap.push { cls := .type "range", data := .fields #[.int lo t, .int hi u, .int 1 v] }).objs.size], _, _, H, rfl,
    I1.kept (t' := tk) fun b o e => Heap.get?_push_of_some _ e, turn_range _ lo (hi - lo).toNat, ?_, fun b hb => ?_, q⟩
  · have e1 : lo + ((0 : Nat) : Int) * 1 = lo := by simp
    have e2 : (((hi - lo).toNat : Nat) : Int) - ((0 : Nat) : Int) = Builtin.Range.rangeSize lo hi 1 := by rw [rangeSize_one]; split <;> omega
    show IsRangeIter _ _ (lo + ((0 : Nat) : Int) * 1) ((((hi - lo).toNat : Nat) : Int) - ((0 : Nat) : Int)) 1
    rw [e1, e2]
    exact Heap.get?_push_size _ rfl
  · have e : b = (s.heap.push { cls := .type "range", data := .fields #[.int lo t, .int hi u, .int 1 v] }).objs.size := by simpa using hb
    subst e
    exact I1.fpOk (Nat.le_refl _) (I1.hok.fresh (Nat.le_refl _))
noncomputable def iRng1 (ta : TA) : TI := fun σ H R => ta σ H fun vs H1 => ∃ j : Int, vs = [.int j] ∧ -(2 ^ 62) ≤ j ∧ j < 2 ^ 62 ∧ R (Itr 0 j.toNat) H1
theorem pi_range1 {a : Expr} {ta : TA} {p pos : Pos} (hg : Gl X "range") (hm : X.mg "range" = none) (ha : PA X [a] ta) (hs : starEach [a] X.env = [(false, eval a X.env)] := by rfl) : PI X tg (.Call (.Name "range" p) [a] [] pos) (iRng1 ta) := by
  intro pins s σ H R I h
  refine Call_ (ld_blt I hg hm boot_range (PyProof.Rows.callWith_type1 (thn (ha pos pins s σ H _ I h) fun us s1 ⟨vs, H1, I1, r1, q1⟩ => ?_) hs rfl))
  obtain ⟨j, e, q1, q2, q⟩ := q1
  subst e
  cases r1 with
  | cons r rr =>
    cases rr
    obtain ⟨t, rfl⟩ := r
    exact call_range_1 (range_it I1 (by omega) (by omega) q1 q2 (by simpa using q))
/-! ### for -/
/-- W: the invariant by the turn and a measure; N: what the body is to reach -/
noncomputable def tFor (wi : TI) (g : TG) (tb : TS) : TS := fun D σ H => wi σ H fun J H1 => ∃ W : Nat → Nat → St → Hp → Prop, (∃ m, W 0 m σ H1) ∧ ∀ i m σ H, W i m σ H →
  (J.stop i H ∧ D.nx σ H) ∨ (J.go i H ∧ ∃ N : St → Hp → Prop, (∀ σ' H', N σ' H' → ∃ m', m' < m ∧ W (i + 1) m' σ' H') ∧ ∀ x H', J.yld i H x H' → g x σ H' fun σ2 H2 => tb { D with nx := N, ct := N, bk := D.nx } σ2 H2)
/-- the records at fp as they stand -/
noncomputable def pinsAt (fp : List Addr) (h : Heap) : List (Addr × Obj) := fp.filterMap fun b => (h.get? b).map fun o => (b, o)
theorem mem_pinsAt {fp : List Addr} {h : Heap} {b : Addr} {o : Obj} (hb : b ∈ fp) (e : h.get? b = some o) : (b, o) ∈ pinsAt fp h := List.mem_filterMap.mpr ⟨b, hb, by rw [e]; rfl⟩
theorem of_pinsAt {fp : List Addr} {h : Heap} {p : Addr × Obj} (hp : p ∈ pinsAt fp h) : p.1 ∈ fp ∧ h.get? p.1 = some p.2 := by
  obtain ⟨b, hb, e⟩ := List.mem_filterMap.mp hp
  cases q : h.get? b with
  | none => rw [q] at e; cases e
  | some o =>
    rw [q] at e
    have e' : (b, o) = p := Option.some.inj e
    subst e'
    exact ⟨hb, q⟩
theorem Inv.pinned {pins : List (Addr × Obj)} {σ : St} {H : Hp} {s : Shared} {fp : List Addr} (I : Inv X pins σ H s) (hf : ∀ b ∈ fp, FpOk X pins H b) (ho : ∀ b ∈ fp, ∃ o, s.heap.get? b = some o ∧ ∀ v, o.data ≠ .cell v) : Inv X (pins ++ pinsAt fp s.heap) σ H s :=
  I.pins_of fun p hp => (List.mem_append.mp hp).elim (fun z => I.pin p (List.mem_append_right _ z)) fun z => by
    obtain ⟨hb, e⟩ := of_pinsAt z
    obtain ⟨f0, f1, f2, _⟩ := hf p.1 hb
    obtain ⟨o, e', d⟩ := ho p.1 hb
    rw [e] at e'; cases e'
    exact ⟨e, f0, f1, f2, d⟩
theorem Inv.unpinned {pins pl : List (Addr × Obj)} {σ : St} {H : Hp} {s : Shared} (I : Inv X (pins ++ pl) σ H s) : Inv X pins σ H s := I.pins_of fun p hp => I.pin p (List.mem_append_right _ (List.mem_append_left _ hp))
theorem ps_for {iter : Expr} {body : List Stmt} {wi : TI} {g : TG} {tb : TS} {pos : Pos} (hp : PassesOwn (model X.prog X.w) X.A X.env X.xe) (hc : X.calm = true) (hi : PI X tg iter wi) (hg : PG X tg g) (hb : PSs X body tb)
    (hs : ∀ x, foldedSetIterable iter X.env x = pure x := by intro _; rfl) : PS X (.For tg iter body [] pos) (tFor wi g tb) := by
  intro pins s σ H D I h
  refine wpAny_For (thn (hi pins s σ H _ I h) fun v s1 h1 => thn h1 fun itv s2 h2 => ?_) hs
  obtain ⟨it, fp, tn, J, H2, e, I2, T, st2, f2, W, ⟨m0, w0⟩, turn⟩ := h2
  subst e
  -- what stays true of the iterator's objects through the loop
  have stat : ∀ {H' : Hp}, (∀ b ∈ fp, H' b = none) → ∀ b ∈ fp, FpOk X pins H' b := fun hn b hb => ⟨hn b hb, (f2 b hb).2⟩
  refine codeAny_forLoop_any (fun n s' => ∃ i σ' H', Inv X pins σ' H' s' ∧ tn i s'.heap ∧ (∀ b ∈ fp, H' b = none) ∧ W i n σ' H') ?_ m0 ⟨0, σ, H2, I2, st2, fun b hb => (f2 b hb).1, w0⟩
  rintro n s3 ⟨i, σ3, H3, I3, st3, fr3, w3⟩
  rcases turn i n σ3 H3 w3 with ⟨stop, qn⟩ | ⟨go, N, hN, step⟩
  · refine wpAny_passesOwn hp (thn (T.done X rfl rfl rfl hc i pins s3 σ3 H3 X.xe I3 (stat fr3) st3 stop) fun r s4 ⟨hr, I4⟩ => ?_)
    subst hr
    exact wpAny_execs_nil ⟨σ3, H3, I4, qn⟩
  · refine wpAny_passesOwn hp (thn (T.item X rfl rfl rfl hc i pins s3 σ3 H3 X.xe I3 (stat fr3) st3 go) fun r s4 ⟨u, hr, h4⟩ => ?_)
    subst hr
    refine wpAny_passesOwn hp (thn h4 fun _ s5 ⟨x, H5, I5, r5, y5, st5, fr5⟩ => ?_)
    have I5' := I5.pinned (stat fr5) (T.obj _ _ st5)
    refine wpAny_passesOwn hp (thn (hg _ s5 σ3 H5 x u _ I5' r5 (step x H5 y5)) fun _ s6 ⟨σ6, H6, I6, q6⟩ => ?_)
    refine wpAny_passesOwn hp (thn (hb _ s6 σ6 H6 _ I6 q6) fun f s7 q7 => ?_)
    have again : ∀ {σ7 : St} {H7 : Hp}, Inv X (pins ++ pinsAt fp s5.heap) σ7 H7 s7 → N σ7 H7 → ∃ m, m < n ∧ ∃ i σ' H', Inv X pins σ' H' s7 ∧ tn i s7.heap ∧ (∀ b ∈ fp, H' b = none) ∧ W i m σ' H' := fun {σ7 H7} I7 n7 => by
      obtain ⟨m', hm, w7⟩ := hN σ7 H7 n7
      refine ⟨m', hm, i + 1, σ7, H7, I7.unpinned, T.keep _ _ _ st5 fun b hb o e => (I7.pin (b, o) (List.mem_append_right _ (List.mem_append_right _ (mem_pinsAt hb e)))).1, fun b hb => ?_, w7⟩
      obtain ⟨o, e, d⟩ := T.obj _ _ st5 b hb
      exact (I7.pin (b, o) (List.mem_append_right _ (List.mem_append_right _ (mem_pinsAt hb e)))).2.1
    cases f with
    | next => obtain ⟨σ7, H7, I7, n7⟩ := q7; exact again I7 n7
    | cont => obtain ⟨σ7, H7, I7, n7⟩ := q7; exact again I7 n7
    | brk => obtain ⟨σ7, H7, I7, q7⟩ := q7; exact ⟨σ7, H7, I7.unpinned, q7⟩
    | ret v => obtain ⟨x7, σ7, H7, I7, r7, q7⟩ := q7; exact ⟨x7, σ7, H7, I7.unpinned, r7, q7⟩
end

/-! ### the forms one uses -/
end L2

namespace L2
open PySem PySem.Spec PyProof.Rows

noncomputable abbrev R2 := V → V → Hp → VK → Prop
/-- a two-place operation on values: f is binaryOp op, inplaceOp op or compareOp op -/
noncomputable def OpR (X : Cx) (f : Value → Value → Sem Value) (r : R2) : Prop :=
  ∀ (pins : List (Addr × Obj)) (s : Shared) (σ : St) (H : Hp) (x y : V) (v u : Value) (Q : VK), Inv X pins σ H s → RelV x v → RelV y u → r x y H Q →
    wpAny (model X.prog X.w) X.A (f v u) (EP X pins σ Q) X.xe s
/-- a one-place operation -/
noncomputable def UnR (X : Cx) (f : Value → Sem Value) (r : V → Hp → VK → Prop) : Prop :=
  ∀ (pins : List (Addr × Obj)) (s : Shared) (σ : St) (H : Hp) (x : V) (v : Value) (Q : VK), Inv X pins σ H s → RelV x v → r x H Q →
    wpAny (model X.prog X.w) X.A (f v) (EP X pins σ Q) X.xe s
/-- a call of a value that is known (a builtin, a type) with values -/
noncomputable def CallR (X : Cx) (f : Value) (r : List V → Hp → VK → Prop) : Prop :=
  ∀ (pins : List (Addr × Obj)) (s : Shared) (σ : St) (H : Hp) (xs : List V) (us : List Value) (Q : VK), Inv X pins σ H s → Vals xs us → r xs H Q →
    wpAny (model X.prog X.w) X.A (call f us) (EP X pins σ Q) X.xe s
noncomputable def tOp (r : R2) (ta tb : TE) : TE := fun σ H Q => ta σ H fun x H1 => tb σ H1 fun y H2 => r x y H2 Q
noncomputable def tUn (r : V → Hp → VK → Prop) (ta : TE) : TE := fun σ H Q => ta σ H fun x H1 => r x H1 Q
/-- ints in, under C, and a value out -/
noncomputable def rI (C : Int → Int → Prop) (g : Int → Int → V) : R2 := fun x y H Q => ∃ i j, x = .int i ∧ y = .int j ∧ C i j ∧ Q (g i j) H
noncomputable def rI0 (g : Int → Int → V) : R2 := fun x y H Q => ∃ i j, x = .int i ∧ y = .int j ∧ Q (g i j) H
noncomputable def rU (g : Int → V) : V → Hp → VK → Prop := fun x H Q => ∃ i, x = .int i ∧ Q (g i) H

section
variable {X : Cx} {a b c : Expr} {ta tb tc : TE} {pos : Pos}

theorem binT (ha : PE X a ta) (hb : PE X b tb) {pins : List (Addr × Obj)} {s : Shared} {σ : St} {H : Hp} {R : V → V → Hp → Prop} (I : Inv X pins σ H s)
    (h : ta σ H fun x H1 => tb σ H1 fun y H2 => R x y H2) {Q : Value → Shared → Prop} {f : Value → Value → Sem Value}
    (hf : ∀ v u s2 x y H2, Inv X pins σ H2 s2 → RelV x v → RelV y u → R x y H2 → wpAny (model X.prog X.w) X.A (f v u) Q X.xe s2) :
    wpAny (model X.prog X.w) X.A (eval a X.env) (fun v s₁ => wpAny (model X.prog X.w) X.A (eval b X.env) (fun u s₂ => wpAny (model X.prog X.w) X.A (f v u) Q X.xe s₂) X.xe s₁) X.xe s := by
  refine thn (ha pins s σ H _ I h) fun v s1 ⟨x, H1, I1, r1, q1⟩ => ?_
  refine thn (hb pins s1 σ H1 _ I1 q1) fun u s2 ⟨y, H2, I2, r2, q2⟩ => ?_
  exact hf v u s2 x y H2 I2 r1 r2 q2

theorem pe_op {op : Operator} {r : R2} (ho : OpR X (binaryOp op) r) (ha : PE X a ta) (hb : PE X b tb) : PE X (.BinOp a op b pos) (tOp r ta tb) := by
  intro pins s σ H Q I h
  exact wpAny_BinOp (binT ha hb I h fun v u s2 x y H2 I2 rx ry q => ho pins s2 σ H2 x y v u Q I2 rx ry q)
theorem pe_un {op : UnaryOp} {r : V → Hp → VK → Prop} (ho : UnR X (unaryOp op) r) (ha : PE X a ta) : PE X (.UnaryOp op a pos) (tUn r ta) := by
  intro pins s σ H Q I h
  exact UnaryOp_ (thn (ha pins s σ H _ I h) fun v s1 ⟨x, H1, I1, r1, q1⟩ => ho pins s1 σ H1 x v Q I1 r1 q1)
/-! ### ints -/
theorem opI {f : Value → Value → Sem Value} {C : Int → Int → Prop} {g : Int → Int → Int}
    (rule : ∀ (i j : Int) (t u : Tok) (s : Shared) (Q : Value → Shared → Prop) (E : Value → Shared → Prop), C i j → Q (.int (g i j) s.toks) { s with toks := s.toks + 1 } → wpAny (model X.prog X.w) X.A (f (.int i t) (.int j u)) Q E s) :
    OpR X f (rI C fun i j => .int (g i j)) := by
  intro pins s σ H x y v u Q I rx ry h
  obtain ⟨i, j, rfl, rfl, hc, q⟩ := h
  obtain ⟨t, rfl⟩ := rx
  obtain ⟨t', rfl⟩ := ry
  exact rule i j t t' s _ _ hc ⟨.int (g i j), H, I.tok _, ⟨_, rfl⟩, q⟩
theorem opI0 {f : Value → Value → Sem Value} {g : Int → Int → Int}
    (rule : ∀ (i j : Int) (t u : Tok) (s : Shared) (Q : Value → Shared → Prop) (E : Value → Shared → Prop), Q (.int (g i j) s.toks) { s with toks := s.toks + 1 } → wpAny (model X.prog X.w) X.A (f (.int i t) (.int j u)) Q E s) :
    OpR X f (rI0 fun i j => .int (g i j)) := by
  intro pins s σ H x y v u Q I rx ry h
  obtain ⟨i, j, rfl, rfl, q⟩ := h
  obtain ⟨t, rfl⟩ := rx
  obtain ⟨t', rfl⟩ := ry
  exact rule i j t t' s _ _ ⟨.int (g i j), H, I.tok _, ⟨_, rfl⟩, q⟩
theorem opB0 {f : Value → Value → Sem Value} {g : Int → Int → Bool}
    (rule : ∀ (i j : Int) (t u : Tok) (s : Shared) (Q : Value → Shared → Prop) (E : Value → Shared → Prop), Q (.bool (g i j)) s → wpAny (model X.prog X.w) X.A (f (.int i t) (.int j u)) Q E s) :
    OpR X f (rI0 fun i j => .bl (g i j)) := by
  intro pins s σ H x y v u Q I rx ry h
  obtain ⟨i, j, rfl, rfl, q⟩ := h
  obtain ⟨t, rfl⟩ := rx
  obtain ⟨t', rfl⟩ := ry
  exact rule i j t t' s _ _ ⟨.bl (g i j), H, I, rfl, q⟩

noncomputable def CDiv (i j : Int) : Prop := 0 < j ∧ j < 1073741824
noncomputable def CMul (i j : Int) : Prop := (-(2 ^ 64) < i ∧ i < 2 ^ 64) ∨ (-(2 ^ 64) < j ∧ j < 2 ^ 64)
theorem CMul.ok {i j : Int} (h : CMul i j) : IntMulOk i j := by
  rcases h with ⟨h1, h2⟩ | ⟨h1, h2⟩
  · exact .of_left (intBits_le_64 h1 h2)
  · exact .of_right (intBits_le_64 h1 h2)
theorem two_pow_nn (k : Nat) : (0 : Int) ≤ 2 ^ k := by
  rw [two_pow_cast]
  exact Int.natCast_nonneg _

theorem op_add : OpR X (binaryOp .Add) (rI0 fun i j => .int (i + j)) := opI0 fun _ _ _ _ _ _ _ q => add_int q
theorem op_sub : OpR X (binaryOp .Sub) (rI0 fun i j => .int (i - j)) := opI0 fun _ _ _ _ _ _ _ q => sub_int q
/-- // by a positive divisor -/
theorem op_fdiv : OpR X (binaryOp .FloorDiv) (rI CDiv fun i j => .int (i / j)) := opI fun i j _ _ _ _ _ hc q => by
  have h1 : (0 : Int) < j := hc.1
  have h2 : j < 1073741824 := hc.2
  exact floordiv_int (by omega) (by rw [Int.fdiv_eq_ediv_of_nonneg i (by omega)]; exact q) (.inl (PyProof.noPylong_small (by omega)))
/-- % by a positive divisor of any size -/
theorem op_mod : OpR X (binaryOp .Mod) (rI (fun _ j => 0 < j) fun i j => .int (i % j)) := opI fun i j _ _ _ _ _ hc q => by
  have h1 : (0 : Int) < j := hc
  exact mod_int' (by omega) (by rw [Int.fmod_eq_emod_of_nonneg i (by omega)]; exact q)
theorem op_shr : OpR X (binaryOp .RShift) (rI (fun _ j => 0 ≤ j) fun i j => .int (i / 2 ^ j.toNat)) := opI fun i j _ _ _ _ _ hc q =>
  rshift_int hc (by rw [Int.fdiv_eq_ediv_of_nonneg i (two_pow_nn _)]; exact q)
theorem op_and : OpR X (binaryOp .BitAnd) (rI0 fun i j => .int (Builtin.bitAnd i j)) := opI0 fun _ _ _ _ _ _ _ q => and_int q
theorem op_or : OpR X (binaryOp .BitOr) (rI0 fun i j => .int (Builtin.bitOr i j)) := opI0 fun _ _ _ _ _ _ _ q => or_int q
theorem op_xor : OpR X (binaryOp .BitXor) (rI0 fun i j => .int (Builtin.bitXor i j)) := opI0 fun _ _ _ _ _ _ _ q => xor_int q

theorem unI {f : Value → Sem Value} {g : Int → Int}
    (rule : ∀ (i : Int) (t : Tok) (s : Shared) (Q : Value → Shared → Prop) (E : Value → Shared → Prop), Q (.int (g i) s.toks) { s with toks := s.toks + 1 } → wpAny (model X.prog X.w) X.A (f (.int i t)) Q E s) :
    UnR X f (rU fun i => .int (g i)) := by
  intro pins s σ H x v Q I rx h
  obtain ⟨i, rfl, q⟩ := h
  obtain ⟨t, rfl⟩ := rx
  exact rule i t s _ _ ⟨.int (g i), H, I.tok _, ⟨_, rfl⟩, q⟩
theorem un_neg : UnR X (unaryOp .USub) (rU fun i => .int (-i)) := unI fun _ _ _ _ _ q => neg_int q
/-! ### bools among ints: n += (a < b) -/
end

/-! ### comparisons -/
section
variable {X : Cx} {a b c : Expr} {ta tb tc : TE} {pos : Pos}
theorem fin_bl {pins : List (Addr × Obj)} {σ : St} {H : Hp} {s : Shared} {Q : VK} {k k' : Bool} (I : Inv X pins σ H s) (q : Q (.bl k) H) (e : k = k') : EP X pins σ Q (.bool k') s := by
  subst e
  exact ⟨.bl k, H, I, rfl, q⟩
theorem op_lt : OpR X (compareOp .Lt) (rI0 fun i j => .bl (decide (i < j))) := opB0 fun _ _ _ _ _ _ _ q => lt_int q
theorem op_gt : OpR X (compareOp .Gt) (rI0 fun i j => .bl (decide (j < i))) := opB0 fun _ _ _ _ _ _ _ q => gt_int q
theorem op_notN : OpR X (compareOp .IsNot) (fun x y H Q => y = .non ∧ Q (.bl (!decide (x = .non))) H) := by
  intro pins s σ H x y v u Q I rx ry h
  obtain ⟨rfl, q⟩ := h
  cases ry
  refine isnot_none_gen (fin_bl I q ?_)
  cases x <;> first
    | (cases rx; rfl)
    | (obtain ⟨t, rfl⟩ := rx; rfl)

/-- two rules for one operation: by cases -/
theorem OpR.or {f : Value → Value → Sem Value} {r r' : R2} (h : OpR X f r) (h' : OpR X f r') : OpR X f (fun x y H Q => r x y H Q ∨ r' x y H Q) := by
  intro pins s σ H x y v u Q I rx ry q
  rcases q with q | q
  · exact h pins s σ H x y v u Q I rx ry q
  · exact h' pins s σ H x y v u Q I rx ry q

theorem nomark (b : Expr) {op : CmpOp} (h : op ≠ .In := by decide) (h2 : op ≠ .NotIn := by decide) : behindInMarks op b = false := by
  have e1 : (op == CmpOp.In) = false := by cases op <;> first | rfl | exact absurd rfl h
  have e2 : (op == CmpOp.NotIn) = false := by cases op <;> first | rfl | exact absurd rfl h2
  cases b <;> simp [behindInMarks, e1, e2]
/-- a comparison as a value; hm: nomark b, or (for in, not in) by with_unfolding_all rfl -/
theorem pe_cmpR {op : CmpOp} {r : R2} (ho : OpR X (compareOp op) r) (ha : PE X a ta) (hb : PE X b tb) (hm : behindInMarks op b = false) : PE X (.Compare a [op] [b] pos) (tOp r ta tb) := by
  intro pins s σ H Q I h
  exact wpAny_Compare1 (binT ha hb I h fun v u s2 x y H2 I2 rx ry q => ho pins s2 σ H2 x y v u Q I2 rx ry q) hm
/-- a reading of a value as a test -/
noncomputable def tTest (t : TE) : TT := fun σ H Q => t σ H fun x H' => ∃ k, x = .bl k ∧ Q k H'
theorem pt_cmpR {op : CmpOp} {r : R2} (ho : OpR X (compareOp op) r) (ha : PE X a ta) (hb : PE X b tb) (hm : behindInMarks op b = false) : PT X (.Compare a [op] [b] pos) (tTest (tOp r ta tb)) := by
  intro pins s σ H Q I h
  refine wpAny_isTrue_Compare1 (thn (ha pins s σ H _ I h) fun v s1 ⟨x, H1, I1, r1, q1⟩ => thn (hb pins s1 σ H1 _ I1 q1) fun u s2 ⟨y, H2, I2, r2, q2⟩ =>
    thn (ho pins s2 σ H2 x y v u _ I2 r1 r2 q2) fun c s3 ⟨z, H3, I3, r3, k, e, q3⟩ => ?_) hm
  subst e
  cases r3
  exact wpAny_truthy_bool ⟨H3, I3, q3⟩
/-! ### truth -/
theorem line63 : (sizeLine : Nat) < 2 ^ 63 := by rw [sizeLine_eq]; decide
/-! ### strs and bytes -/
theorem op_add_str : OpR X (binaryOp .Add) (fun x y H Q => ∃ i j, x = .str i ∧ y = .str j ∧ i.length + j.length ≤ sizeLine ∧ Q (.str (i ++ j)) H) := by
  intro pins s σ H x y v u Q I rx ry h
  obtain ⟨i, j, rfl, rfl, hz, q⟩ := h
  obtain ⟨t, rfl⟩ := rx
  obtain ⟨t', rfl⟩ := ry
  exact add_str (fun t' tk => ⟨.str (i ++ j), H, I.tok _, ⟨_, rfl⟩, q⟩) hz
/-! ### scalar builtins, by CallR -/
theorem vals1 {x : V} {us : List Value} (r : Vals [x] us) : ∃ u, us = [u] ∧ RelV x u := by
  cases r with
  | cons r1 r2 => cases r2; exact ⟨_, rfl, r1⟩
theorem vals2 {x y : V} {us : List Value} (r : Vals [x, y] us) : ∃ u w', us = [u, w'] ∧ RelV x u ∧ RelV y w' := by
  cases r with
  | cons r1 r2 =>
    cases r2 with
    | cons r3 r4 => cases r4; exact ⟨_, _, rfl, r1, r3⟩
theorem call_max2 (hc : X.calm = true) : CallR X (.builtin "max") (fun xs H Q => ∃ i j, xs = [.int i, .int j] ∧ Q (.int (if j > i then j else i)) H) := by
  intro pins s σ H xs us Q I r h
  obtain ⟨i, j, rfl, q⟩ := h
  obtain ⟨u, w', rfl, ⟨t, rfl⟩, ⟨t', rfl⟩⟩ := vals2 r
  refine max_two_ints (I.ok.hd hc) fun h' tk k => ⟨_, H, I.kept k, ?_, q⟩
  by_cases hj : j > i
  · rw [if_pos hj, if_pos hj]; exact ⟨_, rfl⟩
  · rw [if_neg hj, if_neg hj]; exact ⟨_, rfl⟩
theorem call_min2 (hc : X.calm = true) : CallR X (.builtin "min") (fun xs H Q => ∃ i j, xs = [.int i, .int j] ∧ Q (.int (if j < i then j else i)) H) := by
  intro pins s σ H xs us Q I r h
  obtain ⟨i, j, rfl, q⟩ := h
  obtain ⟨u, w', rfl, ⟨t, rfl⟩, ⟨t', rfl⟩⟩ := vals2 r
  refine min_two_ints (I.ok.hd hc) fun h' tk k => ⟨_, H, I.kept k, ?_, q⟩
  by_cases hj : j < i
  · rw [if_pos hj, if_pos hj]; exact ⟨_, rfl⟩
  · rw [if_neg hj, if_neg hj]; exact ⟨_, rfl⟩
/-- len of a str, a bytes, a list, a tuple -/
noncomputable def LenV (K : PySem.W.Frag) (x : V) (H : Hp) (n : Nat) : Prop :=
  match x with
  | .str y => y.length ≤ sizeLine ∧ n = y.length
  | .byt y => y.size ≤ sizeLine ∧ n = y.size
  | .ref p => (∃ xs, SqL K H p xs ∧ n = xs.length) ∨ ∃ xs, SqT K H p xs ∧ n = xs.length
  | _ => False
theorem call_len : CallR X (.builtin "len") (fun xs H Q => ∃ x n, xs = [x] ∧ LenV X.K x H n ∧ Q (.int n) H) := by
  intro pins s σ H xs us Q I r h
  obtain ⟨x, n, rfl, e, q⟩ := h
  obtain ⟨u, rfl, rx⟩ := vals1 r
  have hl := line63
  have hs : sizeLine = 16777216 := sizeLine_eq
  cases x with
  | str y =>
    obtain ⟨t, rfl⟩ := rx
    obtain ⟨hy, e'⟩ : y.length ≤ sizeLine ∧ n = y.length := e
    subst e'
    exact len_str (by omega) ⟨.int _, H, I.tok _, ⟨_, rfl⟩, q⟩
  | byt y =>
    obtain ⟨t, rfl⟩ := rx
    obtain ⟨hy, e'⟩ : y.size ≤ sizeLine ∧ n = y.size := e
    subst e'
    exact PySem.W.len_bytes (by omega) ⟨.int _, H, I.tok _, ⟨_, rfl⟩, q⟩
  | ref p =>
    cases rx
    have e' : (∃ xs, SqL X.K H p xs ∧ n = xs.length) ∨ ∃ xs, SqT X.K H p xs ∧ n = xs.length := e
    rcases e' with ⟨xs, hx, e'⟩ | ⟨xs, hx, e'⟩
    · subst e'
      obtain ⟨its, r', pl, hz⟩ := I.list hx
      have hlen := r'.length
      exact Calls.call_len_list pl.isList (by simp only [List.size_toArray]; omega) ⟨.int xs.length, H, I.tok _, ⟨_, by simp only [List.size_toArray]; rw [hlen]⟩, q⟩
    · subst e'
      obtain ⟨its, r', pl, hz⟩ := I.tuple hx
      have hlen := r'.length
      exact len_tuple pl (by simp only [List.size_toArray]; omega) ⟨.int xs.length, H, I.tok _, ⟨_, by simp only [List.size_toArray]; rw [hlen]⟩, q⟩
  | _ => exact (show False from e).elim
end
end L2

namespace L2
open PySem PySem.Spec PyProof.Rows

/-! ### an instance, its attributes a map -/
structure ObjM (h : Heap) (x dx C : Addr) (mA : Str → Option Value) : Prop where
  obj : h.get? x = some (PySem.W.instObj C dx)
  ns : h.Ns1 dx mA
  ne : dx ≠ x

theorem lookIn_ns {h : Heap} {dx : Addr} {mA : Str → Option Value} (n : h.Ns1 dx mA) : ∃ od, h.get? dx = some od ∧ ∀ name, PySem.W.lookIn name od = some (mA name) := by
  obtain ⟨o, es, ep, ho, hd, hk, _, hm⟩ := n
  refine ⟨o, ho, fun name => ?_⟩
  have e := hm name
  unfold nsFind findBy at e
  rw [← Array.find?_toList] at e
  unfold PySem.W.lookIn
  rw [hd]
  dsimp only
  split
  · rename_i y q
    rw [q] at e
    exact congrArg some e
  · rename_i q
    rw [q] at e
    have a : es.toList.any (·.refKey) = false := by
      rw [List.any_eq_false]
      intro y hy
      obtain ⟨z, t, hkey⟩ := hk y (Array.mem_toList_iff.mp hy)
      simp [DictEntry.refKey, hkey]
    have a' : ¬ es.toList.any (·.refKey) = true := by rw [a]; exact Bool.false_ne_true
    rw [if_neg a']
    exact congrArg some e

theorem ObjM.look {h : Heap} {x dx C : Addr} {mA : Str → Option Value} (I : ObjM h x dx C mA) : ∃ od, PySem.W.InstAt h x (PySem.W.instObj C dx) C (some od) ∧ ∀ name, PySem.W.lookIn name od = some (mA name) :=
  let ⟨od, ho, hl⟩ := lookIn_ns I.ns
  ⟨od, ⟨I.obj, rfl, rfl, ho⟩, hl⟩

section
variable {prog : Program} {w : World} {A : Around} {E : Value → Shared → Prop} {s : Shared} {K : PySem.W.Frag} {x dx C f : Addr} {mA : Str → Option Value} {name : Str} {v : Value}

end

/-! ### the attributes as a list of pairs -/
section
variable {P : Program} {w : World} {H H' : Hp} {h h' : Heap} {a C dx : Addr} {fs fs' : List (Str × V)}
theorem ins_get (hok : HOk P w H h) (e : H a = some (.ins C dx fs)) : ∃ mA, ObjM h a dx C mA ∧ (∀ f, RelO (fs.lookup f) (mA f)) ∧ PySem.Within mA (fs.map (·.1)) ∧ fs.length ≤ 1000 ∧ H dx = some (.own a) := by
  obtain ⟨d, z, ne, ob, mA, n, r, q⟩ := (show ObjOk P w H h a (.ins C dx fs) from hok a _ e)
  exact ⟨mA, ⟨ob, n, ne⟩, r, q, z, d⟩
end

/-! ### what of the text a class must have -/
structure Cls (K : PySem.W.Frag) (C : Addr) : Prop where
  pg : PySem.W.plainGet K C Str.empty = true
  hd : PySem.W.hasDictIn K C = true
  po : PySem.W.plainOver K C = true
  sa : PySem.W.findIn K (.ref C) "__setattr__" = some (some (.builtin "object.__setattr__"))
theorem Cls.get {K : PySem.W.Frag} {C : Addr} (c : Cls K C) (f : Str) : PySem.W.plainGet K C f = true := c.pg
/-- a constant of the class -/
structure Con (K : PySem.W.Frag) (C : Addr) (f : Str) (v : V) (u : Value) : Prop where
  at_ : PySem.W.findIn K (.ref C) f = some (some u)
  rel : RelV v u
  get : PySem.W.specialIn K u "__get__" = some none
  cp : PySem.W.copiedNames.contains f = false
/-- a method: a plain def of the class or of one above it -/
structure Meth (K : PySem.W.Frag) (C : Addr) (m : Str) (f : Addr) : Prop where
  at_ : PySem.W.findIn K (.ref C) m = some (some (.ref f))
  fn : PySem.W.isFn K (.ref f) = true
  kp : PySem.W.keepIn K (.ref f) = true

section
variable {X : Cx} {pins : List (Addr × Obj)} {σ : St} {H : Hp} {s : Shared} {a C dx : Addr} {fs : List (Str × V)} {f : Str} {v : V} {A : Around} {E : Value → Shared → Prop}

/-- a new instance, tracked, without attributes -/
theorem Inv.made (I : Inv X pins σ H s) : Inv X pins σ (upd (upd H s.heap.objs.size (.own (s.heap.objs.size + 1))) (s.heap.objs.size + 1) (.ins C s.heap.objs.size []))
    { s with heap := (s.heap.push PySem.W.emptyDict).push (PySem.W.instObj C s.heap.objs.size) } := by
  have e1 : (s.heap.push PySem.W.emptyDict).get? s.heap.objs.size = some PySem.W.emptyDict := Heap.get?_push_size s.heap rfl
  have e2 : ((s.heap.push PySem.W.emptyDict).push (PySem.W.instObj C s.heap.objs.size)).get? (s.heap.objs.size + 1) = some (PySem.W.instObj C s.heap.objs.size) := by
    have := Heap.get?_push_size (s.heap.push PySem.W.emptyDict) (o := PySem.W.instObj C s.heap.objs.size) rfl
    rwa [Heap.size_push] at this
  have e3 : (s.heap.push PySem.W.emptyDict).Ns s.heap.objs.size (fun _ => none) := ⟨PySem.W.emptyDict, #[], _, e1, rfl, (fun e he => absurd he (by simp)), fun _ => rfl⟩
  have I1 := I.laid (a := s.heap.objs.size) (o := .own (s.heap.objs.size + 1)) (h' := s.heap.push PySem.W.emptyDict) (t' := s.toks) (fun b u q => Heap.get?_push_of_some _ q) (Nat.le_refl _) ⟨_, e1⟩
  refine I1.laid (a := s.heap.objs.size + 1) (o := .ins C s.heap.objs.size []) (t' := s.toks) (fun b u q => Heap.get?_push_of_some _ q) (Nat.le_of_eq (Heap.size_push _ _)) ?_
  have ne : s.heap.objs.size ≠ s.heap.objs.size + 1 := Nat.ne_of_lt (Nat.lt_succ_self _)
  refine ⟨by rw [upd_ne ne, upd_same], Nat.zero_le _, ne, e2, fun _ => none, (Heap.Ns1.of_empty e3).at fun o q => Heap.get?_push_of_some _ q, fun _ => True.intro, fun y hy => absurd rfl hy⟩

end

/-! ### readings and rules -/
section
variable {X : Cx} {o e value : Expr} {f : Str} {pos pos' tpos : Pos} {ta tv : TE}
end

/-! ### isinstance -/
section
variable {X : Cx} {pins : List (Addr × Obj)} {σ : St} {H : Hp} {s : Shared} {A : Around} {E : Value → Shared → Prop} {Q : Value → Shared → Prop} {c : Value} {b : Bool}
/-- the type of a value, as the fragment's deciders take it; for an instance its class -/
inductive TyOf (K : PySem.W.Frag) (H : Hp) : V → Value → Prop where
  | non : TyOf K H .non (.type "NoneType")
  | bl (x : Bool) : TyOf K H (.bl x) (.type "bool")
  | int (i : Int) : TyOf K H (.int i) (.type "int")
  | str (x : Str) : TyOf K H (.str x) (.type "str")
  | flt (x : UInt64) : TyOf K H (.flt x) (.type "float")
  | lst {a : Addr} {xs : List V} (e : H a = some (.lst xs)) : TyOf K H (.ref a) (.type "list")
  | frz {a : Addr} {o : Obj} {xs : List V} (e : H a = some (.frz o (.lst xs))) : TyOf K H (.ref a) (.type "list")
  | tup {a : Addr} {xs : List V} (e : H a = some (.tup xs)) : TyOf K H (.ref a) (.type "tuple")
  | dK {a : Addr} {kvs : List (Key × V)} (e : H a = some (.dK kvs)) : TyOf K H (.ref a) (.type "dict")
  | dT {a : Addr} {kvs : List (List Key × V)} (e : H a = some (.dT kvs)) : TyOf K H (.ref a) (.type "dict")
  | ins {a C dx : Addr} {fs : List (Str × V)} (e : H a = some (.ins C dx fs)) (cl : Cls K C) (ha : PySem.W.findIn K (.ref C) "__class__" = some (some (.builtin "object.__class__")))
      (hn : PySem.W.specialIn K (.builtin "object.__class__") "__get__" = some (some (.builtin "getset_descriptor.__get__"))) (htk : PySem.W.takesIn K (.builtin "object.__class__") = some true)
      (hm : PySem.W.mroIn K C (.type "object") = some true) : TyOf K H (.ref a) (.ref C)
/-- isinstance(x, c) for one class c, a built-in or an own one: kitOne's answer -/
theorem isinst_ok {x : V} {u t : Value} (I : Inv X pins σ H s) (rx : RelV x u) (ty : TyOf X.K H x t) (e : PySem.W.kitOne X.K t c = some b) (h : ∀ tk, Q (.bool b) { s with toks := tk }) :
    wpAny (model X.prog X.w) A (call (.builtin "isinstance") [u, c]) Q E s := by
  cases ty with
  | non => cases (show u = Value.none from rx); exact PySem.W.kia_one PySem.W.kitx_none I.kIn True.intro e (fun z => nomatch z) h
  | bl y => cases (show u = Value.bool y from rx); exact PySem.W.kia_one PySem.W.kitx_bool I.kIn True.intro e (fun z => nomatch z) h
  | int i => obtain ⟨t, q⟩ := (show ∃ t, u = Value.int i t from rx); cases q; exact PySem.W.kia_one PySem.W.kitx_int I.kIn True.intro e (fun z => nomatch z) h
  | str y => obtain ⟨t, q⟩ := (show ∃ t, u = Value.str y t from rx); cases q; exact PySem.W.kia_one PySem.W.kitx_str I.kIn True.intro e (fun z => nomatch z) h
  | flt y => obtain ⟨t, q⟩ := (show ∃ t, u = Value.float y t from rx); cases q; exact PySem.W.kia_one PySem.W.kitx_float I.kIn True.intro e (fun z => nomatch z) h
  | @lst a xs ea =>
    cases (show u = Value.ref a from rx)
    obtain ⟨_, _, n, _, h1⟩ := (show ObjOk X.prog X.w H s.heap a (.lst xs) from I.hok a _ ea)
    exact PySem.W.kia_one PySem.W.kitx_list I.kIn ⟨_, h1, rfl⟩ e (fun z => nomatch z) h
  | @frz a ob xs ea =>
    cases (show u = Value.ref a from rx)
    obtain ⟨_, _, _, n, _, h1⟩ := (show ObjOk X.prog X.w H s.heap a (.frz ob (.lst xs)) from I.hok a _ ea)
    exact PySem.W.kia_one PySem.W.kitx_list I.kIn ⟨_, h1, rfl⟩ e (fun z => nomatch z) h
  | @tup a xs ea =>
    cases (show u = Value.ref a from rx)
    obtain ⟨_, _, _, p⟩ := (show ObjOk X.prog X.w H s.heap a (.tup xs) from I.hok a _ ea)
    obtain ⟨o, h1, h2, _⟩ := p
    exact PySem.W.kia_one PySem.W.kitx_tuple I.kIn ⟨o, h1, h2⟩ e (fun z => nomatch z) h
  | @dK a kvs ea =>
    cases (show u = Value.ref a from rx)
    obtain ⟨_, _, vs, _, p⟩ := (show ObjOk X.prog X.w H s.heap a (.dK kvs) from I.hok a _ ea)
    obtain ⟨o, es, ep, h1, h2, _⟩ := p
    exact PySem.W.kia_one PySem.W.kitx_dict I.kIn ⟨o, h1, h2.1⟩ e (fun z => nomatch z) h
  | @dT a kvs ea =>
    cases (show u = Value.ref a from rx)
    obtain ⟨_, _, xs, _, o, es, ep, h1, h2, _⟩ := (show ObjOk X.prog X.w H s.heap a (.dT kvs) from I.hok a _ ea)
    exact PySem.W.kia_one PySem.W.kitx_dict I.kIn ⟨o, h1, h2.1⟩ e (fun z => nomatch z) h
  | @ins a C dx fs ea cl ha hn htk hm =>
    cases (show u = Value.ref a from rx)
    obtain ⟨mA, O, _⟩ := ins_get I.hok ea
    obtain ⟨od, J, _⟩ := O.look
    exact PySem.W.kia_one (PySem.W.kitx_own (cl.get _) cl.hd ha hn htk hm) I.kIn J e (fun z => nomatch z) h
end
end L2

namespace L2
open PySem PySem.Spec PyProof.Rows

/-! ### room -/
structure Room (k : Nat) (A : Around) : Prop where
  hd : A.handled = none
  dp : A.depth + 3 * k + 5 < recursionLimit
  un : A.units + 16 * k + 200 < cLine
theorem Room.mono {j k : Nat} {A : Around} (r : Room k A) (h : j ≤ k) : Room j A := ⟨r.hd, by have := r.dp; omega, by have := r.un; omega⟩
theorem Room.deeper {k : Nat} {A : Around} (r : Room (k + 1) A) (env : Env) : Room k (A.deeper env) :=
  ⟨r.hd, by have := r.dp; show A.depth + 1 + 3 * k + 5 < _; omega, by have := r.un; show A.units + 3 + 16 * k + 200 < _; omega⟩
theorem Room.in1 {k : Nat} {A : Around} (r : Room (k + 1) A) : Room k A.in1 :=
  ⟨r.hd, by have := r.dp; show A.depth + 3 * k + 5 < _; omega, by have := r.un; show A.units + 1 + 16 * k + 200 < _; omega⟩
theorem Room.depth {k : Nat} {A : Around} (r : Room k A) : A.depth < recursionLimit := by have := r.dp; omega
theorem Room.units {k : Nat} {A : Around} (r : Room k A) : A.units + 64 < cLine := by have := r.un; omega
/-! ### argument lists and displays -/
noncomputable def tNil : TA := fun _ H Q => Q [] H
noncomputable def tCons (ta : TE) (tr : TA) : TA := fun σ H Q => ta σ H fun x H1 => tr σ H1 fun xs H2 => Q (x :: xs) H2
section
variable {X : Cx} {e : Expr} {es : List Expr} {te : TE} {t : TA} {pos : Pos}
theorem pa_nil : PA X [] tNil := fun _ _ _ _ H Q I h => Calls.spliced_nil ⟨[], H, I, .nil, h⟩
theorem pa_cons (ha : PE X e te) (hr : PA X es t) (hs : starEach (e :: es) X.env = (false, eval e X.env) :: starEach es X.env := by rfl) : PA X (e :: es) (tCons te t) := by
  intro pos pins s σ H Q I h
  rw [hs]
  show wpAny _ _ (spliced ((false, eval e X.env) :: backTo pos (starEach es X.env))) _ _ s
  refine Calls.spliced_cons (thn (ha pins s σ H _ I h) fun u s1 ⟨x, H1, I1, r1, q1⟩ => ?_)
  exact thn (hr pos pins s1 σ H1 _ I1 q1) fun us s2 ⟨xs, H2, I2, r2, q2⟩ => ⟨x :: xs, H2, I2, .cons r1 r2, q2⟩

/-- a tuple, a list of written items -/
noncomputable def tTup (t : TA) : TE := fun σ H Q => t σ H fun xs H1 => xs.length ≤ sizeLine ∧ ∀ p, H1 p = none → Q (.ref p) (upd H1 p (.tup xs))
noncomputable def tLst (t : TA) : TE := fun σ H Q => t σ H fun xs H1 => xs.length ≤ sizeLine ∧ ∀ p, H1 p = none → Q (.ref p) (upd H1 p (.lst xs))
theorem pe_tup {x1} (h : PA X es t) : PE X (.Tuple es x1 pos) (tTup t) := by
  intro pins s σ H Q I hq
  refine wpAny_Tuple_spliced (thn (h pos pins s σ H _ I hq) fun us s1 ⟨xs, H1, I1, r, z, q⟩ => ⟨by rw [← r.length]; exact z, ?_⟩)
  have hf : H1 s1.heap.objs.size = none := I1.hok.fresh (Nat.le_refl _)
  refine ⟨.ref s1.heap.objs.size, upd H1 s1.heap.objs.size (.tup xs), I1.laid (t' := s1.toks) (fun b u e => Heap.get?_push_of_some _ e) (Nat.le_refl _) ?_, rfl, q _ hf⟩
  exact ⟨z, us, r, ⟨_, Heap.get?_push_size _ rfl, rfl, _, rfl⟩⟩
theorem pe_lst (h : PA X es t) : PE X (.List es pos) (tLst t) := by
  intro pins s σ H Q I hq
  refine wpAny_List_spliced (thn (h pos pins s σ H _ I hq) fun us s1 ⟨xs, H1, I1, r, z, q⟩ => ⟨by rw [← r.length]; exact z, ?_⟩)
  have hf : H1 s1.heap.objs.size = none := I1.hok.fresh (Nat.le_refl _)
  refine ⟨.ref s1.heap.objs.size, upd H1 s1.heap.objs.size (.lst xs), I1.laid (t' := s1.toks) (fun b u e => Heap.get?_push_of_some _ e) (Nat.le_refl _) ?_, rfl, q _ hf⟩
  exact ⟨z, us, 0, r, Heap.get?_push_size _ rfl⟩
end

/-! ### what a def promises -/
/-- a def's promise: the bound arguments in the parameters' order, the heap, the wanted end, the wanted exception -/
noncomputable abbrev Sp := List V → Hp → VK → XK → Prop
/-- how an exception lies behind a call (file 08 gives it): the callers' frames, abstract heap and state ahead of the call, the wish, the exception, the state -/
noncomputable abbrev CXT := List Env → Hp → Shared → XK → Value → Shared → Prop

/-- the state at a call -/
structure Env0 (P : Program) (w : World) (K : PySem.W.Frag) (mg : Str → Option Value) (base : Heap) (A : Around) (outer : List Env) (s : Shared) (H : Hp) : Prop where
  frames : A.frames = some outer
  mod : Mod K mg base
  bs : ∀ b o, base.get? b = some o → s.heap.get? b = some o ∧ H b = none
  bsz : base.objs.size ≤ s.heap.objs.size
  funs : s.heap.FunFrames base outer
  frf : ∀ b ∈ frs outer, H b = none
  hok : HOk P w H s.heap
  bare : AllBare s.gens
/-- a call's end -/
noncomputable def CE (outer : List Env) (P : Program) (w : World) (H : Hp) (s : Shared) (Q : VK) (u : Value) (s' : Shared) : Prop :=
  ∃ v H', s'.os = s.os ∧ AllBare s'.gens ∧ Un (frs outer) [] H H' s.heap s'.heap ∧ HOk P w H' s'.heap ∧ RelV v u ∧ Q v H'
noncomputable def CR (CX : CXT) (outer : List Env) (P : Program) (w : World) (H : Hp) (s : Shared) (Q : VK) (E : XK) (r : Result) (s' : Shared) : Prop :=
  match r with
  | .ok (.ret u) => CE outer P w H s Q u s'
  | .ok _ => False
  | .error e => CX outer H s E e s'
structure FnOk (P : Program) (w : World) (K : PySem.W.Frag) (mg : Str → Option Value) (base : Heap) (CX : CXT) (k : Nat) (f : Addr) (fd : FuncData) (ps : List Str) (sp : Sp) : Prop where
  len : ∀ vs H Q E, sp vs H Q E → vs.length = ps.length
  run : ∀ (A : Around) (outer : List Env) (s : Shared) (H : Hp) (args : Args) (us : List Value) (vs : List V) (Q : VK) (E : XK), Room k A → Env0 P w K mg base A outer s H → BindsTo s fd args (ps.zip us) → Vals vs us → sp vs H Q E →
    codeAny (model P w) A (.call (.ref f) args) (CR CX outer P w H s Q E) s
theorem FnOk.mono {P : Program} {w : World} {K : PySem.W.Frag} {mg : Str → Option Value} {base : Heap} {CX : CXT} {j k : Nat} {f : Addr} {fd : FuncData} {ps : List Str} {sp : Sp} (F : FnOk P w K mg base CX j f fd ps sp) (h : j ≤ k) :
    FnOk P w K mg base CX k f fd ps sp := ⟨F.len, fun A outer s H args us vs Q E hr => F.run A outer s H args us vs Q E (hr.mono h)⟩
/-- a weaker promise -/
theorem FnOk.imp {P : Program} {w : World} {K : PySem.W.Frag} {mg : Str → Option Value} {base : Heap} {CX : CXT} {k : Nat} {f : Addr} {fd : FuncData} {ps : List Str} {sp sp' : Sp} (F : FnOk P w K mg base CX k f fd ps sp)
    (h : ∀ vs H Q E, sp' vs H Q E → sp vs H Q E) : FnOk P w K mg base CX k f fd ps sp' :=
  ⟨fun vs H Q E q => F.len vs H Q E (h _ _ _ _ q), fun A outer s H args us vs Q E hr he hb hv hs => F.run A outer s H args us vs Q E hr he hb hv (h _ _ _ _ hs)⟩

theorem Env0.in1 {P : Program} {w : World} {K : PySem.W.Frag} {mg : Str → Option Value} {base : Heap} {A : Around} {outer : List Env} {s : Shared} {H : Hp} (e : Env0 P w K mg base A outer s H) :
    Env0 P w K mg base A.in1 outer s H := ⟨e.frames, e.mod, e.bs, e.bsz, e.funs, e.frf, e.hok, e.bare⟩

section
variable {X : Cx} {pins : List (Addr × Obj)} {σ : St} {H : Hp} {s s' : Shared}
/-- from a body: what a callee wants -/
theorem Inv.env0 (I : Inv X pins σ H s) : Env0 X.prog X.w X.K X.mg X.base X.A X.stack s H :=
  ⟨I.ok.frames, I.ok.mod, I.bs, Nat.le_trans I.ok.bsz I.sz, I.stack, I.stkFree, I.hok, I.bare⟩
/-- behind a call -/
theorem Inv.after {Q : VK} {u : Value} (I : Inv X pins σ H s) (h : CE X.stack X.prog X.w H s Q u s') : EP X pins σ Q u s' := by
  obtain ⟨v, H', os, bare, un, hok, r, q⟩ := h
  obtain ⟨hh, g, d, t, os'⟩ := s'
  obtain rfl : os' = s.os := os
  exact ⟨v, H', I.call (h' := hh) (g' := g) (d' := d) (t' := t) (ch := []) un hok bare (fun b z => absurd z (by simp)), r, q⟩
end

/-! ### calls -/
/-- f(..): the written arguments, then the defaults dvs; E: what is wanted of an exception -/
noncomputable def tCall (sp : Sp) (dvs : List V) (E : XK) (t : TA) : TE := fun σ H Q => t σ H fun vs H1 => sp (vs ++ dvs) H1 Q E
/-- how the parameters are bound: us the positional arguments, kw the keywords' values by name, ds the defaults that fill up -/
noncomputable def Binds (K : PySem.W.Frag) (fd : FuncData) (ps : List Str) (ds : List Value) : Prop :=
  ∀ (s : Shared) (us : List Value), K.In s.heap → (us ++ ds).length = ps.length → BindsTo s fd ⟨us, []⟩ (ps.zip (us ++ ds))
/-- every parameter is given -/
theorem Binds.all {K : PySem.W.Frag} {fd : FuncData} {ps : List Str} (h : ∀ us : List Value, us.length = ps.length → bindArgs fd ⟨us, []⟩ = pure (ps.zip us)) : Binds K fd ps [] := fun s us _ hl => by
  rw [List.append_nil] at hl ⊢
  exact .of_eq (h us hl)

/-- an exception of a callee reaches what this body wants of exceptions -/
noncomputable def Passes (CX : CXT) (X : Cx) (E : XK) : Prop := ∀ (pins : List (Addr × Obj)) (σ : St) (H : Hp) (s : Shared) (e : Value) (s' : Shared), Inv X pins σ H s → CX X.stack H s E e s' → X.xe e s'

section
variable {X : Cx} {CX : CXT} {k : Nat} {f C : Addr} {fd : FuncData} {ps : List Str} {sp : Sp} {dvs : List V} {ds : List Value} {E : XK} {x m : Str} {p pos apos : Pos} {e o : Expr} {es : List Expr} {ta : TE} {t : TA}

/-- the callee runs -/
theorem run_fn {pins : List (Addr × Obj)} {σ : St} {H : Hp} {s : Shared} {Q : VK} {us : List Value} {vs : List V} (F : FnOk X.prog X.w X.K X.mg X.base CX k f fd ps sp) (hr : Room k X.A) (hb : Binds X.K fd ps ds) (hd : Vals dvs ds) (hx : Passes CX X E)
    (I : Inv X pins σ H s) (r : Vals vs us) (h : sp (vs ++ dvs) H Q E) : wpAny (model X.prog X.w) X.A (call (.ref f) us) (EP X pins σ Q) X.xe s := by
  have r2 : Vals (vs ++ dvs) (us ++ ds) := r.append hd
  have hl : (us ++ ds).length = ps.length := by rw [← r2.length]; exact F.len _ _ _ _ h
  refine wpAny_call (codeAny_mono (F.run X.A X.stack s H ⟨us, []⟩ (us ++ ds) (vs ++ dvs) Q E hr I.env0 (hb s us I.kIn hl) r2 h) fun r s' hq => ?_)
  cases r with
  | error e => exact hx pins σ H s e s' I hq
  | ok fl =>
    cases fl with
    | ret u => exact I.after hq
    | next => exact False.elim hq
    | brk => exact False.elim hq
    | cont => exact False.elim hq

theorem pe_call (F : FnOk X.prog X.w X.K X.mg X.base CX k f fd ps sp) (hr : Room k X.A) (hg : Gl X x) (hm : X.mg x = some (.ref f)) (hk : PySem.W.keepIn X.K (.ref f) = true) (hb : Binds X.K fd ps ds) (hd : Vals dvs ds) (hx : Passes CX X E)
    (ha : PA X (e :: es) t) (hdb : (x == ("__debug__" : Str)) = false := by decide) (he : starEach (e :: es) X.env = (false, eval e X.env) :: starEach es X.env := by rfl) (hpl : (backTo pos (starEach es X.env)).any (·.1) = false := by rfl) :
    PE X (.Call (.Name x p) (e :: es) [] pos) (tCall sp dvs E t) := by
  intro pins s σ H Q I h
  refine wpAny_Call_Name_kw (ld_glob I hg hm ?_ hdb)
  refine PySem.W.callWith_K (h₀ := X.base) I.ok.mod.kin hk (thn (ha pos pins s σ H _ I h) fun us s1 ⟨vs, H1, I1, r, q⟩ => ⟨I1.kIn, ?_⟩) he hpl
  exact run_fn F hr hb hd hx I1 r q
/-- what a class must have to be made -/
structure Mk (K : PySem.W.Frag) (C f : Addr) : Prop where
  makes : PySem.W.makesIn K C = true
  init : PySem.W.findIn K (.ref C) "__init__" = some (some (.ref f))
  fn : PySem.W.isFn K (.ref f) = true
  kp : PySem.W.keepIn K (.ref C) = true

end

/-! ### keywords -/
section
variable {X : Cx} {CX : CXT} {k : Nat} {f C : Addr} {fd : FuncData} {ps ks : List Str} {sp : Sp} {E : XK} {x m : Str} {p pos apos kpos : Pos} {e o : Expr} {es : List Expr} {kws : List Keyword} {te ta : TE} {t tk : TA} {nm : Option Str}
/-- how a call with keywords binds: g puts the positional values us and the keywords' values ws (names ks) in the parameters' order, defaults among them -/
structure KBinds (K : PySem.W.Frag) (fd : FuncData) (ps ks : List Str) (g : List Value → List Value → List Value) (gV : List V → List V → List V) : Prop where
  to : ∀ (s : Shared) (us ws : List Value), K.In s.heap → (g us ws).length = ps.length → BindsTo s fd ⟨us, ks.zip ws⟩ (ps.zip (g us ws))
  rel : ∀ {vs : List V} {us : List Value} {zs : List V} {ws : List Value}, Vals vs us → Vals zs ws → Vals (gV vs zs) (g us ws)
variable {g : List Value → List Value → List Value} {gV : List V → List V → List V}
end

/-! ### a def's body keeps its promise -/
/-- names: the parameters first -/
structure FnScope (N P : List Str) (sc : Scope) : Prop where
  kind : sc.kind = .function
  co : sc.isCoroutine = false
  gen : sc.isGenerator = false
  nd : N.Nodup
  pre : N.take P.length = P
  par : ∀ x ∈ P, sc.names.lookup x = some .local ∨ sc.names.lookup x = some .cell
  nofree : ∀ y ∈ sc.names, y.2 ≠ .free

theorem bindL_out {kindOf : Str → Option NameKind} {x : Str} : ∀ {binds : List (Str × Value)} {m : Str → Option Value}, (∀ v, (x, v) ∉ binds) → bindL kindOf binds m x = m x
  | [], _, _ => rfl
  | (n, v) :: r, m, h => by
    unfold bindL
    rw [bindL_out fun w hw => h w (List.mem_cons_of_mem _ hw)]
    split
    · have : x ≠ n := by rintro rfl; exact h v List.mem_cons_self
      simp [this]
    · rfl
theorem bindC_out {kindOf : Str → Option NameKind} {x : Str} : ∀ {binds : List (Str × Value)} {m : Str → Option Value}, (∀ v, (x, v) ∉ binds) → bindC kindOf binds m x = m x
  | [], _, _ => rfl
  | (n, v) :: r, m, h => by
    unfold bindC
    rw [bindC_out fun w hw => h w (List.mem_cons_of_mem _ hw)]
    split
    · rfl
    · have : x ≠ n := by rintro rfl; exact h v List.mem_cons_self
      simp [this]
theorem bindL_get {kindOf : Str → Option NameKind} {x : Str} {v : Value} : ∀ {P : List Str} {vs : List Value} {i : Nat} {m : Str → Option Value}, P.Nodup → P[i]? = some x → vs[i]? = some v → kindOf x = some .local →
    bindL kindOf (P.zip vs) m x = some v
  | [], _, _, _, _, h, _, _ => by simp at h
  | _ :: _, [], _, _, _, _, h, _ => by simp at h
  | p :: P, w :: vs, 0, m, nd, h1, h2, hk => by
    simp at h1 h2; subst h1; subst h2
    show bindL kindOf ((p, w) :: P.zip vs) m p = _
    unfold bindL
    rw [bindL_out fun v hv => (List.nodup_cons.mp nd).1 (List.of_mem_zip hv).1, if_pos hk]
    simp
  | p :: P, w :: vs, i + 1, m, nd, h1, h2, hk => by
    show bindL kindOf ((p, w) :: P.zip vs) m x = _
    unfold bindL
    exact bindL_get (i := i) (List.nodup_cons.mp nd).2 (by simpa using h1) (by simpa using h2) hk
theorem bindC_get {kindOf : Str → Option NameKind} {x : Str} {v : Value} : ∀ {P : List Str} {vs : List Value} {i : Nat} {m : Str → Option Value}, P.Nodup → P[i]? = some x → vs[i]? = some v → kindOf x ≠ some .local →
    bindC kindOf (P.zip vs) m x = some v
  | [], _, _, _, _, h, _, _ => by simp at h
  | _ :: _, [], _, _, _, _, h, _ => by simp at h
  | p :: P, w :: vs, 0, m, nd, h1, h2, hk => by
    simp at h1 h2; subst h1; subst h2
    show bindC kindOf ((p, w) :: P.zip vs) m p = _
    unfold bindC
    rw [bindC_out fun v hv => (List.nodup_cons.mp nd).1 (List.of_mem_zip hv).1, if_neg hk]
    simp
  | p :: P, w :: vs, i + 1, m, nd, h1, h2, hk => by
    show bindC kindOf ((p, w) :: P.zip vs) m x = _
    unfold bindC
    exact bindC_get (i := i) (List.nodup_cons.mp nd).2 (by simpa using h1) (by simpa using h2) hk

/-- the names' values at the entry -/
noncomputable def start (N : List Str) (vs : List V) : St := vs.map some ++ List.replicate (N.length - vs.length) none

/-- the context of a def's body, at its entry; an exception leaves the frame, then lies as CX says -/
noncomputable def cxOf (CX : CXT) (P : Program) (w : World) (K : PySem.W.Frag) (mg : Str → Option Value) (base : Heap) (N : List Str) (qual : Str) (scope : Scope) (f : Addr) (cd : Value) (A : Around) (outer : List Env) (s : Shared) (H : Hp) (E : XK) : Cx where
  prog := P
  w := w
  K := K
  mg := mg
  base := base
  A := A.deeper (envOfC qual scope s.heap.objs.size f cd)
  N := N
  s₀ := s
  H₀ := H
  env := envOfC qual scope s.heap.objs.size f cd
  outer := outer
  stack := envOfC qual scope s.heap.objs.size f cd :: outer
  ex := []
  calm := true
  fn := fun _ => true
  pn := []
  xe := fun e s' => wpAny (model P w) (A.deeper (envOfC qual scope s.heap.objs.size f cd)) (leaving (envOfC qual scope s.heap.objs.size f cd) e) (fun _ s'' => CX outer H s E e s'') (fun e' s'' => CX outer H s E e' s'') s'

theorem cell_has {sc : Scope} {n : Nat} {x : Str} (h : sc.names.lookup x = some .cell) : ∃ c, (cellsFrom n sc.names []).lookup x = some c := by
  have q := PySem.W.cellsFrom_some sc.names n [] (.inl h)
  exact Option.isSome_iff_exists.mp q

theorem inv_start {CX : CXT} {P : Program} {w : World} {K : PySem.W.Frag} {mg : Str → Option Value} {base : Heap} {N ps : List Str} {qual : Str} {scope : Scope} {f : Addr} {cd : Value} {A : Around} {outer : List Env} {s s1 : Shared} {H : Hp} {E : XK} {us : List Value} {vs : List V}
    (S : FnScope N ps scope) (hd : A.handled = none) (e0 : Env0 P w K mg base A outer s H) (hl : vs.length = ps.length) (r : Vals vs us)
    (x : InCallC s s.heap.objs.size (bindL (envOfC qual scope s.heap.objs.size f cd).kindOf (ps.zip us) fun _ => none) (cellsFrom (s.heap.objs.size + 1) scope.names []) (bindC (envOfC qual scope s.heap.objs.size f cd).kindOf (ps.zip us) fun _ => none) s1) :
    Inv (cxOf CX P w K mg base N qual scope f cd A outer s H E) [] (start N vs) H s1 := by
  have hpl : ps.length ≤ N.length := by have := congrArg List.length S.pre; rw [List.length_take] at this; omega
  obtain ⟨h1, tk, rfl, hk⟩ := x.done
  have noA : ∀ b : Addr, b ∉ (cxOf CX P w K mg base N qual scope f cd A outer s H E).ex := fun b z => absurd (show b ∈ ([] : List Addr) from z) (by simp)
  refine ⟨⟨e0.mod, S.kind, rfl, rfl, Nat.le_refl _, fun y z c h1 h2 => ?_, fun y hy => ?_, fun y c _ h => ?_, fun _ => hd, Around.frames_deeper e0.frames, .inr ⟨rfl, rfl⟩, fun b z => absurd z (noA b), e0.bs, e0.bsz, fun b _ _ => noA b, fun b z => absurd z (noA b), e0.funs, e0.frf⟩,
    rfl, e0.bare, Un.kept hk, ⟨_, x.toInCall.ns, fun i y v h1 h2 h3 => ?_⟩, fun y c h => ⟨_, x.cell y c h⟩, e0.hok.fresh (Nat.le_refl _), fun y c h => ?_, fun p hp => absurd (show p ∈ ([] : List (Addr × Obj)) from hp) (by simp), e0.hok.kept hk, ?_⟩
  · exact name_of_addr x.apart (PySem.mem_of_lookup h1) (PySem.mem_of_lookup h2)
  · have hy : scope.names.lookup y = some .cell ∨ scope.names.lookup y = some .free := hy
    rcases hy with hy | hy
    · exact cell_has hy
    · exact absurd rfl (S.nofree _ (PySem.mem_of_lookup hy))
  · exact Nat.le_of_lt (x.above y c (PySem.mem_of_lookup h))
  · have hi : i < vs.length := by
      unfold start at h2
      by_cases hi : i < vs.length
      · exact hi
      · rw [List.getElem?_append_right (by simpa using hi)] at h2
        rw [List.getElem?_replicate] at h2
        split at h2 <;> cases h2
    have ha : vs[i]? = some v := by
      unfold start at h2
      rw [List.getElem?_append_left (by simpa using hi), List.getElem?_map] at h2
      cases e : vs[i]? with
      | none => rw [e] at h2; cases h2
      | some a => rw [e] at h2; cases h2; rfl
    obtain ⟨u, hu, rv⟩ := r.get ha
    have hp : ps[i]? = some y := by
      rw [← S.pre, List.getElem?_take_of_lt (by omega)]; exact h1
    have ndP : ps.Nodup := by rw [← S.pre]; exact S.nd.sublist (List.take_sublist _ _)
    refine ⟨u, rv, ?_⟩
    rcases S.par y (List.mem_of_getElem? hp) with k | k
    · exact .inl ⟨k, bindL_get ndP hp hu k⟩
    · obtain ⟨c, e⟩ := cell_has (n := s.heap.objs.size + 1) k
      refine .inr ⟨.inl k, c, e, ?_⟩
      have q := x.cell y c e
      rw [bindC_get ndP hp hu (by show scope.names.lookup y ≠ _; rw [k]; decide)] at q
      exact q
  · exact e0.hok.fresh (Nat.le_of_lt (x.above y c (PySem.mem_of_lookup h)))
  · unfold start
    show _ = N.length
    rw [List.length_append, List.length_map, List.length_replicate]
    omega

/-- THE RULE: a def (or a method) of the text, by its body. The body's reading t is chosen for each entry; it is run at the parameters' values -/
theorem fn_of {CX : CXT} {P : Program} {w : World} {K : PySem.W.Frag} {mg : Str → Option Value} {base : Heap} {k : Nat} {f : Addr} {name qual : Str} {params : Arguments} {body : List Stmt} {scope : Scope} {dV kV doc pm cdv ct oc : Value} {an od : Option Addr}
    {osl : Array (Option Value)} {N ps : List Str} {sp : Sp} (lk : K.lookup f = some ⟨oc, od, .func (PySem.W.fnOf name qual params body scope dV kV doc pm an cdv ct), osl⟩) (hcd : PySem.W.codeIn K cdv qual = true) (S : FnScope N ps scope)
    (len : ∀ vs H Q E, sp vs H Q E → vs.length = ps.length)
    (hbody : ∀ (A : Around) (outer : List Env) (s : Shared) (H : Hp) (vs : List V) (Q : VK) (E : XK), Room k (A.deeper (envOfC qual scope s.heap.objs.size f cdv)) → sp vs H Q E →
      ∃ t, PSs (cxOf CX P w K mg base N qual scope f cdv A outer s H E) body t ∧ t { nx := fun _ H' => Q .non H', rt := Q } (start N vs) H) :
    FnOk P w K mg base CX (k + 1) f (PySem.W.fnOf name qual params body scope dV kV doc pm an cdv ct) ps sp := by
  refine ⟨len, fun A outer s H args us vs Q E hr e0 hb r hsp => ?_⟩
  have hl := len _ _ _ _ hsp
  have KX : K.In s.heap := e0.mod.kin.keeps fun b o e => (e0.bs b o e).1
  have lim : s.heap.NoLimit := e0.mod.nolimit.keeps fun b o e => (e0.bs b o e).1
  have hkind : ∀ y ∈ ps.zip us, scope.names.lookup y.1 = some .local ∨ (scope.names.lookup y.1 = some .cell ∧ ((cellsFrom (s.heap.objs.size + 1) scope.names []).lookup y.1).isSome = true) := fun ⟨n, v⟩ hy => by
    rcases S.par n (List.of_mem_zip hy).1 with q | q
    · exact .inl q
    · exact .inr ⟨q, PySem.W.cellsFrom_some _ _ _ (.inl q)⟩
  refine codeAny_call_function hr.depth (KX _ _ lk) rfl S.co S.gen rfl (PySem.W.codeRec_of KX hcd) (hb _ _ _ _ ?_)
  refine wpAny_newFunctionEnv_cells S.kind hkind fun env he s1 x => ?_
  subst he
  refine ⟨lim.keeps x.toInCall.keep, codeAny_func ?_⟩
  obtain ⟨t, ht, hq⟩ := hbody A outer s H vs Q E (hr.deeper _) hsp
  have I : Inv (cxOf CX P w K mg base N qual scope f cdv A outer s H E) [] (start N vs) H s1 := inv_start S hr.hd e0 hl r x
  refine wpAny_mono (ht [] s1 (start N vs) H _ I hq) (fun fl s' hs => ?_) fun e s' hs => hs
  have fin : ∀ {σ' : St} {H' : Hp} {v : V} {u : Value}, Inv (cxOf CX P w K mg base N qual scope f cdv A outer s H E) [] σ' H' s' → RelV v u → Q v H' → CE outer P w H s Q u s' :=
    fun {σ' H' v u} J rv q => ⟨v, H', J.os, J.bare, J.base, J.hok, rv, q⟩
  cases fl with
  | ret u =>
    obtain ⟨v, σ', H', J, rv, q⟩ := hs
    exact fin J rv q
  | next =>
    obtain ⟨σ', H', J, q⟩ := hs
    exact fin (v := V.non) (u := Value.none) J rfl q
  | brk =>
    obtain ⟨_, _, _, q⟩ := hs
    exact False.elim q
  | cont =>
    obtain ⟨_, _, _, q⟩ := hs
    exact False.elim q
end L2

namespace L2
open PySem PySem.Spec PyProof.Rows
section
variable {X : Cx} {x : Str} {p pos : Pos} {e : Expr} {es : List Expr} {t : TA} {id T : String} {r : List V → Hp → VK → Prop}

noncomputable def tCB (r : List V → Hp → VK → Prop) (t : TA) : TE := fun σ H Q => t σ H fun vs H1 => r vs H1 Q
/-- f(e, ..), f a built-in function -/
theorem pe_callB (hc : CallR X (.builtin id) r) (hg : Gl X x) (hm : X.mg x = none) (hv : bootBuiltins x = some (.builtin id)) (ha : PA X (e :: es) t) (hn : x ≠ "__name__" := by decide) (hdb : (x == ("__debug__" : Str)) = false := by decide)
    (he : starEach (e :: es) X.env = (false, eval e X.env) :: starEach es X.env := by rfl) (hpl : (backTo pos (starEach es X.env)).any (·.1) = false := by rfl) : PE X (.Call (.Name x p) (e :: es) [] pos) (tCB r t) := by
  intro pins s σ H Q I h
  refine wpAny_Call_Name_kw (ld_blt I hg hm hv ?_ hn hdb)
  exact PyProof.Rows.callWith_builtin1 (thn (ha pos pins s σ H _ I h) fun us s1 ⟨vs, H1, I1, r1, q1⟩ => hc pins s1 σ H1 vs us Q I1 r1 q1) he hpl
/-- T(e, ..), T a built-in type -/
theorem pe_callTy (hc : CallR X (.type T) r) (hg : Gl X x) (hm : X.mg x = none) (hv : bootBuiltins x = some (.type T)) (ha : PA X (e :: es) t) (hn : x ≠ "__name__" := by decide) (hdb : (x == ("__debug__" : Str)) = false := by decide)
    (he : starEach (e :: es) X.env = (false, eval e X.env) :: starEach es X.env := by rfl) (hpl : (backTo pos (starEach es X.env)).any (·.1) = false := by rfl) : PE X (.Call (.Name x p) (e :: es) [] pos) (tCB r t) := by
  intro pins s σ H Q I h
  refine wpAny_Call_Name_kw (ld_blt I hg hm hv ?_ hn hdb)
  exact PyProof.Rows.callWith_type1 (thn (ha pos pins s σ H _ I h) fun us s1 ⟨vs, H1, I1, r1, q1⟩ => hc pins s1 σ H1 vs us Q I1 r1 q1) he hpl
end
end L2

namespace HT
open PySem PyProof.Rows

section
open PySem.SeqAt
open PySem.AutoSeq1 (wpAny_loadPart')
open PySem.MeetsSeq PySem.MeetsSeq2 PySem.MeetsSeq3

end

section
variable {prog : Program} {w : World} {A : Around} {E : Value → Shared → Prop} {s : Shared}

/-- t + u, t not empty -/
theorem cat_tup {t b : Addr} {vs ws : List Value} {Q : Value → Shared → Prop} (ht : IsTup s.heap t vs.toArray) (hb : IsTup s.heap b ws.toArray) (hv : vs ≠ [])
    (h1 : ws = [] → Q (.ref t) s) (h2 : ws ≠ [] → Q (.ref s.heap.objs.size) { s with heap := s.heap.push { cls := .type "tuple", data := .seq (vs ++ ws).toArray } })
    (hsz : vs.length + ws.length ≤ sizeLine) : wpAny (model prog w) A (binaryOp .Add (.ref t) (.ref b)) Q E s := by
  obtain ⟨⟨cls, dd, data, sl⟩, ho, hc, n, hd⟩ := id ht
  obtain ⟨⟨cls2, dd2, data2, sl2⟩, ho2, hc2, n2, hd2⟩ := id hb
  simp only at hc hd hc2 hd2
  subst hc hd hc2 hd2
  have e : vs.toArray ++ ws.toArray = (vs ++ ws).toArray := by simp
  by_cases hw : ws = []
  · exact concat_meets ⟨_, ho, rfl⟩ ⟨_, ho2, rfl⟩ noFill_tuple_add seq_tuple_add PySem.F.slot_tuple_add PySem.F.entry_tuple_add (PySem.F.args_tuple_add_2 _ _)
      (tuple_addW1 t b vs.toArray ws.toArray n n2 dd dd2 sl sl2 (by simpa using hv) (by simp [hw])) ⟨ho, ho2, h1 hw⟩
  · refine concat_meets ⟨_, ho, rfl⟩ ⟨_, ho2, rfl⟩ noFill_tuple_add seq_tuple_add PySem.F.slot_tuple_add PySem.F.entry_tuple_add (PySem.F.args_tuple_add_2 _ _)
      (tuple_addW2 t b vs.toArray ws.toArray n n2 dd dd2 sl sl2 (by simpa using hv) (by simpa using hw) (by rw [List.size_toArray, List.size_toArray]; exact hsz)) ⟨ho, ho2, ?_⟩
    rw [e]
    exact h2 hw

/-! ### t[a:b], not the whole -/
/-- a slice's bound as a place among n (d where it is left out) -/
noncomputable def sIx (n d : Nat) : Option Int → Nat
  | none => d
  | some v => if v < 0 then (v + (n : Int)).toNat else min v.toNat n
theorem sIx_le (n d : Nat) (hd : d ≤ n) (o : Option Int) : sIx n d o ≤ n := by
  cases o with
  | none => exact hd
  | some v =>
    show (if v < 0 then (v + (n : Int)).toNat else min v.toNat n) ≤ n
    by_cases hv : v < 0
    · rw [if_pos hv]; omega
    · rw [if_neg hv]; exact Nat.min_le_right _ _
theorem clip_eq (v : Int) (n d : Nat) : (if v < 0 then max (v + (n : Int)) 0 else min v (n : Int)) = ((sIx n d (some v) : Nat) : Int) := by
  show (if v < 0 then max (v + (n : Int)) 0 else min v (n : Int)) = (((if v < 0 then (v + (n : Int)).toNat else min v.toNat n) : Nat) : Int)
  by_cases hv : v < 0
  · simp only [if_pos hv]; omega
  · simp only [if_neg hv]; omega
theorem adjust_gen (lo hi : Option Int) (n : Nat) : Builtin.Slice.sliceAdjust lo hi 1 (n : Int) = (((sIx n 0 lo : Nat) : Int), ((sIx n n hi : Nat) : Int)) := by
  have h1 : ¬ ((1 : Int) < 0) := by omega
  unfold Builtin.Slice.sliceAdjust
  simp only [h1, if_false]
  refine Prod.ext ?_ ?_
  · cases lo with
    | none => rfl
    | some v => exact clip_eq v n 0
  · cases hi with
    | none => rfl
    | some v => exact clip_eq v n n
theorem places_gen (i j : Nat) : Builtin.Slice.slicePlaces (i : Int) (j : Int) 1 = j - i := by
  unfold Builtin.Slice.slicePlaces
  have h1 : (1 : Int) > 0 := by omega
  simp only [h1, if_true, Int.ediv_one]
  split <;> omega
theorem slicePart_ {v : Value} {o : Option Int} {Q : Option Int → Shared → Prop} (p : IsPart v o) (h : Q o s) : wpAny (model prog w) A (Builtin.Slice.slicePartIndex v) Q E s := by
  cases p with
  | none => exact slicePart_none h
  | int i t => exact slicePart_int h
theorem sliceApplied_gen {sl : Addr} {vl vu : Value} {lo hi : Option Int} {n : Nat} {Q : Int × Int × Nat → Shared → Prop} (hs : s.heap.IsSliceOf sl vl vu .none) (pl : IsPart vl lo) (pu : IsPart vu hi)
    (h : Q (((sIx n 0 lo : Nat) : Int), 1, sIx n n hi - sIx n 0 lo) s) : wpAny (model prog w) A (Builtin.Slice.sliceApplied (.ref sl) (pure (n : Int))) Q E s := by
  obtain ⟨os, hos, hcs, hds⟩ := id hs
  unfold Builtin.Slice.sliceApplied Builtin.Slice.sliceFields
  refine wpAny_bind (wpAny_bind (wpAny_field hos hds (x := vl) rfl (wpAny_bind (wpAny_field hos hds (x := vu) rfl (wpAny_bind (wpAny_field hos hds (x := .none) rfl (wpAny_pure ?_)))))))
  refine wpAny_bind (slicePart_none ?_)
  show wpAny _ _ (if ((1 : Int) == 0) = true then _ else _) _ _ s
  rw [if_neg (by decide)]
  refine wpAny_bind (slicePart_ pl (wpAny_bind (slicePart_ pu (wpAny_bind (wpAny_pure ?_)))))
  show wpAny _ _ (match Builtin.Slice.sliceAdjust lo hi 1 (n : Int) with | (lo, hi) => pure (lo, (1 : Int), Builtin.Slice.slicePlaces lo hi 1)) _ _ s
  rw [adjust_gen lo hi n]
  show wpAny _ _ (pure (((sIx n 0 lo : Nat) : Int), (1 : Int), Builtin.Slice.slicePlaces ((sIx n 0 lo : Nat) : Int) ((sIx n n hi : Nat) : Int) 1)) _ _ s
  rw [places_gen]
  exact wpAny_pure h
theorem pick_gen (xs : Array Value) (i k : Nat) : ((List.range k).filterMap fun (m : Nat) => xs[((i : Int) + (m : Int) * 1).toNat]?).toArray = ((xs.toList.drop i).take k).toArray := by
  have e : (fun (m : Nat) => xs[((i : Int) + (m : Int) * 1).toNat]?) = fun m => xs[i + m]? := by
    funext m
    have : ((i : Int) + (m : Int) * 1).toNat = i + m := by omega
    rw [this]
  rw [e]
  have := pick_run xs i k
  rw [List.filterMap_map] at this
  have e2 : ((fun x => xs[x]?) ∘ fun x => i + x) = fun m => xs[i + m]? := rfl
  rw [e2] at this
  rw [this]

theorem getItem_tuple_cut {t sl : Addr} {items : Array Value} {vl vu : Value} {lo hi : Option Int} {Q : Value → Shared → Prop} (ht : IsTup s.heap t items) (hs : s.heap.IsSliceOf sl vl vu .none) (pl : IsPart vl lo) (pu : IsPart vu hi)
    (hw : ¬ (sIx items.size 0 lo = 0 ∧ sIx items.size items.size hi = items.size))
    (h : Q (.ref s.heap.objs.size) { s with heap := s.heap.push { cls := .type "tuple", data := .seq ((items.toList.drop (sIx items.size 0 lo)).take (sIx items.size items.size hi - sIx items.size 0 lo)).toArray } })
    (hsz : items.size ≤ sizeLine) : wpAny (model prog w) A (getItem (.ref t) (.ref sl)) Q E s := by
  have htake : sizeOk (.seq ((items.toList.drop (sIx items.size 0 lo)).take (sIx items.size items.size hi - sIx items.size 0 lo)).toArray) := by
    show ((items.toList.drop (sIx items.size 0 lo)).take (sIx items.size items.size hi - sIx items.size 0 lo)).toArray.size ≤ sizeLine
    rw [List.size_toArray, List.length_take, List.length_drop, Array.length_toList]
    omega
  have hj : sIx items.size items.size hi ≤ items.size := sIx_le _ _ (Nat.le_refl _) hi
  obtain ⟨os, hos, hcs, hds⟩ := id hs
  have hTs : s.TypeIs (.ref sl) "slice" := ⟨os, hos, hcs⟩
  unfold getItem
  try with_reducible refine wpAny_holding ?_
  first | refine wpAny_bind (wpAny_pure ?_) | skip
  refine wpAny_bind (wpAny_sequenceKey ht.typeIs (by decide) ?_)
  refine wpAny_bind (wpAny_callSpecial?_slot (name := Str.ofString "__getitem__") ht.typeIs PyProof.Rows.slot_tuple_getitem
    (wpAny_call_entry PyProof.Rows.slot_tuple_getitem ht.typeIs entry_tuple_getitem ?_ (args_tuple_getitem _ _)))
  show wpAny _ _ (Builtin.Tuple.tupleItemsOf (.ref t) >>= _) _ _ s
  refine wpAny_bind (tupleItemsOf_ ht ?_)
  refine wpAny_bind (wpAny_typeOf hTs ?_)
  rw [if_pos (by decide)]
  refine wpAny_bind (sliceApplied_gen hs pl pu ?_)
  have hno : ¬ ((((sIx items.size 0 lo : Nat) : Int) == 0 && (1 : Int) == 1 && (sIx items.size items.size hi - sIx items.size 0 lo) == items.size) = true) := by
    intro q
    rw [Bool.and_eq_true, Bool.and_eq_true] at q
    have q1 : ((sIx items.size 0 lo : Nat) : Int) = 0 := eq_of_beq q.1.1
    have q2 : sIx items.size items.size hi - sIx items.size 0 lo = items.size := eq_of_beq q.2
    exact hw ⟨by omega, by omega⟩
  show wpAny _ _ (if (((sIx items.size 0 lo : Nat) : Int) == 0 && (1 : Int) == 1 && (sIx items.size items.size hi - sIx items.size 0 lo) == items.size) = true then _ else _) _ _ s
  rw [if_neg hno, pick_gen]
  first
    | exact wpAny_bind (m := Builtin.Tuple.tupleExact _) (wpAny_newObj_type (wpAny_pure ⟨_, rfl, wpAny_pure h⟩) htake)
    | exact wpAny_bind (m := Builtin.Tuple.tupleExact _) (wpAny_newObj_type (wpAny_bind (wpAny_pure (wpAny_pure ⟨_, rfl, wpAny_pure h⟩))) htake)
    | exact wpAny_bind (wpAny_bind (m := Builtin.Tuple.tupleExact _) (wpAny_newObj_type (wpAny_pure (wpAny_pure ⟨_, rfl, wpAny_pure h⟩)) htake))
    | exact wpAny_bind (wpAny_bind (m := Builtin.Tuple.tupleExact _) (wpAny_newObj_type (wpAny_pure ⟨_, rfl, wpAny_pure h⟩) htake))
end
end HT

namespace L2
open PySem PySem.Spec PyProof.Rows

/-! ### the parts of a slice -/
noncomputable abbrev TO := St → Hp → (Option Int → Hp → Prop) → Prop
/-- a slice's part (left out, or an int) -/
noncomputable def PO (X : Cx) (e : Option Expr) (t : TO) : Prop :=
  ∀ (pins : List (Addr × Obj)) (s : Shared) (σ : St) (H : Hp) (Q : Option Int → Hp → Prop), Inv X pins σ H s → t σ H Q →
    wpAny (model X.prog X.w) X.A (evalPart e X.env) (fun u s' => ∃ o H', Inv X pins σ H' s' ∧ IsPart u o ∧ Q o H') X.xe s
noncomputable def tNoPart : TO := fun _ H Q => Q none H
noncomputable def tPart (t : TE) : TO := fun σ H Q => t σ H fun x H1 => ∃ i, x = .int i ∧ Q (some i) H1

section
variable {X : Cx} {e : Expr} {te : TE} {lo hi : Option Expr} {tl th : TO} {pos p2 : Pos}

theorem po_none : PO X none tNoPart := by
  intro pins s σ H Q I h
  rw [evalPart_none]
  exact wpAny_pure ⟨none, H, I, .none, h⟩
theorem po_some (h : PE X e te) : PO X (some e) (tPart te) := by
  intro pins s σ H Q I hw
  rw [evalPart_some]
  refine thn (h pins s σ H _ I hw) fun u s1 ⟨x, H1, I1, r1, q1⟩ => ?_
  obtain ⟨i, rfl, q⟩ := q1
  obtain ⟨t, rfl⟩ := r1
  exact ⟨some i, H1, I1, .int i t, q⟩

/-- what a slice of a value is, by values: the slice object stands at sl -/
noncomputable def SlR (X : Cx) (r : V → Option Int → Option Int → Hp → VK → Prop) : Prop :=
  ∀ (pins : List (Addr × Obj)) (s : Shared) (σ : St) (H : Hp) (x : V) (v vl vu : Value) (lo hi : Option Int) (sl : Addr) (Q : VK), Inv X pins σ H s → RelV x v → s.heap.IsSliceOf sl vl vu .none → IsPart vl lo → IsPart vu hi → r x lo hi H Q →
    ∃ T id, typeLookup (.type T) "__getitem__" = pure (some (.builtin id)) ∧ s.TypeIs v T ∧ wpAny (model X.prog X.w) X.A (getItem v (.ref sl)) (EP X pins σ Q) X.xe s
theorem SlR.or {r r' : V → Option Int → Option Int → Hp → VK → Prop} (h : SlR X r) (h' : SlR X r') : SlR X (fun x lo hi H Q => r x lo hi H Q ∨ r' x lo hi H Q) := by
  intro pins s σ H x v vl vu lo hi sl Q I rx hs pl pu q
  rcases q with q | q
  · exact h pins s σ H x v vl vu lo hi sl Q I rx hs pl pu q
  · exact h' pins s σ H x v vl vu lo hi sl Q I rx hs pl pu q
noncomputable def tSl (r : V → Option Int → Option Int → Hp → VK → Prop) (te : TE) (tl th : TO) : TE := fun σ H Q => te σ H fun x H1 => tl σ H1 fun l H2 => th σ H2 fun u H3 => r x l u H3 Q
/-- a[lo:hi], any a -/
theorem pe_slice {r : V → Option Int → Option Int → Hp → VK → Prop} (hr : SlR X r) (he : PE X e te) (hl : PO X lo tl) (hu : PO X hi th) : PE X (.Subscript e (.Slice lo hi none p2) pos) (tSl r te tl th) := by
  intro pins s σ H Q I h
  refine Subscript_ (thn (he pins s σ H _ I h) fun v s1 ⟨x, H1, I1, r1, q1⟩ => ?_)
  refine wpAny_Slice (thn (hl pins s1 σ H1 _ I1 q1) fun vl s2 ⟨l, H2, I2, pl, q2⟩ => thn (hu pins s2 σ H2 _ I2 q2) fun vu s3 ⟨u, H3, I3, pu, q3⟩ => ?_)
  rw [evalPart_none]
  refine wpAny_pure ?_
  have I4 : Inv X pins σ H3 { s3 with heap := s3.heap.push { cls := .type "slice", data := .fields #[vl, vu, .none] } } := I3.kept (t' := s3.toks) fun b ob q => Heap.get?_push_of_some _ q
  obtain ⟨T, id, hT, ht, hg⟩ := hr pins { s3 with heap := s3.heap.push { cls := .type "slice", data := .fields #[vl, vu, .none] } } σ H3 x v vl vu l u s3.heap.objs.size Q I4 r1 (Heap.IsSliceOf.new ..) pl pu q3
  show wpAny (model X.prog X.w) X.A (subscriptTail e (.Slice lo hi none p2) v (.ref s3.heap.objs.size)) (EP X pins σ Q) X.xe { s3 with heap := s3.heap.push { cls := .type "slice", data := .fields #[vl, vu, .none] } }
  exact tail_any (ops := [.ref s3.heap.objs.size, v]) ht hT hg (by with_unfolding_all rfl)

/-- the items of xs[lo:hi] -/
noncomputable def cutV (xs : List V) (lo hi : Option Int) : List V := (xs.drop (HT.sIx xs.length 0 lo)).take (HT.sIx xs.length xs.length hi - HT.sIx xs.length 0 lo)
theorem cutV_length (xs : List V) (lo hi : Option Int) : (cutV xs lo hi).length ≤ xs.length := by
  unfold cutV
  rw [List.length_take, List.length_drop]
  omega
/-- t[lo:hi], not the whole of it (the whole would be t itself) -/
noncomputable def rSlT (K : PySem.W.Frag) : V → Option Int → Option Int → Hp → VK → Prop := fun x lo hi H Q => ∃ a xs, x = .ref a ∧ SqT K H a xs ∧
  ¬ (HT.sIx xs.length 0 lo = 0 ∧ HT.sIx xs.length xs.length hi = xs.length) ∧ ∀ p, H p = none → Q (.ref p) (upd H p (.tup (cutV xs lo hi)))
theorem sl_tup : SlR X (rSlT X.K) := by
  intro pins s σ H x v vl vu lo hi sl Q I rx hs pl pu h
  obtain ⟨a, xs, rfl, hx, hw, q⟩ := h
  cases rx
  obtain ⟨its, r, ht, hz⟩ := I.tuple hx
  have hlen : its.toArray.size = xs.length := by rw [List.size_toArray]; exact r.length.symm
  refine ⟨"tuple", _, PyProof.Rows.slot_tuple_getitem.lookup, ht.typeIs, ?_⟩
  refine HT.getItem_tuple_cut ht hs pl pu (by rw [hlen]; exact hw) ?_ (by rw [hlen]; exact hz)
  rw [hlen]
  refine ⟨.ref s.heap.objs.size, _, I.laid (t' := s.toks) (o := .tup (cutV xs lo hi)) (fun b ob q => Heap.get?_push_of_some _ q) (Nat.le_refl _) ?_, rfl, q _ (I.hok.fresh (Nat.le_refl _))⟩
  exact ⟨Nat.le_trans (cutV_length xs lo hi) hz, _, (r.drop (HT.sIx xs.length 0 lo)).take (HT.sIx xs.length xs.length hi - HT.sIx xs.length 0 lo), IsTup.new _ _⟩

/-! ### t < u, t + u -/
/-- t + u, t not empty: u empty gives t itself -/
noncomputable def rCatT (K : PySem.W.Frag) : R2 := fun x y H Q => ∃ a b xs ys, x = .ref a ∧ y = .ref b ∧ SqT K H a xs ∧ SqT K H b ys ∧ xs ≠ [] ∧ xs.length + ys.length ≤ sizeLine ∧
  (ys = [] → Q (.ref a) H) ∧ (ys ≠ [] → ∀ p, H p = none → Q (.ref p) (upd H p (.tup (xs ++ ys))))
theorem Vals.nil_iff {xs : List V} {us : List Value} (r : Vals xs us) : us = [] ↔ xs = [] := by
  cases r with
  | nil => simp
  | cons _ _ => simp
theorem op_catT : OpR X (binaryOp .Add) (rCatT X.K) := by
  intro pins s σ H x y v u Q I rx ry h
  obtain ⟨a, b, xs, ys, rfl, rfl, ha, hb, hx, hz, q1, q2⟩ := h
  cases rx
  cases ry
  obtain ⟨its, r1, p1, _⟩ := I.tuple ha
  obtain ⟨its2, r2, p2, _⟩ := I.tuple hb
  refine HT.cat_tup p1 p2 (fun z => hx (r1.nil_iff.mp z)) (fun z => ⟨.ref a, H, I, rfl, q1 (r2.nil_iff.mp z)⟩) (fun z => ?_) (by rw [← r1.length, ← r2.length]; exact hz)
  refine ⟨.ref s.heap.objs.size, _, I.laid (t' := s.toks) (o := .tup (xs ++ ys)) (fun b ob q => Heap.get?_push_of_some _ q) (Nat.le_refl _) ?_, rfl, q2 (fun w => z (r2.nil_iff.mpr w)) _ (I.hok.fresh (Nat.le_refl _))⟩
  exact ⟨by rw [List.length_append]; exact hz, _, r1.append r2, IsTup.new _ _⟩
end
end L2

namespace L2
open PySem PySem.Spec PyProof.Rows

/-! ### places -/
/-- the place that an index of any sign means -/
noncomputable def ixN (n : Nat) (i : Int) : Option Nat := if 0 ≤ i then (if i < n then some i.toNat else none) else if -(n : Int) ≤ i then some (i + n).toNat else none
noncomputable def atI {α : Type} (xs : List α) (i : Int) : Option α := (ixN xs.length i).bind fun j => xs[j]?
theorem ixN_seq {n : Nat} {i : Int} {j : Nat} (h : ixN n i = some j) : seqIndex? i n = some j ∧ j < n ∧ -(n : Int) ≤ i ∧ i < n := by
  unfold ixN at h
  by_cases h0 : 0 ≤ i
  · rw [if_pos h0] at h
    by_cases h1 : i < n
    · rw [if_pos h1] at h
      have e : i.toNat = j := Option.some.inj h
      exact ⟨by rw [seqIndex_of h0 h1, e], by omega, by omega, h1⟩
    · rw [if_neg h1] at h; cases h
  · rw [if_neg h0] at h
    by_cases h1 : -(n : Int) ≤ i
    · rw [if_pos h1] at h
      have e : (i + n).toNat = j := Option.some.inj h
      exact ⟨by rw [seqIndex_neg (by omega) h1, e], by omega, h1, by omega⟩
    · rw [if_neg h1] at h; cases h
theorem atI_get {α : Type} {xs : List α} {i : Int} {v : α} (h : atI xs i = some v) : ∃ j, seqIndex? i xs.length = some j ∧ xs[j]? = some v ∧ j < xs.length ∧ -(xs.length : Int) ≤ i ∧ i < xs.length := by
  unfold atI at h
  cases e : ixN xs.length i with
  | none => rw [e] at h; cases h
  | some j =>
    rw [e] at h
    obtain ⟨h1, h2, h3, h4⟩ := ixN_seq e
    exact ⟨j, h1, h, h2, h3, h4⟩
/-! ### what may be subscripted -/
/-- what stands as an index of a plain subscript -/
noncomputable def PlainIx (b : Expr) : Prop := ∀ o i, subscripted b false o i = operate [o, i] (getItem o i)
/-- a subscript by values -/
noncomputable def IxR (X : Cx) (r : R2) : Prop :=
  ∀ (value slice : Expr) (pins : List (Addr × Obj)) (s : Shared) (σ : St) (H : Hp) (x y : V) (v u : Value) (Q : VK), Inv X pins σ H s → RelV x v → RelV y u → r x y H Q →
    subscripted slice false v u = operate [v, u] (getItem v u) → wpAny (model X.prog X.w) X.A (subscriptTail value slice v u) (EP X pins σ Q) X.xe s
/-- a call of a builtin's method by values: the receiver, the arguments -/
noncomputable def MtR (X : Cx) (id : String) (r : V → List V → Hp → VK → Prop) : Prop :=
  ∀ (pins : List (Addr × Obj)) (s : Shared) (σ : St) (H : Hp) (x : V) (xs : List V) (v : Value) (us : List Value) (Q : VK), Inv X pins σ H s → RelV x v → Vals xs us → r x xs H Q →
    wpAny (model X.prog X.w) X.A (call (.builtin id) (v :: us)) (EP X pins σ Q) X.xe s
section
variable {X : Cx} {a b : Expr} {ta tb : TE} {pos : Pos}
theorem IxR.or {r r' : R2} (h : IxR X r) (h' : IxR X r') : IxR X (fun x y H Q => r x y H Q ∨ r' x y H Q) := by
  intro value slice pins s σ H x y v u Q I rx ry q hs
  rcases q with q | q
  · exact h value slice pins s σ H x y v u Q I rx ry q hs
  · exact h' value slice pins s σ H x y v u Q I rx ry q hs
theorem MtR.or {id : String} {r r' : V → List V → Hp → VK → Prop} (h : MtR X id r) (h' : MtR X id r') : MtR X id (fun x xs H Q => r x xs H Q ∨ r' x xs H Q) := by
  intro pins s σ H x xs v us Q I rx rs q
  rcases q with q | q
  · exact h pins s σ H x xs v us Q I rx rs q
  · exact h' pins s σ H x xs v us Q I rx rs q
/-- a[b] -/
theorem pe_ix {r : R2} (hr : IxR X r) (ha : PE X a ta) (hb : PE X b tb) (hs : PlainIx b) : PE X (.Subscript a b pos) (tOp r ta tb) := by
  intro pins s σ H Q I h
  exact Subscript_ (binT ha hb I h fun v u s2 x y H2 I2 rx ry q => hr a b pins s2 σ H2 x y v u Q I2 rx ry q (hs _ _))

noncomputable def rIxL (K : PySem.W.Frag) : R2 := fun x y H Q => ∃ p xs i v, x = .ref p ∧ y = .int i ∧ SqL K H p xs ∧ atI xs i = some v ∧ Q v H
noncomputable def rIxT (K : PySem.W.Frag) : R2 := fun x y H Q => ∃ p xs i v, x = .ref p ∧ y = .int i ∧ SqT K H p xs ∧ atI xs i = some v ∧ Q v H
theorem ix_list : IxR X (rIxL X.K) := by
  intro value slice pins s σ H x y v u Q I rx ry h hs
  obtain ⟨p, xs, i, z, rfl, rfl, hq, he, q⟩ := h
  cases rx
  obtain ⟨t, rfl⟩ := ry
  obtain ⟨its, r, pl, hz⟩ := I.list hq
  obtain ⟨j, h1, h2, h3, h4, h5⟩ := atI_get he
  obtain ⟨w, ew, rw'⟩ := r.get h2
  have hl := r.length
  have hn := line63
  have fin : EP X pins σ Q w s := ⟨z, H, I, rw', q⟩
  by_cases h0 : 0 ≤ i
  · have hj : i.toNat = j := by
      rw [seqIndex_of h0 h5] at h1
      exact Option.some.inj h1
    exact item_listR pl.isList h0 (by omega) (by rw [hj]; simpa using ew) fin hs
  · have hj : (i + (its.toArray.size : Int)).toNat = j := by
      rw [seqIndex_neg (by omega) h4] at h1
      rw [List.size_toArray, ← hl]
      exact Option.some.inj h1
    exact subscriptTail_builtinR (x := w) pl.isList.typeIs slot_list_getitem.lookup
      (wpAny_getItem_list_neg (Q := fun r s' => r = w ∧ EP X pins σ Q r s') pl.isList (by omega) (by rw [List.size_toArray] <;> omega) (by omega) (by rw [hj]; simpa using ew) ⟨rfl, fin⟩) hs
theorem ix_tup : IxR X (rIxT X.K) := by
  intro value slice pins s σ H x y v u Q I rx ry h hs
  obtain ⟨p, xs, i, z, rfl, rfl, hq, he, q⟩ := h
  cases rx
  obtain ⟨t, rfl⟩ := ry
  obtain ⟨its, r, pl, hz⟩ := I.tuple hq
  obtain ⟨j, h1, h2, h3, h4, h5⟩ := atI_get he
  obtain ⟨w, ew, rw'⟩ := r.get h2
  have hl := r.length
  have hn := line63
  have fin : EP X pins σ Q w s := ⟨z, H, I, rw', q⟩
  exact subscriptTail_builtinR (x := w) pl.typeIs slot_tuple_getitem.lookup
    (getItem_tuple (j := j) (Q := fun r s' => r = w ∧ EP X pins σ Q r s') pl (by omega) (by omega) (by rw [List.size_toArray, ← hl]; exact h1) (by simpa using ew) ⟨rfl, fin⟩) hs
/-! ### xs[i] = v, any sign -/
theorem Inv.lst {pins : List (Addr × Obj)} {σ : St} {H : Hp} {s : Shared} {p : Addr} {xs : List V} (I : Inv X pins σ H s) (h : H p = some (.lst xs)) :
    ∃ (its : List Value) (n : Nat), Vals xs its ∧ s.heap.get? p = some { cls := .type "list", data := .seq its.toArray n } ∧ xs.length ≤ sizeLine := by
  obtain ⟨z, its, n, r, e⟩ := I.hok p _ h
  exact ⟨its, n, r, e, z⟩
/-! ### slices -/
theorem slice_bounds (lo hi : Option Int) (n : Nat) : (sliceBounds lo hi none n).1 = ((HT.sIx n 0 lo : Nat) : Int) ∧ (sliceBounds lo hi none n).2.1 = ((HT.sIx n n hi : Nat) : Int) ∧ (sliceBounds lo hi none n).2.2 = 1 := by
  refine ⟨?_, ?_, rfl⟩
  · cases lo with
    | none => simp [sliceBounds, HT.sIx]
    | some i =>
      simp only [sliceBounds, HT.sIx, Option.getD_none, show (1 : Int) > 0 by decide, if_true]
      by_cases h : i < 0
      · simp only [h, if_true] <;> omega
      · simp only [h, if_false] <;> omega
  · cases hi with
    | none => simp [sliceBounds, HT.sIx]
    | some i =>
      simp only [sliceBounds, HT.sIx, Option.getD_none, show (1 : Int) > 0 by decide, if_true]
      by_cases h : i < 0
      · simp only [h, if_true] <;> omega
      · simp only [h, if_false] <;> omega
theorem slicePick_cut (its : List Value) (lo hi : Option Int) : slicePick its.toArray lo hi none = ((its.drop (HT.sIx its.length 0 lo)).take (HT.sIx its.length its.length hi - HT.sIx its.length 0 lo)).toArray := by
  obtain ⟨h1, h2, h3⟩ := slice_bounds lo hi its.toArray.size
  unfold slicePick
  rw [h1, h2, h3]
  simp only [sliceRange_one, pick_run, List.size_toArray] <;> rfl
/-- xs[lo:hi] of a list: a new list -/
noncomputable def rSlL (K : PySem.W.Frag) : V → Option Int → Option Int → Hp → VK → Prop := fun x lo hi H Q => ∃ a xs, x = .ref a ∧ SqL K H a xs ∧ ∀ p, H p = none → Q (.ref p) (upd H p (.lst (cutV xs lo hi)))
theorem sl_list : SlR X (rSlL X.K) := by
  intro pins s σ H x v vl vu lo hi sl Q I rx hs pl pu h
  obtain ⟨a, xs, rfl, hx, q⟩ := h
  cases rx
  obtain ⟨its, r, ht, hz⟩ := I.list hx
  have hlen := r.length
  refine ⟨"list", _, slot_list_getitem.lookup, ht.isList.typeIs, ?_⟩
  refine wpAny_getItem_list_slice ht.isList hs pl pu .none (by simp) ?_ (by rw [List.size_toArray] <;> omega)
  rw [slicePick_cut, ← hlen]
  refine ⟨.ref s.heap.objs.size, _, I.laid (t' := s.toks) (o := .lst (cutV xs lo hi)) (fun b ob q => Heap.get?_push_of_some _ q) (Nat.le_refl _) ?_, rfl, q _ (I.hok.fresh (Nat.le_refl _))⟩
  exact ⟨Nat.le_trans (cutV_length xs lo hi) hz, _, 0, (r.drop (HT.sIx xs.length 0 lo)).take (HT.sIx xs.length xs.length hi - HT.sIx xs.length 0 lo), Heap.get?_push_size _ rfl⟩

/-! ### in, not in: flat items -/
noncomputable def flatV : V → Bool
  | .non => true
  | .bl _ => true
  | .int _ => true
  | .str _ => true
  | _ => false
/-- == of flat values -/
noncomputable def eqV : V → V → Bool
  | .non, .non => true
  | .bl a, .bl b => a == b
  | .bl a, .int b => (if a then 1 else 0) == b
  | .int a, .bl b => a == (if b then 1 else 0)
  | .int a, .int b => a == b
  | .str a, .str b => a == b
  | _, _ => false
theorem eqAt_V {A : Around} {s : Shared} {y x : V} {u v : Value} (ry : RelV y u) (rx : RelV x v) (fy : flatV y = true) (fx : flatV x = true) : SeqAt.EqAt A s u v (eqV y x) := by
  cases y with
  | non =>
    cases ry
    cases x with
    | non => cases rx; exact SeqAt.EqAt.same _
    | bl b => cases rx; exact SeqAt.EqAt.none_bool b
    | int b => obtain ⟨t, rfl⟩ := rx; exact SeqAt.EqAt.none_int b t
    | str b => obtain ⟨t, rfl⟩ := rx; exact SeqAt.EqAt.none_str b t
    | _ => exact absurd (show false = true from fx) Bool.false_ne_true
  | bl a =>
    cases ry
    cases x with
    | non => cases rx; exact SeqAt.EqAt.bool_none a
    | bl b => cases rx; exact SeqAt.EqAt.bool_bool a b
    | int b => obtain ⟨t, rfl⟩ := rx; exact SeqAt.EqAt.bool_int a b t
    | str b => obtain ⟨t, rfl⟩ := rx; exact SeqAt.EqAt.bool_str a b t
    | _ => exact absurd (show false = true from fx) Bool.false_ne_true
  | int a =>
    obtain ⟨t', rfl⟩ := ry
    cases x with
    | non => cases rx; exact SeqAt.EqAt.int_none a t'
    | bl b => cases rx; exact SeqAt.EqAt.int_bool a t' b
    | int b => obtain ⟨t, rfl⟩ := rx; exact SeqAt.EqAt.int_int a t' b t
    | str b => obtain ⟨t, rfl⟩ := rx; exact SeqAt.EqAt.int_str a t' b t
    | _ => exact absurd (show false = true from fx) Bool.false_ne_true
  | str a =>
    obtain ⟨t', rfl⟩ := ry
    cases x with
    | non => cases rx; exact SeqAt.EqAt.str_none a t'
    | bl b => cases rx; exact SeqAt.EqAt.str_bool a t' b
    | int b => obtain ⟨t, rfl⟩ := rx; exact SeqAt.EqAt.str_int a t' b t
    | str b => obtain ⟨t, rfl⟩ := rx; exact SeqAt.EqAt.str_str a t' b t
    | _ => exact absurd (show false = true from fx) Bool.false_ne_true
  | _ => exact absurd (show false = true from fy) Bool.false_ne_true
/-- the items' answers, read off the values (a value's own answer does not lean on its token) -/
noncomputable def eqU (x : V) (u : Value) : Bool := match u with
  | .none => eqV .non x
  | .bool b => eqV (.bl b) x
  | .int i _ => eqV (.int i) x
  | .str z _ => eqV (.str z) x
  | _ => false
theorem eqU_of {x y : V} {u : Value} (r : RelV y u) (f : flatV y = true) : eqU x u = eqV y x := by
  cases y with
  | non => cases r; rfl
  | bl b => cases r; rfl
  | int i => obtain ⟨t, rfl⟩ := r; rfl
  | str z => obtain ⟨t, rfl⟩ := r; rfl
  | _ => exact absurd (show false = true from f) Bool.false_ne_true
theorem any_eqU {x : V} : ∀ {xs : List V} {us : List Value}, Vals xs us → xs.all flatV = true → us.any (eqU x) = xs.any fun y => eqV y x
  | _, _, .nil, _ => rfl
  | y :: xs, u :: us, .cons r t, f => by
    rw [List.all_cons, Bool.and_eq_true] at f
    rw [List.any_cons, List.any_cons, eqU_of r f.1, any_eqU t f.2]
theorem mem_eqAt {A : Around} {s : Shared} {x : V} {v : Value} (rx : RelV x v) (fx : flatV x = true) : ∀ {xs : List V} {us : List Value}, Vals xs us → xs.all flatV = true → ∀ u ∈ us, SeqAt.EqAt A s u v (eqU x u)
  | _, _, .nil, _ => fun u hu => by cases hu
  | y :: xs, u :: us, .cons r t, f => fun u' hu => by
    rw [List.all_cons, Bool.and_eq_true] at f
    rcases List.mem_cons.mp hu with rfl | hu
    · rw [eqU_of r f.1]; exact eqAt_V r rx f.1 fx
    · exact mem_eqAt rx fx t f.2 u' hu
noncomputable def inV (x : V) (xs : List V) : Bool := xs.any fun y => eqV y x
/-- x in a list or tuple of flat items -/
noncomputable def rIn (K : PySem.W.Frag) (neg : Bool) : R2 := fun x y H Q => ∃ p xs, y = .ref p ∧ (SqL K H p xs ∨ SqT K H p xs) ∧ flatV x = true ∧ xs.all flatV = true ∧ Q (.bl (if neg then !inV x xs else inV x xs)) H
theorem op_in_seq : OpR X (compareOp .In) (rIn X.K false) := by
  intro pins s σ H x y v u Q I rx ry h
  obtain ⟨p, xs, rfl, hq, fx, fs, q⟩ := h
  cases ry
  rcases hq with hq | hq
  · obtain ⟨its, r, pl, hz⟩ := I.list hq
    refine SeqAt.in_listAt (eqU x) pl.isList (fun w hw => mem_eqAt rx fx r fs w (by simpa using hw)) ⟨.bl _, H, I, rfl, ?_⟩
    rw [show its.toArray.any (eqU x) = its.any (eqU x) by simp, any_eqU r fs]
    exact q
  · obtain ⟨its, r, pl, hz⟩ := I.tuple hq
    refine SeqAt.in_tupleAt (eqU x) pl (fun w hw => mem_eqAt rx fx r fs w (by simpa using hw)) ⟨.bl _, H, I, rfl, ?_⟩
    rw [show its.toArray.any (eqU x) = its.any (eqU x) by simp, any_eqU r fs]
    exact q
/-! ### len, list(x), tuple(x) of any list or tuple that is read -/
theorem CallR.or {f : Value} {r r' : List V → Hp → VK → Prop} (h : CallR X f r) (h' : CallR X f r') : CallR X f (fun xs H Q => r xs H Q ∨ r' xs H Q) := by
  intro pins s σ H xs us Q I rs q
  rcases q with q | q
  · exact h pins s σ H xs us Q I rs q
  · exact h' pins s σ H xs us Q I rs q
theorem call_list_of : CallR X (.type "list") (fun xs H Q => ∃ p ys, xs = [.ref p] ∧ (SqL X.K H p ys ∨ SqT X.K H p ys) ∧ ∀ l, H l = none → Q (.ref l) (upd H l (.lst ys))) := by
  intro pins s σ H xs us Q I r h
  obtain ⟨p, ys, rfl, hq, q⟩ := h
  obtain ⟨u, rfl, rx⟩ := vals1 r
  cases rx
  have fin : ∀ (its : List Value), Vals ys its → ys.length ≤ sizeLine → ∀ (h' : Heap) (c' : Nat), (∀ b o', s.heap.get? b = some o' → h'.get? b = some o') →
      h'.get? s.heap.objs.size = some { cls := .type "list", dict := none, data := .seq its.toArray c', slots := #[] } → EP X pins σ Q (.ref s.heap.objs.size) { s with heap := h' } := fun its r' hz h' c' kp e =>
    ⟨.ref s.heap.objs.size, _, I.laid (t' := s.toks) kp (Nat.le_refl _) (show ObjOk X.prog X.w _ h' _ (.lst ys) from ⟨hz, its, c', r', e⟩), rfl, q _ (I.hok.fresh (Nat.le_refl _))⟩
  rcases hq with hq | hq
  · obtain ⟨its, r', pl, hz⟩ := I.list hq
    have hlen := r'.length
    obtain ⟨o, ho, hc, n, hd⟩ := pl.isList
    exact call_list_seq p (.inl rfl) ho hc hd (fun h' c' kp e => fin its r' hz h' c' kp e) (by simp only [List.size_toArray] <;> omega)
  · obtain ⟨its, r', pl, hz⟩ := I.tuple hq
    have hlen := r'.length
    obtain ⟨o, ho, hc, n, hd⟩ := pl
    exact call_list_seq p (.inr rfl) ho hc hd (fun h' c' kp e => fin its r' hz h' c' kp e) (by simp only [List.size_toArray] <;> omega)
theorem call_tuple_of : CallR X (.type "tuple") (fun xs H Q => ∃ p ys, xs = [.ref p] ∧ ((SqL X.K H p ys ∧ ∀ l, H l = none → Q (.ref l) (upd H l (.tup ys))) ∨ (SqT X.K H p ys ∧ Q (.ref p) H))) := by
  intro pins s σ H xs us Q I r h
  obtain ⟨p, ys, rfl, h⟩ := h
  obtain ⟨u, rfl, rx⟩ := vals1 r
  cases rx
  rcases h with ⟨hq, q⟩ | ⟨hq, q⟩
  · obtain ⟨its, r', pl, hz⟩ := I.list hq
    have hlen := r'.length
    refine call_tuple_list pl.isList (fun h' kp => ?_) (by simp only [List.size_toArray] <;> omega)
    have I1 : Inv X pins σ H { s with heap := h' } := I.kept (t' := s.toks) kp
    have I2 : Inv X pins σ (upd H h'.objs.size (.tup ys)) { s with heap := h'.push { cls := .type "tuple", data := .seq its.toArray } } :=
      I1.laid (t' := s.toks) (fun b o e => Heap.get?_push_of_some _ e) (Nat.le_refl _) (show ObjOk X.prog X.w _ _ _ (.tup ys) from ⟨hz, its, r', IsTup.new _ _⟩)
    exact ⟨.ref h'.objs.size, _, I2, rfl, q _ (I1.hok.fresh (Nat.le_refl _))⟩
  · obtain ⟨its, r', pl, hz⟩ := I.tuple hq
    exact call_tuple_same pl ⟨.ref p, H, I, rfl, q⟩

/-! ### the call of a builtin's method: o.m(..) -/
/-- the value is of that builtin type -/
noncomputable def tyV (K : PySem.W.Frag) (T : String) (x : V) (H : Hp) : Prop := match x with
  | .str _ => T = "str"
  | .int _ => T = "int"
  | .ref p => (T = "list" ∧ ∃ xs, SqL K H p xs) ∨ (T = "tuple" ∧ ∃ o, K.lookup p = some o ∧ o.cls = .type "tuple" ∧ o.dict = none) ∨
      (T = "dict" ∧ ((∃ kvs, H p = some (.dK kvs)) ∨ ∃ kvs, H p = some (.dT kvs))) ∨ (T = "set" ∧ ∃ S n, H p = some (.set S n))
  | _ => False
theorem tyV_is {pins : List (Addr × Obj)} {σ : St} {H : Hp} {s : Shared} {T : String} {x : V} {v : Value} (I : Inv X pins σ H s) (r : RelV x v) (ty : tyV X.K T x H) :
    s.TypeIs v T ∧ ∀ a, v = .ref a → ∃ ob, s.heap.get? a = some ob ∧ ob.dict = none := by
  cases x with
  | str z =>
    obtain ⟨t, rfl⟩ := r
    cases (show T = "str" from ty)
    exact ⟨typeIs_str s z t, fun _ e => nomatch e⟩
  | int i =>
    obtain ⟨t, rfl⟩ := r
    cases (show T = "int" from ty)
    exact ⟨typeIs_int s i t, fun _ e => nomatch e⟩
  | ref p =>
    cases r
    rcases ty with ⟨rfl, xs, hq⟩ | ⟨rfl, o, hk, hc, hd⟩ | ⟨rfl, hk⟩ | ⟨rfl, S, n, hk⟩
    · obtain ⟨its, _, pl, _⟩ := I.list hq
      refine ⟨pl.isList.typeIs, fun a e => ?_⟩
      cases e
      obtain ⟨o, n, e, c, hd, _⟩ := pl
      exact ⟨o, e, hd⟩
    · refine ⟨⟨o, I.kIn p o hk, hc⟩, fun a e => ?_⟩
      cases e
      exact ⟨o, I.kIn _ o hk, hd⟩
    · have z : ∃ o, s.heap.get? p = some o ∧ o.ExactDict := by
        rcases hk with ⟨kvs, hk⟩ | ⟨kvs, hk⟩
        · obtain ⟨_, _, _, _, o, _, _, e, ex, _⟩ := I.hok p _ hk
          exact ⟨o, e, ex⟩
        · obtain ⟨_, _, _, _, o, _, _, e, ex, _⟩ := I.hok p _ hk
          exact ⟨o, e, ex⟩
      obtain ⟨o, e, ex⟩ := z
      refine ⟨⟨o, e, ex.1⟩, fun a e2 => ?_⟩
      cases e2
      exact ⟨o, e, ex.2.1⟩
    · obtain ⟨o, _, _, _, e, ex, _⟩ := I.hok p _ hk
      refine ⟨⟨o, e, ex.1⟩, fun a e2 => ?_⟩
      cases e2
      exact ⟨o, e, ex.2.1⟩
  | _ => exact False.elim ty
noncomputable def tBM0 (K : PySem.W.Frag) (T : String) (r : V → List V → Hp → VK → Prop) (to : TE) : TE := fun σ H Q => to σ H fun x H1 => tyV K T x H1 ∧ r x [] H1 Q
noncomputable def tBM (K : PySem.W.Frag) (T : String) (r : V → List V → Hp → VK → Prop) (to : TE) (t : TA) : TE := fun σ H Q => to σ H fun x H1 => tyV K T x H1 ∧ t σ H1 fun xs H2 => r x xs H2 Q
variable {o e : Expr} {es : List Expr} {to : TE} {t : TA} {name : Str} {apos cpos : Pos} {T id : String} {r : V → List V → Hp → VK → Prop}
theorem pe_bm0 (pa : PlainAttrs T) (slot : Slot T name id) (hty : typeOf (.builtin id) = pure (.type "method_descriptor")) (hm : MtR X id r) (ho : PE X o to)
    (hbase : attributeBase o name X.env (eval o X.env) = eval o X.env := by rfl) (hline : (apos.endLine == cpos.line) = true := by rfl) : PE X (.Call (.Attribute o name apos) [] [] cpos) (tBM0 X.K T r to) := by
  intro pins s σ H Q I h
  refine wpAny_Call_method0_late hbase hline (thn (ho pins s σ H _ I h) fun v s1 ⟨x, H1, I1, r1, ty, q1⟩ => ?_)
  obtain ⟨h1, h2⟩ := tyV_is I1 r1 ty
  exact ⟨T, id, pa, slot, hty, h1, h2, Calls.callWith_builtin rfl (PySem.evalArgs_none (hm pins s1 σ H1 x [] v [] Q I1 r1 .nil q1))⟩
theorem pe_bm (pa : PlainAttrs T) (slot : Slot T name id) (hty : typeOf (.builtin id) = pure (.type "method_descriptor")) (hm : MtR X id r) (ho : PE X o to) (ha : PA X (e :: es) t)
    (hbase : attributeBase o name X.env (eval o X.env) = eval o X.env := by rfl)
    (hfew : ((backTo cpos (starEach (e :: es) X.env)).all (fun x => !x.1) && (backToKw cpos (keywordEach [] X.env)).all (fun x => x.1.isSome)
      && decide ((e :: es).length + ([] : List Keyword).length + (if ([] : List Keyword).isEmpty then 0 else 1) < 30)) = true := by rfl)
    (hline : (apos.endLine == cpos.line) = true := by rfl) (hs : starEach (e :: es) X.env = (false, eval e X.env) :: starEach es X.env := by rfl) (hplain : (backTo cpos (starEach es X.env)).any (·.1) = false := by rfl) :
    PE X (.Call (.Attribute o name apos) (e :: es) [] cpos) (tBM X.K T r to t) := by
  intro pins s σ H Q I h
  refine wpAny_Call_method_late hbase hfew hline rfl (thn (ho pins s σ H _ I h) fun v s1 ⟨x, H1, I1, r1, ty, q1⟩ => ?_)
  obtain ⟨h1, h2⟩ := tyV_is I1 r1 ty
  refine ⟨T, id, pa, slot, hty, h1, h2, ?_⟩
  have hA := ha cpos pins s1 σ H1 _ I1 q1
  rw [hs] at hA ⊢
  refine Calls.callWith_builtin (by show (false || (backTo cpos (starEach es X.env)).any (·.1)) = false; rw [hplain] <;> rfl) (Calls.evalArgs_plain ?_)
  exact thn hA fun us s2 ⟨vs, H2, I2, r2, q2⟩ => hm pins s2 σ H2 x vs v us Q I2 r1 r2 q2
/- xs.append(e), list.index on a module's tuple .. are MtR facts of 06m -/
end
end L2

namespace L2
open PySem PySem.Spec PyProof.Rows

noncomputable def MtM (X : Cx) (id : String) (r : V → List V → Hp → VK → Prop) : Prop :=
  ∀ (pins : List (Addr × Obj)) (s : Shared) (σ : St) (H : Hp) (x : V) (xs : List V) (v : Value) (us : List Value) (Q : VK), Inv X pins σ H s → RelV x v → Vals xs us → r x xs H Q →
    wpAny (model X.prog X.w) X.A (call (.builtin id) (v :: us)) (EP X pins σ Q) X.xe s

/-! ### lists of values -/
theorem Vals.one : ∀ {x : V} {us : List Value}, Vals [x] us → ∃ u, us = [u] ∧ RelV x u
  | _, _, .cons r .nil => ⟨_, rfl, r⟩
theorem Vals.two : ∀ {x y : V} {us : List Value}, Vals [x, y] us → ∃ u v, us = [u, v] ∧ RelV x u ∧ RelV y v
  | _, _, _, .cons r (.cons q .nil) => ⟨_, _, rfl, r, q⟩
theorem Vals.zero : ∀ {us : List Value}, Vals [] us → us = []
  | _, .nil => rfl
theorem Vals.reverse {xs : List V} {us : List Value} (h : Vals xs us) : Vals xs.reverse us.reverse := by
  induction h with
  | nil => exact .nil
  | cons r t ih => rw [List.reverse_cons, List.reverse_cons]; exact Vals.append ih (.cons r .nil)
section
variable {X : Cx} {pins : List (Addr × Obj)} {σ : St} {H : Hp} {s : Shared} {l b : Addr} {xs ys zs : List V}

/-! ### the two steps: a tracked list is rewritten, a new list is laid -/
theorem Inv.lset {its its' : List Value} {n : Nat} {f : Array Value → Array Value} {t' : Nat} (I : Inv X pins σ H s) (hH : H l = some (.lst xs))
    (e : s.heap.get? l = some { cls := .type "list", data := .seq its.toArray n }) (hf : f its.toArray = its'.toArray) (hv : Vals ys its') (hz : ys.length ≤ sizeLine) :
    Inv X pins σ (upd H l (.lst ys)) { s with heap := s.heap.update l (Obj.mapSeq f), toks := t' } := by
  have q := PySem.IsL.update e f
  rw [hf] at q
  refine I.write (x := l) (e := l) (by rw [hH]; exact trivial) (.inl rfl) (fun b' u hb hu => (Heap.get?_update_other s.heap (Obj.mapSeq f) (Ne.symm hb)).trans hu) ⟨_, q⟩ ?_
  exact ⟨hz, its', _, hv, q⟩
theorem Inv.lnew {its : List Value} {t' : Nat} (I : Inv X pins σ H s) (hv : Vals ys its) (hz : ys.length ≤ sizeLine) :
    Inv X pins σ (upd H s.heap.objs.size (.lst ys)) { s with heap := s.heap.push { cls := .type "list", data := .seq its.toArray }, toks := t' } :=
  I.laid (fun _ _ q => Heap.get?_push_of_some _ q) (Nat.le_refl _) ⟨hz, its, 0, hv, Heap.get?_push_size _ rfl⟩
theorem Inv.fresh (I : Inv X pins σ H s) : H s.heap.objs.size = none := I.hok.fresh (Nat.le_refl _)
theorem Inv.lstM (I : Inv X pins σ H s) (hH : H l = some (.lst xs)) : xs.length ≤ sizeLine ∧ ∃ (its : List Value) (n : Nat), Vals xs its ∧ xs.length = its.length ∧ s.heap.get? l = some { cls := .type "list", data := .seq its.toArray n } := by
  obtain ⟨z, its, n, r, e⟩ := I.hok l _ hH
  exact ⟨z, its, n, r, r.length, e⟩

end

section
variable {X : Cx}

/-! ### methods -/
noncomputable def rAppend : V → List V → Hp → VK → Prop := fun x vs H Q => ∃ l xs y, x = .ref l ∧ vs = [y] ∧ H l = some (.lst xs) ∧ xs.length < sizeLine ∧ Q .non (upd H l (.lst (xs ++ [y])))
theorem mt_append : MtM X "list.append" rAppend := by
  intro pins s σ H x vs v us Q I rx rv h
  obtain ⟨l, xs, y, rfl, rfl, hH, hz, q⟩ := h
  cases rx
  obtain ⟨u, rfl, ru⟩ := rv.one
  obtain ⟨z, its, n, r, hl, e⟩ := I.lstM hH
  refine call_meets F.slot_list_append ⟨_, e, rfl⟩ F.entry_list_append (F.args_list_append_2 _ _) (PySem.list_append l its.toArray n u (by rw [List.size_toArray]; omega)) ⟨e, ?_⟩
  refine ⟨.non, _, I.lset (its' := its ++ [u]) hH e (by simp) (r.append (.cons ru .nil)) ?_, rfl, q⟩
  rw [List.length_append, List.length_singleton]
  omega

/-! ### list + list, list += list, list * int -/
/-! ### del xs[i] -/
end

/-! ### xs[a:b] = ys -/
section
variable {prog : Program} {w : World} {A : Around} {E : Value → Shared → Prop} {s : Shared}
end

section
variable {X : Cx}
end
end L2

namespace Att
open PySem PySem.W PySem.Calls PyProof.Rows

/-! ### the script -/
theorem ints_of_wellAll {P : Params} {h : Heap} : ∀ (ns : List Int) (vs : List Value), WellAll P h vs (ns.map WData.int) → IntsAre vs ns := by
  intro ns
  induction ns with
  | nil =>
    intro vs w
    rw [List.map_nil] at w
    cases w
    exact .nil
  | cons n ns ih =>
    intro vs w
    rw [List.map_cons] at w
    cases w with
    | cons a b =>
      cases a
      exact .cons _ _ (ih _ b)

theorem script_of {l : OpenLaw} {n : Nat} (hn : l.most = some n) {P : Params} {h : Heap} {args : List WData} {vals : List Value}
    (hpre : l.row.toRowW.claim.pre args = true) (hwl : WellAll P h vals args) :
    ∃ a vs ns, vals = [Value.ref a] ∧ args = [WData.list (ns.map WData.int)] ∧ h.get? a = some { cls := .type "list", data := .seq vs.toArray } ∧ IntsAre vs ns ∧ ns.length ≤ n := by
  have hsh : WShape.hasAll [] args [.list .int] = true := (pre_splitW hpre).1
  have hc : l.pre.holds [] { args := args } = true := (pre_splitW hpre).2
  obtain ⟨d, r, rfl, h1, h2⟩ := hasAllW_cons hsh
  obtain rfl := hasAllW_nil h2
  obtain ⟨xs, rfl, h3⟩ := hasW_list h1
  obtain ⟨ns, rfl⟩ := items_int h3
  have hlen : ns.length ≤ n := by
    unfold OpenLaw.pre at hc
    have h4 : (WTm.not (.lt (.lit (.int (n : Int))) (.len (.arg 0)))).holds [] { args := [.list (ns.map .int)] } = true := by
      have h4 := (holds_andW hc).1
      rw [hn] at h4
      exact h4
    have h5 := condW_of h4 (w_not (w_lt w_lit (w_len_list (w_arg rfl))))
    rw [List.length_map] at h5
    refine Nat.le_of_not_lt fun q => ?_
    have q' : (n : Int) < ((ns.length : Nat) : Int) := by omega
    first
      | (rw [decide_eq_true q'] at h5; exact absurd h5 (by decide))
      | (simp at h5; omega)
  cases hwl with
  | cons w1 w2 =>
    cases w2
    cases w1 with
    | list ho hall => exact ⟨_, _, ns, rfl, rfl, ho, ints_of_wellAll ns _ hall, hlen⟩

theorem post_true (l : OpenLaw) (args : List WData) : l.row.toRowW.claim.post args (.bool true) args = true :=
  postW_of (r := l.row.toRowW) (X := (true == true))
    (show WShape.has [] (.bool true) .bool = true by first | rfl | decide | simp [WShape.has, WShape.arms, WShape.armsAll])
    (show (WTm.eq .res (.lit (.bool true))).value [] { args := args, res := some (.bool true), after := args } = some (.bool (true == true)) from w_eq_bool (w_res rfl) w_lit) rfl

/-! ### the attachment: holds_open's last premise (the goal 'hc' behind k_head) from a wpAny of the law's body -/
/-- the same from a codeAny of the CALL (for a layer whose function contracts speak of calls) -/
theorem attach_call {l : OpenLaw} {n : Nat} {q : Program} {loose : List Str} {XP : (Str → Option Value) → Heap → Prop} {YP : World → Heap → Prop} {d : DefRec}
    (hn : l.most = some n) (hdf : d.params.defaults = [])
    (call : ∀ (w : World) (s₀ s₁ : Shared) (mg mb : Str → Option Value) (fa : Addr) (o : Obj) (pm cd doc : Value) (a : Addr) (vs : List Value) (ns : List Int),
      Ground q loose [] XP w s₀ mg mb s₁.heap → YP w s₁.heap →
      s₁.heap.get? fa = some o → o.data = .func (docDef d.name d.params d.body d.scope pm cd doc) → s₁.heap.CodeRec cd d.name → mg d.name = some (.ref fa) →
      s₁.heap.get? a = some { cls := .type "list", data := .seq vs.toArray } → IntsAre vs ns → ns.length ≤ n → s₁.gens = #[] →
      codeAny (model l.prog w) callerA (.call (.ref fa) ⟨[.ref a], []⟩) (fun r s' => r = .ok (.ret (.bool true)) ∧ OldK s₁.heap s'.heap ∧ s'.os = s₁.os ∧ AllBare s'.gens) s₁) :
    WalkO q loose XP YP l.row.toRowW d [] (fun f vs => PySem.call f vs) := by
  intro w s₀ s₁ mg mb G Y fa o pm cd doc dV kV ho hd hcd hD hmg hg args vals as hpre hlay hrd hwl hlo
  obtain rfl : dV = .none := Dflts.none hD hdf
  obtain rfl : kV = .none := Dflts.noKw hD
  obtain ⟨a, vs, ns, rfl, rfl, hobj, hints, hlen⟩ := script_of hn hpre hwl
  refine enter_call (codeAny_mono (call w s₀ s₁ mg mb fa o pm cd doc a vs ns G Y ho (fd_plain hd) hcd hmg hobj hints hlen hg) fun r s' hq => ?_)
  obtain ⟨rfl, h2, h3, h4⟩ := hq
  exact ⟨.inl ⟨.bool true, .bool true, [], rfl, fun _ => rfl, .bool true, post_true l _, fun _ => ⟨List.Pairwise.nil, fun _ hm => (nomatch hm)⟩⟩, h2, h3, h4⟩

/-! ### rules over ANY heap (no ledger) from facts about the written part K: the library's own take a ledger (News) for what they write -/
section
variable {prog : Program} {w : World} {A : Around} {E : Value → Shared → Prop} {s : Shared} {K : Frag}

/-! the whole heap as the ledger: makes every rule that writes through a ledger a rule over any heap -/
noncomputable def ledger (h : Heap) (L d : Addr) : List (Addr × Obj) := (List.range h.objs.size).filterMap fun a => if a = L ∨ a = d then none else (h.get? a).map fun o => (a, o)
end
end Att

namespace L2
open PySem PySem.Spec PyProof.Rows

theorem vals_ints : ∀ {vs : List Value} {ns : List Int}, IntsAre vs ns → Vals (ns.map V.int) vs
  | _, _, .nil => .nil
  | _, _, .cons n t h => .cons ⟨t, rfl⟩ (vals_ints h)

/-- nothing is tracked but the script, known to the object (or it is an object of the module) -/
noncomputable def Only (H : Hp) : Prop := ∀ b, H b = none ∨ ∃ o xs, H b = some (.frz o (.lst xs))

/-- THE HEAD: the law's promise, at the heap behind the top. F, the promise of the law's def, may use that base is part of the heap (so K.In base, base.Ns mainGlobals mg stand in Mod) -/
theorem law_call {P : Program} {w : World} {K : PySem.W.Frag} {mg mb : Str → Option Value} {CX : CXT} {k : Nat} {fa a : Addr} {fd : FuncData} {x : Str} {sp : Sp} {s₁ : Shared} {vs : List Value} {ns : List Int}
    (KX : K.In s₁.heap) (hns : s₁.heap.Ns mainGlobals mg) (hb : s₁.heap.Ns builtinsNs mb) (hbb : ∀ x : Str, x ≠ "__name__" → mb x = bootBuiltins x) (hlim : s₁.heap.NoLimit) (hg : s₁.gens = #[])
    (ha : s₁.heap.get? a = some { cls := .type "list", data := .seq vs.toArray }) (hi : IntsAre vs ns) (hl : ns.length ≤ sizeLine) (hr : Room k callerA)
    (F : ∀ base : Heap, K.In base → base.Ns mainGlobals mg → FnOk P w K mg base CX k fa fd [x] sp) (hbind : ∀ (s : Shared) (u : Value), BindsTo s fd ⟨[u], []⟩ [(x, u)])
    (hsp : ∀ H : Hp, Only H → SqL K H a (ns.map V.int) → sp [.ref a] H (fun v _ => v = .bl true) fun _ _ _ => False)
    (hCX : ∀ H e s', CX [] H s₁ (fun _ _ _ => False) e s' → False) :
    codeAny (model P w) callerA (.call (.ref fa) ⟨[.ref a], []⟩) (fun r s' => r = .ok (.ret (.bool true)) ∧ OldK s₁.heap s'.heap ∧ s'.os = s₁.os ∧ AllBare s'.gens) s₁ := by
  have rv := vals_ints hi
  have lenV := hi.length
  -- from an abstract heap in which nothing but the script may be tracked
  have core : ∀ H : Hp, Only H → SqL K H a (ns.map V.int) → HOk P w H s₁.heap → (∀ b, H b ≠ none → b = a) → (H a ≠ none → K.lookup a = none) →
      codeAny (model P w) callerA (.call (.ref fa) ⟨[.ref a], []⟩) (fun r s' => r = .ok (.ret (.bool true)) ∧ OldK s₁.heap s'.heap ∧ s'.os = s₁.os ∧ AllBare s'.gens) s₁ := by
    intro H hO hS hok hA hK
    have base_of : ∀ {b : Addr} {o : Obj}, s₁.heap.get? b = some o → H b = none → (hidT s₁.heap H).get? b = some o := fun e n => hidT_get e n
    have noA : ∀ {b : Addr} {o : Obj} {es : Array DictEntry} {ep : Nat}, s₁.heap.get? b = some o → o.data = .dict es ep → H b = none := fun {b o es ep} e d => by
      cases q : H b with
      | none => rfl
      | some u =>
        have e' : b = a := hA b (by rw [q]; simp)
        subst e'
        rw [ha] at e; cases e
        have d' : Data.seq vs.toArray _ = Data.dict es ep := d
        cases d'
    have nsK : ∀ {b : Addr} {m : Str → Option Value}, s₁.heap.Ns b m → (hidT s₁.heap H).Ns b m := fun {b m} ⟨o, es, ep, e, d, r⟩ => ⟨o, es, ep, base_of e (noA e d), d, r⟩
    have hKb : K.In (hidT s₁.heap H) := fun b o e => base_of (KX b o e) (by
      cases q : H b with
      | none => rfl
      | some u =>
        have e' : b = a := hA b (by rw [q]; simp)
        subst e'
        rw [hK (by rw [q]; simp)] at e; cases e)
    have hM : Mod K mg (hidT s₁.heap H) := ⟨hKb, nsK hns, ⟨mb, nsK hb, hbb⟩, let ⟨mc, h1, h2⟩ := hlim; ⟨mc, nsK h1, h2⟩⟩
    have e0 : Env0 P w K mg (hidT s₁.heap H) callerA [] s₁ H := ⟨rfl, hM, fun b o e => of_hidT e, Nat.le_of_eq (hidT_size _ _), trivial, fun b hb => absurd (show b ∈ ([] : List Addr) from hb) (by simp), hok, .of_eq hg⟩
    refine codeAny_mono ((F _ hKb (nsK hns)).run callerA [] s₁ H ⟨[.ref a], []⟩ [.ref a] [.ref a] _ _ hr e0 (hbind s₁ (.ref a)) (.cons rfl .nil) (hsp H hO hS)) fun r s' h => ?_
    cases r with
    | error e => exact (hCX H e s' h).elim
    | ok fl =>
      cases fl with
      | next => exact False.elim h
      | brk => exact False.elim h
      | cont => exact False.elim h
      | ret u =>
        obtain ⟨v, H', os, bare, un, hok', r', q⟩ := h
        have q' : v = .bl true := q
        subst q'
        obtain rfl : u = Value.bool true := r'
        refine ⟨rfl, OldK.of_keep fun b o e => ?_, os, bare⟩
        cases q : H b with
        | none => exact un.keep b o e q (by intro z; exact absurd (show b ∈ ([] : List Addr) from z) (by simp)) (by simp)
        | some u =>
          rcases hO b with z | ⟨ob, xs, z⟩
          · rw [q] at z; cases z
          · have z2 := un.frzs b ob _ z
            obtain ⟨e1, _⟩ := hok b _ z
            obtain ⟨e2, _⟩ := hok' b _ z2
            rw [e] at e1; cases e1
            exact e2
  cases hk : K.lookup a with
  | some o =>
    -- the script is one of the module's own objects
    have e := KX a o hk
    rw [ha] at e
    cases e
    refine core (fun _ => none) (fun _ => .inl rfl) (.inr ⟨_, vs.toArray, _, hk, rfl, rfl, rfl, by rw [List.size_toArray, lenV]; exact hl, by simpa using rv⟩) (fun b u z => by have z' : (none : Option HO) = some u := z; cases z') (fun b z => absurd rfl z) fun z => absurd rfl z
  | none =>
    refine core (fun b => if b = a then some (.frz { cls := .type "list", data := .seq vs.toArray } (.lst (ns.map V.int))) else none) (fun b => ?_) (.inl (.inr ⟨{ cls := .type "list", data := .seq vs.toArray }, if_pos rfl⟩)) (fun b u z => ?_) (fun b z => ?_) fun _ => hk
    · by_cases hb : b = a
      · exact .inr ⟨_, _, if_pos hb⟩
      · exact .inl (if_neg hb)
    · by_cases hb : b = a
      · have z' := (if_pos hb).symm.trans z
        cases z'
        subst hb
        exact ⟨ha, by rw [List.length_map]; exact hl, vs, _, rv, ha⟩
      · have z' := (if_neg hb).symm.trans z
        cases z'
    · by_cases hb : b = a
      · exact hb
      · exact absurd (if_neg hb) z
end L2

namespace L2
open PySem PySem.Spec PyProof.Rows

noncomputable abbrev KOf {K : PySem.W.Frag} {h : Heap} (_ : K.In h) : PySem.W.Frag := K

/-- the goal that k_head leaves (case hc), from the law's promise. F gives the function object fd (K's own) once, then the promise over every base -/
theorem walk_of {l : PySem.W.OpenLaw} {n k : Nat} {q : Program} {loose : List Str} {XP : (Str → Option Value) → Heap → Prop} {YP : World → Heap → Prop} {d : DefRec} {K : Params → PySem.W.Frag} {CX : World → CXT} {sp : World → Sp} {x : Str}
    (hn : l.most = some n) (hn2 : n ≤ sizeLine) (hdf : d.params.defaults = []) (hr : Room k callerA)
    (hY : ∀ (w : World) (h : Heap), YP w h → (K w.params).In h)
    (F : ∀ (w : World) (mg : Str → Option Value) (fa : Addr) (h : Heap), (K w.params).In h → h.Ns mainGlobals mg → mg d.name = some (.ref fa) →
      ∃ fd : FuncData, (∀ (s : Shared) (u : Value), BindsTo s fd ⟨[u], []⟩ [(x, u)]) ∧
        ∀ base : Heap, (K w.params).In base → base.Ns mainGlobals mg → FnOk l.prog w (K w.params) mg base (CX w) k fa fd [x] (sp w))
    (hsp : ∀ (w : World) (H : Hp) (a : Addr) (ns : List Int), ns.length ≤ n → Only H → SqL (K w.params) H a (ns.map V.int) → sp w [.ref a] H (fun v _ => v = .bl true) fun _ _ _ => False)
    (hCX : ∀ (w : World) (H : Hp) (s : Shared) (e : Value) (s' : Shared), CX w [] H s (fun _ _ _ => False) e s' → False) :
    PySem.W.WalkO q loose XP YP l.row.toRowW d [] (fun f vs => PySem.call f vs) := by
  refine Att.attach_call hn hdf fun w s₀ s₁ mg mb fa o pm cd doc a vs ns G Y ho hd hcd hmg hobj hints hlen hg => ?_
  have KX := hY w _ Y
  obtain ⟨fd, hb, hF⟩ := F w mg fa _ KX G.T.g hmg
  exact law_call KX G.T.g G.T.b G.T.builtins G.T.nolimit hg hobj hints (Nat.le_trans hlen hn2) hr hF hb (fun H hO hS => hsp w H a ns hlen hO hS) fun H e s' => hCX w H s₁ e s'
end L2

/- THE LAST THEOREM (shape; LID, My.* are yours):
   My.Adr: a structure of the addresses that your layer names (classes, functions); My.Txt K t: a structure (Prop) of the equations over K;
   My.txt_mk : {K} {implicit addresses ..} (e1 : nsIn K mainGlobals "law" = some (some (.ref f))) (e2 : K.lookup f = some ⟨oc, od, .func (fnOf "law" "law" params body scope dV kV doc pm an cdv ct), sl⟩) (e3 : codeIn K cdv "law" = true) .. : ∃ t, My.Txt K t

set_option maxRecDepth 100000 in
set_option maxHeartbeats 0 in
theorem PySem.Challenge.cw_LID_holds : PySem.Challenge.rw_LID.Holds := by
  w_on; o_law; k_head; (case hw => w_witness2)
  k_fill
  refine L2.walk_of (l := PySem.Challenge.rw_LID) (n := 63) (k := 40) (x := "script") (CX := fun w => ..) (sp := fun _ => My.sp_law) rfl (by decide) rfl ⟨rfl, by decide, by decide⟩ (fun w h Y => PySem.W.kIn_of Y) ?F ?S ?C
  case F =>
    intro w mg fa h KX G hmg
    have T : ∃ t, My.Txt (L2.KOf KX) t := by
      dsimp only [L2.KOf]                          -- K must stand as «<heap const> w.params» for k_is
      refine' My.txt_mk ?e1 ?e2 ?e3 ..
      (case e1 => PySem.W.k_is)                    -- in the order: a name -> its address -> its object -> its parts
      (case e2 => PySem.W.k_is)
      ..
    obtain ⟨t, T⟩ := T
    have e0 := hmg.symm.trans (PySem.W.mg_of KX G T.law)
    cases e0                                       -- fa is the law's own address
    exact ⟨_, fun s u => .of_eq rfl, fun base kb nb => My.law_fn T kb nb⟩     -- if «.of_eq rfl» comes too early: refine' ⟨_, ?b, fun base kb nb => My.law_fn T kb nb⟩; exact fun s u => .of_eq rfl
  case S => exact fun w H a ns hl hO hS => ..
  case C => exact ..
(the tactic k_is has no namespace: write k_is) -/

/-! SHORT WORDS over the layer: a def of the text, its body, what a loop and a test want. -/
namespace L2
open PySem PySem.Spec PyProof.Rows

/-! ### the text by places -/
noncomputable def defArgs (s : Stmt) : Arguments := match s with
  | .FunctionDef _ a _ _ _ _ _ _ _ _ => a
  | _ => { posonlyargs := [], args := [], vararg := none, kwonlyargs := [], kw_defaults := [], kwarg := none, defaults := [] }
noncomputable def defBody (s : Stmt) : List Stmt := match s with
  | .FunctionDef _ _ b _ _ _ _ _ _ _ => b
  | _ => []
noncomputable def defScope (s : Stmt) : Scope := match s with
  | .FunctionDef _ _ _ _ _ _ sc _ _ _ => sc
  | _ => { kind := .function, names := [], isGenerator := false, isCoroutine := false }

/-! ### no exception leaves a def -/
noncomputable abbrev CX0 : CXT := fun _ _ _ _ _ _ => False
noncomputable abbrev E0 : XK := fun _ _ _ => False
theorem pass0 {X : Cx} : Passes CX0 X E0 := fun _ _ _ _ _ _ _ h => h.elim

/-! ### a def (or method) of the text as it stands behind the top -/
structure Fun (K : PySem.W.Frag) (x qual : Str) (st : Stmt) (f : Addr) (fd : FuncData) : Prop where
  ex : ∃ (oc : Value) (od : Option Addr) (kV doc pm : Value) (an : Option Addr) (cdv ct : Value) (osl : Array (Option Value)),
    fd = PySem.W.fnOf x qual (defArgs st) (defBody st) (defScope st) .none kV doc pm an cdv ct ∧ K.lookup f = some ⟨oc, od, .func fd, osl⟩ ∧ PySem.W.codeIn K cdv qual = true
  kp : PySem.W.keepIn K (.ref f) = true
section
variable {P : Program} {w : World} {K : PySem.W.Frag} {mg : Str → Option Value} {base : Heap}
/-- THE RULE for a def: its body as a term of rules, and the reading of that term -/
theorem Fun.ok {x qual : Str} {st : Stmt} {f : Addr} {fd : FuncData} {N ps : List Str} {k : Nat} {sp : Sp} (F : Fun K x qual st f fd) (S : FnScope N ps (defScope st)) (len : ∀ vs H Q E, sp vs H Q E → vs.length = ps.length)
    (hbody : ∀ (cdv : Value) (A : Around) (outer : List Env) (s : Shared) (H : Hp) (vs : List V) (Q : VK) (E : XK), Room k (A.deeper (envOfC qual (defScope st) s.heap.objs.size f cdv)) → sp vs H Q E →
      ∃ t, PSs (cxOf CX0 P w K mg base N qual (defScope st) f cdv A outer s H E).nox (defBody st) t ∧ t { nx := fun _ H' => Q .non H', rt := Q } (start N vs) H) : FnOk P w K mg base CX0 (k + 1) f fd ps sp := by
  obtain ⟨oc, od, kV, doc, pm, an, cdv, ct, osl, rfl, lk, hcd⟩ := F.ex
  refine fn_of lk hcd S len fun A outer s H vs Q E hr hsp => ?_
  obtain ⟨t, h, q⟩ := hbody cdv A outer s H vs Q E hr hsp
  exact ⟨t, h.nox, q⟩
/-- how its arguments bind (no defaults): h is «fun _ _ _ _ _ _ us hl => match us, hl with | [_, _], _ => rfl», one _ a parameter -/
theorem Fun.binds {x qual : Str} {st : Stmt} {f : Addr} {fd : FuncData} {ps : List Str} (F : Fun K x qual st f fd)
    (h : ∀ (kV doc pm : Value) (an : Option Addr) (cdv ct : Value) (us : List Value), us.length = ps.length → bindArgs (PySem.W.fnOf x qual (defArgs st) (defBody st) (defScope st) .none kV doc pm an cdv ct) ⟨us, []⟩ = pure (ps.zip us)) : Binds K fd ps [] := by
  obtain ⟨oc, od, kV, doc, pm, an, cdv, ct, osl, rfl, lk, hcd⟩ := F.ex
  exact .all (h kV doc pm an cdv ct)
end
/-! ### expressions in short: the name that stands in the i-th slot -/
section
variable {X : Cx}
end

/-! ### tests -/
/-! ### heaps -/
/-- all that was tracked is as it was -/
noncomputable def Same (H H' : Hp) : Prop := ∀ b o, H b = some o → H' b = some o
theorem Same.refl (H : Hp) : Same H H := fun _ _ h => h
theorem Same.trans {H H1 H2 : Hp} (a : Same H H1) (b : Same H1 H2) : Same H H2 := fun c o h => b c o (a c o h)
theorem Same.free {H H' : Hp} (e : Same H H') {l : Addr} (h : H' l = Option.none) : H l = Option.none := by
  cases q : H l with
  | none => rfl
  | some o =>
    rw [e l o q] at h
    cases h
theorem Same.seq {K : PySem.W.Frag} {H H' : Hp} {a : Addr} {xs : List V} (e : Same H H') (h : SqL K H a xs) : SqL K H' a xs := by
  rcases h with (h | ⟨o, h⟩) | h
  · exact .inl (.inl (e _ _ h))
  · exact .inl (.inr ⟨o, e _ _ h⟩)
  · exact .inr h

end L2

set_option Elab.async false
set_option linter.all false
set_option maxRecDepth 100000
set_option maxHeartbeats 4000000
/-! Plain data, and the functions that expressions, statements and defs are. -/
namespace VL
open PySem L2
noncomputable abbrev D := PyData
inductive Sl where
  | un | fz (d : D) | ow (ds : List D)
noncomputable abbrev Dv := List Sl
inductive Fl where
  | nx | bk | ct | rt (d : D)
noncomputable abbrev Sf := Dv → Option (Fl × Dv)
@[simp] noncomputable def o2 (f1 f2 : Dv → Option D) (g : D → D → Option D) : Dv → Option D := fun δ => (f1 δ).bind fun x => (f2 δ).bind fun y => g x y
@[simp] noncomputable def o1 (f : Dv → Option D) (g : D → Option D) : Dv → Option D := fun δ => (f δ).bind g
@[simp] noncomputable def os (f : Dv → Option (List D)) (g : List D → Option D) : Dv → Option D := fun δ => (f δ).bind g
noncomputable def asB : D → Option Bool
  | .bool b => some b
  | _ => none
@[simp] theorem asB_bool (b : Bool) : asB (.bool b) = some b := rfl
@[simp] noncomputable def ob (f : Dv → Option D) : Dv → Option Bool := fun δ => (f δ).bind asB
@[simp] noncomputable def oAnd (t u : Dv → Option Bool) : Dv → Option Bool := fun δ => (t δ).bind fun b => if b = true then u δ else some false
@[simp] noncomputable def oOr (t u : Dv → Option Bool) : Dv → Option Bool := fun δ => (t δ).bind fun b => if b = true then some true else u δ
@[simp] noncomputable def oNot (t : Dv → Option Bool) : Dv → Option Bool := fun δ => (t δ).map (!·)
@[simp] noncomputable def oAndV (f1 f2 : Dv → Option D) : Dv → Option D := fun δ => (f1 δ).bind fun x => (asB x).bind fun b => if b = true then f2 δ else some (.bool false)
@[simp] noncomputable def oOrV (f1 f2 : Dv → Option D) : Dv → Option D := fun δ => (f1 δ).bind fun x => (asB x).bind fun b => if b = true then some (.bool true) else f2 δ
@[simp] noncomputable def notD (d : D) : Option D := (asB d).map fun b => .bool (!b)
@[simp] noncomputable def oIf (t : Dv → Option Bool) (f1 f2 : Dv → Option D) : Dv → Option D := fun δ => (t δ).bind fun b => if b = true then f1 δ else f2 δ
noncomputable def slV : Option Sl → Option D
  | some (.fz d) => some d
  | _ => none
@[simp] theorem slV_fz (d : D) : slV (some (.fz d)) = some d := rfl
@[simp] noncomputable def oV (i : Nat) : Dv → Option D := fun δ => slV δ[i]?
@[simp] noncomputable def oC (d : D) : Dv → Option D := fun _ => some d
@[simp] noncomputable def oNil : Dv → Option (List D) := fun _ => some []
@[simp] noncomputable def oCons (f : Dv → Option D) (fs : Dv → Option (List D)) : Dv → Option (List D) := fun δ => (f δ).bind fun x => (fs δ).bind fun xs => some (x :: xs)
noncomputable def tupD (ds : List D) : Option D := if ds.length ≤ sizeLine then some (.tuple ds) else none
noncomputable def lstD (ds : List D) : Option D := if ds.length ≤ sizeLine then some (.list ds) else none
theorem tupD_ok {ds : List D} (h : ds.length ≤ 16777216) : tupD ds = some (.tuple ds) := if_pos h
theorem lstD_ok {ds : List D} (h : ds.length ≤ 16777216) : lstD ds = some (.list ds) := if_pos h
@[simp] theorem tupD0 : tupD [] = some (.tuple []) := rfl
@[simp] theorem tupD1 (a : D) : tupD [a] = some (.tuple [a]) := tupD_ok (by simp)
@[simp] theorem tupD2 (a b : D) : tupD [a, b] = some (.tuple [a, b]) := tupD_ok (by simp)
@[simp] theorem tupD3 (a b c : D) : tupD [a, b, c] = some (.tuple [a, b, c]) := tupD_ok (by simp)
@[simp] theorem tupD4 (a b c d : D) : tupD [a, b, c, d] = some (.tuple [a, b, c, d]) := tupD_ok (by simp)
@[simp] theorem tupD5 (a b c d e : D) : tupD [a, b, c, d, e] = some (.tuple [a, b, c, d, e]) := tupD_ok (by simp)
@[simp] theorem tupD8 (a b c d e f g h : D) : tupD [a, b, c, d, e, f, g, h] = some (.tuple [a, b, c, d, e, f, g, h]) := tupD_ok (by simp)
@[simp] theorem lstD0 : lstD [] = some (.list []) := rfl
@[simp] theorem lstD1 (a : D) : lstD [a] = some (.list [a]) := lstD_ok (by simp)
@[simp] theorem lstD2 (a b : D) : lstD [a, b] = some (.list [a, b]) := lstD_ok (by simp)
@[simp] theorem lstD3 (a b c : D) : lstD [a, b, c] = some (.list [a, b, c]) := lstD_ok (by simp)
@[simp] theorem lstD4 (a b c d : D) : lstD [a, b, c, d] = some (.list [a, b, c, d]) := lstD_ok (by simp)
@[simp] theorem lstD5 (a b c d e : D) : lstD [a, b, c, d, e] = some (.list [a, b, c, d, e]) := lstD_ok (by simp)
/-! ### ints -/
instance (i j : Int) : Decidable (IntMulOk i j) := by unfold IntMulOk; infer_instance
noncomputable def iI (g : Int → Int → Int) : D → D → Option D
  | .int i, .int j => some (.int (g i j))
  | _, _ => none
noncomputable def iC (C : Int → Int → Bool) (g : Int → Int → Int) : D → D → Option D
  | .int i, .int j => if C i j = true then some (.int (g i j)) else none
  | _, _ => none
noncomputable def iB (g : Int → Int → Bool) : D → D → Option D
  | .int i, .int j => some (.bool (g i j))
  | _, _ => none
@[simp] theorem iI_int (g : Int → Int → Int) (i j : Int) : iI g (.int i) (.int j) = some (.int (g i j)) := rfl
@[simp] theorem iB_int (g : Int → Int → Bool) (i j : Int) : iB g (.int i) (.int j) = some (.bool (g i j)) := rfl
theorem iC_int {C : Int → Int → Bool} {g : Int → Int → Int} {i j : Int} (h : C i j = true) : iC C g (.int i) (.int j) = some (.int (g i j)) := if_pos h
noncomputable def cMul (i j : Int) : Bool := decide (IntMulOk i j)
noncomputable def cDiv (i j : Int) : Bool := decide (0 < j ∧ j < 1073741824)
noncomputable def cMod (i j : Int) : Bool := decide (0 < j)
noncomputable def cPow (i j : Int) : Bool := decide (0 ≤ j ∧ j ≤ 1000000 ∧ i.natAbs < 2 ^ 64)
noncomputable def cShl (i j : Int) : Bool := decide (0 ≤ j ∧ (Builtin.Int.intBits i : Int) + j ≤ 2 ^ 27)
noncomputable def cShr (i j : Int) : Bool := decide (0 ≤ j)
noncomputable abbrev subD := iI fun i j => i - j
noncomputable abbrev mulI := iC cMul fun i j => i * j
noncomputable abbrev divD := iC cDiv fun i j => i / j
noncomputable abbrev modD := iC cMod fun i j => i % j
noncomputable abbrev powD := iC cPow fun i j => i ^ j.toNat
noncomputable abbrev shlD := iC cShl fun i j => i * 2 ^ j.toNat
noncomputable abbrev shrD := iC cShr fun i j => i / 2 ^ j.toNat
noncomputable abbrev andD := iI Builtin.bitAnd
noncomputable abbrev orD := iI Builtin.bitOr
noncomputable abbrev xorD := iI Builtin.bitXor
noncomputable abbrev ltD := iB fun i j => decide (i < j)
noncomputable abbrev gtD := iB fun i j => decide (j < i)
@[simp] theorem mulI_int {i j : Int} (h : IntMulOk i j) : mulI (.int i) (.int j) = some (.int (i * j)) := iC_int (decide_eq_true h)
@[simp] theorem divD_int {i j : Int} (h : 0 < j) (h2 : j < 1073741824) : divD (.int i) (.int j) = some (.int (i / j)) := iC_int (decide_eq_true ⟨h, h2⟩)
@[simp] theorem modD_int {i j : Int} (h : 0 < j) : modD (.int i) (.int j) = some (.int (i % j)) := iC_int (decide_eq_true h)
@[simp] theorem powD_int {i j : Int} (h : 0 ≤ j) (h2 : j ≤ 1000000) (h3 : i.natAbs < 2 ^ 64) : powD (.int i) (.int j) = some (.int (i ^ j.toNat)) := iC_int (decide_eq_true ⟨h, h2, h3⟩)
theorem shlD_int {i j : Int} (h : 0 ≤ j) (h2 : (Builtin.Int.intBits i : Int) + j ≤ 2 ^ 27) : shlD (.int i) (.int j) = some (.int (i * 2 ^ j.toNat)) := iC_int (decide_eq_true ⟨h, h2⟩)
@[simp] theorem shrD_int {i j : Int} (h : 0 ≤ j) : shrD (.int i) (.int j) = some (.int (i / 2 ^ j.toNat)) := iC_int (decide_eq_true h)
noncomputable def negD : D → Option D
  | .int i => some (.int (-i))
  | _ => none
@[simp] theorem negD_int (i : Int) : negD (.int i) = some (.int (-i)) := rfl
noncomputable def addD : D → D → Option D
  | .int i, .int j => some (.int (i + j))
  | .str x, .str y => if x.length + y.length ≤ sizeLine then some (.str (x ++ y)) else none
  | .list xs, .list ys => if xs.length + ys.length ≤ sizeLine then some (.list (xs ++ ys)) else none
  | .tuple xs, .tuple ys => if xs.length + ys.length ≤ sizeLine then some (.tuple (xs ++ ys)) else none
  | _, _ => none
@[simp] theorem addD_int (i j : Int) : addD (.int i) (.int j) = some (.int (i + j)) := rfl
/-! ### == -/
noncomputable def shp (d : D) : Bool := PySem.SeqAt.shaped d
noncomputable def eqD : D → D → Option D := fun a b => if shp a = true ∧ shp b = true then some (.bool (PyData.eqv a b)) else none
noncomputable def neD : D → D → Option D := fun a b => if shp a = true ∧ shp b = true then some (.bool (!PyData.eqv a b)) else none
@[simp] theorem eqD_int (i j : Int) : eqD (.int i) (.int j) = some (.bool (i == j)) := rfl
@[simp] theorem neD_int (i j : Int) : neD (.int i) (.int j) = some (.bool (!(i == j))) := rfl
@[simp] theorem eqD_bool (i j : Bool) : eqD (.bool i) (.bool j) = some (.bool (i == j)) := rfl
@[simp] theorem neD_bool (i j : Bool) : neD (.bool i) (.bool j) = some (.bool (!(i == j))) := rfl
noncomputable def isN (d : D) : Bool := match d with
  | .none => true
  | _ => false
noncomputable def isD : D → D → Option D := fun a b => match b with
  | .none => some (.bool (isN a))
  | _ => none
noncomputable def isntD : D → D → Option D := fun a b => match b with
  | .none => some (.bool (!isN a))
  | _ => none
@[simp] theorem isD_none (a : D) : isD a .none = some (.bool (isN a)) := rfl
@[simp] theorem isntD_none (a : D) : isntD a .none = some (.bool (!isN a)) := rfl
@[simp] theorem isN_none : isN .none = true := rfl
@[simp] theorem isN_int (i : Int) : isN (.int i) = false := rfl
/-! ### items -/
noncomputable def ixD : D → D → Option D
  | .list xs, .int i => atI xs i
  | .tuple xs, .int i => atI xs i
  | _, _ => none
@[simp] theorem ixD_list (xs : List D) (i : Int) : ixD (.list xs) (.int i) = atI xs i := rfl
@[simp] theorem ixD_tuple (xs : List D) (i : Int) : ixD (.tuple xs) (.int i) = atI xs i := rfl
theorem atI_of {α : Type} {xs : List α} {i : Int} {j : Nat} {v : α} (hi : i = j) (h : xs[j]? = some v) : atI xs i = some v := by
  have hl : j < xs.length := (List.getElem?_eq_some_iff.mp h).1
  subst hi
  unfold atI ixN
  rw [if_pos (by omega), if_pos (by omega)]
  simpa using h
@[simp] theorem at0 {α : Type} (a : α) (r : List α) : atI (a :: r) 0 = some a := atI_of (j := 0) rfl rfl
@[simp] theorem at1 {α : Type} (a b : α) (r : List α) : atI (a :: b :: r) 1 = some b := atI_of (j := 1) rfl rfl
@[simp] theorem at2 {α : Type} (a b c : α) (r : List α) : atI (a :: b :: c :: r) 2 = some c := atI_of (j := 2) rfl rfl
@[simp] theorem at3 {α : Type} (a b c d : α) (r : List α) : atI (a :: b :: c :: d :: r) 3 = some d := atI_of (j := 3) rfl rfl
@[simp] theorem at4 {α : Type} (a b c d e : α) (r : List α) : atI (a :: b :: c :: d :: e :: r) 4 = some e := atI_of (j := 4) rfl rfl
@[simp] theorem at5 {α : Type} (a b c d e f : α) (r : List α) : atI (a :: b :: c :: d :: e :: f :: r) 5 = some f := atI_of (j := 5) rfl rfl
@[simp] theorem at6 {α : Type} (a b c d e f g : α) (r : List α) : atI (a :: b :: c :: d :: e :: f :: g :: r) 6 = some g := atI_of (j := 6) rfl rfl
@[simp] theorem at7 {α : Type} (a b c d e f g h : α) (r : List α) : atI (a :: b :: c :: d :: e :: f :: g :: h :: r) 7 = some h := atI_of (j := 7) rfl rfl
/-! ### builtins -/
noncomputable def lenD : List D → Option D
  | [.list xs] => some (.int xs.length)
  | [.tuple xs] => some (.int xs.length)
  | _ => none
@[simp] theorem lenD_list (xs : List D) : lenD [.list xs] = some (.int xs.length) := rfl
@[simp] theorem lenD_tuple (xs : List D) : lenD [.tuple xs] = some (.int xs.length) := rfl
noncomputable def minD : List D → Option D
  | [.int i, .int j] => some (.int (if j < i then j else i))
  | _ => none
noncomputable def maxD : List D → Option D
  | [.int i, .int j] => some (.int (if j > i then j else i))
  | _ => none
@[simp] theorem minD_int (i j : Int) : minD [.int i, .int j] = some (.int (if j < i then j else i)) := rfl
@[simp] theorem maxD_int (i j : Int) : maxD [.int i, .int j] = some (.int (if j > i then j else i)) := rfl
noncomputable def intD : List D → Option D
  | [.int i] => some (.int i)
  | [.bool b] => some (.int (if b then 1 else 0))
  | _ => none
@[simp] theorem intD_int (i : Int) : intD [.int i] = some (.int i) := rfl
@[simp] theorem intD_bool (b : Bool) : intD [.bool b] = some (.int (if b then 1 else 0)) := rfl
noncomputable def listD : List D → Option D
  | [.list xs] => some (.list xs)
  | [.tuple xs] => some (.list xs)
  | _ => none
@[simp] theorem listD_list (xs : List D) : listD [.list xs] = some (.list xs) := rfl
@[simp] theorem listD_tuple (xs : List D) : listD [.tuple xs] = some (.list xs) := rfl
noncomputable def tupleD : List D → Option D
  | [.list xs] => some (.tuple xs)
  | [.tuple xs] => some (.tuple xs)
  | _ => none
@[simp] theorem tupleD_list (xs : List D) : tupleD [.list xs] = some (.tuple xs) := rfl
@[simp] theorem tupleD_tuple (xs : List D) : tupleD [.tuple xs] = some (.tuple xs) := rfl
noncomputable def bitsD : D → Option D
  | .int i => some (.int (Builtin.Int.intBits i))
  | _ => none
@[simp] theorem bitsD_int (i : Int) : bitsD (.int i) = some (.int (Builtin.Int.intBits i)) := rfl
noncomputable def tyN : D → String
  | .none => "NoneType"
  | .bool _ => "bool"
  | .int _ => "int"
  | .str _ => "str"
  | .list _ => "list"
  | .tuple _ => "tuple"
  | .dict _ => "dict"
noncomputable def isiB (t T : String) : Bool := t == T || (t == "bool" && T == "int")
noncomputable def isDct : D → Bool
  | .dict _ => true
  | _ => false
noncomputable def isiD (T : String) (d : D) : Option D := if isDct d = true then none else if T = "int" ∨ T = "bool" ∨ T = "str" ∨ T = "list" ∨ T = "tuple" then some (.bool (isiB (tyN d) T)) else none
@[simp] theorem isi_int_int (i : Int) : isiD "int" (.int i) = some (.bool true) := rfl
@[simp] theorem isi_bool_int (i : Int) : isiD "bool" (.int i) = some (.bool false) := rfl
@[simp] theorem isi_int_bool (i : Bool) : isiD "int" (.bool i) = some (.bool true) := rfl
@[simp] theorem isi_bool_bool (i : Bool) : isiD "bool" (.bool i) = some (.bool true) := rfl
@[simp] theorem isi_tuple_tuple (xs : List D) : isiD "tuple" (.tuple xs) = some (.bool true) := rfl
@[simp] theorem isi_list_list (xs : List D) : isiD "list" (.list xs) = some (.bool true) := rfl
/-! ### statements -/
@[simp] noncomputable def sRet (f : Dv → Option D) : Sf := fun δ => (f δ).bind fun d => some (.rt d, δ)
@[simp] noncomputable def sSet (i : Nat) (f : Dv → Option D) : Sf := fun δ => (f δ).bind fun d => some (.nx, δ.set i (.fz d))
@[simp] noncomputable def sDrop (f : Dv → Option D) : Sf := fun δ => (f δ).bind fun _ => some (.nx, δ)
@[simp] noncomputable def sNx : Sf := fun δ => some (.nx, δ)
@[simp] noncomputable def sBk : Sf := fun δ => some (.bk, δ)
@[simp] noncomputable def sCt : Sf := fun δ => some (.ct, δ)
@[simp] noncomputable def sSeq (s t : Sf) : Sf := fun δ => (s δ).bind fun r => match r with
  | (.nx, δ') => t δ'
  | r => some r
@[simp] noncomputable def sIf (t : Dv → Option Bool) (u w : Sf) : Sf := fun δ => (t δ).bind fun c => if c = true then u δ else w δ
noncomputable def dFz (i : Nat) (δ : Dv) : Dv := match δ[i]? with
  | some (.ow ds) => δ.set i (.fz (.list ds))
  | _ => δ
@[simp] noncomputable def gN (i : Nat) : D → Dv → Option Dv := fun d δ => some (δ.set i (.fz d))
noncomputable def loop (g : D → Dv → Option Dv) (b : Sf) : List D → Sf
  | [], δ => some (.nx, δ)
  | d :: ds, δ => (g d δ).bind fun δ1 => (b δ1).bind fun r => match r with
    | (.nx, δ2) => loop g b ds δ2
    | (.ct, δ2) => loop g b ds δ2
    | (.bk, δ2) => some (.nx, δ2)
    | (.rt x, δ2) => some (.rt x, δ2)
@[simp] theorem loop_nil (g : D → Dv → Option Dv) (b : Sf) (δ : Dv) : loop g b [] δ = some (.nx, δ) := rfl
@[simp] noncomputable def sFor (f : Dv → Option (List D)) (g : D → Dv → Option Dv) (b : Sf) : Sf := fun δ => (f δ).bind fun ds => loop g b ds δ
noncomputable def rngL (lo : Int) (n : Nat) : List D := (List.range n).map fun k => .int (lo + (k : Nat))
noncomputable def rng1D : List D → Option (List D)
  | [.int j] => if j < 2 ^ 62 ∧ -(2 ^ 62) ≤ j then some (rngL 0 j.toNat) else none
  | _ => none
theorem rng1D_int {j : Int} (h : j < 4611686018427387904) (h2 : -4611686018427387904 ≤ j) : rng1D [.int j] = some (rngL 0 j.toNat) := if_pos ⟨h, h2⟩
@[simp] noncomputable def oL (fs : Dv → Option (List D)) (g : List D → Option (List D)) : Dv → Option (List D) := fun δ => (fs δ).bind g
noncomputable def itsD : D → Option (List D)
  | .list xs => some xs
  | .tuple xs => some xs
  | _ => none
@[simp] theorem itsD_list (xs : List D) : itsD (.list xs) = some xs := rfl
@[simp] theorem itsD_tuple (xs : List D) : itsD (.tuple xs) = some xs := rfl
noncomputable def lstI : D → Option (List D)
  | .list xs => some xs
  | _ => none
noncomputable def tupI : D → Option (List D)
  | .tuple xs => some xs
  | _ => none
@[simp] noncomputable def oI (f : Dv → Option D) (g : D → Option (List D)) : Dv → Option (List D) := fun δ => (f δ).bind g
@[simp] noncomputable def oNo : Dv → Option (Option Int) := fun _ => some none
noncomputable def asI : D → Option (Option Int)
  | .int i => some (some i)
  | _ => none
@[simp] theorem asI_int (i : Int) : asI (.int i) = some (some i) := rfl
@[simp] noncomputable def oP (f : Dv → Option D) : Dv → Option (Option Int) := fun δ => (f δ).bind asI
noncomputable def cutD (xs : List D) (lo hi : Option Int) : List D := (xs.drop (HT.sIx xs.length 0 lo)).take (HT.sIx xs.length xs.length hi - HT.sIx xs.length 0 lo)
noncomputable def slD : D → Option Int → Option Int → Option D
  | .list xs, lo, hi => some (.list (cutD xs lo hi))
  | .tuple xs, lo, hi => some (.tuple (cutD xs lo hi))
  | _, _, _ => none
@[simp] noncomputable def oSl (f : Dv → Option D) (l u : Dv → Option (Option Int)) : Dv → Option D := fun δ => (f δ).bind fun x => (l δ).bind fun i => (u δ).bind fun j => slD x i j
noncomputable def startD (N : List Str) (as : List D) : Dv := as.map .fz ++ List.replicate (N.length - as.length) .un
noncomputable def runB (N : List Str) (n : Nat) (b : Sf) : List D → Option D := fun as => if as.length = n then (b (startD N as)).bind fun r => match r with
    | (.rt d, _) => some d
    | (.nx, _) => some .none
    | _ => none
  else none
end VL

set_option Elab.async false
set_option linter.all false
set_option maxRecDepth 100000
set_option maxHeartbeats 4000000
/-! Values as plain data over the hand layer: what an expression, a statement, a def is worth, as a partial function over plain data. -/
namespace VL
open PySem PySem.Spec PyProof.Rows L2

noncomputable abbrev Fg := PySem.W.Frag
noncomputable abbrev St := L2.St

/-- things that are no plain data: an exception of a class of the text, a def of the text -/
noncomputable def exO (a C : Addr) : HO := .ext fun h => ∃ o, h.get? a = some o ∧ o.cls = .ref C
inductive Opq (K : Fg) (Z : Hp) (a : Addr) : List (D × D) → Prop
  | exc {n : Str} {C : Addr} : PySem.W.nsIn K mainGlobals n = some (some (.ref C)) → Z a = some (exO a C) → Opq K Z a [(.str "exc", .str n)]
  | fn {n : Str} : PySem.W.nsIn K mainGlobals n = some (some (.ref a)) → Opq K Z a [(.str "fn", .str n)]
theorem Opq.same {K : Fg} {Z Z' : Hp} {a : Addr} {kvs : List (D × D)} (s : Same Z Z') (h : Opq K Z a kvs) : Opq K Z' a kvs := by
  cases h with
  | exc h1 h2 => exact .exc h1 (s _ _ h2)
  | fn h1 => exact .fn h1
mutual
inductive Rep (K : Fg) (Z : Hp) : V → D → Prop
  | non : Rep K Z .non .none
  | bl (b : Bool) : Rep K Z (.bl b) (.bool b)
  | int (i : Int) : Rep K Z (.int i) (.int i)
  | str (x : Str) : Rep K Z (.str x) (.str x)
  | tup {a : Addr} {xs : List V} {ds : List D} : SqT K Z a xs → Reps K Z xs ds → Rep K Z (.ref a) (.tuple ds)
  | lst {a : Addr} {xs : List V} {ds : List D} : SqL K Z a xs → Reps K Z xs ds → Rep K Z (.ref a) (.list ds)
  | opq {a : Addr} {kvs : List (D × D)} : Opq K Z a kvs → Rep K Z (.ref a) (.dict kvs)
inductive Reps (K : Fg) (Z : Hp) : List V → List D → Prop
  | nil : Reps K Z [] []
  | cons {v : V} {d : D} {vs : List V} {ds : List D} : Rep K Z v d → Reps K Z vs ds → Reps K Z (v :: vs) (d :: ds)
end

theorem Rd.same {H H' : Hp} {a : Addr} {u : HO} (h : Rd H a u) (s : Same H H') : Rd H' a u := by
  rcases h with h | ⟨o, h⟩
  · exact .inl (s _ _ h)
  · exact .inr ⟨o, s _ _ h⟩
theorem SqT.same {K : Fg} {H H' : Hp} {a : Addr} {xs : List V} (h : SqT K H a xs) (s : Same H H') : SqT K H' a xs := by
  rcases h with h | h
  · exact .inl (Rd.same h s)
  · exact .inr h
theorem SqL.same {K : Fg} {H H' : Hp} {a : Addr} {xs : List V} (h : SqL K H a xs) (s : Same H H') : SqL K H' a xs := by
  rcases h with h | h
  · exact .inl (Rd.same h s)
  · exact .inr h
mutual
theorem Rep.same {K : Fg} {Z Z' : Hp} (s : Same Z Z') : ∀ {v : V} {d : D}, Rep K Z v d → Rep K Z' v d
  | _, _, .non => .non
  | _, _, .bl b => .bl b
  | _, _, .int i => .int i
  | _, _, .str x => .str x
  | _, _, .tup h r => .tup (SqT.same h s) (Reps.same s r)
  | _, _, .lst h r => .lst (SqL.same h s) (Reps.same s r)
  | _, _, .opq h => .opq (Opq.same s h)
theorem Reps.same {K : Fg} {Z Z' : Hp} (s : Same Z Z') : ∀ {vs : List V} {ds : List D}, Reps K Z vs ds → Reps K Z' vs ds
  | _, _, .nil => .nil
  | _, _, .cons h r => .cons (Rep.same s h) (Reps.same s r)
end
theorem Reps.length {K : Fg} {Z : Hp} : ∀ {vs : List V} {ds : List D}, Reps K Z vs ds → vs.length = ds.length
  | _, _, .nil => rfl
  | _, _, .cons _ r => congrArg (· + 1) (Reps.length r)
theorem Reps.get {K : Fg} {Z : Hp} : ∀ {vs : List V} {ds : List D} {i : Nat} {d : D}, Reps K Z vs ds → ds[i]? = some d → ∃ v, vs[i]? = some v ∧ Rep K Z v d
  | _, _, _, _, .nil, e => by simp at e
  | _, _, 0, _, .cons r _, e => by simp at e; subst e; exact ⟨_, rfl, r⟩
  | _, _, i + 1, d, .cons _ t, e => by
    obtain ⟨u, h1, h2⟩ := Reps.get (i := i) (d := d) t (by simpa using e)
    exact ⟨u, by simpa using h1, h2⟩
theorem Reps.set {K : Fg} {Z : Hp} {x : V} {u : D} (r : Rep K Z x u) : ∀ {xs : List V} {us : List D} (i : Nat), Reps K Z xs us → Reps K Z (xs.set i x) (us.set i u)
  | _, _, _, .nil => .nil
  | _, _, 0, .cons _ t => .cons r t
  | _, _, i + 1, .cons q t => .cons q (Reps.set r i t)
theorem Reps.append {K : Fg} {Z : Hp} : ∀ {xs ys : List V} {us ws : List D}, Reps K Z xs us → Reps K Z ys ws → Reps K Z (xs ++ ys) (us ++ ws)
  | _, _, _, _, .nil, s => s
  | _, _, _, _, .cons r t, s => .cons r (Reps.append t s)
theorem Reps.take {K : Fg} {Z : Hp} : ∀ {xs : List V} {us : List D} (n : Nat), Reps K Z xs us → Reps K Z (xs.take n) (us.take n)
  | _, _, 0, _ => .nil
  | _, _, _ + 1, .nil => .nil
  | _, _, n + 1, .cons r t => .cons r (Reps.take n t)
theorem Reps.drop {K : Fg} {Z : Hp} : ∀ {xs : List V} {us : List D} (n : Nat), Reps K Z xs us → Reps K Z (xs.drop n) (us.drop n)
  | _, _, 0, r => r
  | _, _, _ + 1, .nil => .nil
  | _, _, n + 1, .cons _ t => Reps.drop n t
theorem Rep.int_eq {K : Fg} {Z : Hp} {v : V} {i : Int} (h : Rep K Z v (.int i)) : v = .int i := by cases h; rfl
theorem Rep.bl_eq {K : Fg} {Z : Hp} {v : V} {b : Bool} (h : Rep K Z v (.bool b)) : v = .bl b := by cases h; rfl
theorem Reps.ints {K : Fg} {Z : Hp} : ∀ ns : List Int, Reps K Z (ns.map V.int) (ns.map PyData.int)
  | [] => .nil
  | n :: r => .cons (.int n) (Reps.ints r)

/-! ### from the abstract heap to the heap -/
mutual
theorem Rep.reads {X : Cx} {pins : List (Addr × Obj)} {σ : St} {H Z : Hp} {s : Shared} (I : Inv X pins σ H s) (zh : Same Z H) : ∀ {v : V} {d : D} {u : Value}, Rep X.K Z v d → RelV v u → d.canLay0 = true → ∃ as, Reads s.heap u d as
  | _, _, u, .non, r, _ => by cases (show u = Value.none from r); exact ⟨_, .none⟩
  | _, _, u, .bl b, r, _ => by cases (show u = Value.bool b from r); exact ⟨_, .bool b⟩
  | _, _, u, .int i, r, _ => by obtain ⟨t, rfl⟩ := (show ∃ t, u = Value.int i t from r); exact ⟨_, .int i t⟩
  | _, _, u, .str x, r, _ => by obtain ⟨t, rfl⟩ := (show ∃ t, u = Value.str x t from r); exact ⟨_, .str x t⟩
  | _, _, u, .tup (a := a) h q, r, hc => by
    cases (show u = Value.ref a from r)
    obtain ⟨its, rv, ht, _⟩ := I.tuple (SqT.same h zh)
    obtain ⟨as, ra⟩ := Reps.reads I zh q rv hc
    obtain ⟨o, e, c, n, dd⟩ := ht
    exact ⟨_, reads_tuple_at e c dd (by simpa using ra)⟩
  | _, _, u, .lst (a := a) h q, r, hc => by
    cases (show u = Value.ref a from r)
    obtain ⟨its, rv, ht, _⟩ := I.list (SqL.same h zh)
    obtain ⟨as, ra⟩ := Reps.reads I zh q rv hc
    obtain ⟨o, n, e, c, _, dd⟩ := ht
    exact ⟨_, reads_list_at e c dd (by simpa using ra)⟩
  | _, _, u, .opq h, r, hc => by cases hc
theorem Reps.reads {X : Cx} {pins : List (Addr × Obj)} {σ : St} {H Z : Hp} {s : Shared} (I : Inv X pins σ H s) (zh : Same Z H) : ∀ {vs : List V} {ds : List D} {us : List Value}, Reps X.K Z vs ds → Vals vs us → PyData.canLayAll0 ds = true → ∃ as, ReadsAll s.heap us ds as
  | _, _, _, .nil, .nil, _ => ⟨_, .nil⟩
  | _, _, _, .cons h q, .cons r t, hc => by
    have hc' := Bool.and_eq_true_iff.mp hc
    obtain ⟨as, ha⟩ := Rep.reads I zh h r hc'.1
    obtain ⟨bs, hb⟩ := Reps.reads I zh q t hc'.2
    exact ⟨_, .cons ha hb⟩
end

/-! ### what is new -/
structure New (Z H Z' H' : Hp) : Prop where
  z : Same Z Z'
  h : Same H H'
  zh : Same Z' H'
  o : ∀ b, H b ≠ none → Z' b = Z b
theorem New.refl {Z H : Hp} (zh : Same Z H) : New Z H Z H := ⟨Same.refl _, Same.refl _, zh, fun _ _ => rfl⟩
theorem New.trans {Z H Z1 H1 Z2 H2 : Hp} (a : New Z H Z1 H1) (b : New Z1 H1 Z2 H2) : New Z H Z2 H2 :=
  ⟨a.z.trans b.z, a.h.trans b.h, b.zh, fun c hc => by
    have : H1 c ≠ none := by
      cases e : H c with
      | none => exact absurd e hc
      | some o => rw [a.h c o e]; intro z; cases z
    rw [b.o c this, a.o c hc]⟩
theorem same_upd {H : Hp} {p : Addr} {o : HO} (h : H p = none) : Same H (upd H p o) := fun b u e => by
  rw [upd_ne (ne_of_none e h)]; exact e
theorem free_of {Z H : Hp} (zh : Same Z H) {p : Addr} (h : H p = none) : Z p = none := by
  cases e : Z p with
  | none => rfl
  | some o => rw [zh p o e] at h; cases h
/-- a new object, known for good -/
theorem New.add {Z H : Hp} (zh : Same Z H) {p : Addr} (hp : H p = none) (o : HO) : New Z H (upd Z p o) (upd H p o) where
  z := same_upd (free_of zh hp)
  h := same_upd hp
  zh := fun b u e => by
    by_cases hb : b = p
    · subst hb; rw [upd_same] at e ⊢; exact e
    · rw [upd_ne hb] at e ⊢; exact zh b u e
  o := fun b hb => by
    have : b ≠ p := fun z => hb (z ▸ hp)
    rw [upd_ne this]

/-! ### slots -/

structure Hold (K : Fg) (H₀ Z₀ Z : Hp) (δ : Dv) (σ : St) (H : Hp) : Prop where
  zh : Same Z H
  h0 : Same H₀ H
  z0 : Same Z₀ Z
  zb : ∀ b, H₀ b ≠ none → Z b = Z₀ b
  len : δ.length = σ.length
  fz : ∀ (i : Nat) d, δ[i]? = some (.fz d) → ∃ v, σ[i]? = some (some v) ∧ Rep K Z v d
  ow : ∀ (i : Nat) ds, δ[i]? = some (.ow ds) → ∃ a xs, σ[i]? = some (some (.ref a)) ∧ H₀ a = none ∧ Z a = none ∧ H a = some (.lst xs) ∧ Reps K Z xs ds
  dj : ∀ (i j : Nat) ds es a, i ≠ j → δ[i]? = some (.ow ds) → δ[j]? = some (.ow es) → σ[i]? = some (some (.ref a)) → σ[j]? ≠ some (some (V.ref a))
section
variable {K : Fg} {H₀ Z₀ Z Z' H H' : Hp} {δ : Dv} {σ : St}
theorem Hold.new (h : Hold K H₀ Z₀ Z δ σ H) (n : New Z H Z' H') : Hold K H₀ Z₀ Z' δ σ H' where
  zh := n.zh
  h0 := h.h0.trans n.h
  z0 := h.z0.trans n.z
  zb := fun b hb => by
    have : H b ≠ none := by
      cases e : H₀ b with
      | none => exact absurd e hb
      | some o => rw [h.h0 b o e]; intro z; cases z
    rw [n.o b this, h.zb b hb]
  len := h.len
  fz := fun i d e => let ⟨v, a, r⟩ := h.fz i d e; ⟨v, a, r.same n.z⟩
  ow := fun i ds e => by
    obtain ⟨a, xs, h1, h2, h3, h4, h5⟩ := h.ow i ds e
    exact ⟨a, xs, h1, h2, by rw [n.o a (by rw [h4]; intro z; cases z)]; exact h3, n.h a _ h4, h5.same n.z⟩
  dj := h.dj
/-- a name is given a known value -/
theorem Hold.set (h : Hold K H₀ Z₀ Z δ σ H) {i : Nat} {v : V} {d : D} (r : Rep K Z v d) : Hold K H₀ Z₀ Z (δ.set i (.fz d)) (σ.set i (some v)) H where
  zh := h.zh
  h0 := h.h0
  z0 := h.z0
  zb := h.zb
  len := by simp [h.len]
  fz := fun j e q => by
    by_cases hj : i = j
    · subst hj
      have hl : i < δ.length := by
        have := (List.getElem?_eq_some_iff.mp q).1
        simpa using this
      rw [List.getElem?_set_self hl] at q
      cases q
      exact ⟨v, List.getElem?_set_self (by rw [← h.len]; exact hl), r⟩
    · rw [List.getElem?_set_ne hj] at q
      obtain ⟨u, a, b⟩ := h.fz j e q
      exact ⟨u, by rw [List.getElem?_set_ne hj]; exact a, b⟩
  ow := fun j es q => by
    by_cases hj : i = j
    · subst hj
      have hl : i < δ.length := by
        have := (List.getElem?_eq_some_iff.mp q).1
        simpa using this
      rw [List.getElem?_set_self hl] at q
      cases q
    · rw [List.getElem?_set_ne hj] at q ⊢
      exact h.ow j es q
  dj := fun j k ds es a hjk q1 q2 => by
    by_cases hj : i = j
    · subst hj
      have hl : i < δ.length := by
        have := (List.getElem?_eq_some_iff.mp q1).1
        simpa using this
      rw [List.getElem?_set_self hl] at q1
      cases q1
    · by_cases hk : i = k
      · subst hk
        have hl : i < δ.length := by
          have := (List.getElem?_eq_some_iff.mp q2).1
          simpa using this
        rw [List.getElem?_set_self hl] at q2
        cases q2
      · rw [List.getElem?_set_ne hj] at q1
        rw [List.getElem?_set_ne hk] at q2
        rw [List.getElem?_set_ne hj, List.getElem?_set_ne hk]
        exact h.dj j k ds es a hjk q1 q2
/-- a name is given a new list of its own -/
theorem Hold.setO (h : Hold K H₀ Z₀ Z δ σ H) {i : Nat} {p : Addr} {xs : List V} {ds : List D} (hp : H p = none) (r : Reps K Z xs ds) : Hold K H₀ Z₀ Z (δ.set i (.ow ds)) (σ.set i (some (.ref p))) (upd H p (.lst xs)) where
  zh := h.zh.trans (same_upd hp)
  h0 := h.h0.trans (same_upd hp)
  z0 := h.z0
  zb := h.zb
  len := by simp [h.len]
  fz := fun j e q => by
    by_cases hj : i = j
    · subst hj
      have hl : i < δ.length := by
        have := (List.getElem?_eq_some_iff.mp q).1
        simpa using this
      rw [List.getElem?_set_self hl] at q
      cases q
    · rw [List.getElem?_set_ne hj] at q
      obtain ⟨u, a, b⟩ := h.fz j e q
      exact ⟨u, by rw [List.getElem?_set_ne hj]; exact a, b⟩
  ow := fun j es q => by
    by_cases hj : i = j
    · subst hj
      have hl : i < δ.length := by
        have := (List.getElem?_eq_some_iff.mp q).1
        simpa using this
      rw [List.getElem?_set_self hl] at q
      cases q
      exact ⟨p, xs, List.getElem?_set_self (by rw [← h.len]; exact hl), free_of h.h0 hp, free_of h.zh hp, upd_same, r⟩
    · rw [List.getElem?_set_ne hj] at q ⊢
      obtain ⟨a, ys, h1, h2, h3, h4, h5⟩ := h.ow j es q
      exact ⟨a, ys, h1, h2, h3, by rw [upd_ne (ne_of_none h4 hp)]; exact h4, h5⟩
  dj := fun j k ds es a hjk q1 q2 => by
    have old : ∀ {m : Nat} {fs : List D}, δ[m]? = some (.ow fs) → σ[m]? ≠ some (some (V.ref p)) := fun {m fs} q z => by
      obtain ⟨b, ys, h1, h2, h3, h4, h5⟩ := h.ow m fs q
      rw [h1] at z
      cases z
      rw [hp] at h4
      cases h4
    have hl : ∀ {m : Nat} {x : Sl}, (δ.set i x)[m]? ≠ none → m < σ.length := fun {m x} q => by
      have : m < (δ.set i x).length := by
        rcases Nat.lt_or_ge m (δ.set i x).length with g | g
        · exact g
        · exact absurd (List.getElem?_eq_none_iff.mpr g) q
      rw [← h.len]; simpa using this
    by_cases hj : i = j
    · subst hj
      have h1 : i < σ.length := hl (by rw [q1]; intro z; cases z)
      rw [List.getElem?_set_self h1]
      intro e
      cases e
      rw [List.getElem?_set_ne hjk] at q2 ⊢
      exact old q2
    · rw [List.getElem?_set_ne hj] at q1 ⊢
      by_cases hk : i = k
      · subst hk
        have h1 : i < σ.length := hl (by rw [q2]; intro z; cases z)
        intro e z
        rw [List.getElem?_set_self h1] at z
        cases z
        exact old q1 e
      · rw [List.getElem?_set_ne hk] at q2 ⊢
        exact h.dj j k ds es a hjk q1 q2
/-- a list of one's own is changed -/
theorem Hold.chg (h : Hold K H₀ Z₀ Z δ σ H) {i : Nat} {p : Addr} {xs ys : List V} {ds es : List D} (e : δ[i]? = some (.ow ds)) (ep : σ[i]? = some (some (.ref p))) (r : Reps K Z ys es) : Hold K H₀ Z₀ Z (δ.set i (.ow es)) σ (upd H p (.lst ys)) := by
  obtain ⟨a, zs, h1, h2, h3, h4, h5⟩ := h.ow i ds e
  rw [ep] at h1
  cases h1
  have hl : i < δ.length := (List.getElem?_eq_some_iff.mp e).1
  refine ⟨fun b o q => ?_, fun b o q => ?_, h.z0, h.zb, by simp [h.len], fun j d q => ?_, fun j d q => ?_, fun j k d1 d2 a hjk q1 q2 => ?_⟩
  · rw [upd_ne (ne_of_none q h3)]; exact h.zh b o q
  · rw [upd_ne (ne_of_none q h2)]; exact h.h0 b o q
  · by_cases hj : i = j
    · subst hj
      rw [List.getElem?_set_self hl] at q
      cases q
    · rw [List.getElem?_set_ne hj] at q
      exact h.fz j d q
  · by_cases hj : i = j
    · subst hj
      rw [List.getElem?_set_self hl] at q
      cases q
      exact ⟨p, ys, ep, h2, h3, upd_same, r⟩
    · rw [List.getElem?_set_ne hj] at q
      obtain ⟨b, ws, g1, g2, g3, g4, g5⟩ := h.ow j d q
      refine ⟨b, ws, g1, g2, g3, ?_, g5⟩
      have : b ≠ p := fun z => by subst z; exact h.dj i j ds d b hj e q ep g1
      rw [upd_ne this]; exact g4
  · have f : ∀ {m : Nat} {dm : List D}, (δ.set i (.ow es))[m]? = some (.ow dm) → ∃ dm', δ[m]? = some (.ow dm') := fun {m dm} q => by
      by_cases hm : i = m
      · subst hm; exact ⟨ds, e⟩
      · rw [List.getElem?_set_ne hm] at q; exact ⟨dm, q⟩
    obtain ⟨e1, g1⟩ := f q1
    obtain ⟨e2, g2⟩ := f q2
    exact h.dj j k e1 e2 a hjk g1 g2
/-- a list of one's own is known for good -/
theorem Hold.frz (h : Hold K H₀ Z₀ Z δ σ H) {i : Nat} {ds : List D} (e : δ[i]? = some (.ow ds)) : ∃ Z', Same Z Z' ∧ Hold K H₀ Z₀ Z' (δ.set i (.fz (.list ds))) σ H := by
  obtain ⟨a, xs, h1, h2, h3, h4, h5⟩ := h.ow i ds e
  have hl : i < δ.length := (List.getElem?_eq_some_iff.mp e).1
  have sz : Same Z (upd Z a (.lst xs)) := same_upd h3
  refine ⟨upd Z a (.lst xs), sz, fun b o q => ?_, h.h0, h.z0.trans sz, fun b hb => ?_, by simp [h.len], fun j d q => ?_, fun j d q => ?_, fun j k d1 d2 b hjk q1 q2 => ?_⟩
  · by_cases hb : b = a
    · subst hb; rw [upd_same] at q; cases q; exact h4
    · rw [upd_ne hb] at q; exact h.zh b o q
  · rw [upd_ne (fun z => hb (by rw [z]; exact h2))]; exact h.zb b hb
  · by_cases hj : i = j
    · subst hj
      rw [List.getElem?_set_self hl] at q
      cases q
      exact ⟨.ref a, h1, .lst (SqL.of upd_same) (h5.same sz)⟩
    · rw [List.getElem?_set_ne hj] at q
      obtain ⟨v, g1, g2⟩ := h.fz j d q
      exact ⟨v, g1, g2.same sz⟩
  · by_cases hj : i = j
    · subst hj
      rw [List.getElem?_set_self hl] at q
      cases q
    · rw [List.getElem?_set_ne hj] at q
      obtain ⟨b, ws, g1, g2, g3, g4, g5⟩ := h.ow j d q
      have : b ≠ a := fun z => by subst z; exact h.dj i j ds d b hj e q h1 g1
      exact ⟨b, ws, g1, g2, by rw [upd_ne this]; exact g3, g4, g5.same sz⟩
  · by_cases hj : i = j
    · subst hj
      rw [List.getElem?_set_self hl] at q1
      cases q1
    · by_cases hk : i = k
      · subst hk
        rw [List.getElem?_set_self hl] at q2
        cases q2
      · rw [List.getElem?_set_ne hj] at q1
        rw [List.getElem?_set_ne hk] at q2
        exact h.dj j k d1 d2 b hjk q1 q2
end

/-! ### readings by plain functions -/
noncomputable def tV (K : Fg) (f : Dv → Option D) : TE := fun σ H Q => ∃ H₀ Z₀ Z δ d, Hold K H₀ Z₀ Z δ σ H ∧ f δ = some d ∧ ∀ v Z' H', Hold K H₀ Z₀ Z' δ σ H' → Same Z Z' → Rep K Z' v d → Q v H'
noncomputable def tVT (K : Fg) (f : Dv → Option Bool) : TT := fun σ H Q => ∃ H₀ Z₀ Z δ b, Hold K H₀ Z₀ Z δ σ H ∧ f δ = some b ∧ ∀ Z' H', Hold K H₀ Z₀ Z' δ σ H' → Same Z Z' → Q b H'
noncomputable def tVA (K : Fg) (f : Dv → Option (List D)) : TA := fun σ H Q => ∃ H₀ Z₀ Z δ ds, Hold K H₀ Z₀ Z δ σ H ∧ f δ = some ds ∧ ∀ vs Z' H', Hold K H₀ Z₀ Z' δ σ H' → Same Z Z' → Reps K Z' vs ds → Q vs H'
noncomputable def Fl.to (K : Fg) (Z : Hp) (D : Ends) (σ : St) (H : Hp) : Fl → Prop
  | .nx => D.nx σ H
  | .bk => D.bk σ H
  | .ct => D.ct σ H
  | .rt d => ∀ v, Rep K Z v d → D.rt v H
noncomputable def tVS (K : Fg) (f : Dv → Option (Fl × Dv)) : TS := fun D σ H => ∃ H₀ Z₀ Z δ r, Hold K H₀ Z₀ Z δ σ H ∧ f δ = some r ∧ ∀ σ' H' Z', Hold K H₀ Z₀ Z' r.2 σ' H' → Same Z Z' → r.1.to K Z' D σ' H'
noncomputable def EV (X : Cx) (e : Expr) (f : Dv → Option D) : Prop := PE X e (tV X.K f)
noncomputable def TV (X : Cx) (e : Expr) (f : Dv → Option Bool) : Prop := PT X e (tVT X.K f)
noncomputable def AV (X : Cx) (es : List Expr) (f : Dv → Option (List D)) : Prop := PA X es (tVA X.K f)
noncomputable def SV (X : Cx) (st : Stmt) (f : Dv → Option (Fl × Dv)) : Prop := PS X st (tVS X.K f)
noncomputable def BV (X : Cx) (st : List Stmt) (f : Dv → Option (Fl × Dv)) : Prop := PSs X st (tVS X.K f)

theorem PE.imp {X : Cx} {e : Expr} {t t' : TE} (h : PE X e t) (i : ∀ σ H Q, t' σ H Q → t σ H Q) : PE X e t' := fun pins s σ H Q I hw => h pins s σ H Q I (i _ _ _ hw)
theorem PT.imp {X : Cx} {e : Expr} {t t' : TT} (h : PT X e t) (i : ∀ σ H Q, t' σ H Q → t σ H Q) : PT X e t' := fun pins s σ H Q I hw => h pins s σ H Q I (i _ _ _ hw)
theorem PA.imp {X : Cx} {es : List Expr} {t t' : TA} (h : PA X es t) (i : ∀ σ H Q, t' σ H Q → t σ H Q) : PA X es t' := fun pos pins s σ H Q I hw => h pos pins s σ H Q I (i _ _ _ hw)
theorem PS.imp {X : Cx} {st : Stmt} {t t' : TS} (h : PS X st t) (i : ∀ D σ H, t' D σ H → t D σ H) : PS X st t' := fun pins s σ H D I hw => h pins s σ H D I (i _ _ _ hw)
theorem PSs.imp {X : Cx} {st : List Stmt} {t t' : TS} (h : PSs X st t) (i : ∀ D σ H, t' D σ H → t D σ H) : PSs X st t' := fun pins s σ H D I hw => h pins s σ H D I (i _ _ _ hw)
theorem OpR.imp {X : Cx} {f : Value → Value → Sem Value} {r r' : R2} (h : OpR X f r) (i : ∀ x y H Q, r' x y H Q → r x y H Q) : OpR X f r' := fun pins s σ H x y v u Q I rx ry q => h pins s σ H x y v u Q I rx ry (i _ _ _ _ q)
theorem CallR.imp {X : Cx} {f : Value} {r r' : List V → Hp → VK → Prop} (h : CallR X f r) (i : ∀ xs H Q, r' xs H Q → r xs H Q) : CallR X f r' := fun pins s σ H xs us Q I rx q => h pins s σ H xs us Q I rx (i _ _ _ q)

/-! ### operations on known values -/
noncomputable def rD (K : Fg) (g : D → D → Option D) : R2 := fun x y H Q => ∃ Z a b d, Same Z H ∧ Rep K Z x a ∧ Rep K Z y b ∧ g a b = some d ∧ ∀ v Z' H', New Z H Z' H' → Rep K Z' v d → Q v H'
noncomputable def rD1 (K : Fg) (g : D → Option D) : V → Hp → VK → Prop := fun x H Q => ∃ Z a d, Same Z H ∧ Rep K Z x a ∧ g a = some d ∧ ∀ v Z' H', New Z H Z' H' → Rep K Z' v d → Q v H'
noncomputable def rDs (K : Fg) (g : List D → Option D) : List V → Hp → VK → Prop := fun xs H Q => ∃ Z as d, Same Z H ∧ Reps K Z xs as ∧ g as = some d ∧ ∀ v Z' H', New Z H Z' H' → Rep K Z' v d → Q v H'
noncomputable def spD (K : Fg) (g : List D → Option D) : Sp := fun vs H Q _ => rDs K g vs H Q
section
variable {X : Cx} {a b c e : Expr} {es : List Expr} {pos p : Pos} {f f1 f2 f3 : Dv → Option D} {fs : Dv → Option (List D)} {ft fu : Dv → Option Bool}
theorem bind_some {α β : Type} {o : Option α} {k : α → Option β} {r : β} (h : o.bind k = some r) : ∃ a, o = some a ∧ k a = some r := by
  cases o with
  | none => cases h
  | some a => exact ⟨a, rfl, h⟩
/-- two in a row -/
theorem two {K : Fg} {g : D → D → Option D} {σ : St} {H : Hp} {Q : VK} {r : R2} (hr : ∀ x y H Q, rD K g x y H Q → r x y H Q) (h : tV K (o2 f1 f2 g) σ H Q) : tOp r (tV K f1) (tV K f2) σ H Q := by
  obtain ⟨H₀, Z₀, Z, δ, d, hh, e, k⟩ := h
  obtain ⟨x, e1, e⟩ := bind_some e
  obtain ⟨y, e2, e⟩ := bind_some e
  refine ⟨H₀, Z₀, Z, δ, x, hh, e1, fun v Z1 H1 hh1 s1 r1 => ⟨H₀, Z₀, Z1, δ, y, hh1, e2, fun u Z2 H2 hh2 s2 r2 => hr _ _ _ _ ⟨Z2, x, y, d, hh2.zh, r1.same s2, r2, e, fun w Z3 H3 n r3 => ?_⟩⟩⟩
  exact k w Z3 H3 (hh2.new n) ((s1.trans s2).trans n.z) r3
theorem ev_op {op : Operator} {g : D → D → Option D} (ho : OpR X (binaryOp op) (rD X.K g)) (ha : EV X a f1) (hb : EV X b f2) : EV X (.BinOp a op b pos) (o2 f1 f2 g) :=
  PE.imp (pe_op ho ha hb) fun _ _ _ h => two (fun _ _ _ _ q => q) h
theorem ev_un {op : UnaryOp} {g : D → Option D} (ho : UnR X (unaryOp op) (rD1 X.K g)) (ha : EV X a f) : EV X (.UnaryOp op a pos) (o1 f g) :=
  PE.imp (pe_un ho ha) fun σ H Q h => by
    obtain ⟨H₀, Z₀, Z, δ, d, hh, e, k⟩ := h
    obtain ⟨x, e1, e⟩ := bind_some e
    exact ⟨H₀, Z₀, Z, δ, x, hh, e1, fun v Z1 H1 hh1 s1 r1 => ⟨Z1, x, d, hh1.zh, r1, e, fun w Z3 H3 n r3 => k w Z3 H3 (hh1.new n) (s1.trans n.z) r3⟩⟩
theorem ev_cmp {op : CmpOp} {g : D → D → Option D} (ho : OpR X (compareOp op) (rD X.K g)) (ha : EV X a f1) (hb : EV X b f2) (hm : behindInMarks op b = false) : EV X (.Compare a [op] [b] pos) (o2 f1 f2 g) :=
  PE.imp (pe_cmpR ho ha hb hm) fun _ _ _ h => two (fun _ _ _ _ q => q) h
/-- a value's bool -/
theorem asB_eq {d : D} {b : Bool} (h : asB d = some b) : d = .bool b := by
  cases d <;> simp [asB] at h
  subst h; rfl
theorem toB {K : Fg} {σ : St} {H : Hp} {Q : Bool → Hp → Prop} (h : tVT K (ob f) σ H Q) : tV K f σ H fun x H1 => ∃ c, x = .bl c ∧ Q c H1 := by
  obtain ⟨H₀, Z₀, Z, δ, d, hh, e, k⟩ := h
  obtain ⟨x, e1, e⟩ := bind_some e
  have := asB_eq e
  subst this
  exact ⟨H₀, Z₀, Z, δ, _, hh, e1, fun v Z1 H1 hh1 s1 r1 => ⟨_, r1.bl_eq, k Z1 H1 hh1 s1⟩⟩
theorem tv_cmp {op : CmpOp} {g : D → D → Option D} (ho : OpR X (compareOp op) (rD X.K g)) (ha : EV X a f1) (hb : EV X b f2) (hm : behindInMarks op b = false) : TV X (.Compare a [op] [b] pos) (ob (o2 f1 f2 g)) :=
  PT.imp (pt_cmpR ho ha hb hm) fun σ H Q h => by
    have h' := toB h
    exact two (f1 := f1) (f2 := f2) (g := g) (fun _ _ _ _ q => q) h'
theorem tv_val (ha : EV X a f) (he : ∀ whole, isTrue a X.env whole = (do let v ← whole; standAt a.pos; holding [v] (truthy v)) := by intro _; rfl) : TV X a (ob f) :=
  PT.imp (pt_val ha he) fun _ _ _ h => toB h
noncomputable def WV (X : Cx) (e : Expr) (f : Dv → Option Bool) : Prop := PW X e (tVT X.K f)
theorem PW.imp {X : Cx} {e : Expr} {t t' : TT} (h : PW X e t) (i : ∀ σ H Q, t' σ H Q → t σ H Q) : PW X e t' := fun whole pins s σ H Q I hw => h whole pins s σ H Q I (i _ _ _ hw)
theorem wv_and1 (ha : TV X a ft) : WV X (.BoolOp .And [a] pos) ft := pw_and1 ha
theorem wv_or1 (ha : TV X a ft) : WV X (.BoolOp .Or [a] pos) ft := pw_or1 ha
theorem wv_and {rest : List Expr} (ha : TV X a ft) (hb : WV X (.BoolOp .And (b :: rest) pos) fu) : WV X (.BoolOp .And (a :: b :: rest) pos) (oAnd ft fu) :=
  PW.imp (pw_and ha hb) fun σ H Q h => by
    obtain ⟨H₀, Z₀, Z, δ, d, hh, e, k⟩ := h
    obtain ⟨x, e1, e⟩ := bind_some e
    refine ⟨H₀, Z₀, Z, δ, x, hh, e1, fun Z1 H1 hh1 s1 => ?_⟩
    cases x with
    | true => exact ⟨H₀, Z₀, Z1, δ, d, hh1, e, fun Z2 H2 hh2 s2 => k Z2 H2 hh2 (s1.trans s2)⟩
    | false => cases e; exact k Z1 H1 hh1 s1
theorem wv_or {rest : List Expr} (ha : TV X a ft) (hb : WV X (.BoolOp .Or (b :: rest) pos) fu) : WV X (.BoolOp .Or (a :: b :: rest) pos) (oOr ft fu) :=
  PW.imp (pw_or ha hb) fun σ H Q h => by
    obtain ⟨H₀, Z₀, Z, δ, d, hh, e, k⟩ := h
    obtain ⟨x, e1, e⟩ := bind_some e
    refine ⟨H₀, Z₀, Z, δ, x, hh, e1, fun Z1 H1 hh1 s1 => ?_⟩
    cases x with
    | true => cases e; exact k Z1 H1 hh1 s1
    | false => exact ⟨H₀, Z₀, Z1, δ, d, hh1, e, fun Z2 H2 hh2 s2 => k Z2 H2 hh2 (s1.trans s2)⟩
theorem WV.tv (h : WV X a ft) : TV X a ft := PW.pt h
theorem tv_not (ha : TV X a ft) : TV X (.UnaryOp .Not a pos) (oNot ft) :=
  PT.imp (pt_not ha) fun σ H Q h => by
    obtain ⟨H₀, Z₀, Z, δ, d, hh, e, k⟩ := h
    cases e1 : ft δ with
    | none => unfold oNot at e; rw [e1] at e; cases e
    | some x =>
      unfold oNot at e
      rw [e1] at e
      cases e
      exact ⟨H₀, Z₀, Z, δ, x, hh, e1, fun Z1 H1 hh1 s1 => k Z1 H1 hh1 s1⟩
/-- and, or, not as values (bools) -/
theorem ev_one {op} (h : EV X a f) : EV X (.BoolOp op [a] pos) f := pe_one h
theorem ev_and {rest : List Expr} (ha : EV X a f1) (hb : EV X (.BoolOp .And (b :: rest) pos) f2) : EV X (.BoolOp .And (a :: b :: rest) pos) (oAndV f1 f2) :=
  PE.imp (pe_and ha hb) fun σ H Q h => by
    obtain ⟨H₀, Z₀, Z, δ, d, hh, e, k⟩ := h
    obtain ⟨x, e1, e⟩ := bind_some e
    obtain ⟨c, e2, e⟩ := bind_some e
    have := asB_eq e2
    subst this
    refine ⟨H₀, Z₀, Z, δ, _, hh, e1, fun v Z1 H1 hh1 s1 r1 => ⟨c, r1.bl_eq, ?_⟩⟩
    cases c with
    | true => exact ⟨H₀, Z₀, Z1, δ, d, hh1, e, fun v Z2 H2 hh2 s2 r2 => k v Z2 H2 hh2 (s1.trans s2) r2⟩
    | false => cases e; exact k _ Z1 H1 hh1 s1 (.bl false)
theorem ev_ifx (hc : TV X c ft) (ha : EV X a f1) (hb : EV X b f2) : EV X (.IfExp c a b pos) (oIf ft f1 f2) :=
  PE.imp (pe_ifExp hc ha hb) fun σ H Q h => by
    obtain ⟨H₀, Z₀, Z, δ, d, hh, e, k⟩ := h
    obtain ⟨x, e1, e⟩ := bind_some e
    refine ⟨H₀, Z₀, Z, δ, x, hh, e1, fun Z1 H1 hh1 s1 => ?_⟩
    cases x with
    | true => exact ⟨H₀, Z₀, Z1, δ, d, hh1, e, fun v Z2 H2 hh2 s2 r2 => k v Z2 H2 hh2 (s1.trans s2) r2⟩
    | false => exact ⟨H₀, Z₀, Z1, δ, d, hh1, e, fun v Z2 H2 hh2 s2 r2 => k v Z2 H2 hh2 (s1.trans s2) r2⟩

/-! ### names, constants, argument lists, displays -/
theorem oV_eq {i : Nat} {δ : Dv} {d : D} (h : oV i δ = some d) : δ[i]? = some (.fz d) := by
  unfold oV at h
  cases q : δ[i]? with
  | none => rw [q] at h; cases h
  | some x =>
    rw [q] at h
    cases x with
    | fz e => cases h; rfl
    | un => cases h
    | ow _ => cases h
theorem ev_var (i : Nat) {x : Str} (hN : X.N[i]? = some x := by rfl) (hv : Vis X.env.scope x := by first | exact Or.inl rfl | exact Or.inr (Or.inl rfl) | exact Or.inr (Or.inr rfl)) (hd : (x == ("__debug__" : Str)) = false := by decide) (hcd : (x == ("__classdict__" : Str)) = false := by decide) :
    EV X (.Name x pos) (oV i) :=
  PE.imp (pe_var hN hv hd hcd) fun σ H Q h => by
    obtain ⟨H₀, Z₀, Z, δ, d, hh, e, k⟩ := h
    obtain ⟨v, q, r⟩ := hh.fz i d (oV_eq e)
    exact ⟨v, q, k v Z H hh (Same.refl _) r⟩
theorem ev_c {d : D} {v : V} (h : PE X e (tC v)) (r : ∀ Z, Rep X.K Z v d) : EV X e (oC d) :=
  PE.imp h fun σ H Q h => by
    obtain ⟨H₀, Z₀, Z, δ, d', hh, e, k⟩ := h
    cases e
    exact k v Z H hh (Same.refl _) (r Z)
theorem ev_int {i j} : EV X (.Constant (.int i) j pos) (oC (.int i)) := ev_c pe_int fun _ => .int i
theorem ev_bl {i j} : EV X (.Constant (.bool i) j pos) (oC (.bool i)) := ev_c pe_bl fun _ => .bl i
theorem ev_non {j} : EV X (.Constant .none j pos) (oC .none) := ev_c pe_non fun _ => .non
theorem ev_str {i j} : EV X (.Constant (.str i) j pos) (oC (.str i)) := ev_c pe_str fun _ => .str i
theorem av_nil : AV X [] oNil :=
  PA.imp pa_nil fun σ H Q h => by
    obtain ⟨H₀, Z₀, Z, δ, d, hh, e, k⟩ := h
    cases e
    exact k [] Z H hh (Same.refl _) .nil
theorem av_cons (ha : EV X e f) (hr : AV X es fs) (hs : starEach (e :: es) X.env = (false, eval e X.env) :: starEach es X.env := by rfl) : AV X (e :: es) (oCons f fs) :=
  PA.imp (pa_cons ha hr hs) fun σ H Q h => by
    obtain ⟨H₀, Z₀, Z, δ, d, hh, e, k⟩ := h
    obtain ⟨x, e1, e⟩ := bind_some e
    obtain ⟨xs, e2, e⟩ := bind_some e
    cases e
    exact ⟨H₀, Z₀, Z, δ, x, hh, e1, fun v Z1 H1 hh1 s1 r1 => ⟨H₀, Z₀, Z1, δ, xs, hh1, e2, fun vs Z2 H2 hh2 s2 r2 => k _ Z2 H2 hh2 (s1.trans s2) (.cons (r1.same s2) r2)⟩⟩
theorem ev_tup {x1} (h : AV X es fs) : EV X (.Tuple es x1 pos) (os fs tupD) :=
  PE.imp (pe_tup h) fun σ H Q h => by
    obtain ⟨H₀, Z₀, Z, δ, d, hh, e, k⟩ := h
    obtain ⟨xs, e1, e⟩ := bind_some e
    refine ⟨H₀, Z₀, Z, δ, xs, hh, e1, fun vs Z1 H1 hh1 s1 r1 => ?_⟩
    by_cases hl : xs.length ≤ sizeLine
    · rw [tupD, if_pos hl] at e
      cases e
      refine ⟨by rw [r1.length]; exact hl, fun p hp => ?_⟩
      have n := New.add hh1.zh hp (.tup vs)
      exact k _ _ _ (hh1.new n) (s1.trans n.z) (.tup (SqT.of upd_same) (r1.same n.z))
    · rw [tupD, if_neg hl] at e; cases e
theorem ev_lst (h : AV X es fs) : EV X (.List es pos) (os fs lstD) :=
  PE.imp (pe_lst h) fun σ H Q h => by
    obtain ⟨H₀, Z₀, Z, δ, d, hh, e, k⟩ := h
    obtain ⟨xs, e1, e⟩ := bind_some e
    refine ⟨H₀, Z₀, Z, δ, xs, hh, e1, fun vs Z1 H1 hh1 s1 r1 => ?_⟩
    by_cases hl : xs.length ≤ sizeLine
    · rw [lstD, if_pos hl] at e
      cases e
      refine ⟨by rw [r1.length]; exact hl, fun p hp => ?_⟩
      have n := New.add hh1.zh hp (.lst vs)
      exact k _ _ _ (hh1.new n) (s1.trans n.z) (.lst (SqL.of upd_same) (r1.same n.z))
    · rw [lstD, if_neg hl] at e; cases e
/-! ### calls -/
theorem args {K : Fg} {g : List D → Option D} {σ : St} {H : Hp} {Q : VK} (h : tV K (os fs g) σ H Q) : tVA K fs σ H fun vs H1 => rDs K g vs H1 Q := by
  obtain ⟨H₀, Z₀, Z, δ, d, hh, e, k⟩ := h
  obtain ⟨xs, e1, e⟩ := bind_some e
  exact ⟨H₀, Z₀, Z, δ, xs, hh, e1, fun vs Z1 H1 hh1 s1 r1 => ⟨Z1, xs, d, hh1.zh, r1, e, fun w Z3 H3 n r3 => k w Z3 H3 (hh1.new n) (s1.trans n.z) r3⟩⟩
theorem ev_callB {x : Str} {id : String} {g : List D → Option D} (hc : CallR X (.builtin id) (rDs X.K g)) (hg : Gl X x) (hm : X.mg x = none) (hv : bootBuiltins x = some (.builtin id)) (ha : AV X (e :: es) fs) (hn : x ≠ "__name__" := by decide) (hdb : (x == ("__debug__" : Str)) = false := by decide)
    (he : starEach (e :: es) X.env = (false, eval e X.env) :: starEach es X.env := by rfl) (hpl : (backTo pos (starEach es X.env)).any (·.1) = false := by rfl) : EV X (.Call (.Name x p) (e :: es) [] pos) (os fs g) :=
  PE.imp (pe_callB hc hg hm hv ha hn hdb he hpl) fun _ _ _ h => args h
theorem ev_callTy {x : Str} {id : String} {g : List D → Option D} (hc : CallR X (.type id) (rDs X.K g)) (hg : Gl X x) (hm : X.mg x = none) (hv : bootBuiltins x = some (.type id)) (ha : AV X (e :: es) fs) (hn : x ≠ "__name__" := by decide) (hdb : (x == ("__debug__" : Str)) = false := by decide)
    (he : starEach (e :: es) X.env = (false, eval e X.env) :: starEach es X.env := by rfl) (hpl : (backTo pos (starEach es X.env)).any (·.1) = false := by rfl) : EV X (.Call (.Name x p) (e :: es) [] pos) (os fs g) :=
  PE.imp (pe_callTy hc hg hm hv ha hn hdb he hpl) fun _ _ _ h => args h
/-- a def of the text: dd the defaults that fill up (plain) -/
theorem ev_call {k : Nat} {fa : Addr} {fd : FuncData} {ps : List Str} {x : Str} {g : List D → Option D} {dd : List D} {dv : List V} {ds : List Value} (F : FnOk X.prog X.w X.K X.mg X.base CX0 k fa fd ps (spD X.K g)) (hr : Room k X.A) (hg : Gl X x) (hm : X.mg x = some (.ref fa)) (hk : PySem.W.keepIn X.K (.ref fa) = true)
    (hb : Binds X.K fd ps ds) (hd : Vals dv ds) (hdd : ∀ Z, Reps X.K Z dv dd) (hx : Passes CX0 X E0) (ha : AV X (e :: es) fs) (hdb : (x == ("__debug__" : Str)) = false := by decide) (he : starEach (e :: es) X.env = (false, eval e X.env) :: starEach es X.env := by rfl) (hpl : (backTo pos (starEach es X.env)).any (·.1) = false := by rfl) :
    EV X (.Call (.Name x p) (e :: es) [] pos) (os fs fun as => g (as ++ dd)) :=
  PE.imp (pe_call F hr hg hm hk hb hd hx ha hdb he hpl) fun σ H Q h => by
    obtain ⟨H₀, Z₀, Z, δ, xs, hh, e1, q⟩ := args h
    refine ⟨H₀, Z₀, Z, δ, xs, hh, e1, fun vs Z1 H1 hh1 s1 r1 => ?_⟩
    obtain ⟨Z2, as, d, zh, ra, eg, kk⟩ := q vs Z1 H1 hh1 s1 r1
    exact ⟨Z2, as ++ dd, d, zh, ra.append (hdd Z2), eg, kk⟩
/-! ### subscripts -/
theorem IxR.imp {r r' : R2} (h : IxR X r) (i : ∀ x y H Q, r' x y H Q → r x y H Q) : IxR X r' := fun value slice pins s σ H x y v u Q I rx ry q hs => h value slice pins s σ H x y v u Q I rx ry (i _ _ _ _ q) hs
theorem ev_ix {g : D → D → Option D} (ho : IxR X (rD X.K g)) (ha : EV X a f1) (hb : EV X b f2) (hs : PlainIx b) : EV X (.Subscript a b pos) (o2 f1 f2 g) :=
  PE.imp (pe_ix ho ha hb hs) fun _ _ _ h => two (fun _ _ _ _ q => q) h
end
end VL

set_option Elab.async false
set_option linter.all false
set_option maxRecDepth 100000
set_option maxHeartbeats 4000000
namespace VL
open PySem PySem.Spec PyProof.Rows L2
section
variable {X : Cx} {a b c e tg : Expr} {es : List Expr} {pos p : Pos} {f f1 f2 f3 : Dv → Option D} {fs : Dv → Option (List D)} {ft fu : Dv → Option Bool} {st : Stmt} {sts body : List Stmt} {s1 s2 : Dv → Option (Fl × Dv)}

/-! ### ints -/
theorem op_iI {F : Value → Value → Sem Value} {g : Int → Int → Int} (h : OpR X F (rI0 fun i j => .int (g i j))) : OpR X F (rD X.K (iI g)) :=
  OpR.imp h fun x y H Q q => by
    obtain ⟨Z, a, b, d, zh, ra, rb, e, k⟩ := q
    cases ra <;> cases rb <;> simp [iI] at e
    subst e
    exact ⟨_, _, rfl, rfl, k _ Z H (New.refl zh) (.int _)⟩
theorem op_iB {F : Value → Value → Sem Value} {g : Int → Int → Bool} (h : OpR X F (rI0 fun i j => .bl (g i j))) : OpR X F (rD X.K (iB g)) :=
  OpR.imp h fun x y H Q q => by
    obtain ⟨Z, a, b, d, zh, ra, rb, e, k⟩ := q
    cases ra <;> cases rb <;> simp [iB] at e
    subst e
    exact ⟨_, _, rfl, rfl, k _ Z H (New.refl zh) (.bl _)⟩
theorem op_iC {F : Value → Value → Sem Value} {P : Int → Int → Prop} {C : Int → Int → Bool} {g : Int → Int → Int} (h : OpR X F (rI P fun i j => .int (g i j))) (hc : ∀ i j, C i j = true → P i j) : OpR X F (rD X.K (iC C g)) :=
  OpR.imp h fun x y H Q q => by
    obtain ⟨Z, a, b, d, zh, ra, rb, e, k⟩ := q
    cases ra with
    | int i =>
      cases rb with
      | int j =>
        by_cases hh : C i j = true
        · simp only [iC, if_pos hh] at e
          cases e
          exact ⟨_, _, rfl, rfl, hc _ _ hh, k _ Z H (New.refl zh) (.int _)⟩
        · simp only [iC, if_neg hh] at e
          cases e
      | _ => simp [iC] at e
    | _ => simp [iC] at e
theorem d_sub : OpR X (binaryOp .Sub) (rD X.K subD) := op_iI op_sub
theorem d_mulI : OpR X (binaryOp .Mult) (rD X.K mulI) := op_iC (P := fun i j => IntMulOk i j) (opI fun _ _ _ _ _ _ _ hc q => mul_int q hc) fun i j h => of_decide_eq_true h
theorem d_div : OpR X (binaryOp .FloorDiv) (rD X.K divD) := op_iC op_fdiv fun i j h => (of_decide_eq_true h : 0 < j ∧ j < 1073741824)
theorem d_mod : OpR X (binaryOp .Mod) (rD X.K modD) := op_iC op_mod fun i j h => of_decide_eq_true h
theorem d_shl : OpR X (binaryOp .LShift) (rD X.K shlD) := op_iC (P := fun i j => 0 ≤ j ∧ (Builtin.Int.intBits i : Int) + j ≤ 2 ^ 27) (opI fun _ _ _ _ _ _ _ hc q => lshift_int hc.1 hc.2 q) fun i j h => of_decide_eq_true h
theorem d_shr : OpR X (binaryOp .RShift) (rD X.K shrD) := op_iC op_shr fun i j h => of_decide_eq_true h
theorem d_and : OpR X (binaryOp .BitAnd) (rD X.K andD) := op_iI op_and
theorem d_or : OpR X (binaryOp .BitOr) (rD X.K orD) := op_iI op_or
theorem d_xor : OpR X (binaryOp .BitXor) (rD X.K xorD) := op_iI op_xor
theorem d_lt : OpR X (compareOp .Lt) (rD X.K ltD) := op_iB op_lt
theorem d_gt : OpR X (compareOp .Gt) (rD X.K gtD) := op_iB op_gt
theorem d_neg : UnR X (unaryOp .USub) (rD1 X.K negD) := by
  intro pins s σ H x v Q I rx q
  obtain ⟨Z, a, d, zh, ra, e, k⟩ := q
  cases ra <;> simp [negD] at e
  subst e
  exact un_neg pins s σ H _ v Q I rx ⟨_, rfl, k _ Z H (New.refl zh) (.int _)⟩
/-! ### + -/
theorem d_add : OpR X (binaryOp .Add) (rD X.K addD) := by
  intro pins s σ H x y v u Q I rx ry q
  obtain ⟨Z, a, b, d, zh, ra, rb, e, k⟩ := q
  cases ra with
  | int i =>
    cases rb with
    | int j => simp only [addD] at e; cases e; exact op_add pins s σ H _ _ v u Q I rx ry ⟨_, _, rfl, rfl, k _ Z H (New.refl zh) (.int _)⟩
    | _ => simp [addD] at e
  | str i =>
    cases rb with
    | str j =>
      by_cases hl : i.length + j.length ≤ sizeLine
      · simp only [addD, if_pos hl] at e; cases e; exact op_add_str pins s σ H _ _ v u Q I rx ry ⟨_, _, rfl, rfl, hl, k _ Z H (New.refl zh) (.str _)⟩
      · simp only [addD, if_neg hl] at e; cases e
    | _ => simp [addD] at e
  | @tup a xs ds h1 q1 =>
    cases rb with
    | @tup b ys es h2 q2 =>
      by_cases hl : ds.length + es.length ≤ sizeLine
      · simp only [addD, if_pos hl] at e
        cases e
        by_cases h0 : ds.length = 0
        · have hd0 : ds = [] := List.eq_nil_of_length_eq_zero h0
          subst hd0
          cases q1
          cases rx
          cases ry
          obtain ⟨its, r1, p1, z1⟩ := I.tuple (SqT.same h1 zh)
          obtain ⟨its2, r2, p2, z2⟩ := I.tuple (SqT.same h2 zh)
          cases r1
          obtain ⟨⟨cls, dd, data, sl⟩, ho, hc, n, hd⟩ := id p1
          obtain ⟨⟨cls2, dd2, data2, sl2⟩, ho2, hc2, n2, hd2⟩ := id p2
          simp only at hc hd hc2 hd2
          subst hc hd hc2 hd2
          exact concat_meets ⟨_, ho, rfl⟩ ⟨_, ho2, rfl⟩ noFill_tuple_add seq_tuple_add PySem.F.slot_tuple_add PySem.F.entry_tuple_add (PySem.F.args_tuple_add_2 _ _)
            (tuple_addW0 a b _ its2.toArray n n2 dd dd2 sl sl2 (by simp)) ⟨ho, ho2, ⟨.ref b, H, I, rfl, k _ Z H (New.refl zh) (.tup h2 q2)⟩⟩
        refine op_catT pins s σ H _ _ v u Q I rx ry ⟨a, b, xs, ys, rfl, rfl, SqT.same h1 zh, SqT.same h2 zh, fun z => h0 (by rw [← q1.length, z]; rfl), by rw [q1.length, q2.length]; exact hl, fun z => ?_, fun z p hp => ?_⟩
        · subst z
          cases q2
          rw [List.append_nil] at k
          exact k _ Z H (New.refl zh) (.tup h1 q1)
        · have n := New.add zh hp (.tup (xs ++ ys))
          exact k _ _ _ n (.tup (SqT.of upd_same) ((q1.append q2).same n.z))
      · simp only [addD, if_neg hl] at e; cases e
    | _ => simp [addD] at e
  | @lst a xs ds h1 q1 =>
    cases rb with
    | @lst b ys es h2 q2 =>
      by_cases hl : ds.length + es.length ≤ sizeLine
      · simp only [addD, if_pos hl] at e
        cases e
        cases rx
        cases ry
        obtain ⟨its, r1, p1, z1⟩ := I.list (SqL.same h1 zh)
        obtain ⟨its2, r2, p2, z2⟩ := I.list (SqL.same h2 zh)
        obtain ⟨⟨cls, dd, data, sl⟩, n1, ho, hc, hdd, hd⟩ := p1
        obtain ⟨⟨cls2, dd2, data2, sl2⟩, n2, ho2, hc2, hdd2, hd2⟩ := p2
        simp only at hc hd hc2 hd2
        subst hc hd hc2 hd2
        have hl1 := r1.length
        have hl2 := r2.length
        have ql1 := q1.length
        have ql2 := q2.length
        refine concat_meets ⟨_, ho, rfl⟩ ⟨_, ho2, rfl⟩ noFill_list_add seq_list_add PySem.F.slot_list_add PySem.F.entry_list_add (PySem.F.args_list_add_2 _ _) (list_addW a b its.toArray its2.toArray n1 n2 dd dd2 sl sl2 (by simp; omega)) ⟨ho, ho2, ?_⟩
        have ea : its.toArray ++ its2.toArray = (its ++ its2).toArray := by simp
        rw [ea]
        have n := New.add zh I.fresh (.lst (xs ++ ys))
        exact ⟨.ref _, _, I.lnew (t' := s.toks) (r1.append r2) (by rw [List.length_append]; omega), rfl, k _ _ _ n (.lst (SqL.of upd_same) ((q1.append q2).same n.z))⟩
      · simp only [addD, if_neg hl] at e; cases e
    | _ => simp [addD] at e
  | _ => cases rb <;> simp [addD] at e

/-! ### == -/
theorem shp_lay {d : D} (h : shp d = true) : d.canLay0 = true := (Bool.and_eq_true_iff.mp h).1
theorem d_eq (hu : X.A.units + 64 < cLine) : OpR X (compareOp .Eq) (rD X.K eqD) := by
  intro pins s σ H x y v u Q I rx ry q
  obtain ⟨Z, a, b, d, zh, ra, rb, e, k⟩ := q
  by_cases hs : shp a = true ∧ shp b = true
  · rw [eqD, if_pos hs] at e
    cases e
    obtain ⟨as, r1⟩ := ra.reads I zh rx (shp_lay hs.1)
    obtain ⟨bs, r2⟩ := rb.reads I zh ry (shp_lay hs.2)
    exact eq_dataH r1 r2 hs.1 hs.2 hu ⟨.bl _, H, I, rfl, k _ Z H (New.refl zh) (.bl _)⟩
  · rw [eqD, if_neg hs] at e; cases e
theorem d_ne (hu : X.A.units + 64 < cLine) : OpR X (compareOp .NotEq) (rD X.K neD) := by
  intro pins s σ H x y v u Q I rx ry q
  obtain ⟨Z, a, b, d, zh, ra, rb, e, k⟩ := q
  by_cases hs : shp a = true ∧ shp b = true
  · rw [neD, if_pos hs] at e
    cases e
    obtain ⟨as, r1⟩ := ra.reads I zh rx (shp_lay hs.1)
    obtain ⟨bs, r2⟩ := rb.reads I zh ry (shp_lay hs.2)
    exact ne_dataH r1 r2 hs.1 hs.2 hu ⟨.bl _, H, I, rfl, k _ Z H (New.refl zh) (.bl _)⟩
  · rw [neD, if_neg hs] at e; cases e
theorem isN_eq {K : Fg} {Z : Hp} {v : V} {d : D} (r : Rep K Z v d) : decide (v = .non) = isN d := by cases r <;> rfl
theorem d_isnt : OpR X (compareOp .IsNot) (rD X.K isntD) :=
  OpR.imp op_notN fun x y H Q q => by
    obtain ⟨Z, a, b, d, zh, ra, rb, e, k⟩ := q
    cases rb <;> simp [isntD] at e
    subst e
    exact ⟨rfl, by rw [isN_eq ra]; exact k _ Z H (New.refl zh) (.bl _)⟩
/-! ### items -/
theorem Reps.at {K : Fg} {Z : Hp} {vs : List V} {ds : List D} {i : Int} {d : D} (r : Reps K Z vs ds) (h : atI ds i = some d) : ∃ v, atI vs i = some v ∧ Rep K Z v d := by
  unfold atI at h ⊢
  rw [r.length]
  obtain ⟨j, e, h⟩ := bind_some h
  obtain ⟨v, q, rr⟩ := r.get h
  exact ⟨v, by rw [e]; exact q, rr⟩
theorem d_ix : IxR X (rD X.K ixD) :=
  IxR.imp (ix_list.or ix_tup) fun x y H Q q => by
    obtain ⟨Z, a, b, d, zh, ra, rb, e, k⟩ := q
    cases ra with
    | lst h1 q1 =>
      cases rb with
      | int i =>
        obtain ⟨v, ev, rv⟩ := q1.at e
        exact .inl ⟨_, _, _, v, rfl, rfl, SqL.same h1 zh, ev, k v Z H (New.refl zh) rv⟩
      | _ => cases e
    | tup h1 q1 =>
      cases rb with
      | int i =>
        obtain ⟨v, ev, rv⟩ := q1.at e
        exact .inr ⟨_, _, _, v, rfl, rfl, SqT.same h1 zh, ev, k v Z H (New.refl zh) rv⟩
      | _ => cases e
    | _ => cases rb <;> cases e
/-! ### builtins -/
theorem c_len : CallR X (.builtin "len") (rDs X.K lenD) :=
  CallR.imp call_len fun xs H Q q => by
    obtain ⟨Z, as, d, zh, ra, e, k⟩ := q
    cases ra with
    | nil => cases e
    | cons r1 r2 =>
      cases r2 with
      | cons _ _ => cases r1 <;> cases e
      | nil =>
        cases r1 with
        | lst h1 q1 => cases e; exact ⟨_, _, rfl, .inl ⟨_, SqL.same h1 zh, rfl⟩, k _ Z H (New.refl zh) (by rw [q1.length]; exact .int _)⟩
        | tup h1 q1 => cases e; exact ⟨_, _, rfl, .inr ⟨_, SqT.same h1 zh, rfl⟩, k _ Z H (New.refl zh) (by rw [q1.length]; exact .int _)⟩
        | _ => cases e
theorem two_ints {K : Fg} {Z : Hp} {xs : List V} {as : List D} {d : D} {g : List D → Option D} {h : Int → Int → Int} (hg : ∀ as d, g as = some d → ∃ i j, as = [.int i, .int j] ∧ d = .int (h i j)) (r : Reps K Z xs as) (e : g as = some d) :
    ∃ i j, xs = [.int i, .int j] ∧ d = .int (h i j) := by
  obtain ⟨i, j, rfl, rfl⟩ := hg _ _ e
  cases r with
  | cons r1 r2 =>
    cases r2 with
    | cons r3 r4 =>
      cases r4
      exact ⟨i, j, by rw [r1.int_eq, r3.int_eq], rfl⟩
theorem c_min (hc : X.calm = true) : CallR X (.builtin "min") (rDs X.K minD) :=
  CallR.imp (call_min2 hc) fun xs H Q q => by
    obtain ⟨Z, as, d, zh, ra, e, k⟩ := q
    obtain ⟨i, j, rfl, rfl⟩ := two_ints (h := fun i j => if j < i then j else i) (fun as d h => by unfold minD at h; split at h <;> cases h; exact ⟨_, _, rfl, rfl⟩) ra e
    exact ⟨i, j, rfl, k _ Z H (New.refl zh) (.int _)⟩
theorem c_max (hc : X.calm = true) : CallR X (.builtin "max") (rDs X.K maxD) :=
  CallR.imp (call_max2 hc) fun xs H Q q => by
    obtain ⟨Z, as, d, zh, ra, e, k⟩ := q
    obtain ⟨i, j, rfl, rfl⟩ := two_ints (h := fun i j => if j > i then j else i) (fun as d h => by unfold maxD at h; split at h <;> cases h; exact ⟨_, _, rfl, rfl⟩) ra e
    exact ⟨i, j, rfl, k _ Z H (New.refl zh) (.int _)⟩
theorem c_list : CallR X (.type "list") (rDs X.K listD) :=
  CallR.imp call_list_of fun xs H Q q => by
    obtain ⟨Z, as, d, zh, ra, e, k⟩ := q
    cases ra with
    | nil => cases e
    | cons r1 r2 =>
      cases r2 with
      | cons _ _ => cases r1 <;> cases e
      | nil =>
        cases r1 with
        | lst h1 q1 => cases e; exact ⟨_, _, rfl, .inl (SqL.same h1 zh), fun l hl => let n := New.add zh hl (.lst _); k _ _ _ n (.lst (SqL.of upd_same) (q1.same n.z))⟩
        | tup h1 q1 => cases e; exact ⟨_, _, rfl, .inr (SqT.same h1 zh), fun l hl => let n := New.add zh hl (.lst _); k _ _ _ n (.lst (SqL.of upd_same) (q1.same n.z))⟩
        | _ => cases e
theorem c_tuple : CallR X (.type "tuple") (rDs X.K tupleD) :=
  CallR.imp call_tuple_of fun xs H Q q => by
    obtain ⟨Z, as, d, zh, ra, e, k⟩ := q
    cases ra with
    | nil => cases e
    | cons r1 r2 =>
      cases r2 with
      | cons _ _ => cases r1 <;> cases e
      | nil =>
        cases r1 with
        | lst h1 q1 => cases e; exact ⟨_, _, rfl, .inl ⟨SqL.same h1 zh, fun l hl => let n := New.add zh hl (.tup _); k _ _ _ n (.tup (SqT.of upd_same) (q1.same n.z))⟩⟩
        | tup h1 q1 => cases e; exact ⟨_, _, rfl, .inr ⟨SqT.same h1 zh, k _ Z H (New.refl zh) (.tup h1 q1)⟩⟩
        | _ => cases e
/-- n.bit_length() -/
theorem mt_bits : MtR X "int.bit_length" (fun x xs H Q => ∃ i, x = .int i ∧ xs = [] ∧ Q (.int (Builtin.Int.intBits i)) H) := by
  intro pins s σ H x xs v us Q I rx rs q
  obtain ⟨i, rfl, rfl, q⟩ := q
  obtain ⟨t, rfl⟩ := rx
  cases rs
  exact call_int_bit_length ⟨.int _, H, I.tok _, ⟨_, rfl⟩, q⟩
theorem ev_bits {apos : Pos} (ha : EV X a f) (hbase : attributeBase a "bit_length" X.env (eval a X.env) = eval a X.env := by rfl) (hline : (apos.endLine == pos.line) = true := by rfl) : EV X (.Call (.Attribute a "bit_length" apos) [] [] pos) (o1 f bitsD) :=
  PE.imp (pe_bm0 PySem.F.plainAttrs_int PySem.F.slot_int_bit_length PySem.F.type_int_bit_length mt_bits ha hbase hline) fun σ H Q h => by
    obtain ⟨H₀, Z₀, Z, δ, d, hh, e, k⟩ := h
    obtain ⟨x, e1, e⟩ := bind_some e
    refine ⟨H₀, Z₀, Z, δ, x, hh, e1, fun v Z1 H1 hh1 s1 r1 => ?_⟩
    cases r1 <;> simp [bitsD] at e
    subst e
    exact ⟨rfl, _, rfl, rfl, k _ Z1 H1 hh1 s1 (.int _)⟩
/-! ### isinstance -/
theorem kit_ok (K : Fg) {t T : String} (ht : t = "NoneType" ∨ t = "bool" ∨ t = "int" ∨ t = "str" ∨ t = "list" ∨ t = "tuple") (hT : T = "int" ∨ T = "bool" ∨ T = "str" ∨ T = "list" ∨ T = "tuple") : PySem.W.kitOne K (.type t) (.type T) = some (isiB t T) := by
  rcases ht with rfl | rfl | rfl | rfl | rfl | rfl <;> rcases hT with rfl | rfl | rfl | rfl | rfl <;> rfl
theorem Rep.ty {K : Fg} {Z H : Hp} {v : V} {d : D} (zh : Same Z H) (r : Rep K Z v d) (hD : ¬isDct d = true) : (tyN d = "NoneType" ∨ tyN d = "bool" ∨ tyN d = "int" ∨ tyN d = "str" ∨ tyN d = "list" ∨ tyN d = "tuple") := by
  cases r <;> simp [tyN]
  exact absurd rfl hD
theorem isi_ok {pins : List (Addr × Obj)} {σ : St} {H Z : Hp} {s : Shared} {x : V} {u : Value} {d : D} {T : String} {A : Around} {E : Value → Shared → Prop} {Q : Value → Shared → Prop} (I : Inv X pins σ H s) (zh : Same Z H) (rx : RelV x u) (r : Rep X.K Z x d) (hD : ¬isDct d = true)
    (hT : T = "int" ∨ T = "bool" ∨ T = "str" ∨ T = "list" ∨ T = "tuple") (h : ∀ tk, Q (.bool (isiB (tyN d) T)) { s with toks := tk }) : wpAny (model X.prog X.w) A (call (.builtin "isinstance") [u, .type T]) Q E s := by
  have ko := kit_ok X.K (Rep.ty zh r hD) hT
  cases r with
  | non => exact isinst_ok I rx (.non) ko h
  | bl b => exact isinst_ok I rx (.bl b) ko h
  | int b => exact isinst_ok I rx (.int b) ko h
  | str b => exact isinst_ok I rx (.str b) ko h
  | @tup a xs ds h1 q1 =>
    cases (show u = Value.ref a from rx)
    obtain ⟨its, _, p, _⟩ := I.tuple (SqT.same h1 zh)
    obtain ⟨o, h1, h2, _⟩ := p
    exact PySem.W.kia_one PySem.W.kitx_tuple I.kIn ⟨o, h1, h2⟩ ko (fun z => nomatch z) h
  | @lst a xs ds h1 q1 =>
    cases (show u = Value.ref a from rx)
    obtain ⟨its, _, p, _⟩ := I.list (SqL.same h1 zh)
    obtain ⟨o, n, h1, h2, _⟩ := p
    exact PySem.W.kia_one PySem.W.kitx_list I.kIn ⟨o, h1, h2⟩ ko (fun z => nomatch z) h
  | opq h1 => exact absurd rfl hD
theorem c_isi (T : String) : CallR X (.builtin "isinstance") (fun xs H Q => ∃ x Z d r, xs = [x, .ty T] ∧ Same Z H ∧ Rep X.K Z x d ∧ isiD T d = some r ∧ ∃ b, r = .bool b ∧ Q (.bl b) H) := by
  intro pins s σ H xs us Q I rv h
  obtain ⟨x, Z, d, r, rfl, zh, rr, e, b, rfl, q⟩ := h
  obtain ⟨u, w', rfl, r1, r2⟩ := vals2 rv
  cases (show w' = Value.type T from r2)
  by_cases hD : isDct d = true
  · rw [isiD, if_pos hD] at e; cases e
  by_cases hT : T = "int" ∨ T = "bool" ∨ T = "str" ∨ T = "list" ∨ T = "tuple"
  · rw [isiD, if_neg hD, if_pos hT] at e
    cases e
    exact isi_ok I zh r1 rr hD hT fun tk => ⟨.bl _, H, I.tok _, rfl, q⟩
  · rw [isiD, if_neg hD, if_neg hT] at e; cases e
theorem ev_isi {x : Str} {T : String} {p2 : Pos} (hg : Gl X "isinstance") (hm : X.mg "isinstance" = none) (hgT : Gl X x) (hmT : X.mg x = none) (hvT : bootBuiltins x = some (.type T)) (hnT : x ≠ "__name__") (hdT : (x == ("__debug__" : Str)) = false) (ha : EV X a f)
    (he : starEach (a :: [.Name x p2]) X.env = (false, eval a X.env) :: starEach [.Name x p2] X.env := by rfl) (he2 : starEach ((.Name x p2) :: []) X.env = (false, eval (.Name x p2) X.env) :: starEach [] X.env := by rfl) (hpl : (backTo pos (starEach [.Name x p2] X.env)).any (·.1) = false := by rfl) :
    EV X (.Call (.Name "isinstance" p) [a, .Name x p2] [] pos) (o1 f (isiD T)) :=
  PE.imp (pe_callB (c_isi T) hg hm PyProof.Rows.boot_isinstance (pa_cons ha (pa_cons (pe_bltn (v := .ty T) hgT hmT hvT rfl hnT hdT) pa_nil he2) he) (by decide) (by decide) he hpl) fun σ H Q h => by
    obtain ⟨H₀, Z₀, Z, δ, d, hh, e, k⟩ := h
    obtain ⟨y, e1, e⟩ := bind_some e
    refine ⟨H₀, Z₀, Z, δ, y, hh, e1, fun v Z1 H1 hh1 s1 r1 => ⟨v, Z1, y, d, rfl, hh1.zh, r1, e, ?_⟩⟩
    have : ∃ b, d = .bool b := by
      unfold isiD at e
      split at e
      · cases e
      · split at e
        · cases e; exact ⟨_, rfl⟩
        · cases e
    obtain ⟨b, rfl⟩ := this
    exact ⟨b, rfl, k _ Z1 H1 hh1 s1 (.bl b)⟩
end
end VL

set_option Elab.async false
set_option linter.all false
set_option maxRecDepth 100000
set_option maxHeartbeats 4000000
namespace VL
open PySem PySem.Spec PyProof.Rows L2
section
variable {X : Cx} {a b c e tg iter : Expr} {es : List Expr} {pos p : Pos} {f f1 f2 f3 : Dv → Option D} {fs : Dv → Option (List D)} {ft fu : Dv → Option Bool} {st : Stmt} {sts body orelse : List Stmt} {s1 s2 s3 : Sf}

/-! ### statements -/
theorem sv_ret (he : EV X e f) : SV X (.Return (some e) pos) (sRet f) :=
  PS.imp (ps_ret he) fun D σ H h => by
    obtain ⟨H₀, Z₀, Z, δ, r, hh, e, k⟩ := h
    obtain ⟨x, e1, e⟩ := bind_some e
    cases e
    exact ⟨H₀, Z₀, Z, δ, x, hh, e1, fun v Z1 H1 hh1 s1 r1 => k σ H1 Z1 hh1 s1 v r1⟩
theorem sv_set (i : Nat) {x : Str} {pos' : Pos} (hN : X.N.Nodup) (he : EV X e f) (hi : X.N[i]? = some x := by rfl) (hx : Loc X.env.scope x := by first | exact Or.inl rfl | exact Or.inr rfl) (hs : swapsWith e (some (.Name x pos')) pos.line X.env = pure false := by rfl)
    (hf : X.fn x = true ∨ X.env.scope.names.lookup x = some .local := by first | exact .inl rfl | exact .inr rfl | assumption) : SV X (.Assign [.Name x pos'] e pos) (sSet i f) :=
  PS.imp (ps_set hN hi hx he hs hf) fun D σ H h => by
    obtain ⟨H₀, Z₀, Z, δ, r, hh, e, k⟩ := h
    obtain ⟨x, e1, e⟩ := bind_some e
    cases e
    exact ⟨H₀, Z₀, Z, δ, x, hh, e1, fun v Z1 H1 hh1 s1 r1 => k _ H1 Z1 (hh1.set r1) s1⟩
theorem sv_expr (he : EV X e f) (hs : swapsWith e none pos.line X.env = pure false := by rfl) : SV X (.Expr e pos) (sDrop f) :=
  PS.imp (ps_expr he hs) fun D σ H h => by
    obtain ⟨H₀, Z₀, Z, δ, r, hh, e, k⟩ := h
    obtain ⟨x, e1, e⟩ := bind_some e
    cases e
    exact ⟨H₀, Z₀, Z, δ, x, hh, e1, fun v Z1 H1 hh1 s1 r1 => k σ H1 Z1 hh1 s1⟩
theorem nx_ok {D : Ends} {σ : St} {H : Hp} {K : Fg} (h : tVS K sNx D σ H) : D.nx σ H := by
  obtain ⟨H₀, Z₀, Z, δ, r, hh, e, k⟩ := h
  cases e
  exact k σ H Z hh (Same.refl _)
theorem bv_nil : BV X [] sNx := PSs.imp pss_nil fun D σ H h => nx_ok h
theorem bv_cons (h1 : SV X st s1) (h2 : BV X sts s2) : BV X (st :: sts) (sSeq s1 s2) :=
  PSs.imp (pss_cons h1 h2) fun D σ H h => by
    obtain ⟨H₀, Z₀, Z, δ, r, hh, e, k⟩ := h
    obtain ⟨⟨fl, δ'⟩, e1, e⟩ := bind_some e
    refine ⟨H₀, Z₀, Z, δ, (fl, δ'), hh, e1, fun σ' H' Z' hh' s' => ?_⟩
    cases fl with
    | nx => exact ⟨H₀, Z₀, Z', δ', r, hh', e, fun σ2 H2 Z2 hh2 s2 => by
        have := k σ2 H2 Z2 hh2 (s'.trans s2)
        obtain ⟨fl, δ2⟩ := r
        cases fl <;> exact this⟩
    | bk => cases e; exact k σ' H' Z' hh' s'
    | ct => cases e; exact k σ' H' Z' hh' s'
    | rt d => cases e; exact k σ' H' Z' hh' s'
theorem bv_one (h1 : SV X st s1) : BV X [st] s1 := pss_one h1
theorem sv_if (hc : TV X c ft) (ha : BV X body s1) (hb : BV X orelse s2) : SV X (.If c body orelse pos) (sIf ft s1 s2) :=
  PS.imp (ps_if hc ha hb) fun D σ H h => by
    obtain ⟨H₀, Z₀, Z, δ, r, hh, e, k⟩ := h
    obtain ⟨x, e1, e⟩ := bind_some e
    refine ⟨H₀, Z₀, Z, δ, x, hh, e1, fun Z1 H1 hh1 t1 => ?_⟩
    cases x with
    | true => exact ⟨H₀, Z₀, Z1, δ, r, hh1, e, fun σ2 H2 Z2 hh2 t2 => k σ2 H2 Z2 hh2 (t1.trans t2)⟩
    | false => exact ⟨H₀, Z₀, Z1, δ, r, hh1, e, fun σ2 H2 Z2 hh2 t2 => k σ2 H2 Z2 hh2 (t1.trans t2)⟩
/-- a list of one's own is known for good from here -/
theorem fz_ok {K : Fg} (i : Nat) {D : Ends} {σ : St} {H : Hp} (h : tVS K (fun δ => s1 (dFz i δ)) D σ H) : tVS K s1 D σ H := by
  obtain ⟨H₀, Z₀, Z, δ, r, hh, e, k⟩ := h
  have e : s1 (dFz i δ) = some r := e
  unfold dFz at e
  split at e
  · rename_i ds q
    obtain ⟨Z1, t1, hh1⟩ := hh.frz q
    exact ⟨H₀, Z₀, Z1, _, r, hh1, e, fun σ2 H2 Z2 hh2 t2 => k σ2 H2 Z2 hh2 (t1.trans t2)⟩
  · exact ⟨H₀, Z₀, Z, _, r, hh, e, k⟩
theorem sv_fz (i : Nat) (h : SV X st s1) : SV X st (fun δ => s1 (dFz i δ)) := PS.imp h fun D σ H q => fz_ok i q

/-! ### targets -/
noncomputable def tVG (K : Fg) (g : D → Dv → Option Dv) : TG := fun v σ H Q => ∃ H₀ Z₀ Z δ d δ', Hold K H₀ Z₀ Z δ σ H ∧ Rep K Z v d ∧ g d δ = some δ' ∧ ∀ σ' H' Z', Hold K H₀ Z₀ Z' δ' σ' H' → Same Z Z' → Q σ' H'
noncomputable def GV (X : Cx) (tg : Expr) (g : D → Dv → Option Dv) : Prop := PG X tg (tVG X.K g)
theorem PG.imp {t t' : TG} (h : PG X tg t) (i : ∀ v σ H Q, t' v σ H Q → t v σ H Q) : PG X tg t' := fun pins s σ H x v Q I r q => h pins s σ H x v Q I r (i _ _ _ _ q)
theorem gv_name (i : Nat) {x : Str} (hN : X.N.Nodup) (hi : X.N[i]? = some x := by rfl) (hx : Loc X.env.scope x := by first | exact Or.inl rfl | exact Or.inr rfl)
    (hf : X.fn x = true ∨ X.env.scope.names.lookup x = some .local := by first | exact .inl rfl | exact .inr rfl | assumption) : GV X (.Name x pos) (gN i) :=
  PG.imp (pg_name hN hi hx hf) fun v σ H Q h => by
    obtain ⟨H₀, Z₀, Z, δ, d, δ', hh, r, e, k⟩ := h
    cases e
    exact k _ H Z (hh.set r) (Same.refl _)
/-! ### loops -/
structure ItOk (K : Fg) (Z : Hp) (J : It) (ds : List D) : Prop where
  go : ∀ (i : Nat) (H : Hp), Same Z H → i < ds.length → J.go i H
  yld : ∀ (i : Nat) (H : Hp) x H' d, Same Z H → ds[i]? = some d → J.yld i H x H' → H' = H ∧ Rep K Z x d
  stop : ∀ (i : Nat) (H : Hp), Same Z H → ds.length ≤ i → J.stop i H
noncomputable def tVI (K : Fg) (f : Dv → Option (List D)) : TI := fun σ H R => ∃ H₀ Z₀ Z δ ds, Hold K H₀ Z₀ Z δ σ H ∧ f δ = some ds ∧ ∀ J Z' H', Hold K H₀ Z₀ Z' δ σ H' → Same Z Z' → ItOk K Z' J ds → R J H'
noncomputable def IV (X : Cx) (tg iter : Expr) (f : Dv → Option (List D)) : Prop := PI X tg iter (tVI X.K f)
theorem PI.imp {t t' : TI} (h : PI X tg iter t) (i : ∀ σ H R, t' σ H R → t σ H R) : PI X tg iter t' := fun pins s σ H R I q => h pins s σ H R I (i _ _ _ q)
theorem sv_for {g : D → Dv → Option Dv} (hp : PassesOwn (model X.prog X.w) X.A X.env X.xe) (hc : X.calm = true) (hi : IV X tg iter fs) (hg : GV X tg g) (hb : BV X body s1)
    (hs : ∀ x, foldedSetIterable iter X.env x = pure x := by intro _; rfl) : SV X (.For tg iter body [] pos) (sFor fs g s1) :=
  PS.imp (ps_for hp hc hi hg hb hs) fun D σ H h => by
    obtain ⟨H₀, Z₀, Z, δ, r, hh, e, k⟩ := h
    obtain ⟨ds, e1, e⟩ := bind_some e
    refine ⟨H₀, Z₀, Z, δ, ds, hh, e1, fun J Z1 H1 hh1 t1 ok => ?_⟩
    refine ⟨fun i m σ H => m = ds.length - i ∧ i ≤ ds.length ∧ ∃ Zc δc, Hold X.K H₀ Z₀ Zc δc σ H ∧ Same Z1 Zc ∧ loop g s1 (ds.drop i) δc = some r, ⟨ds.length, by simp, Nat.zero_le _, Z1, δ, hh1, Same.refl _, e⟩, ?_⟩
    rintro i m σ2 H2 ⟨rfl, hi2, Zc, δc, hhc, tc, ec⟩
    have zh : Same Z1 H2 := tc.trans hhc.zh
    by_cases hlt : i < ds.length
    · refine .inr ⟨ok.go i H2 zh hlt, fun σ3 H3 => ∃ Zc δc, Hold X.K H₀ Z₀ Zc δc σ3 H3 ∧ Same Z1 Zc ∧ loop g s1 (ds.drop (i + 1)) δc = some r, fun σ3 H3 q => ⟨ds.length - (i + 1), by omega, rfl, hlt, q⟩, fun x H3 y => ?_⟩
      have ed : ds[i]? = some ds[i] := by simp [hlt]
      obtain ⟨rfl, rx⟩ := ok.yld i H2 x H3 _ zh ed y
      rw [List.drop_eq_getElem_cons hlt] at ec
      obtain ⟨δ1, g1, ec⟩ := bind_some ec
      obtain ⟨⟨fl, δ2⟩, g2, ec⟩ := bind_some ec
      refine ⟨H₀, Z₀, Zc, δc, _, δ1, hhc, rx.same tc, g1, fun σ4 H4 Z4 hh4 t4 => ⟨H₀, Z₀, Z4, δ1, (fl, δ2), hh4, g2, fun σ5 H5 Z5 hh5 t5 => ?_⟩⟩
      cases fl with
      | nx => exact ⟨Z5, δ2, hh5, (tc.trans t4).trans t5, ec⟩
      | ct => exact ⟨Z5, δ2, hh5, (tc.trans t4).trans t5, ec⟩
      | bk => cases ec; exact k σ5 H5 Z5 hh5 (((t1.trans tc).trans t4).trans t5)
      | rt d => cases ec; exact k σ5 H5 Z5 hh5 (((t1.trans tc).trans t4).trans t5)
    · have e2 : ds.drop i = [] := List.drop_eq_nil_iff.mpr (by omega)
      rw [e2] at ec
      cases ec
      exact .inl ⟨ok.stop i H2 zh (by omega), k σ2 H2 Zc hhc (t1.trans tc)⟩
/-! ### what is walked -/
theorem itok_rng {K : Fg} {Z : Hp} {lo : Int} {n : Nat} : ItOk K Z (Itr lo n) (rngL lo n) where
  go := fun i H _ h => by simpa [rngL, Itr] using h
  yld := fun i H x H' d _ e y => by
    obtain ⟨rfl, rfl⟩ := y
    refine ⟨rfl, ?_⟩
    unfold rngL at e
    rw [List.getElem?_map] at e
    cases q : (List.range n)[i]? with
    | none => rw [q] at e; cases e
    | some k =>
      rw [q] at e
      cases e
      have : k = i := by
        obtain ⟨h, h2⟩ := List.getElem?_eq_some_iff.mp q
        simpa using h2.symm
      subst this
      exact .int _
  stop := fun i H _ h => by simpa [rngL, Itr] using h
theorem iv_range1 (hg : Gl X "range") (hm : X.mg "range" = none) (ha : AV X [a] fs) (hs : starEach [a] X.env = [(false, eval a X.env)] := by rfl) : IV X tg (.Call (.Name "range" p) [a] [] pos) (oL fs rng1D) :=
  PI.imp (pi_range1 hg hm ha hs) fun σ H R h => by
    obtain ⟨H₀, Z₀, Z, δ, ds, hh, e, k⟩ := h
    obtain ⟨as, e1, e⟩ := bind_some e
    refine ⟨H₀, Z₀, Z, δ, as, hh, e1, fun vs Z1 H1 hh1 t1 r1 => ?_⟩
    unfold rng1D at e
    split at e
    · rename_i j
      split at e
      · rename_i hj
        cases e
        cases r1 with
        | cons q1 q2 =>
          cases q2
          exact ⟨j, by rw [q1.int_eq], hj.2, hj.1, k _ Z1 H1 hh1 t1 itok_rng⟩
      · cases e
    · cases e
/-- a list or a tuple -/
theorem iv_list (ha : EV X a f) : IV X tg a (oI f lstI) :=
  PI.imp (pi_list ha) fun σ H R h => by
    obtain ⟨H₀, Z₀, Z, δ, ds, hh, e, k⟩ := h
    obtain ⟨y, e1, e⟩ := bind_some e
    refine ⟨H₀, Z₀, Z, δ, y, hh, e1, fun v Z1 H1 hh1 t1 r1 => ?_⟩
    cases r1 with
    | @lst l xs ds' h1 q1 =>
      cases e
      refine ⟨l, rfl, ⟨xs, SqL.same h1 hh1.zh⟩, k _ Z1 H1 hh1 t1 ⟨fun i H2 z hi => ?_, fun i H2 x H3 d z ed y => ?_, fun i H2 z hi => ⟨xs, SqL.same h1 z, by rw [q1.length]; exact hi⟩⟩⟩
      · have hi' : i < xs.length := by rw [q1.length]; exact hi
        exact ⟨xs, xs[i], SqL.same h1 z, by simp [hi']⟩
      · obtain ⟨rfl, y⟩ := y
        obtain ⟨v, ev, rv⟩ := q1.get ed
        have := y xs (SqL.same h1 z)
        rw [ev] at this
        cases this
        exact ⟨rfl, rv⟩
    | _ => cases e
theorem iv_tup (ha : EV X a f) : IV X tg a (oI f tupI) :=
  PI.imp (pi_tup ha) fun σ H R h => by
    obtain ⟨H₀, Z₀, Z, δ, ds, hh, e, k⟩ := h
    obtain ⟨y, e1, e⟩ := bind_some e
    refine ⟨H₀, Z₀, Z, δ, y, hh, e1, fun v Z1 H1 hh1 t1 r1 => ?_⟩
    cases r1 with
    | @tup l xs ds' h1 q1 =>
      cases e
      refine ⟨l, rfl, ⟨xs, SqT.same h1 hh1.zh⟩, k _ Z1 H1 hh1 t1 ⟨fun i H2 z hi => ?_, fun i H2 x H3 d z ed y => ?_, fun i H2 z hi => ⟨xs, SqT.same h1 z, by rw [q1.length]; exact hi⟩⟩⟩
      · have hi' : i < xs.length := by rw [q1.length]; exact hi
        exact ⟨xs, xs[i], SqT.same h1 z, by simp [hi']⟩
      · obtain ⟨rfl, y⟩ := y
        obtain ⟨v, ev, rv⟩ := q1.get ed
        have := y xs (SqT.same h1 z)
        rw [ev] at this
        cases this
        exact ⟨rfl, rv⟩
    | _ => cases e
end
/-! ### range(a, b, c) -/
section
variable {X : Cx} {a b c tg : Expr} {ta : TA} {p pos : Pos} {fs : Dv → Option (List D)}
end
/-! ### slices -/
section
variable {X : Cx} {e : Expr} {lo hi : Option Expr} {p2 pos : Pos} {f : Dv → Option D}
noncomputable def tVO (K : Fg) (f : Dv → Option (Option Int)) : TO := fun σ H Q => ∃ H₀ Z₀ Z δ d, Hold K H₀ Z₀ Z δ σ H ∧ f δ = some d ∧ ∀ Z' H', Hold K H₀ Z₀ Z' δ σ H' → Same Z Z' → Q d H'
noncomputable def OV (X : Cx) (e : Option Expr) (f : Dv → Option (Option Int)) : Prop := PO X e (tVO X.K f)
theorem PO.imp {eo : Option Expr} {t t' : TO} (h : PO X eo t) (i : ∀ σ H Q, t' σ H Q → t σ H Q) : PO X eo t' := fun pins s σ H Q I q => h pins s σ H Q I (i _ _ _ q)
theorem ov_none : OV X none oNo := PO.imp po_none fun σ H Q h => by
  obtain ⟨H₀, Z₀, Z, δ, d, hh, e, k⟩ := h
  cases e
  exact k Z H hh (Same.refl _)
theorem ov_some (h : EV X e f) : OV X (some e) (oP f) := PO.imp (po_some h) fun σ H Q h => by
  obtain ⟨H₀, Z₀, Z, δ, d, hh, e, k⟩ := h
  obtain ⟨x, e1, e⟩ := bind_some e
  refine ⟨H₀, Z₀, Z, δ, x, hh, e1, fun v Z1 H1 hh1 t1 r1 => ?_⟩
  cases r1 <;> simp [asI] at e
  subst e
  exact ⟨_, rfl, k Z1 H1 hh1 t1⟩
/-- the items of xs[lo:hi] -/
theorem Reps.cut {K : Fg} {Z : Hp} {vs : List V} {ds : List D} (r : Reps K Z vs ds) (lo hi : Option Int) : Reps K Z (cutV vs lo hi) (cutD ds lo hi) := by
  unfold cutV cutD
  rw [r.length]
  exact (r.drop _).take _
/-- t[lo:hi], the whole of it: t itself -/
theorem cutD_whole {ds : List D} {lo hi : Option Int} (h1 : HT.sIx ds.length 0 lo = 0) (h2 : HT.sIx ds.length ds.length hi = ds.length) : cutD ds lo hi = ds := by
  unfold cutD
  rw [h1, h2]
  simp
section
variable {prog : Program} {w : World} {A : Around} {E : Value → Shared → Prop} {s : Shared}
theorem tupCut_whole {t sl : Addr} {items : Array Value} {vl vu : Value} {lo hi : Option Int} {Q : Value → Shared → Prop} (ht : IsTup s.heap t items) (hs : s.heap.IsSliceOf sl vl vu .none) (pl : IsPart vl lo) (pu : IsPart vu hi)
    (h1 : HT.sIx items.size 0 lo = 0) (h2 : HT.sIx items.size items.size hi = items.size) (h : Q (.ref t) s) : wpAny (model prog w) A (getItem (.ref t) (.ref sl)) Q E s := by
  obtain ⟨osl, hos, hcs, hds⟩ := id hs
  have ty : s.TypeIs (.ref sl) "slice" := ⟨osl, hos, hcs⟩
  unfold getItem
  try with_reducible refine wpAny_holding ?_
  first | refine wpAny_bind (wpAny_pure ?_) | skip
  refine wpAny_bind (wpAny_sequenceKey ht.typeIs (by decide) ?_)
  refine wpAny_bind (wpAny_callSpecial?_slot (name := Str.ofString "__getitem__") ht.typeIs PyProof.Rows.slot_tuple_getitem
    (wpAny_call_entry PyProof.Rows.slot_tuple_getitem ht.typeIs PyProof.Rows.entry_tuple_getitem ?_ (PyProof.Rows.args_tuple_getitem _ _)))
  show wpAny _ _ (Builtin.Tuple.tupleItemsOf (.ref t) >>= _) _ _ s
  refine wpAny_bind (tupleItemsOf_ ht ?_)
  refine wpAny_bind (wpAny_typeOf ty ?_)
  rw [if_pos (by decide)]
  refine wpAny_bind (HT.sliceApplied_gen hs pl pu ?_)
  have yes : (((((HT.sIx items.size 0 lo : Nat) : Int) == 0) && ((1 : Int) == 1)) && ((HT.sIx items.size items.size hi - HT.sIx items.size 0 lo) == items.size)) = true := by
    rw [h1, h2]; simp
  show wpAny _ _ (if (((((HT.sIx items.size 0 lo : Nat) : Int) == 0) && ((1 : Int) == 1)) && ((HT.sIx items.size items.size hi - HT.sIx items.size 0 lo) == items.size)) = true then _ else _) _ _ s
  rw [if_pos yes]
  unfold Builtin.Tuple.tupleIsExact
  refine wpAny_bind (wpAny_bind (wpAny_typeOf ht.typeIs (wpAny_pure ?_)))
  rw [if_pos (by decide)]
  exact wpAny_bind (wpAny_rule (wpAny_pure ⟨_, rfl, wpAny_pure h⟩))
end
noncomputable def rSlW (K : PySem.W.Frag) : V → Option Int → Option Int → Hp → VK → Prop := fun x lo hi H Q => ∃ a xs, x = .ref a ∧ SqT K H a xs ∧ HT.sIx xs.length 0 lo = 0 ∧ HT.sIx xs.length xs.length hi = xs.length ∧ Q (.ref a) H
theorem sl_tupW : SlR X (rSlW X.K) := by
  intro pins s σ H x v vl vu lo hi sl Q I rx hs pl pu h
  obtain ⟨a, xs, rfl, hx, w1, w2, q⟩ := h
  cases rx
  obtain ⟨its, r, ht, hz⟩ := I.tuple hx
  have hlen : its.toArray.size = xs.length := by rw [List.size_toArray]; exact r.length.symm
  refine ⟨"tuple", _, PyProof.Rows.slot_tuple_getitem.lookup, ht.typeIs, ?_⟩
  exact tupCut_whole ht hs pl pu (by rw [hlen]; exact w1) (by rw [hlen]; exact w2) ⟨.ref a, H, I, rfl, q⟩
theorem ev_slice {fl fu : Dv → Option (Option Int)} (he : EV X e f) (hl : OV X lo fl) (hu : OV X hi fu) : EV X (.Subscript e (.Slice lo hi none p2) pos) (oSl f fl fu) :=
  PE.imp (pe_slice (sl_list.or (sl_tup.or sl_tupW)) he hl hu) fun σ H Q h => by
    obtain ⟨H₀, Z₀, Z, δ, d, hh, e, k⟩ := h
    obtain ⟨x, e1, e⟩ := bind_some e
    obtain ⟨i, e2, e⟩ := bind_some e
    obtain ⟨j, e3, e⟩ := bind_some e
    refine ⟨H₀, Z₀, Z, δ, x, hh, e1, fun v Z1 H1 hh1 t1 r1 => ⟨H₀, Z₀, Z1, δ, i, hh1, e2, fun Z2 H2 hh2 t2 => ⟨H₀, Z₀, Z2, δ, j, hh2, e3, fun Z3 H3 hh3 t3 => ?_⟩⟩⟩
    have r3 := (r1.same t2).same t3
    have tt := (t1.trans t2).trans t3
    cases r3 with
    | @lst a xs ds h1 q1 =>
      cases e
      refine .inl ⟨_, _, rfl, SqL.same h1 hh3.zh, fun p hp => ?_⟩
      have n := New.add hh3.zh hp (.lst (cutV xs i j))
      exact k _ _ _ (hh3.new n) (tt.trans n.z) (.lst (SqL.of upd_same) ((q1.cut i j).same n.z))
    | @tup a xs ds h1 q1 =>
      simp only [slD] at e
      cases e
      by_cases hw : HT.sIx ds.length 0 i = 0 ∧ HT.sIx ds.length ds.length j = ds.length
      · refine .inr (.inr ⟨_, _, rfl, SqT.same h1 hh3.zh, by rw [q1.length]; exact hw.1, by rw [q1.length]; exact hw.2, ?_⟩)
        refine k _ _ _ hh3 tt ?_
        rw [cutD_whole hw.1 hw.2]
        exact .tup h1 q1
      · refine .inr (.inl ⟨_, _, rfl, SqT.same h1 hh3.zh, by rw [q1.length]; exact hw, fun p hp => ?_⟩)
        have n := New.add hh3.zh hp (.tup (cutV xs i j))
        exact k _ _ _ (hh3.new n) (tt.trans n.z) (.tup (SqT.of upd_same) ((q1.cut i j).same n.z))
    | _ => cases e
end
/-! ### defs -/
structure FunV (K : PySem.W.Frag) (x qual : Str) (st : Stmt) (f : Addr) (fd : FuncData) (dV : Value) : Prop where
  ex : ∃ (oc : Value) (od : Option Addr) (kV doc pm : Value) (an : Option Addr) (cdv ct : Value) (osl : Array (Option Value)),
    fd = PySem.W.fnOf x qual (defArgs st) (defBody st) (defScope st) dV kV doc pm an cdv ct ∧ K.lookup f = some ⟨oc, od, .func fd, osl⟩ ∧ PySem.W.codeIn K cdv qual = true
  kp : PySem.W.keepIn K (.ref f) = true
section
variable {P : Program} {w : World} {K : PySem.W.Frag} {mg : Str → Option Value} {base : Heap}
theorem start_get {N : List Str} {vs : List V} {as : List D} {Z : Hp} (r : Reps K Z vs as) : ∀ (i : Nat) d, (startD N as)[i]? = some (.fz d) → ∃ v, (start N vs)[i]? = some (some v) ∧ Rep K Z v d := by
  intro i d e
  unfold startD at e
  unfold L2.start
  by_cases hi : i < as.length
  · rw [List.getElem?_append_left (by simpa using hi), List.getElem?_map] at e
    cases q : as[i]? with
    | none => rw [q] at e; cases e
    | some d' =>
      rw [q] at e
      cases e
      obtain ⟨v, ev, rv⟩ := r.get q
      exact ⟨v, by rw [List.getElem?_append_left (by simpa [r.length] using hi), List.getElem?_map, ev]; rfl, rv⟩
  · rw [List.getElem?_append_right (by simpa using hi), List.getElem?_replicate] at e
    split at e <;> cases e
theorem start_now {N : List Str} {as : List D} : ∀ (i : Nat) ds, (startD N as)[i]? ≠ some (.ow ds) := by
  intro i ds e
  unfold startD at e
  by_cases hi : i < as.length
  · rw [List.getElem?_append_left (by simpa using hi), List.getElem?_map] at e
    cases q : as[i]? with
    | none => rw [q] at e; cases e
    | some d' => rw [q] at e; cases e
  · rw [List.getElem?_append_right (by simpa using hi), List.getElem?_replicate] at e
    split at e <;> cases e
theorem hold_start {N : List Str} {vs : List V} {as : List D} {Z H : Hp} (zh : Same Z H) (r : Reps K Z vs as) : Hold K H Z Z (startD N as) (start N vs) H :=
  ⟨zh, Same.refl _, Same.refl _, fun _ _ => rfl, by simp [startD, L2.start, r.length], start_get r, fun i ds e => absurd e (start_now i ds), fun i j ds es a _ e => absurd e (start_now i ds)⟩
/-- THE RULE for a def: g what it is worth, b its body as a function -/
theorem fn_v {x qual : Str} {st : Stmt} {f : Addr} {fd : FuncData} {dV : Value} {N ps : List Str} {k : Nat} {g : List D → Option D} {b : Sf} (F : FunV K x qual st f fd dV) (S : FnScope N ps (defScope st)) (len : ∀ as d, g as = some d → as.length = ps.length)
    (hb : ∀ (cdv : Value) (A : Around) (outer : List Env) (s : Shared) (H : Hp) (E : XK), Room k (A.deeper (envOfC qual (defScope st) s.heap.objs.size f cdv)) → BV (cxOf CX0 P w K mg base N qual (defScope st) f cdv A outer s H E).nox (defBody st) b)
    (hg : ∀ as d, g as = some d → ∃ δ', b (startD N as) = some (.rt d, δ') ∨ (d = .none ∧ b (startD N as) = some (.nx, δ'))) : FnOk P w K mg base CX0 (k + 1) f fd ps (spD K g) := by
  obtain ⟨oc, od, kV, doc, pm, an, cdv, ct, osl, rfl, lk, hcd⟩ := F.ex
  refine fn_of lk hcd S (fun vs H Q E h => ?_) fun A outer s H vs Q E hr hsp => ?_
  · obtain ⟨Z, as, d, zh, r, e, _⟩ := h
    rw [r.length]
    exact len as d e
  · refine ⟨_, PSs.nox (hb cdv A outer s H E hr), ?_⟩
    obtain ⟨Z, as, d, zh, r, e, kk⟩ := hsp
    have hh := hold_start (N := N) zh r
    have fin : ∀ {σ' : St} {H' Z' : Hp} {δ' : Dv}, Hold K H Z Z' δ' σ' H' → Same Z Z' → New Z H Z' H' := fun h' z' => ⟨z', h'.h0, h'.zh, h'.zb⟩
    obtain ⟨δ', e2 | ⟨rfl, e2⟩⟩ := hg as d e
    · exact ⟨H, Z, Z, _, _, hh, e2, fun σ' H' Z' h' z' v rv => kk v Z' H' (fin h' z') rv⟩
    · exact ⟨H, Z, Z, _, _, hh, e2, fun σ' H' Z' h' z' => kk _ Z' H' (fin h' z') .non⟩
theorem FunV.binds {x qual : Str} {st : Stmt} {f : Addr} {fd : FuncData} {ps : List Str} (F : FunV K x qual st f fd .none)
    (h : ∀ (kV doc pm : Value) (an : Option Addr) (cdv ct : Value) (us : List Value), us.length = ps.length → bindArgs (PySem.W.fnOf x qual (defArgs st) (defBody st) (defScope st) .none kV doc pm an cdv ct) ⟨us, []⟩ = pure (ps.zip us)) : Binds K fd ps [] := by
  obtain ⟨oc, od, kV, doc, pm, an, cdv, ct, osl, rfl, lk, hcd⟩ := F.ex
  exact .all (h kV doc pm an cdv ct)
/-- with defaults: ds of them fill up -/
theorem FunV.bindsD {x qual : Str} {st : Stmt} {f T : Addr} {fd : FuncData} {ps : List Str} {o : Obj} {items : Array Value} {n : Nat} {ds : List Value} (F : FunV K x qual st f fd (.ref T)) (ho : K.lookup T = some o) (hs : o.data = .seq items n) (nu : Nat) (hn : nu + ds.length = ps.length)
    (h : ∀ (kV doc pm : Value) (an : Option Addr) (cdv ct : Value) (us : List Value), us.length = nu → ∃ kk, bindArgs (PySem.W.fnOf x qual (defArgs st) (defBody st) (defScope st) (.ref T) kV doc pm an cdv ct) ⟨us, []⟩ = seqItems? (.ref T) >>= kk ∧ kk (some items) = pure (ps.zip (us ++ ds))) : Binds K fd ps ds := by
  obtain ⟨oc, od, kV, doc, pm, an, cdv, ct, osl, rfl, lk, hcd⟩ := F.ex
  intro s us KX hl
  obtain ⟨kk, h1, h2⟩ := h kV doc pm an cdv ct us (by rw [List.length_append] at hl; omega)
  exact BindsTo.of_defaults rfl (KX _ _ ho) hs h1 h2
theorem funV_mk {x qual : Str} {st : Stmt} {f : Addr} {dV oc : Value} {od an : Option Addr} {osl : Array (Option Value)} {kV doc pm cdv ct : Value} (l : K.lookup f = some ⟨oc, od, .func (PySem.W.fnOf x qual (defArgs st) (defBody st) (defScope st) dV kV doc pm an cdv ct), osl⟩)
    (c : PySem.W.codeIn K cdv qual = true) (k : PySem.W.keepIn K (.ref f) = true) : FunV K x qual st f (PySem.W.fnOf x qual (defArgs st) (defBody st) (defScope st) dV kV doc pm an cdv ct) dV := ⟨⟨oc, od, kV, doc, pm, an, cdv, ct, osl, rfl, l, c⟩, k⟩
/-- law's: a list of at most 63 ints is handed in, True comes out -/
noncomputable def spLaw (K : PySem.W.Frag) : Sp := fun vs H Q _ => ∃ (a : Addr) (ns : List Int), vs = [.ref a] ∧ SqL K H a (ns.map V.int) ∧ ns.length ≤ 63 ∧ ∀ H', Q (.bl true) H'
theorem law_v {g : List D → Option D} {k : Nat} {f : Addr} {fd : FuncData} (F : FnOk P w K mg base CX0 k f fd ["script"] (spD K g)) (hg : ∀ ns : List Int, ns.length ≤ 63 → g [.list (ns.map .int)] = some (.bool true)) : FnOk P w K mg base CX0 k f fd ["script"] (spLaw K) :=
  F.imp fun vs H Q E h => by
    obtain ⟨a, ns, rfl, hS, hl, q⟩ := h
    exact ⟨H, [.list (ns.map .int)], .bool true, Same.refl _, .cons (.lst hS (Reps.ints ns)) .nil, hg ns hl, fun v Z' H' _ r => by cases r; exact q H'⟩
end
theorem walkV {k : Nat} {l : PySem.W.OpenLaw} {q : Program} {loose : List Str} {XP : (Str → Option Value) → Heap → Prop} {YP : World → Heap → Prop} {d : DefRec} {K : Params → PySem.W.Frag} (hn : l.most = some 63) (hr : Room k callerA) (hdf : d.params.defaults = [])
    (hY : ∀ (w : World) (h : Heap), YP w h → (K w.params).In h)
    (F : ∀ (w : World) (mg : Str → Option Value) (fa : Addr) (h : Heap), (K w.params).In h → h.Ns mainGlobals mg → mg d.name = some (.ref fa) →
      ∃ fd : FuncData, (∀ (s : Shared) (u : Value), BindsTo s fd ⟨[u], []⟩ [("script", u)]) ∧ ∀ base : Heap, (K w.params).In base → base.Ns mainGlobals mg → FnOk l.prog w (K w.params) mg base CX0 k fa fd ["script"] (spLaw (K w.params))) :
    PySem.W.WalkO q loose XP YP l.row.toRowW d [] (fun f vs => PySem.call f vs) :=
  L2.walk_of (n := 63) (k := k) (x := "script") (CX := fun _ => CX0) (sp := fun w => spLaw (K w.params)) hn (by decide) hdf hr hY F (fun _ _ a ns hl _ hS => ⟨a, ns, rfl, hS, hl, fun _ => rfl⟩) fun _ _ _ _ _ z => z
/-! ### a def by its own body -/
section
variable {P : Program} {w : World} {K : PySem.W.Frag} {mg : Str → Option Value} {base : Heap}
theorem fn_b {x qual : Str} {st : Stmt} {f : Addr} {fd : FuncData} {dV : Value} {N ps : List Str} {k : Nat} {b : Sf} (F : FunV K x qual st f fd dV) (S : FnScope N ps (defScope st))
    (hb : ∀ (cdv : Value) (A : Around) (outer : List Env) (s : Shared) (H : Hp) (E : XK), Room k (A.deeper (envOfC qual (defScope st) s.heap.objs.size f cdv)) → BV (cxOf CX0 P w K mg base N qual (defScope st) f cdv A outer s H E).nox (defBody st) b) :
    FnOk P w K mg base CX0 (k + 1) f fd ps (spD K (runB N ps.length b)) := by
  refine fn_v F S (fun as d h => ?_) hb fun as d h => ?_
  · unfold runB at h
    split at h
    · assumption
    · cases h
  · unfold runB at h
    split at h
    · obtain ⟨⟨fl, δ'⟩, e, h⟩ := bind_some h
      cases fl with
      | nx => cases h; exact ⟨δ', .inr ⟨rfl, e⟩⟩
      | rt d => cases h; exact ⟨δ', .inl e⟩
      | bk => cases h
      | ct => cases h
    · cases h
/-- a def that may be called: g what it is worth, dd the defaults that fill up -/
structure Cal (P : Program) (w : World) (K : PySem.W.Frag) (mg : Str → Option Value) (base : Heap) (x : Str) (k : Nat) (g : List D → Option D) (dd : List D) : Prop where
  ex : ∃ (fa : Addr) (fd : FuncData) (ps : List Str) (ds : List Value) (dv : List V), FnOk P w K mg base CX0 k fa fd ps (spD K g) ∧ mg x = some (.ref fa) ∧ PySem.W.keepIn K (.ref fa) = true ∧ Binds K fd ps ds ∧ Vals dv ds ∧ ∀ Z, Reps K Z dv dd
theorem Cal.mk0 {x : Str} {k : Nat} {g : List D → Option D} {fa : Addr} {fd : FuncData} {ps : List Str} (F : FnOk P w K mg base CX0 k fa fd ps (spD K g)) (hm : mg x = some (.ref fa)) (hk : PySem.W.keepIn K (.ref fa) = true) (hb : Binds K fd ps []) : Cal P w K mg base x k g [] :=
  ⟨⟨fa, fd, ps, [], [], F, hm, hk, hb, .nil, fun _ => .nil⟩⟩
end
section
variable {X : Cx} {e : Expr} {es : List Expr} {p pos : Pos} {fs : Dv → Option (List D)}
theorem ev_def {k : Nat} {x : Str} {g : List D → Option D} {dd : List D} (C : Cal X.prog X.w X.K X.mg X.base x k g dd) (hr : Room k X.A) (hg : Gl X x) (ha : AV X (e :: es) fs) (hdb : (x == ("__debug__" : Str)) = false := by decide) (he : starEach (e :: es) X.env = (false, eval e X.env) :: starEach es X.env := by rfl)
    (hpl : (backTo pos (starEach es X.env)).any (·.1) = false := by rfl) : EV X (.Call (.Name x p) (e :: es) [] pos) (os fs fun as => g (as ++ dd)) := by
  obtain ⟨fa, fd, ps, ds, dv, F, hm, hk, hb, hd, hdd⟩ := C.ex
  exact ev_call F hr hg hm hk hb hd hdd pass0 ha hdb he hpl
variable {tg a : Expr} {f : Dv → Option D}
theorem iv_seq (ha : EV X a f) : IV X tg a (oI f itsD) := by
  intro pins s σ H R I h
  obtain ⟨H₀, Z₀, Z, δ, ds, hh, e, k⟩ := h
  obtain ⟨y, e1, e⟩ := bind_some e
  cases y with
  | list xs => exact iv_list ha pins s σ H R I ⟨H₀, Z₀, Z, δ, ds, hh, by unfold oI; rw [e1]; exact e, k⟩
  | tuple xs => exact iv_tup ha pins s σ H R I ⟨H₀, Z₀, Z, δ, ds, hh, by unfold oI; rw [e1]; exact e, k⟩
  | _ => cases e
end
end VL

set_option Elab.async false
set_option linter.all false
set_option maxRecDepth 100000
set_option maxHeartbeats 4000000
namespace VL
open PySem PySem.Spec PyProof.Rows L2
/-! ### comprehensions -/
/-- the cells that a block takes along -/
noncomputable def clos (env : Env) : List (Str × NameKind) → List (Str × Addr) → List (Str × Addr)
  | [], cs => cs
  | (n, k) :: r, cs => if k == .free then clos env r ((n, (env.cells.lookup n).getD 0) :: cs) else clos env r cs
theorem forIn_clos {env : Env} : ∀ (l : List (Str × NameKind)) (cs : List (Str × Addr)), (∀ y ∈ l, y.2 = .free → ∃ c, env.cells.lookup y.1 = some c) →
    (forIn l cs fun (x : Str × NameKind) (r : List (Str × Addr)) => (if (x.2 == NameKind.free) = true then do let c ← cellOf env x.1; pure (ForInStep.yield ((x.1, c) :: r)) else pure (ForInStep.yield r) : Sem (ForInStep (List (Str × Addr))))) = pure (clos env l cs)
  | [], cs, _ => rfl
  | (n, k) :: r, cs, h => by
    have ih := fun cs' => forIn_clos r cs' fun y hy => h y (List.mem_cons_of_mem _ hy)
    rw [List.forIn_cons]
    cases hk : k == NameKind.free with
    | true =>
      have hk' : k = .free := by simpa using hk
      obtain ⟨c, ec⟩ := h (n, k) List.mem_cons_self hk'
      have e1 : cellOf env n = pure c := by unfold cellOf; rw [ec]
      simp only [hk, if_true, e1, pure_bind, clos, ec, Option.getD_some]
      exact ih _
    | false =>
      simp only [hk, Bool.false_eq_true, if_false, pure_bind, clos]
      exact ih _
theorem closureFor_eq {scope : Scope} {env : Env} (h : ∀ y ∈ scope.names, y.2 = .free → ∃ c, env.cells.lookup y.1 = some c) : closureFor scope env = pure (clos env scope.names []) := by
  simp only [closureFor]
  have := forIn_clos (env := env) scope.names [] h
  first
    | (rw [this]; rfl)
    | (simp only [this]; rfl)
    | (unfold closureFor; simp_all)
theorem clos_lookup {env : Env} : ∀ (l : List (Str × NameKind)) (cs : List (Str × Addr)) (y : Str) (c : Addr), (∀ z ∈ l, z.2 = .free → ∃ c, env.cells.lookup z.1 = some c) → (clos env l cs).lookup y = some c → cs.lookup y = some c ∨ env.cells.lookup y = some c
  | [], cs, y, c, _, e => .inl e
  | (n, k) :: r, cs, y, c, h, e => by
    unfold clos at e
    have hr := fun z hz => h z (List.mem_cons_of_mem _ hz)
    split at e
    · rename_i hk
      rcases clos_lookup r _ y c hr e with q | q
      · rw [List.lookup_cons] at q
        cases hy : y == n with
        | true =>
          have hy' : y = n := by simpa using hy
          subst hy'
          rw [hy] at q
          obtain ⟨c', ec⟩ := h (y, k) List.mem_cons_self (by simpa using hk)
          simp only [ec, Option.getD_some] at q
          cases q
          exact .inr ec
        | false => rw [hy] at q; exact .inl q
      · exact .inr q
    · exact clos_lookup r cs y c hr e
theorem clos_has {env : Env} : ∀ (l : List (Str × NameKind)) (cs : List (Str × Addr)) (y : Str), ((y, NameKind.free) ∈ l ∨ (cs.lookup y).isSome = true) → ((clos env l cs).lookup y).isSome = true
  | [], cs, y, h => by
    rcases h with h | h
    · cases h
    · exact h
  | (n, k) :: r, cs, y, h => by
    unfold clos
    split
    · rename_i hk
      refine clos_has r _ y ?_
      rcases h with h | h
      · rcases List.mem_cons.mp h with e | e
        · cases e; exact .inr (by simp [List.lookup_cons])
        · exact .inl e
      · refine .inr ?_
        rw [List.lookup_cons]
        cases hy : y == n with
        | true => rfl
        | false => exact h
    · rename_i hk
      refine clos_has r cs y ?_
      rcases h with h | h
      · rcases List.mem_cons.mp h with e | e
        · cases e; exact absurd rfl hk
        · exact .inl e
      · exact .inr h
theorem relabel_lookup {env : Env} {y : Str} : ∀ (l : List (Str × NameKind)), (∀ z ∈ l, z.2 ≠ .cell) →
    (((l.map fun (n, k) => if (k == NameKind.free && env.scope.kind == .function && env.kindOf n == some .cell) then (n, NameKind.cell) else (n, k)).lookup y = some .cell ∨ (l.map fun (n, k) => if (k == NameKind.free && env.scope.kind == .function && env.kindOf n == some .cell) then (n, NameKind.cell) else (n, k)).lookup y = some .free) ↔ l.lookup y = some .free)
  | [], _ => by simp
  | (n, k) :: r, h => by
    have ih := relabel_lookup (env := env) (y := y) r fun z hz => h z (List.mem_cons_of_mem _ hz)
    have hk : k ≠ .cell := h (n, k) List.mem_cons_self
    rw [List.map_cons]
    cases hy : y == n with
    | true =>
      by_cases hc : (k == NameKind.free && env.scope.kind == .function && env.kindOf n == some .cell) = true
      · have hf : k = .free := by
          simp only [Bool.and_eq_true] at hc
          simpa using hc.1.1
        simp only [if_pos hc, List.lookup_cons, hy]
        simp [hf]
      · simp only [if_neg hc, List.lookup_cons, hy]
        simp [hk]
    | false =>
      by_cases hc : (k == NameKind.free && env.scope.kind == .function && env.kindOf n == some .cell) = true
      · simp only [if_pos hc, List.lookup_cons, hy]; exact ih
      · simp only [if_neg hc, List.lookup_cons, hy]; exact ih
/-- the context of a comprehension's block -/
noncomputable def blk (X : Cx) (scope : Scope) (N : List Str) (C : Addr) (s₀ : Shared) (H₀ : Hp) (ex : List Addr) : Cx :=
  { X with N := N, s₀ := s₀, H₀ := H₀, env := compEnvC scope (clos X.env scope.names []) C X.env, outer := X.stack, stack := X.stack, ex := ex, fn := fun _ => false, pn := [], xe := fun _ _ => False }
/-- what must be seen of the block's text: on the names of the code around, ON its slots -/
structure BlkOk (on : List (Str × NameKind)) (ON : List Str) (scope : Scope) (vars : List Str) (caps : List (Nat × Str)) : Prop where
  kind : scope.kind = .function
  cell : ∀ y ∈ scope.names, y.2 ≠ .cell
  names : ∀ y ∈ scope.names, y.2 = .local → scope.names.lookup y.1 = some .local
  free : ∀ y ∈ scope.names, y.2 = .free → on.lookup y.1 = some .cell ∨ on.lookup y.1 = some .free
  cap : ∀ p ∈ caps, ON[p.1]? = some p.2 ∧ scope.names.lookup p.2 = some .free
section
variable {X : Cx} {pins : List (Addr × Obj)} {σ : St} {H H' : Hp} {s s' : Shared} {scope : Scope} {vars : List Str} {caps : List (Nat × Str)} {fp : List Addr} {C : Addr}
noncomputable def capV (σ : St) (caps : List (Nat × Str)) : St := caps.map fun p => (σ[p.1]?).getD none
theorem BlkOk.cells (B : BlkOk X.env.scope.names X.N scope vars caps) (I : Inv X pins σ H s) : ∀ y ∈ scope.names, y.2 = .free → ∃ c, X.env.cells.lookup y.1 = some c := fun y hy e => I.ok.has y.1 (B.free y hy e)
theorem blk_ok (B : BlkOk X.env.scope.names X.N scope vars caps) (I : Inv X pins σ H s) (hf : ∀ b ∈ fp, FpOk X pins H b) (hlt : ∀ b ∈ fp, b < s.heap.objs.size) (hC : s.heap.objs.size ≤ C) : (blk X scope (vars ++ caps.map (·.2)) C s H fp).Ok where
  mod := I.ok.mod
  kind := B.kind
  glob := I.ok.glob
  blt := I.ok.blt
  above := hC
  inj := fun x y c e1 e2 => by
    rcases clos_lookup _ _ _ _ (B.cells I) e1 with q1 | q1
    · cases q1
    · rcases clos_lookup _ _ _ _ (B.cells I) e2 with q2 | q2
      · cases q2
      · exact I.ok.inj x y c q1 q2
  has := fun x e => by
    have : scope.names.lookup x = some .free := (relabel_lookup scope.names B.cell).mp e
    have := clos_has (env := X.env) scope.names [] x (.inl (PySem.mem_of_lookup this))
    exact Option.isSome_iff_exists.mp this
  cab := fun x c e => nomatch e
  hd := I.ok.hd
  frames := I.ok.frames
  stk := .inl rfl
  exf := fun b hb => ⟨Nat.ne_of_lt (Nat.lt_of_lt_of_le (hlt b hb) hC), fun x c e => by
    rcases clos_lookup _ _ _ _ (B.cells I) e with q | q
    · cases q
    · exact (hf b hb).2.2.2.2.1 x c q⟩
  bs := I.bs
  bsz := Nat.le_trans I.ok.bsz I.sz
  noex := fun b o e hb => by
    rcases (hf b hb).2.2.2.1 with z | z
    · exact I.ok.noex b o e z
    · exact absurd (Nat.lt_of_lt_of_le (Heap.lt_size e) (Nat.le_trans I.ok.bsz z)) (Nat.lt_irrefl _)
  exfs := fun b hb z => by
    rcases List.mem_cons.mp (I.stkSub b z) with q | q
    · exact (hf b hb).2.1 q
    · exact (hf b hb).2.2.1 q
  funs := I.stack
  frf := I.stkFree
/-- the block is entered -/
theorem blk_inv (B : BlkOk X.env.scope.names X.N scope vars caps) (I : Inv X pins σ H s) (hf : ∀ b ∈ fp, FpOk X pins H b) (hlt : ∀ b ∈ fp, b < s.heap.objs.size) (hC : s.heap.objs.size ≤ C) {h₁ : Heap} {m : Str → Option Value} {tk : Nat} (hns : h₁.Ns C m) (old : ∀ b o, s.heap.get? b = some o → h₁.get? b = some o) :
    Inv (blk X scope (vars ++ caps.map (·.2)) C s H fp) [] (vars.map (fun _ => none) ++ capV σ caps) H { s with heap := h₁, toks := tk } := by
  refine ⟨blk_ok B I hf hlt hC, rfl, I.bare, Un.kept old, ⟨m, hns, fun i x v e1 e2 e3 => ?_⟩, fun x c e => ?_, I.hok.fresh hC, fun x c e => ?_, fun p hp => absurd (show p ∈ ([] : List (Addr × Obj)) from hp) (by simp), I.hok.kept old, ?_⟩
  · have e1 : (vars ++ caps.map (·.2))[i]? = some x := e1
    by_cases hi : i < vars.length
    · rw [List.getElem?_append_left (by simpa using hi), List.getElem?_map] at e2
      cases q : vars[i]? <;> rw [q] at e2 <;> cases e2
    · rw [List.getElem?_append_right (by simpa using hi)] at e1 e2
      simp only [List.length_map] at e2
      unfold capV at e2
      rw [List.getElem?_map] at e1 e2
      cases q : caps[i - vars.length]? with
      | none => rw [q] at e1; cases e1
      | some p =>
        rw [q] at e1 e2
        cases e1
        have hp := List.mem_of_getElem? q
        obtain ⟨g1, g2⟩ := B.cap p hp
        have gf : X.env.scope.names.lookup p.2 = some .cell ∨ X.env.scope.names.lookup p.2 = some .free := B.free (p.2, .free) (PySem.mem_of_lookup g2) rfl
        have ev : σ[p.1]? = some (some v) := by
          have e2 : (σ[p.1]?).getD none = some v := Option.some.inj e2
          cases z : σ[p.1]? with
          | none => rw [z] at e2; cases e2
          | some w => rw [z] at e2; rw [show w = some v from e2]
        obtain ⟨m', _, hl⟩ := I.loc
        obtain ⟨u, r, l⟩ := hl p.1 p.2 v g1 ev (gf.elim (fun z => .inr (.inl z)) fun z => .inr (.inr z))
        refine ⟨u, r, .inr ⟨?_, ?_⟩⟩
        · exact (relabel_lookup scope.names B.cell).mpr g2
        · rcases l with ⟨z, _⟩ | ⟨_, c, ec, hc⟩
          · have z : X.env.scope.names.lookup p.2 = some .local := z
            rcases gf with w | w <;> rw [z] at w <;> cases w
          · obtain ⟨c', q'⟩ := Option.isSome_iff_exists.mp (clos_has (env := X.env) scope.names [] p.2 (.inl (PySem.mem_of_lookup g2)))
            rcases clos_lookup _ _ _ _ (B.cells I) q' with w | w
            · cases w
            · rw [ec] at w
              cases w
              obtain ⟨o, ho, hd⟩ := hc
              exact ⟨c, q', o, old c o ho, hd⟩
  · rcases clos_lookup _ _ _ _ (B.cells I) e with q | q
    · cases q
    · obtain ⟨v, o, ho, hd⟩ := I.cell x c q
      exact ⟨v, o, old c o ho, hd⟩
  · rcases clos_lookup _ _ _ _ (B.cells I) e with q | q
    · cases q
    · exact I.freeC x c q
  · simp [blk, capV]
/-- the block is left: its list is told -/
theorem blk_out (I : Inv X pins σ H s) (hf : ∀ b ∈ fp, FpOk X pins H b) {D : Addr} {s' : Shared} {σ' : St} {N : List Str} {ys : List V} {its : List Value} (hC : s.heap.objs.size ≤ C) (hD : s.heap.objs.size ≤ D) (hDC : D ≠ C)
    (J : Inv (blk X scope N C s H fp) [] σ' H' s') (hD' : H' D = none) (hp : s'.heap.PlainList D its.toArray) (hv : Vals ys its) (hz : ys.length ≤ sizeLine) {h' : Heap} (hs : Heap.SameBut C s'.heap h') :
    Inv X pins σ (upd H' D (.lst ys)) { s' with heap := h' } := by
  have U : Un (frs X.stack) fp H H' s.heap s'.heap := J.base
  have neC : ∀ b o, s.heap.get? b = some o → b ≠ C := fun b o e => Nat.ne_of_lt (Nat.lt_of_lt_of_le (Heap.lt_size e) hC)
  have neD : ∀ b o, s.heap.get? b = some o → b ≠ D := fun b o e => Nat.ne_of_lt (Nat.lt_of_lt_of_le (Heap.lt_size e) hD)
  have mv : ∀ b o, b ≠ C → s'.heap.get? b = some o → h'.get? b = some o := fun b o hb e => hs.extBut b o hb e
  have tD : ∀ b o, H' b = some o → (upd H' D (.lst ys)) b = some o := fun b o e => by rw [upd_ne (ne_of_none e hD')]; exact e
  refine I.call' (s' := { s' with heap := h' }) (ch := fp) J.os ⟨fun b o e n h1 h2 => mv b o (neC b o e) (U.keep b o e n h1 h2), fun b o e n h1 h2 => ?_, fun b o e n h2 => ?_, fun b o e h2 => ?_, fun b xs e => tD _ _ (U.tups b xs e), fun b o xs e => tD _ _ (U.frzs b o xs e), fun b ps e => ?_⟩ (fun b o e => ?_) J.bare
    (fun b hb => ⟨(hf b hb).2.2.2.1, (hf b hb).2.1, (hf b hb).2.2.2.2.1, (hf b hb).2.2.2.2.2⟩)
  · obtain ⟨sl, q⟩ := U.slot b o e n h1 h2
    exact ⟨sl, mv b _ (neC b o e) q⟩
  · rw [upd_ne (neD b o e)]; exact U.free b o e n h2
  · obtain ⟨o', q⟩ := U.there b o e h2
    exact ⟨o', mv b _ (neC b o e) q⟩
  · obtain ⟨more, q⟩ := U.tbls b ps e
    exact ⟨more, tD _ _ q⟩
  · by_cases hb : b = D
    · subst hb
      rw [upd_same] at e
      cases e
      obtain ⟨n, q⟩ := hp
      exact ⟨hz, its, n, hv, mv _ _ hDC q⟩
    · rw [upd_ne hb] at e
      refine (J.hok b o e).stay (fun c v hc q => mv c v ?_ q) (fun c q => tD _ _ q) fun c xs q => tD _ _ q
      intro z
      have fc : H' C = none := J.free
      rcases hc with w | w
      · rw [← w, z, fc] at e; cases e
      · rw [z, fc] at w; cases w
theorem compTurn_go (elt target iter : Expr) (scope : Scope) (pos : Pos) (it acc : Value) (env : Env) :
    compTurn (.ListComp elt [⟨target, iter, [], 0⟩] scope pos) 0 it acc env = (standAt iter.pos >>= fun _ => pyNext it >>= fun r => match r with
      | none => pure (.done .next)
      | some v => letOwnedTupleGo target it v >>= fun _ => assign target env v >>= fun _ =>
        (eval elt env >>= fun x => call (.builtin "list.append") [acc, x] >>= fun _ => pure ()) >>= fun _ =>
          again (.compLoop (.ListComp elt [⟨target, iter, [], 0⟩] scope pos) 0 it acc env)) := by rfl
/-- what is wanted of a comprehension, turn by turn: W the invariant by the turn, a measure, the items so far -/
noncomputable def KeepS (σ σ' : St) : Prop := σ.length = σ'.length ∧ ∀ (i : Nat) v, σ[i]? = some (some v) → σ'[i]? = some (some v)
noncomputable def tComp (wi : TI) (g : TG) (te : TE) (vars : List Str) (caps : List (Nat × Str)) : TE := fun σ H Q => wi σ H fun J H1 => ∃ W : Nat → Nat → List V → Hp → Prop, (∃ m, W 0 m [] H1) ∧ ∀ i m ys H, W i m ys H →
  (J.stop i H ∧ ys.length ≤ sizeLine ∧ ∀ p, H p = none → Q (.ref p) (upd H p (.lst ys))) ∨
  (J.go i H ∧ ys.length < sizeLine ∧ ∀ x H', J.yld i H x H' → g x (vars.map (fun _ => none) ++ capV σ caps) H' fun σ2 H2 => KeepS (vars.map (fun _ => none) ++ capV σ caps) σ2 ∧ te σ2 H2 fun y H3 => ∃ m', m' < m ∧ W (i + 1) m' (ys ++ [y]) H3)
theorem Inv.weaken {X : Cx} {pins : List (Addr × Obj)} {σ σ' : St} {H : Hp} {s : Shared} (I : Inv X pins σ H s) (hl : σ'.length = σ.length) (w : ∀ (i : Nat) v, σ'[i]? = some (some v) → σ[i]? = some (some v)) : Inv X pins σ' H s := I.weak hl w
theorem codeAny_comp_go {prog : Program} {w : World} {A : Around} {R : Result → Shared → Prop} {s : Shared} {elt target iter : Expr} {scope : Scope} {pos : Pos} {it acc : Value} {env : Env} (I : Nat → Shared → Prop)
    (turn : ∀ n s, I n s → wpAny (model prog w) A (pyNext it) (fun r s₁ => match r with
      | none => R (.ok .next) s₁
      | some v => wpAny (model prog w) A (letOwnedTupleGo target it v) (fun _ s₁ => wpAny (model prog w) A (assign target env v) (fun _ s₂ => wpAny (model prog w) A (eval elt env) (fun x s₃ =>
          wpAny (model prog w) A (call (.builtin "list.append") [acc, x]) (fun _ s₄ => ∃ m, m < n ∧ I m s₄) (fun _ _ => False) s₃) (fun _ _ => False) s₂) (fun _ _ => False) s₁) (fun _ _ => False) s₁) (fun _ _ => False) s)
    (n : Nat) (h : I n s) : codeAny (model prog w) A (.compLoop (.ListComp elt [⟨target, iter, [], 0⟩] scope pos) 0 it acc env) R s := by
  refine codeAny_loop rfl I (fun n s hI => ?_) n h
  show wpAny _ _ ((compTurn (.ListComp elt [⟨target, iter, [], 0⟩] scope pos) 0 it acc env).onRaise (fun x => do noteFrame x env; theTreesLotGoes x)) _ _ s
  refine wpAny_noted ?_
  rw [compTurn_go]
  refine wpAny_bind (wpAny_standAt (wpAny_bind (wpAny_mono (turn n s hI) (fun r s₁ h₁ => ?_) fun _ _ h' => h'.elim)))
  cases r with
  | none => exact wpAny_pure h₁
  | some v =>
    refine wpAny_bind (wpAny_mono h₁ (fun _ s₁ h₁ => ?_) fun _ _ h' => h'.elim)
    exact wpAny_bind (wpAny_mono h₁ (fun _ s₂ h₂ => wpAny_bind (wpAny_bind (wpAny_mono h₂ (fun x s₃ h₃ => wpAny_bind (wpAny_mono h₃
      (fun _ s₄ h₄ => wpAny_pure (wpAny_pure ⟨rfl, h₄⟩)) fun _ _ h' => h'.elim)) fun _ _ h' => h'.elim))) fun _ _ h' => h'.elim)
end
section
variable {X : Cx} {scope : Scope} {vars : List Str} {caps : List (Nat × Str)} {elt tg iter : Expr} {pos : Pos} {wi : TI} {g : TG} {te : TE}
/-- the walk of the block -/
theorem comp_block (B : BlkOk X.env.scope.names X.N scope vars caps) (hc : X.calm = true)
    (hg : ∀ C s₀ H₀ ex, PG (blk X scope (vars ++ caps.map (·.2)) C s₀ H₀ ex) tg g) (he : ∀ C s₀ H₀ ex, PE (blk X scope (vars ++ caps.map (·.2)) C s₀ H₀ ex) elt te)
    {pins : List (Addr × Obj)} {σ : St} {H2 : Hp} {s2 : Shared} {Q : VK} {it : Addr} {fp : List Addr} {tn : Nat → Heap → Prop} {J : It} (I2 : Inv X pins σ H2 s2) (T : Turn X.prog X.w X.K tg J fp it tn) (st2 : tn 0 s2.heap) (f2 : ∀ b ∈ fp, FpOk X pins H2 b)
    {W : Nat → Nat → List V → Hp → Prop} {m0 : Nat} (w0 : W 0 m0 [] H2) (turn : ∀ i m ys H, W i m ys H →
      (J.stop i H ∧ ys.length ≤ sizeLine ∧ ∀ p, H p = none → Q (.ref p) (upd H p (.lst ys))) ∨
      (J.go i H ∧ ys.length < sizeLine ∧ ∀ x H', J.yld i H x H' → g x (vars.map (fun _ => none) ++ capV σ caps) H' fun σ2 H2 => KeepS (vars.map (fun _ => none) ++ capV σ caps) σ2 ∧ te σ2 H2 fun y H3 => ∃ m', m' < m ∧ W (i + 1) m' (ys ++ [y]) H3))
    {RR : Value → Addr → Result → Shared → Prop} {E : Value → Shared → Prop}
    (hRR : ∀ D C s' m, s'.heap.Ns C m → D ≠ C → s2.heap.objs.size ≤ D → s2.heap.objs.size ≤ C → ∀ H', H' C = none → (∀ h', Heap.SameBut C s'.heap h' → Inv X pins σ H' { s' with heap := h' }) → Q (.ref D) H' → RR (.ref D) C (.ok .next) s') :
    wpAny (model X.prog X.w) X.A (newList []) (fun acc s₃ => wpAny (model X.prog X.w) X.A (newFunctionEnv scope X.env.globals (clos X.env scope.names []) [] X.env.qual none .none (some X.env)) (fun cenv s₄ =>
      codeAny (model X.prog X.w) X.A (.compStart (.ListComp elt [⟨tg, iter, [], 0⟩] scope pos) 0 (.ref it) acc { cenv with scope := relabel scope X.env }) (RR acc cenv.locals) s₄) E s₃) E s2 := by
  refine wpAny_newObj_type (wpAny_newFunctionEnv B.cell (by intro y hy; simp at hy) (fun h₁ hns₁ hsb₁ => ?_) B.kind)
  dsimp only at hns₁ hsb₁ ⊢
  generalize hP : s2.heap.push { cls := .type "list", dict := none, data := .seq ([] : List Value).toArray } = HP at hns₁ hsb₁ ⊢
  have hCs : HP.objs.size = s2.heap.objs.size + 1 := by rw [← hP, Heap.size_push]
  have hDC : s2.heap.objs.size ≠ HP.objs.size := by rw [hCs]; exact Nat.ne_of_lt (Nat.lt_succ_self _)
  have hCle : s2.heap.objs.size ≤ HP.objs.size := by rw [hCs]; exact Nat.le_succ _
  have old : ∀ b o, s2.heap.get? b = some o → h₁.get? b = some o := fun b o e => hsb₁.extBut b o (Nat.ne_of_lt (Nat.lt_of_lt_of_le (Heap.lt_size e) hCle)) (Heap.get?_push_of_some _ (hP ▸ Heap.get?_push_of_some _ e))
  have hacc : h₁.PlainList s2.heap.objs.size #[] := ⟨_, hsb₁.extBut _ _ hDC (Heap.get?_push_of_some _ (hP ▸ Heap.get?_push_size _ rfl))⟩
  have flt : ∀ b ∈ fp, b < s2.heap.objs.size := fun b hb => by
    obtain ⟨o, e, _⟩ := T.obj _ _ st2 b hb
    exact Heap.lt_size e
  have st1 : tn 0 h₁ := T.keep _ _ _ st2 fun b _ o e => old b o e
  -- the loop
  have loop : ∀ s3 : Shared, s3 = { s2 with heap := h₁, toks := s2.toks + ([] : List (Str × Value)).length } →
      codeAny (model X.prog X.w) X.A (.compLoop (.ListComp elt [⟨tg, iter, [], 0⟩] scope pos) 0 (.ref it) (.ref s2.heap.objs.size) (compEnvC scope (clos X.env scope.names []) HP.objs.size X.env))
        (RR (.ref s2.heap.objs.size) HP.objs.size) s3 := by
    rintro s3 rfl
    have X' := blk X scope (vars ++ caps.map (·.2)) HP.objs.size s2 H2 fp
    have fpo : ∀ {H' : Hp}, (∀ b ∈ fp, H' b = none) → ∀ b ∈ fp, FpOk (blk X scope (vars ++ caps.map (·.2)) HP.objs.size s2 H2 fp) [] H' b := fun hn b hb => by
      have ok := blk_ok B I2 f2 flt hCle
      exact ⟨hn b hb, (ok.exf b hb).1, ok.exfs b hb, .inl hb, (ok.exf b hb).2, fun p hp => absurd (show p ∈ ([] : List (Addr × Obj)) from hp) (by simp)⟩
    refine codeAny_comp_go (fun n s => ∃ i ys H its, Inv (blk X scope (vars ++ caps.map (·.2)) HP.objs.size s2 H2 fp) [] (vars.map (fun _ => none) ++ capV σ caps) H s ∧ tn i s.heap ∧ (∀ b ∈ fp, H b = none) ∧ s.heap.PlainList s2.heap.objs.size (List.toArray its) ∧ H s2.heap.objs.size = none ∧ Vals ys its ∧ W i n ys H) ?_ m0
      ⟨0, [], H2, [], blk_inv B I2 f2 flt hCle hns₁ old, st1, fun b hb => (f2 b hb).1, hacc, I2.hok.fresh (Nat.le_refl _), .nil, w0⟩
    rintro n s4 ⟨i, ys, H4, its, I4, st4, fr4, pl4, nD4, v4, w4⟩
    obtain ⟨nn, eD⟩ := id pl4
    have DnL : s2.heap.objs.size ≠ (blk X scope (vars ++ caps.map (·.2)) HP.objs.size s2 H2 fp).env.locals := hDC
    have Dfs : s2.heap.objs.size ∉ (blk X scope (vars ++ caps.map (·.2)) HP.objs.size s2 H2 fp).fs := fun z => by
      rcases List.mem_cons.mp (I2.stkSub _ z) with q | q
      · have := I2.lt; rw [← q] at this; exact Nat.lt_irrefl _ this
      · exact I2.nofs (Nat.le_refl _) q
    have Dfp : ∀ b ∈ fp, s2.heap.objs.size ≠ b := fun b hb z => by have := flt b hb; rw [← z] at this; exact Nat.lt_irrefl _ this
    have DnC : ∀ x c, (blk X scope (vars ++ caps.map (·.2)) HP.objs.size s2 H2 fp).env.cells.lookup x = some c → c ≠ s2.heap.objs.size := fun x c e z => by
      rcases clos_lookup _ _ _ _ (B.cells I2) e with q | q
      · cases q
      · obtain ⟨v, o, ho, _⟩ := I2.cell x c q
        have := Heap.lt_size ho
        rw [z] at this
        exact Nat.lt_irrefl _ this
    have pinD : ∀ {σ' : St} {H' : Hp} {s' : Shared}, Inv (blk X scope (vars ++ caps.map (·.2)) HP.objs.size s2 H2 fp) [(s2.heap.objs.size, { cls := .type "list", data := .seq its.toArray nn })] σ' H' s' → s'.heap.PlainList s2.heap.objs.size its.toArray ∧ H' s2.heap.objs.size = none := fun {σ' H' s'} I' => by
      obtain ⟨q1, q2, _⟩ := I'.pin (s2.heap.objs.size, { cls := .type "list", data := .seq its.toArray nn }) (by simp [blk])
      exact ⟨⟨nn, q1⟩, q2⟩
    have I4p : Inv (blk X scope (vars ++ caps.map (·.2)) HP.objs.size s2 H2 fp) [(s2.heap.objs.size, { cls := .type "list", data := .seq its.toArray nn })] (vars.map (fun _ => none) ++ capV σ caps) H4 s4 :=
      I4.pins_of fun p hp => by
        have e : p = (s2.heap.objs.size, { cls := .type "list", data := .seq its.toArray nn }) := by simpa [blk] using hp
        subst e
        exact ⟨eD, nD4, DnL, Dfs, fun v z => by cases z⟩
    have fpo' : ∀ {H' : Hp}, (∀ b ∈ fp, H' b = none) → ∀ b ∈ fp, FpOk (blk X scope (vars ++ caps.map (·.2)) HP.objs.size s2 H2 fp) [(s2.heap.objs.size, { cls := .type "list", data := .seq its.toArray nn })] H' b := fun hn b hb => by
      obtain ⟨q1, q2, q3, q4, q5, _⟩ := fpo hn b hb
      exact ⟨q1, q2, q3, q4, q5, fun p hp => by
        have e : p = (s2.heap.objs.size, { cls := .type "list", data := .seq its.toArray nn }) := by simpa [blk] using hp
        subst e
        exact Dfp b hb⟩
    have unp : ∀ {pl : List (Addr × Obj)} {σ' : St} {H' : Hp} {s' : Shared}, Inv (blk X scope (vars ++ caps.map (·.2)) HP.objs.size s2 H2 fp) pl σ' H' s' → Inv (blk X scope (vars ++ caps.map (·.2)) HP.objs.size s2 H2 fp) [] σ' H' s' := fun {pl σ' H' s'} I' =>
      I'.pins_of fun p hp => absurd (show p ∈ ([] : List (Addr × Obj)) from hp) (by simp)
    rcases turn i n ys H4 w4 with ⟨stop, hz, qn⟩ | ⟨go, hz, step⟩
    · refine thn (T.done (blk X scope (vars ++ caps.map (·.2)) HP.objs.size s2 H2 fp) rfl rfl rfl hc i _ s4 _ H4 _ I4p (fpo' fr4) st4 stop) fun r s5 ⟨hr, I5⟩ => ?_
      subst hr
      obtain ⟨p5, n5⟩ := pinD I5
      obtain ⟨m5, ns5, _⟩ := I5.loc
      refine hRR _ _ s5 m5 ns5 hDC (Nat.le_refl _) hCle _ ?_ (fun h' hs' => blk_out I2 f2 hCle (Nat.le_refl _) hDC (unp I5) n5 p5 v4 hz hs') (qn _ n5)
      rw [upd_ne hDC.symm]
      exact I5.free
    · refine thn (T.item (blk X scope (vars ++ caps.map (·.2)) HP.objs.size s2 H2 fp) rfl rfl rfl hc i _ s4 _ H4 _ I4p (fpo' fr4) st4 go) fun r s5 ⟨u, hr, h5⟩ => ?_
      subst hr
      refine thn h5 fun _ s6 ⟨x, H6, I6, rx, yx, st6, fr6⟩ => ?_
      have I6p := I6.pinned (fpo' fr6) (T.obj _ _ st6)
      refine thn (hg _ _ _ _ _ s6 _ H6 x u _ I6p rx (step x H6 yx)) fun _ s7 ⟨σ7, H7, I7, kp, q7⟩ => ?_
      refine thn (he _ _ _ _ _ s7 σ7 H7 _ I7 q7) fun v s8 ⟨y, H8, I8, ry, m', hm, w8⟩ => ?_
      obtain ⟨p8, n8⟩ := pinD I8.unpinned
      have st8 : tn (i + 1) s8.heap := T.keep _ _ _ st6 fun b hb o e => (I8.pin (b, o) (List.mem_append_right _ (List.mem_append_right _ (mem_pinsAt hb e)))).1
      have fr8 : ∀ b ∈ fp, H8 b = none := fun b hb => by
        obtain ⟨o, e, d⟩ := T.obj _ _ st6 b hb
        exact (I8.pin (b, o) (List.mem_append_right _ (List.mem_append_right _ (mem_pinsAt hb e)))).2.1
      have hl := v4.length
      refine wpAny_list_append_plain p8 (fun h9 p9 sb9 => ⟨m', hm, i + 1, ys ++ [y], H8, its ++ [v], ?_, ?_, fr8, by simpa using p9, n8, v4.append (.cons ry .nil), w8⟩) (by simp; omega)
      · have I9 : Inv (blk X scope (vars ++ caps.map (·.2)) HP.objs.size s2 H2 fp) [] σ7 H8 { s8 with heap := h9, toks := s8.toks } :=
          (unp I8).turned (it := s2.heap.objs.size) (fun b o hb e => sb9.extBut b o hb e) n8 DnL (.inr (Nat.le_refl _)) DnC fun p hp => absurd (show p ∈ ([] : List (Addr × Obj)) from hp) (by simp)
        exact I9.weak kp.1 kp.2
      · exact T.keep _ _ _ st8 fun b hb o e => sb9.extBut b o (Dfp b hb).symm e
  exact codeAny_compStart_list (loop _ rfl) (T.self _ 0 _ _ _ st1 (loop _ rfl))
theorem pe_comp (B : BlkOk X.env.scope.names X.N scope vars caps) (hc : X.calm = true) (hi : PI X tg iter wi)
    (hg : ∀ C s₀ H₀ ex, PG (blk X scope (vars ++ caps.map (·.2)) C s₀ H₀ ex) tg g) (he : ∀ C s₀ H₀ ex, PE (blk X scope (vars ++ caps.map (·.2)) C s₀ H₀ ex) elt te) (hs : ∀ x, foldedSetIterable iter X.env x = pure x := by intro _; rfl) :
    PE X (.ListComp elt [⟨tg, iter, [], 0⟩] scope pos) (tComp wi g te vars caps) := by
  intro pins s σ H Q I h
  rw [eval_ListComp]
  refine wpAny_comprehension_free (use := none) rfl hs (closureFor_eq (B.cells I)) B.kind B.names ?_
  show wpAny _ _ (eval iter X.env) _ _ s
  refine thn (hi pins s σ H _ I h) fun v s1 h1 => thn h1 fun itv s2 h2 => ?_
  obtain ⟨it, fp, tn, J, H2, e, I2, T, st2, f2, W, ⟨m0, w0⟩, turn⟩ := h2
  subst e
  exact comp_block B hc hg he I2 T st2 f2 w0 turn (RR := fun acc C => compPost (model X.prog X.w) X.A X.xe none (EP X pins σ Q) acc C) fun D C s' m ns _ _ _ H' _ k q => ⟨m, ns, fun h' hs' => ⟨.ref D, H', k h' hs', rfl, q⟩⟩
/-- y = [..]: the store is exchanged with the block's own names -/
theorem ps_comp {i : Nat} {y : Str} {py spos : Pos} (B : BlkOk X.env.scope.names X.N scope vars caps) (hc : X.calm = true) (hi : PI X tg iter wi)
    (hg : ∀ C s₀ H₀ ex, PG (blk X scope (vars ++ caps.map (·.2)) C s₀ H₀ ex) tg g) (he : ∀ C s₀ H₀ ex, PE (blk X scope (vars ++ caps.map (·.2)) C s₀ H₀ ex) elt te)
    (hN : X.N.Nodup) (hy : X.N[i]? = some y) (hx : Loc X.env.scope y) (hsw : swapsWith (.ListComp elt [⟨tg, iter, [], 0⟩] scope pos) (some (.Name y py)) spos.line X.env = pure true)
    (hf : X.fn y = true ∨ X.env.scope.names.lookup y = some .local) (hs : ∀ x, foldedSetIterable iter X.env x = pure x := by intro _; rfl) :
    PS X (.Assign [.Name y py] (.ListComp elt [⟨tg, iter, [], 0⟩] scope pos) spos) (fun D σ H => tComp wi g te vars caps σ H fun v H1 => D.nx (σ.set i (some v)) H1) := by
  intro pins s σ H DE I h
  rw [exec_Assign_Name_used _ _ _ _ hsw]
  refine wpAny_bind (wpAny_standAt (wpAny_bind ?_))
  show wpAny _ X.A (do let _ ← comprehension (.ListComp elt [⟨tg, iter, [], 0⟩] scope pos) scope X.env _ (newList []) false (eval iter X.env) (some (assign (.Name y py) X.env))) _ _ s
  refine wpAny_bind (wpAny_mono (wpAny_comprehension_free (use := some (assign (.Name y py) X.env)) (Q := fun _ s' => SP X pins DE .next s') rfl hs (closureFor_eq (B.cells I)) B.kind B.names
    (thn (hi pins s σ H _ I h) fun v s1 h1 => thn h1 fun itv s2 h2 => ?_)) (fun _ s' hq => wpAny_pure (wpAny_pure hq)) fun _ _ e => e)
  obtain ⟨it, fp, tn, J, H2, e, I2, T, st2, f2, W, ⟨m0, w0⟩, turn⟩ := h2
  subst e
  refine comp_block (Q := fun v H1 => DE.nx (σ.set i (some v)) H1) B hc hg he I2 T st2 f2 w0 turn (RR := fun acc C => compPost (model X.prog X.w) X.A X.xe (some (assign (.Name y py) X.env)) (fun _ s' => SP X pins DE .next s') acc C) ?_
  intro D C s' m ns hDC hD hC H' hHC k q
  obtain ⟨oC, es, ep, eC, dC, rC⟩ := ns
  have I' : Inv X pins σ H' s' := k s'.heap (Heap.SameBut.refl ..)
  have nL : C ≠ X.env.locals := fun z => by have := I2.lt; rw [← z] at this; exact absurd (Nat.lt_of_lt_of_le this hC) (Nat.lt_irrefl _)
  have nF : C ∉ X.fs := I2.nofs hC
  have nCell : ∀ x c, X.env.cells.lookup x = some c → c ≠ C := fun x c e z => by
    obtain ⟨v, o, ho, _⟩ := I2.cell x c e
    have := Heap.lt_size ho
    rw [z] at this
    exact absurd (Nat.lt_of_lt_of_le this hC) (Nat.lt_irrefl _)
  have nPin : ∀ p ∈ X.pn ++ pins, p.1 ≠ C := fun p hp z => by
    have := Heap.lt_size (I2.pin p hp).1
    rw [z] at this
    exact absurd (Nat.lt_of_lt_of_le this hC) (Nat.lt_irrefl _)
  have Ip : Inv X (pins ++ [(C, oC)]) σ H' s' := I'.pins_of fun p hp => by
    rcases List.mem_append.mp hp with z | z
    · exact I'.pin p (List.mem_append_right _ z)
    · have e : p = (C, oC) := by simpa using z
      subst e
      exact ⟨eC, hHC, nL, nF, fun v z => by rw [dC] at z; cases z⟩
  refine thn (pg_name (pos := py) hN hy hx hf _ s' σ H' (.ref D) (.ref D) (fun σ' H'' => σ' = σ.set i (some (.ref D)) ∧ H'' = H' ∧ DE.nx σ' H'') Ip rfl ⟨rfl, rfl, q⟩) fun _ s'' ⟨σ'', H'', I'', e1, e2, q''⟩ => ?_
  subst e1 e2
  have eC'' : s''.heap.get? C = some oC := (I''.pin (C, oC) (List.mem_append_right _ (List.mem_append_right _ (by simp)))).1
  refine ⟨m, ⟨oC, es, ep, eC'', dC, rC⟩, fun h' hs' => ⟨_, H'', ?_, q''⟩⟩
  exact I''.unpinned.turned (t' := s''.toks) (it := C) (fun b o hb e => hs'.extBut b o hb e) hHC nL (.inr (Nat.le_trans I2.sz hC)) nCell nPin
end
/-! ### comprehensions by plain functions -/
noncomputable def slF : Option Sl → Sl
  | some (.fz d) => .fz d
  | _ => .un
@[simp] theorem slF_fz (d : D) : slF (some (.fz d)) = .fz d := rfl
noncomputable def capS (δ : Dv) (caps : List (Nat × Str)) : Dv := caps.map fun p => slF δ[p.1]?
noncomputable def mapO (f : D → Option D) : List D → Option (List D)
  | [] => some []
  | d :: ds => (f d).bind fun e => (mapO f ds).bind fun es => some (e :: es)
noncomputable def oComp (fi : Dv → Option (List D)) (caps : List (Nat × Str)) (bv : D → Option (List D)) (fe : Dv → Option D) : Dv → Option D := fun δ => (fi δ).bind fun ds => if ds.length ≤ sizeLine then (mapO (fun d => (bv d).bind fun vs => fe (vs.map .fz ++ capS δ caps)) ds).bind fun es => some (.list es) else none
noncomputable def bv1 : D → Option (List D) := fun d => some [d]
theorem mapO_length {f : D → Option D} : ∀ {ds es : List D}, mapO f ds = some es → es.length = ds.length
  | [], es, h => by cases h; rfl
  | d :: ds, es, h => by
    obtain ⟨e, _, h⟩ := bind_some h
    obtain ⟨es', h2, h⟩ := bind_some h
    cases h
    exact congrArg (· + 1) (mapO_length h2)
theorem mapO_get {f : D → Option D} : ∀ {ds es : List D} {i : Nat} {d : D}, mapO f ds = some es → ds[i]? = some d → ∃ e, f d = some e ∧ es[i]? = some e
  | [], es, i, d, h, q => by simp at q
  | d :: ds, es, i, d', h, q => by
    obtain ⟨e, h1, h⟩ := bind_some h
    obtain ⟨es', h2, h⟩ := bind_some h
    cases h
    cases i with
    | zero => simp at q; subst q; exact ⟨e, h1, rfl⟩
    | succ i => simp at q; obtain ⟨e', g1, g2⟩ := mapO_get (i := i) h2 q; exact ⟨e', g1, by simpa using g2⟩
/-- how a target of the block binds -/
noncomputable def TgOk (K : Fg) (g : TG) (n : Nat) (bv : D → Option (List D)) : Prop := ∀ (x : V) (Z : Hp) (d : D) (vs : List D) (σc : St) (H : Hp) (R : St → Hp → Prop), Rep K Z x d → Same Z H → bv d = some vs → (∀ us, Reps K Z us vs → us.length = n → R (us.map some ++ σc) H) → g x (List.replicate n none ++ σc) H R
theorem tg_one {K : Fg} : TgOk K (gName 0) 1 bv1 := fun x Z d vs σc H R r zh e k => by
  cases e
  exact k [x] (.cons r .nil) rfl
section
variable {X : Cx} {scope : Scope} {vars : List Str} {caps : List (Nat × Str)} {elt tg iter : Expr} {pos : Pos} {g : TG} {fi : Dv → Option (List D)} {fe : Dv → Option D} {bv : D → Option (List D)}
theorem capV_get {σ : St} {δ : Dv} {K : Fg} {H₀ Z₀ Z H : Hp} (hh : Hold K H₀ Z₀ Z δ σ H) : ∀ (j : Nat) d, (capS δ caps)[j]? = some (.fz d) → ∃ v, (capV σ caps)[j]? = some (some v) ∧ Rep K Z v d := fun j d e => by
  unfold capS at e
  unfold capV
  rw [List.getElem?_map] at e ⊢
  cases q : caps[j]? with
  | none => rw [q] at e; cases e
  | some p =>
    rw [q] at e
    have e : slF δ[p.1]? = .fz d := Option.some.inj e
    cases z : δ[p.1]? with
    | none => rw [z] at e; cases e
    | some sl =>
      rw [z] at e
      cases sl with
      | fz d' =>
        cases e
        obtain ⟨v, g1, g2⟩ := hh.fz p.1 _ z
        exact ⟨v, by show some ((σ[p.1]?).getD none) = _; rw [g1]; rfl, g2⟩
      | un => cases e
      | ow _ => cases e
theorem capS_ow {δ : Dv} : ∀ (j : Nat) ds, (capS δ caps)[j]? ≠ some (.ow ds) := fun j ds e => by
  unfold capS at e
  rw [List.getElem?_map] at e
  cases q : caps[j]? with
  | none => rw [q] at e; cases e
  | some p =>
    rw [q] at e
    have e : slF δ[p.1]? = .ow ds := Option.some.inj e
    cases z : δ[p.1]? with
    | none => rw [z] at e; cases e
    | some sl => rw [z] at e; cases sl <;> cases e
/-- a block's slots hold -/
theorem blk_hold {σ : St} {δ : Dv} {K : Fg} {H₀ Z₀ Z H : Hp} (hh : Hold K H₀ Z₀ Z δ σ H) {us : List V} {vs : List D} (r : Reps K Z us vs) : Hold K H Z Z (vs.map .fz ++ capS δ caps) (us.map some ++ capV σ caps) H := by
  have hl := r.length
  refine ⟨hh.zh, Same.refl _, Same.refl _, fun _ _ => rfl, by simp [capS, capV, hl], fun i d e => ?_, fun i ds e => ?_, fun i j ds es a _ e => ?_⟩
  · by_cases hi : i < vs.length
    · rw [List.getElem?_append_left (by simpa using hi), List.getElem?_map] at e
      cases q : vs[i]? with
      | none => rw [q] at e; cases e
      | some d' =>
        rw [q] at e
        cases e
        obtain ⟨v, g1, g2⟩ := r.get q
        exact ⟨v, by rw [List.getElem?_append_left (by simpa [hl] using hi), List.getElem?_map, g1]; rfl, g2⟩
    · rw [List.getElem?_append_right (by simpa using hi)] at e
      obtain ⟨v, g1, g2⟩ := capV_get hh _ d e
      refine ⟨v, ?_, g2⟩
      rw [List.getElem?_append_right (by simpa [hl] using hi)]
      simp only [List.length_map] at g1 ⊢
      rw [hl]; exact g1
  all_goals
    exfalso
    by_cases hi : i < vs.length
    · rw [List.getElem?_append_left (by simpa using hi), List.getElem?_map] at e
      cases q : vs[i]? <;> rw [q] at e <;> cases e
    · rw [List.getElem?_append_right (by simpa using hi)] at e
      exact capS_ow _ _ e
theorem comp_read (tk : TgOk X.K g vars.length bv) {σ : St} {H : Hp} {Q : VK} (h : tV X.K (oComp fi caps bv fe) σ H Q) : tComp (tVI X.K fi) g (tV X.K fe) vars caps σ H Q := by
  obtain ⟨H₀, Z₀, Z, δ, d, hh, e, k⟩ := h
  obtain ⟨ds, e1, e⟩ := bind_some e
  by_cases hz : ds.length ≤ sizeLine
  · rw [if_pos hz] at e
    obtain ⟨es, e2, e⟩ := bind_some e
    cases e
    have le := mapO_length e2
    have hv : vars.map (fun _ => (none : Option V)) = List.replicate vars.length none := by rw [List.map_const']
    refine ⟨H₀, Z₀, Z, δ, ds, hh, e1, fun J Z1 H1 hh1 t1 ok => ?_⟩
    refine ⟨fun i m ys H => m = ds.length - i ∧ i ≤ ds.length ∧ ∃ Zc, Hold X.K H₀ Z₀ Zc δ σ H ∧ Same Z1 Zc ∧ Reps X.K Zc ys (es.take i), ⟨ds.length, by simp, Nat.zero_le _, Z1, hh1, Same.refl _, by simpa using .nil⟩, ?_⟩
    rintro i m ys H2 ⟨rfl, hi2, Zc, hhc, tc, rc⟩
    have zh : Same Z1 H2 := tc.trans hhc.zh
    have ly := rc.length
    rw [List.length_take] at ly
    by_cases hlt : i < ds.length
    · refine .inr ⟨ok.go i H2 zh hlt, by omega, fun x H3 y => ?_⟩
      have ed : ds[i]? = some ds[i] := by simp [hlt]
      obtain ⟨rfl, rx⟩ := ok.yld i H2 x H3 _ zh ed y
      obtain ⟨ei, f1, f2⟩ := mapO_get e2 ed
      obtain ⟨vs, f3, f1⟩ := bind_some f1
      rw [hv]
      refine tk x Zc ds[i] vs (capV σ caps) H3 _ (rx.same tc) hhc.zh f3 fun us ru hn => ⟨⟨by simp [hn], fun j v q => ?_⟩, ?_⟩
      · by_cases hj : j < vars.length
        · rw [List.getElem?_append_left (by simpa using hj), List.getElem?_replicate] at q
          split at q <;> cases q
        · rw [List.getElem?_append_right (by simpa using hj)] at q
          rw [List.getElem?_append_right (by simpa [hn] using hj)]
          simpa [hn] using q
      · refine ⟨H3, Zc, Zc, _, ei, blk_hold hhc ru, f1, fun v Z4 H4 h4 t4 r4 => ⟨ds.length - (i + 1), by omega, rfl, hlt, Z4, hhc.new ⟨t4, h4.h0, h4.zh, h4.zb⟩, tc.trans t4, ?_⟩⟩
        have : es.take (i + 1) = es.take i ++ [ei] := by
          rw [List.take_add_one, f2]; rfl
        rw [this]
        exact (rc.same t4).append (.cons r4 .nil)
    · have hie : i = ds.length := by omega
      subst hie
      refine .inl ⟨ok.stop _ H2 zh (Nat.le_refl _), by omega, fun p hp => ?_⟩
      rw [← le, List.take_length] at rc
      have n := New.add hhc.zh hp (.lst ys)
      exact k _ _ _ (hhc.new n) ((t1.trans tc).trans n.z) (.lst (SqL.of upd_same) (rc.same n.z))
  · rw [if_neg hz] at e; cases e
theorem ev_comp (B : BlkOk X.env.scope.names X.N scope vars caps) (hc : X.calm = true) (hi : IV X tg iter fi) (tk : TgOk X.K g vars.length bv)
    (hg : ∀ C s₀ H₀ ex, PG (blk X scope (vars ++ caps.map (·.2)) C s₀ H₀ ex) tg g) (he : ∀ C s₀ H₀ ex, EV (blk X scope (vars ++ caps.map (·.2)) C s₀ H₀ ex) elt fe) (hs : ∀ x, foldedSetIterable iter X.env x = pure x := by intro _; rfl) :
    EV X (.ListComp elt [⟨tg, iter, [], 0⟩] scope pos) (oComp fi caps bv fe) :=
  PE.imp (pe_comp (te := tV X.K fe) B hc hi hg he hs) fun _ _ _ h => comp_read tk h
theorem sv_comp (i : Nat) {y : Str} {py spos : Pos} (hN : X.N.Nodup) (B : BlkOk X.env.scope.names X.N scope vars caps) (hc : X.calm = true) (hi : IV X tg iter fi) (tk : TgOk X.K g vars.length bv)
    (hg : ∀ C s₀ H₀ ex, PG (blk X scope (vars ++ caps.map (·.2)) C s₀ H₀ ex) tg g) (he : ∀ C s₀ H₀ ex, EV (blk X scope (vars ++ caps.map (·.2)) C s₀ H₀ ex) elt fe)
    (hy : X.N[i]? = some y := by rfl) (hx : Loc X.env.scope y := by first | exact Or.inl rfl | exact Or.inr rfl) (hsw : swapsWith (.ListComp elt [⟨tg, iter, [], 0⟩] scope pos) (some (.Name y py)) spos.line X.env = pure true := by rfl)
    (hf : X.fn y = true ∨ X.env.scope.names.lookup y = some .local := by first | exact .inl rfl | exact .inr rfl | assumption) (hs : ∀ x, foldedSetIterable iter X.env x = pure x := by intro _; rfl) :
    SV X (.Assign [.Name y py] (.ListComp elt [⟨tg, iter, [], 0⟩] scope pos) spos) (sSet i (oComp fi caps bv fe)) :=
  PS.imp (ps_comp (te := tV X.K fe) B hc hi hg he hN hy hx hsw hf hs) fun D σ H h => by
    obtain ⟨H₀, Z₀, Z, δ, r, hh, e, k⟩ := h
    obtain ⟨x, e1, e⟩ := bind_some e
    cases e
    exact comp_read tk ⟨H₀, Z₀, Z, δ, x, hh, e1, fun v Z1 H1 hh1 s1 r1 => k _ H1 Z1 (hh1.set r1) s1⟩
end
end VL

set_option Elab.async false
set_option linter.all false
set_option maxRecDepth 100000
set_option maxHeartbeats 4000000
namespace VL
open PySem PySem.Spec PyProof.Rows L2
section
variable {X : Cx} {e : Expr} {es : List Expr} {p pos : Pos} {fs : Dv → Option (List D)}
/-- a def of the text, every argument given -/
theorem ev_def0 {k : Nat} {x : Str} {g : List D → Option D} (C : Cal X.prog X.w X.K X.mg X.base x k g []) (hr : Room k X.A) (hg : Gl X x) (ha : AV X (e :: es) fs) (hdb : (x == ("__debug__" : Str)) = false := by decide) (he : starEach (e :: es) X.env = (false, eval e X.env) :: starEach es X.env := by rfl)
    (hpl : (backTo pos (starEach es X.env)).any (·.1) = false := by rfl) : EV X (.Call (.Name x p) (e :: es) [] pos) (os fs g) := by
  have h := ev_def C hr hg ha hdb he hpl (p := p) (pos := pos)
  have e : (fun as => g (as ++ [])) = g := by funext as; rw [List.append_nil]
  rw [e] at h
  exact h
end
/-- a plain value at the module's top -/
structure TopV (K : Fg) (mg : Str → Option Value) (x : Str) (d : D) : Prop where
  ex : ∃ v u, mg x = some u ∧ RelV v u ∧ ∀ Z, Rep K Z v d
theorem TopV.tup {K : Fg} {mg : Str → Option Value} {x : Str} {a : Addr} {td : Option Addr} {its : Array Value} {tn : Nat} {ts : Array (Option Value)} {xs : List V} {ds : List D} (hm : mg x = some (.ref a)) (hk : K.lookup a = some ⟨.type "tuple", td, .seq its tn, ts⟩)
    (hz : its.size ≤ sizeLine) (hv : Vals xs its.toList) (hr : ∀ Z, Reps K Z xs ds) : TopV K mg x (.tuple ds) := ⟨.ref a, .ref a, hm, rfl, fun Z => .tup (.inr ⟨_, its, tn, hk, rfl, rfl, hz, hv⟩) (hr Z)⟩
theorem TopV.int {K : Fg} {mg : Str → Option Value} {x : Str} {i : Int} {t : Tok} (hm : mg x = some (.int i t)) : TopV K mg x (.int i) := ⟨.int i, .int i t, hm, ⟨t, rfl⟩, fun _ => .int i⟩
theorem ev_topV {X : Cx} {x : Str} {pos : Pos} {d : D} (T : TopV X.K X.mg x d) (hg : Gl X x) (hd : (x == ("__debug__" : Str)) = false := by decide) : EV X (.Name x pos) (oC d) := by
  obtain ⟨v, u, hm, r, h⟩ := T.ex
  exact ev_c (pe_glob hg hm r hd) h
/-! ### lists of one's own -/
noncomputable def slO : Option Sl → Option (List D)
  | some (.ow ds) => some ds
  | _ => none
@[simp] theorem slO_ow (ds : List D) : slO (some (.ow ds)) = some ds := rfl
theorem slO_eq {o : Option Sl} {ds : List D} (h : slO o = some ds) : o = some (.ow ds) := by
  cases o with
  | none => cases h
  | some s => cases s <;> cases h; rfl
/-- x = [..] -/
@[simp] noncomputable def sOwn (i : Nat) (fs : Dv → Option (List D)) : Sf := fun δ => (fs δ).bind fun ds => if ds.length ≤ sizeLine then some (.nx, δ.set i (.ow ds)) else none
/-- x[k] of one's own -/
@[simp] noncomputable def oIxO (i : Nat) (f : Dv → Option D) : Dv → Option D := fun δ => (slO δ[i]?).bind fun ds => (f δ).bind fun k => ixD (.list ds) k
@[simp] noncomputable def oLenO (i : Nat) : Dv → Option D := fun δ => (slO δ[i]?).bind fun ds => some (.int ds.length)
noncomputable def putD (ds : List D) (k v : D) : Option (List D) := match k with
  | .int j => (ixN ds.length j).map fun n => ds.set n v
  | _ => none
@[simp] theorem putD_int (ds : List D) (j : Int) (v : D) : putD ds (.int j) v = (ixN ds.length j).map fun n => ds.set n v := rfl
/-- x[k] = v -/
@[simp] noncomputable def sPut (i : Nat) (fk fv : Dv → Option D) : Sf := fun δ => (fv δ).bind fun v => (fk δ).bind fun k => (slO δ[i]?).bind fun ds => (putD ds k v).bind fun ds' => some (.nx, δ.set i (.ow ds'))
/-- x.append(v) -/
@[simp] noncomputable def sApp (i : Nat) (f : Dv → Option D) : Sf := fun δ => (f δ).bind fun v => (slO δ[i]?).bind fun ds => if ds.length < sizeLine then some (.nx, δ.set i (.ow (ds ++ [v]))) else none
section
variable {X : Cx} {e b : Expr} {es : List Expr} {p pos tpos apos : Pos} {fs : Dv → Option (List D)} {f fk fv : Dv → Option D}
theorem sv_own (i : Nat) {x : Str} {pos' : Pos} (hN : X.N.Nodup) (ha : AV X es fs) (hi : X.N[i]? = some x := by rfl) (hx : Loc X.env.scope x := by first | exact Or.inl rfl | exact Or.inr rfl) (hs : swapsWith (.List es p) (some (.Name x pos')) pos.line X.env = pure false := by rfl)
    (hf : X.fn x = true ∨ X.env.scope.names.lookup x = some .local := by first | exact .inl rfl | exact .inr rfl | assumption) : SV X (.Assign [.Name x pos'] (.List es p) pos) (sOwn i fs) :=
  PS.imp (ps_set hN hi hx (pe_lst ha) hs hf) fun D σ H h => by
    obtain ⟨H₀, Z₀, Z, δ, r, hh, e, k⟩ := h
    obtain ⟨ds, e1, e⟩ := bind_some e
    by_cases hl : ds.length ≤ sizeLine
    · rw [if_pos hl] at e
      cases e
      exact ⟨H₀, Z₀, Z, δ, ds, hh, e1, fun vs Z1 H1 hh1 t1 r1 => ⟨by rw [r1.length]; exact hl, fun p hp => k _ _ Z1 (hh1.setO hp r1) t1⟩⟩
    · rw [if_neg hl] at e; cases e
theorem ow_at {K : Fg} {H₀ Z₀ Z : Hp} {δ : Dv} {σ : St} {H : Hp} (hh : Hold K H₀ Z₀ Z δ σ H) {i : Nat} {ds : List D} (h : slO δ[i]? = some ds) : ∃ a xs, σ[i]? = some (some (V.ref a)) ∧ H a = some (.lst xs) ∧ Reps K Z xs ds := by
  obtain ⟨a, xs, h1, _, _, h4, h5⟩ := hh.ow i ds (slO_eq h)
  exact ⟨a, xs, h1, h4, h5⟩
theorem ev_ixO (i : Nat) {x : Str} (hb : EV X b f) (hs : PlainIx b) (hN : X.N[i]? = some x := by rfl) (hv : Vis X.env.scope x := by first | exact Or.inl rfl | exact Or.inr (Or.inl rfl) | exact Or.inr (Or.inr rfl)) (hd : (x == ("__debug__" : Str)) = false := by decide) (hcd : (x == ("__classdict__" : Str)) = false := by decide) :
    EV X (.Subscript (.Name x p) b pos) (oIxO i f) :=
  PE.imp (pe_ix ix_list (pe_var hN hv hd hcd) hb hs) fun σ H Q h => by
    obtain ⟨H₀, Z₀, Z, δ, d, hh, e, k⟩ := h
    obtain ⟨ds, e1, e⟩ := bind_some e
    obtain ⟨y, e2, e⟩ := bind_some e
    obtain ⟨a, xs, h1, h4, h5⟩ := ow_at hh e1
    refine ⟨_, h1, H₀, Z₀, Z, δ, y, hh, e2, fun v Z1 H1 hh1 t1 r1 => ?_⟩
    obtain ⟨a', xs', g1, g4, g5⟩ := ow_at hh1 e1
    rw [h1] at g1
    cases g1
    cases r1 with
    | int j =>
      obtain ⟨w, ew, rw'⟩ := g5.at e
      exact ⟨_, _, _, w, rfl, rfl, SqL.of g4, ew, k w Z1 H1 hh1 t1 rw'⟩
    | _ => cases e
theorem ev_lenO (i : Nat) {x : Str} {p2 : Pos} (hg : Gl X "len") (hm : X.mg "len" = none) (hN : X.N[i]? = some x := by rfl) (hv : Vis X.env.scope x := by first | exact Or.inl rfl | exact Or.inr (Or.inl rfl) | exact Or.inr (Or.inr rfl)) (hd : (x == ("__debug__" : Str)) = false := by decide) (hcd : (x == ("__classdict__" : Str)) = false := by decide)
    (he : starEach [.Name x p2] X.env = (false, eval (.Name x p2) X.env) :: starEach [] X.env := by rfl) (hpl : (backTo pos (starEach [] X.env)).any (·.1) = false := by rfl) : EV X (.Call (.Name "len" p) [.Name x p2] [] pos) (oLenO i) :=
  PE.imp (pe_callB call_len hg hm PySem.boot_len (pa_cons (pe_var hN hv hd hcd) pa_nil he) (by decide) (by decide) he hpl) fun σ H Q h => by
    obtain ⟨H₀, Z₀, Z, δ, d, hh, e, k⟩ := h
    obtain ⟨ds, e1, e⟩ := bind_some e
    cases e
    obtain ⟨a, xs, h1, h4, h5⟩ := ow_at hh e1
    exact ⟨_, h1, _, _, rfl, .inl ⟨xs, SqL.of h4, rfl⟩, k _ Z H hh (Same.refl _) (by rw [h5.length]; exact .int _)⟩
theorem sv_app (i : Nat) {x : Str} {cpos : Pos} (hv' : EV X e f) (hN : X.N[i]? = some x := by rfl) (hv : Vis X.env.scope x := by first | exact Or.inl rfl | exact Or.inr (Or.inl rfl) | exact Or.inr (Or.inr rfl)) (hd : (x == ("__debug__" : Str)) = false := by decide) (hcd : (x == ("__classdict__" : Str)) = false := by decide)
    (hbase : attributeBase (.Name x p) "append" X.env (eval (.Name x p) X.env) = eval (.Name x p) X.env := by rfl)
    (hfew : ((backTo cpos (starEach [e] X.env)).all (fun x => !x.1) && (backToKw cpos (keywordEach [] X.env)).all (fun x => x.1.isSome)
      && decide ([e].length + ([] : List Keyword).length + (if ([] : List Keyword).isEmpty then 0 else 1) < 30)) = true := by rfl)
    (hline : (apos.endLine == cpos.line) = true := by rfl) (hs : starEach [e] X.env = (false, eval e X.env) :: starEach [] X.env := by rfl) (hplain : (backTo cpos (starEach [] X.env)).any (·.1) = false := by rfl)
    (hsw : swapsWith (.Call (.Attribute (.Name x p) "append" apos) [e] [] cpos) none pos.line X.env = pure false := by rfl) : SV X (.Expr (.Call (.Attribute (.Name x p) "append" apos) [e] [] cpos) pos) (sApp i f) :=
  PS.imp (ps_expr (pe_bm PySem.F.plainAttrs_list PySem.F.slot_list_append PySem.F.type_list_append mt_append (pe_var hN hv hd hcd) (pa_cons hv' pa_nil hs) hbase hfew hline hs hplain) hsw) fun D σ H h => by
    obtain ⟨H₀, Z₀, Z, δ, r, hh, e, k⟩ := h
    obtain ⟨v, e1, e⟩ := bind_some e
    obtain ⟨ds, e2, e⟩ := bind_some e
    by_cases hl : ds.length < sizeLine
    · rw [if_pos hl] at e
      cases e
      obtain ⟨a, xs, h1, h4, h5⟩ := ow_at hh e2
      refine ⟨_, h1, .inl ⟨rfl, xs, SqL.of h4⟩, H₀, Z₀, Z, δ, v, hh, e1, fun w Z1 H1 hh1 t1 r1 => ?_⟩
      obtain ⟨a', xs', g1, g4, g5⟩ := ow_at hh1 e2
      rw [h1] at g1
      cases g1
      exact ⟨a, xs', w, rfl, rfl, g4, by rw [g5.length]; exact hl, k σ _ Z1 (hh1.chg (xs := xs') (slO_eq e2) h1 (g5.append (.cons r1 .nil))) t1⟩
    · rw [if_neg hl] at e; cases e
end
end VL

set_option Elab.async false
set_option linter.all false
set_option maxRecDepth 100000
set_option maxHeartbeats 4000000
namespace VL
open PySem PySem.Spec PyProof.Rows L2
/-! ### comprehensions with a test -/
section
noncomputable def tCompI (wi : TI) (g : TG) (tt : TT) (te : TE) (vars : List Str) (caps : List (Nat × Str)) : TE := fun σ H Q => wi σ H fun J H1 => ∃ W : Nat → Nat → List V → Hp → Prop, (∃ m, W 0 m [] H1) ∧ ∀ i m ys H, W i m ys H →
  (J.stop i H ∧ ys.length ≤ sizeLine ∧ ∀ p, H p = none → Q (.ref p) (upd H p (.lst ys))) ∨
  (J.go i H ∧ ys.length < sizeLine ∧ ∀ x H', J.yld i H x H' → g x (vars.map (fun _ => none) ++ capV σ caps) H' fun σ2 H2 => KeepS (vars.map (fun _ => none) ++ capV σ caps) σ2 ∧ tt σ2 H2 fun b H3 => if b = true then te σ2 H3 fun y H4 => ∃ m', m' < m ∧ W (i + 1) m' (ys ++ [y]) H4 else ∃ m', m' < m ∧ W (i + 1) m' ys H3)
theorem codeAny_comp_goI {prog : Program} {w : World} {A : Around} {R : Result → Shared → Prop} {s : Shared} {elt target iter cnd : Expr} {scope : Scope} {pos : Pos} {it acc : Value} {env : Env} (I : Nat → Shared → Prop)
    (turn : ∀ n s, I n s → wpAny (model prog w) A (pyNext it) (fun r s₁ => match r with
      | none => R (.ok .next) s₁
      | some v => wpAny (model prog w) A (letOwnedTupleGo target it v) (fun _ s₁ => wpAny (model prog w) A (assign target env v) (fun _ s₂ => wpAny (model prog w) A (isTrue cnd env (eval cnd env)) (fun ok s₂ => if ok = true then wpAny (model prog w) A (eval elt env) (fun x s₃ =>
          wpAny (model prog w) A (call (.builtin "list.append") [acc, x]) (fun _ s₄ => ∃ m, m < n ∧ I m s₄) (fun _ _ => False) s₃) (fun _ _ => False) s₂ else ∃ m, m < n ∧ I m s₂) (fun _ _ => False) s₂) (fun _ _ => False) s₁) (fun _ _ => False) s₁) (fun _ _ => False) s)
    (n : Nat) (h : I n s) : codeAny (model prog w) A (.compLoop (.ListComp elt [⟨target, iter, [cnd], 0⟩] scope pos) 0 it acc env) R s := by
  refine codeAny_loop rfl I (fun n s hI => ?_) n h
  show wpAny _ _ ((compTurn (.ListComp elt [⟨target, iter, [cnd], 0⟩] scope pos) 0 it acc env).onRaise (fun x => do noteFrame x env; theTreesLotGoes x)) _ _ s
  refine wpAny_noted ?_
  rw [compTurn_list]
  refine wpAny_bind (wpAny_standAt (wpAny_bind (wpAny_mono (turn n s hI) (fun r s₁ h₁ => ?_) fun _ _ h' => h'.elim)))
  cases r with
  | none => exact wpAny_pure h₁
  | some v =>
    refine wpAny_bind (wpAny_mono h₁ (fun _ s₁ h₁ => ?_) fun _ _ h' => h'.elim)
    refine wpAny_bind (wpAny_mono h₁ (fun _ s₂ h₂ => ?_) fun _ _ h' => h'.elim)
    refine wpAny_bind (wpAny_tests_one (wpAny_mono h₂ (fun okb s₃ h₃ => ?_) fun _ _ h' => h'.elim))
    cases okb with
    | false => exact wpAny_pure ⟨rfl, h₃⟩
    | true => exact wpAny_bind (wpAny_bind (wpAny_mono h₃ (fun x s₄ h₄ => wpAny_bind (wpAny_mono h₄ (fun _ s₅ h₅ => wpAny_pure (wpAny_pure ⟨rfl, h₅⟩)) fun _ _ h' => h'.elim)) fun _ _ h' => h'.elim))
end
section
variable {X : Cx} {scope : Scope} {vars : List Str} {caps : List (Nat × Str)} {elt tg iter cnd : Expr} {pos : Pos} {wi : TI} {g : TG} {tt : TT} {te : TE}
/-- the walk of the block -/
theorem comp_blockI (B : BlkOk X.env.scope.names X.N scope vars caps) (hc : X.calm = true)
    (hg : ∀ C s₀ H₀ ex, PG (blk X scope (vars ++ caps.map (·.2)) C s₀ H₀ ex) tg g) (hb : ∀ C s₀ H₀ ex, PT (blk X scope (vars ++ caps.map (·.2)) C s₀ H₀ ex) cnd tt) (he : ∀ C s₀ H₀ ex, PE (blk X scope (vars ++ caps.map (·.2)) C s₀ H₀ ex) elt te)
    {pins : List (Addr × Obj)} {σ : St} {H2 : Hp} {s2 : Shared} {Q : VK} {it : Addr} {fp : List Addr} {tn : Nat → Heap → Prop} {J : It} (I2 : Inv X pins σ H2 s2) (T : Turn X.prog X.w X.K tg J fp it tn) (st2 : tn 0 s2.heap) (f2 : ∀ b ∈ fp, FpOk X pins H2 b)
    {W : Nat → Nat → List V → Hp → Prop} {m0 : Nat} (w0 : W 0 m0 [] H2) (turn : ∀ i m ys H, W i m ys H →
      (J.stop i H ∧ ys.length ≤ sizeLine ∧ ∀ p, H p = none → Q (.ref p) (upd H p (.lst ys))) ∨
      (J.go i H ∧ ys.length < sizeLine ∧ ∀ x H', J.yld i H x H' → g x (vars.map (fun _ => none) ++ capV σ caps) H' fun σ2 H2 => KeepS (vars.map (fun _ => none) ++ capV σ caps) σ2 ∧ tt σ2 H2 fun b H3 => if b = true then te σ2 H3 fun y H4 => ∃ m', m' < m ∧ W (i + 1) m' (ys ++ [y]) H4 else ∃ m', m' < m ∧ W (i + 1) m' ys H3))
    {RR : Value → Addr → Result → Shared → Prop} {E : Value → Shared → Prop}
    (hRR : ∀ D C s' m, s'.heap.Ns C m → D ≠ C → s2.heap.objs.size ≤ D → s2.heap.objs.size ≤ C → ∀ H', H' C = none → (∀ h', Heap.SameBut C s'.heap h' → Inv X pins σ H' { s' with heap := h' }) → Q (.ref D) H' → RR (.ref D) C (.ok .next) s') :
    wpAny (model X.prog X.w) X.A (newList []) (fun acc s₃ => wpAny (model X.prog X.w) X.A (newFunctionEnv scope X.env.globals (clos X.env scope.names []) [] X.env.qual none .none (some X.env)) (fun cenv s₄ =>
      codeAny (model X.prog X.w) X.A (.compStart (.ListComp elt [⟨tg, iter, [cnd], 0⟩] scope pos) 0 (.ref it) acc { cenv with scope := relabel scope X.env }) (RR acc cenv.locals) s₄) E s₃) E s2 := by
  refine wpAny_newObj_type (wpAny_newFunctionEnv B.cell (by intro y hy; simp at hy) (fun h₁ hns₁ hsb₁ => ?_) B.kind)
  dsimp only at hns₁ hsb₁ ⊢
  generalize hP : s2.heap.push { cls := .type "list", dict := none, data := .seq ([] : List Value).toArray } = HP at hns₁ hsb₁ ⊢
  have hCs : HP.objs.size = s2.heap.objs.size + 1 := by rw [← hP, Heap.size_push]
  have hDC : s2.heap.objs.size ≠ HP.objs.size := by rw [hCs]; exact Nat.ne_of_lt (Nat.lt_succ_self _)
  have hCle : s2.heap.objs.size ≤ HP.objs.size := by rw [hCs]; exact Nat.le_succ _
  have old : ∀ b o, s2.heap.get? b = some o → h₁.get? b = some o := fun b o e => hsb₁.extBut b o (Nat.ne_of_lt (Nat.lt_of_lt_of_le (Heap.lt_size e) hCle)) (Heap.get?_push_of_some _ (hP ▸ Heap.get?_push_of_some _ e))
  have hacc : h₁.PlainList s2.heap.objs.size #[] := ⟨_, hsb₁.extBut _ _ hDC (Heap.get?_push_of_some _ (hP ▸ Heap.get?_push_size _ rfl))⟩
  have flt : ∀ b ∈ fp, b < s2.heap.objs.size := fun b hb => by
    obtain ⟨o, e, _⟩ := T.obj _ _ st2 b hb
    exact Heap.lt_size e
  have st1 : tn 0 h₁ := T.keep _ _ _ st2 fun b _ o e => old b o e
  -- the loop
  have loop : ∀ s3 : Shared, s3 = { s2 with heap := h₁, toks := s2.toks + ([] : List (Str × Value)).length } →
      codeAny (model X.prog X.w) X.A (.compLoop (.ListComp elt [⟨tg, iter, [cnd], 0⟩] scope pos) 0 (.ref it) (.ref s2.heap.objs.size) (compEnvC scope (clos X.env scope.names []) HP.objs.size X.env))
        (RR (.ref s2.heap.objs.size) HP.objs.size) s3 := by
    rintro s3 rfl
    have X' := blk X scope (vars ++ caps.map (·.2)) HP.objs.size s2 H2 fp
    have fpo : ∀ {H' : Hp}, (∀ b ∈ fp, H' b = none) → ∀ b ∈ fp, FpOk (blk X scope (vars ++ caps.map (·.2)) HP.objs.size s2 H2 fp) [] H' b := fun hn b hb => by
      have ok := blk_ok B I2 f2 flt hCle
      exact ⟨hn b hb, (ok.exf b hb).1, ok.exfs b hb, .inl hb, (ok.exf b hb).2, fun p hp => absurd (show p ∈ ([] : List (Addr × Obj)) from hp) (by simp)⟩
    refine codeAny_comp_goI (fun n s => ∃ i ys H its, Inv (blk X scope (vars ++ caps.map (·.2)) HP.objs.size s2 H2 fp) [] (vars.map (fun _ => none) ++ capV σ caps) H s ∧ tn i s.heap ∧ (∀ b ∈ fp, H b = none) ∧ s.heap.PlainList s2.heap.objs.size (List.toArray its) ∧ H s2.heap.objs.size = none ∧ Vals ys its ∧ W i n ys H) ?_ m0
      ⟨0, [], H2, [], blk_inv B I2 f2 flt hCle hns₁ old, st1, fun b hb => (f2 b hb).1, hacc, I2.hok.fresh (Nat.le_refl _), .nil, w0⟩
    rintro n s4 ⟨i, ys, H4, its, I4, st4, fr4, pl4, nD4, v4, w4⟩
    obtain ⟨nn, eD⟩ := id pl4
    have DnL : s2.heap.objs.size ≠ (blk X scope (vars ++ caps.map (·.2)) HP.objs.size s2 H2 fp).env.locals := hDC
    have Dfs : s2.heap.objs.size ∉ (blk X scope (vars ++ caps.map (·.2)) HP.objs.size s2 H2 fp).fs := fun z => by
      rcases List.mem_cons.mp (I2.stkSub _ z) with q | q
      · have := I2.lt; rw [← q] at this; exact Nat.lt_irrefl _ this
      · exact I2.nofs (Nat.le_refl _) q
    have Dfp : ∀ b ∈ fp, s2.heap.objs.size ≠ b := fun b hb z => by have := flt b hb; rw [← z] at this; exact Nat.lt_irrefl _ this
    have DnC : ∀ x c, (blk X scope (vars ++ caps.map (·.2)) HP.objs.size s2 H2 fp).env.cells.lookup x = some c → c ≠ s2.heap.objs.size := fun x c e z => by
      rcases clos_lookup _ _ _ _ (B.cells I2) e with q | q
      · cases q
      · obtain ⟨v, o, ho, _⟩ := I2.cell x c q
        have := Heap.lt_size ho
        rw [z] at this
        exact Nat.lt_irrefl _ this
    have pinD : ∀ {σ' : St} {H' : Hp} {s' : Shared}, Inv (blk X scope (vars ++ caps.map (·.2)) HP.objs.size s2 H2 fp) [(s2.heap.objs.size, { cls := .type "list", data := .seq its.toArray nn })] σ' H' s' → s'.heap.PlainList s2.heap.objs.size its.toArray ∧ H' s2.heap.objs.size = none := fun {σ' H' s'} I' => by
      obtain ⟨q1, q2, _⟩ := I'.pin (s2.heap.objs.size, { cls := .type "list", data := .seq its.toArray nn }) (by simp [blk])
      exact ⟨⟨nn, q1⟩, q2⟩
    have I4p : Inv (blk X scope (vars ++ caps.map (·.2)) HP.objs.size s2 H2 fp) [(s2.heap.objs.size, { cls := .type "list", data := .seq its.toArray nn })] (vars.map (fun _ => none) ++ capV σ caps) H4 s4 :=
      I4.pins_of fun p hp => by
        have e : p = (s2.heap.objs.size, { cls := .type "list", data := .seq its.toArray nn }) := by simpa [blk] using hp
        subst e
        exact ⟨eD, nD4, DnL, Dfs, fun v z => by cases z⟩
    have fpo' : ∀ {H' : Hp}, (∀ b ∈ fp, H' b = none) → ∀ b ∈ fp, FpOk (blk X scope (vars ++ caps.map (·.2)) HP.objs.size s2 H2 fp) [(s2.heap.objs.size, { cls := .type "list", data := .seq its.toArray nn })] H' b := fun hn b hb => by
      obtain ⟨q1, q2, q3, q4, q5, _⟩ := fpo hn b hb
      exact ⟨q1, q2, q3, q4, q5, fun p hp => by
        have e : p = (s2.heap.objs.size, { cls := .type "list", data := .seq its.toArray nn }) := by simpa [blk] using hp
        subst e
        exact Dfp b hb⟩
    have unp : ∀ {pl : List (Addr × Obj)} {σ' : St} {H' : Hp} {s' : Shared}, Inv (blk X scope (vars ++ caps.map (·.2)) HP.objs.size s2 H2 fp) pl σ' H' s' → Inv (blk X scope (vars ++ caps.map (·.2)) HP.objs.size s2 H2 fp) [] σ' H' s' := fun {pl σ' H' s'} I' =>
      I'.pins_of fun p hp => absurd (show p ∈ ([] : List (Addr × Obj)) from hp) (by simp)
    rcases turn i n ys H4 w4 with ⟨stop, hz, qn⟩ | ⟨go, hz, step⟩
    · refine thn (T.done (blk X scope (vars ++ caps.map (·.2)) HP.objs.size s2 H2 fp) rfl rfl rfl hc i _ s4 _ H4 _ I4p (fpo' fr4) st4 stop) fun r s5 ⟨hr, I5⟩ => ?_
      subst hr
      obtain ⟨p5, n5⟩ := pinD I5
      obtain ⟨m5, ns5, _⟩ := I5.loc
      refine hRR _ _ s5 m5 ns5 hDC (Nat.le_refl _) hCle _ ?_ (fun h' hs' => blk_out I2 f2 hCle (Nat.le_refl _) hDC (unp I5) n5 p5 v4 hz hs') (qn _ n5)
      rw [upd_ne hDC.symm]
      exact I5.free
    · refine thn (T.item (blk X scope (vars ++ caps.map (·.2)) HP.objs.size s2 H2 fp) rfl rfl rfl hc i _ s4 _ H4 _ I4p (fpo' fr4) st4 go) fun r s5 ⟨u, hr, h5⟩ => ?_
      subst hr
      refine thn h5 fun _ s6 ⟨x, H6, I6, rx, yx, st6, fr6⟩ => ?_
      have I6p := I6.pinned (fpo' fr6) (T.obj _ _ st6)
      refine thn (hg _ _ _ _ _ s6 _ H6 x u _ I6p rx (step x H6 yx)) fun _ s7 ⟨σ7, H7, I7, kp, q7⟩ => ?_
      refine thn (hb _ _ _ _ _ s7 σ7 H7 _ I7 q7) fun okb s7' q7' => ?_
      obtain ⟨H7', I7', q7'⟩ := q7'
      cases okb with
      | false =>
        obtain ⟨m', hm, w8⟩ := q7'
        rw [if_neg (by decide)]
        obtain ⟨p8, n8⟩ := pinD I7'.unpinned
        have st8 : tn (i + 1) s7'.heap := T.keep _ _ _ st6 fun b hb o e => (I7'.pin (b, o) (List.mem_append_right _ (List.mem_append_right _ (mem_pinsAt hb e)))).1
        have fr8 : ∀ b ∈ fp, H7' b = none := fun b hb => by
          obtain ⟨o, e, d⟩ := T.obj _ _ st6 b hb
          exact (I7'.pin (b, o) (List.mem_append_right _ (List.mem_append_right _ (mem_pinsAt hb e)))).2.1
        exact ⟨m', hm, i + 1, ys, H7', its, (unp I7').weak kp.1 kp.2, st8, fr8, p8, n8, v4, w8⟩
      | true =>
      rw [if_pos rfl]
      rw [if_pos rfl] at q7'
      refine thn (he _ _ _ _ _ s7' σ7 H7' _ I7' q7') fun v s8 ⟨y, H8, I8, ry, m', hm, w8⟩ => ?_
      obtain ⟨p8, n8⟩ := pinD I8.unpinned
      have st8 : tn (i + 1) s8.heap := T.keep _ _ _ st6 fun b hb o e => (I8.pin (b, o) (List.mem_append_right _ (List.mem_append_right _ (mem_pinsAt hb e)))).1
      have fr8 : ∀ b ∈ fp, H8 b = none := fun b hb => by
        obtain ⟨o, e, d⟩ := T.obj _ _ st6 b hb
        exact (I8.pin (b, o) (List.mem_append_right _ (List.mem_append_right _ (mem_pinsAt hb e)))).2.1
      have hl := v4.length
      refine wpAny_list_append_plain p8 (fun h9 p9 sb9 => ⟨m', hm, i + 1, ys ++ [y], H8, its ++ [v], ?_, ?_, fr8, by simpa using p9, n8, v4.append (.cons ry .nil), w8⟩) (by simp; omega)
      · have I9 : Inv (blk X scope (vars ++ caps.map (·.2)) HP.objs.size s2 H2 fp) [] σ7 H8 { s8 with heap := h9, toks := s8.toks } :=
          (unp I8).turned (it := s2.heap.objs.size) (fun b o hb e => sb9.extBut b o hb e) n8 DnL (.inr (Nat.le_refl _)) DnC fun p hp => absurd (show p ∈ ([] : List (Addr × Obj)) from hp) (by simp)
        exact I9.weak kp.1 kp.2
      · exact T.keep _ _ _ st8 fun b hb o e => sb9.extBut b o (Dfp b hb).symm e
  exact codeAny_compStart_list (loop _ rfl) (T.self _ 0 _ _ _ st1 (loop _ rfl))
theorem pe_compI (B : BlkOk X.env.scope.names X.N scope vars caps) (hc : X.calm = true) (hi : PI X tg iter wi)
    (hg : ∀ C s₀ H₀ ex, PG (blk X scope (vars ++ caps.map (·.2)) C s₀ H₀ ex) tg g) (hb : ∀ C s₀ H₀ ex, PT (blk X scope (vars ++ caps.map (·.2)) C s₀ H₀ ex) cnd tt) (he : ∀ C s₀ H₀ ex, PE (blk X scope (vars ++ caps.map (·.2)) C s₀ H₀ ex) elt te) (hs : ∀ x, foldedSetIterable iter X.env x = pure x := by intro _; rfl) :
    PE X (.ListComp elt [⟨tg, iter, [cnd], 0⟩] scope pos) (tCompI wi g tt te vars caps) := by
  intro pins s σ H Q I h
  rw [eval_ListComp]
  refine wpAny_comprehension_free (use := none) rfl hs (closureFor_eq (B.cells I)) B.kind B.names ?_
  show wpAny _ _ (eval iter X.env) _ _ s
  refine thn (hi pins s σ H _ I h) fun v s1 h1 => thn h1 fun itv s2 h2 => ?_
  obtain ⟨it, fp, tn, J, H2, e, I2, T, st2, f2, W, ⟨m0, w0⟩, turn⟩ := h2
  subst e
  exact comp_blockI B hc hg hb he I2 T st2 f2 w0 turn (RR := fun acc C => compPost (model X.prog X.w) X.A X.xe none (EP X pins σ Q) acc C) fun D C s' m ns _ _ _ H' _ k q => ⟨m, ns, fun h' hs' => ⟨.ref D, H', k h' hs', rfl, q⟩⟩
/-- y = [..]: the store is exchanged with the block's own names -/
theorem ps_compI {i : Nat} {y : Str} {py spos : Pos} (B : BlkOk X.env.scope.names X.N scope vars caps) (hc : X.calm = true) (hi : PI X tg iter wi)
    (hg : ∀ C s₀ H₀ ex, PG (blk X scope (vars ++ caps.map (·.2)) C s₀ H₀ ex) tg g) (hb : ∀ C s₀ H₀ ex, PT (blk X scope (vars ++ caps.map (·.2)) C s₀ H₀ ex) cnd tt) (he : ∀ C s₀ H₀ ex, PE (blk X scope (vars ++ caps.map (·.2)) C s₀ H₀ ex) elt te)
    (hN : X.N.Nodup) (hy : X.N[i]? = some y) (hx : Loc X.env.scope y) (hsw : swapsWith (.ListComp elt [⟨tg, iter, [cnd], 0⟩] scope pos) (some (.Name y py)) spos.line X.env = pure true)
    (hf : X.fn y = true ∨ X.env.scope.names.lookup y = some .local) (hs : ∀ x, foldedSetIterable iter X.env x = pure x := by intro _; rfl) :
    PS X (.Assign [.Name y py] (.ListComp elt [⟨tg, iter, [cnd], 0⟩] scope pos) spos) (fun D σ H => tCompI wi g tt te vars caps σ H fun v H1 => D.nx (σ.set i (some v)) H1) := by
  intro pins s σ H DE I h
  rw [exec_Assign_Name_used _ _ _ _ hsw]
  refine wpAny_bind (wpAny_standAt (wpAny_bind ?_))
  show wpAny _ X.A (do let _ ← comprehension (.ListComp elt [⟨tg, iter, [cnd], 0⟩] scope pos) scope X.env _ (newList []) false (eval iter X.env) (some (assign (.Name y py) X.env))) _ _ s
  refine wpAny_bind (wpAny_mono (wpAny_comprehension_free (use := some (assign (.Name y py) X.env)) (Q := fun _ s' => SP X pins DE .next s') rfl hs (closureFor_eq (B.cells I)) B.kind B.names
    (thn (hi pins s σ H _ I h) fun v s1 h1 => thn h1 fun itv s2 h2 => ?_)) (fun _ s' hq => wpAny_pure (wpAny_pure hq)) fun _ _ e => e)
  obtain ⟨it, fp, tn, J, H2, e, I2, T, st2, f2, W, ⟨m0, w0⟩, turn⟩ := h2
  subst e
  refine comp_blockI (Q := fun v H1 => DE.nx (σ.set i (some v)) H1) B hc hg hb he I2 T st2 f2 w0 turn (RR := fun acc C => compPost (model X.prog X.w) X.A X.xe (some (assign (.Name y py) X.env)) (fun _ s' => SP X pins DE .next s') acc C) ?_
  intro D C s' m ns hDC hD hC H' hHC k q
  obtain ⟨oC, es, ep, eC, dC, rC⟩ := ns
  have I' : Inv X pins σ H' s' := k s'.heap (Heap.SameBut.refl ..)
  have nL : C ≠ X.env.locals := fun z => by have := I2.lt; rw [← z] at this; exact absurd (Nat.lt_of_lt_of_le this hC) (Nat.lt_irrefl _)
  have nF : C ∉ X.fs := I2.nofs hC
  have nCell : ∀ x c, X.env.cells.lookup x = some c → c ≠ C := fun x c e z => by
    obtain ⟨v, o, ho, _⟩ := I2.cell x c e
    have := Heap.lt_size ho
    rw [z] at this
    exact absurd (Nat.lt_of_lt_of_le this hC) (Nat.lt_irrefl _)
  have nPin : ∀ p ∈ X.pn ++ pins, p.1 ≠ C := fun p hp z => by
    have := Heap.lt_size (I2.pin p hp).1
    rw [z] at this
    exact absurd (Nat.lt_of_lt_of_le this hC) (Nat.lt_irrefl _)
  have Ip : Inv X (pins ++ [(C, oC)]) σ H' s' := I'.pins_of fun p hp => by
    rcases List.mem_append.mp hp with z | z
    · exact I'.pin p (List.mem_append_right _ z)
    · have e : p = (C, oC) := by simpa using z
      subst e
      exact ⟨eC, hHC, nL, nF, fun v z => by rw [dC] at z; cases z⟩
  refine thn (pg_name (pos := py) hN hy hx hf _ s' σ H' (.ref D) (.ref D) (fun σ' H'' => σ' = σ.set i (some (.ref D)) ∧ H'' = H' ∧ DE.nx σ' H'') Ip rfl ⟨rfl, rfl, q⟩) fun _ s'' ⟨σ'', H'', I'', e1, e2, q''⟩ => ?_
  subst e1 e2
  have eC'' : s''.heap.get? C = some oC := (I''.pin (C, oC) (List.mem_append_right _ (List.mem_append_right _ (by simp)))).1
  refine ⟨m, ⟨oC, es, ep, eC'', dC, rC⟩, fun h' hs' => ⟨_, H'', ?_, q''⟩⟩
  exact I''.unpinned.turned (t' := s''.toks) (it := C) (fun b o hb e => hs'.extBut b o hb e) hHC nL (.inr (Nat.le_trans I2.sz hC)) nCell nPin
end
/-! ### by plain functions -/
noncomputable def filO (t : D → Option Bool) (f : D → Option D) : List D → Option (List D)
  | [] => some []
  | d :: ds => (t d).bind fun b => if b = true then (f d).bind fun e => (filO t f ds).bind fun es => some (e :: es) else filO t f ds
@[simp] theorem filO_nil {t : D → Option Bool} {f : D → Option D} : filO t f [] = some [] := rfl
noncomputable def oCompI (fi : Dv → Option (List D)) (caps : List (Nat × Str)) (bv : D → Option (List D)) (ft : Dv → Option Bool) (fe : Dv → Option D) : Dv → Option D := fun δ => (fi δ).bind fun ds => if ds.length ≤ sizeLine then (filO (fun d => (bv d).bind fun vs => ft (vs.map .fz ++ capS δ caps)) (fun d => (bv d).bind fun vs => fe (vs.map .fz ++ capS δ caps)) ds).bind fun es => some (.list es) else none
theorem filO_snoc {t : D → Option Bool} {f : D → Option D} : ∀ {ds es : List D} {i : Nat} {d : D}, filO t f ds = some es → ds[i]? = some d → ∃ xs, filO t f (ds.take i) = some xs ∧ ∃ b, t d = some b ∧ (b = false → filO t f (ds.take (i + 1)) = some xs) ∧ (b = true → ∃ e, f d = some e ∧ filO t f (ds.take (i + 1)) = some (xs ++ [e]))
  | [], es, i, d, h, q => by simp at q
  | d :: ds, es, i, d', h, q => by
    obtain ⟨b, h1, h⟩ := bind_some h
    cases i with
    | zero =>
      simp at q; subst q
      refine ⟨[], rfl, b, h1, fun hb => ?_, fun hb => ?_⟩
      · subst hb; simp [filO, h1]
      · subst hb
        rw [if_pos rfl] at h
        obtain ⟨e, h2, h⟩ := bind_some h
        exact ⟨e, h2, by simp [filO, h1, h2]⟩
    | succ i =>
      simp at q
      cases b with
      | false =>
        rw [if_neg (by decide)] at h
        obtain ⟨xs, g1, b', g2, g3, g4⟩ := filO_snoc (i := i) h q
        refine ⟨xs, by simp [filO, h1, g1], b', g2, fun hb => by simpa [filO, h1] using g3 hb, fun hb => ?_⟩
        obtain ⟨e, k1, k2⟩ := g4 hb
        exact ⟨e, k1, by simpa [filO, h1] using k2⟩
      | true =>
        rw [if_pos rfl] at h
        obtain ⟨e0, h2, h⟩ := bind_some h
        obtain ⟨es', h3, h⟩ := bind_some h
        obtain ⟨xs, g1, b', g2, g3, g4⟩ := filO_snoc (i := i) h3 q
        refine ⟨e0 :: xs, by simp [filO, h1, h2, g1], b', g2, fun hb => by simp [filO, h1, h2, g3 hb], fun hb => ?_⟩
        obtain ⟨e, k1, k2⟩ := g4 hb
        exact ⟨e, k1, by simp [filO, h1, h2, k2]⟩
theorem filO_le {t : D → Option Bool} {f : D → Option D} : ∀ {ds es : List D}, filO t f ds = some es → es.length ≤ ds.length
  | [], es, h => by cases h; exact Nat.le_refl _
  | d :: ds, es, h => by
    obtain ⟨b, h1, h⟩ := bind_some h
    cases b with
    | false => rw [if_neg (by decide)] at h; exact Nat.le_succ_of_le (filO_le h)
    | true =>
      rw [if_pos rfl] at h
      obtain ⟨e0, h2, h⟩ := bind_some h
      obtain ⟨es', h3, h⟩ := bind_some h
      cases h
      exact Nat.succ_le_succ (filO_le h3)
section
variable {X : Cx} {scope : Scope} {vars : List Str} {caps : List (Nat × Str)} {elt tg iter cnd : Expr} {pos : Pos} {g : TG} {fi : Dv → Option (List D)} {ft : Dv → Option Bool} {fe : Dv → Option D} {bv : D → Option (List D)}
theorem comp_readI (tk : TgOk X.K g vars.length bv) {σ : St} {H : Hp} {Q : VK} (h : tV X.K (oCompI fi caps bv ft fe) σ H Q) : tCompI (tVI X.K fi) g (tVT X.K ft) (tV X.K fe) vars caps σ H Q := by
  obtain ⟨H₀, Z₀, Z, δ, d, hh, e, k⟩ := h
  obtain ⟨ds, e1, e⟩ := bind_some e
  by_cases hz : ds.length ≤ sizeLine
  · rw [if_pos hz] at e
    obtain ⟨es, e2, e⟩ := bind_some e
    cases e
    have hv : vars.map (fun _ => (none : Option V)) = List.replicate vars.length none := by rw [List.map_const']
    refine ⟨H₀, Z₀, Z, δ, ds, hh, e1, fun J Z1 H1 hh1 t1 ok => ?_⟩
    refine ⟨fun i m ys H => m = ds.length - i ∧ i ≤ ds.length ∧ ∃ Zc xs, Hold X.K H₀ Z₀ Zc δ σ H ∧ Same Z1 Zc ∧ filO (fun d => (bv d).bind fun vs => ft (vs.map .fz ++ capS δ caps)) (fun d => (bv d).bind fun vs => fe (vs.map .fz ++ capS δ caps)) (ds.take i) = some xs ∧ Reps X.K Zc ys xs, ⟨ds.length, by simp, Nat.zero_le _, Z1, [], hh1, Same.refl _, rfl, .nil⟩, ?_⟩
    rintro i m ys H2 ⟨rfl, hi2, Zc, xs, hhc, tc, fx, rc⟩
    have zh : Same Z1 H2 := tc.trans hhc.zh
    have ly := rc.length
    have lx := filO_le fx
    rw [List.length_take] at lx
    by_cases hlt : i < ds.length
    · refine .inr ⟨ok.go i H2 zh hlt, by omega, fun x H3 y => ?_⟩
      have ed : ds[i]? = some ds[i] := by simp [hlt]
      obtain ⟨rfl, rx⟩ := ok.yld i H2 x H3 _ zh ed y
      obtain ⟨xs', f0, b, fb, ff, ftr⟩ := filO_snoc e2 ed
      rw [fx] at f0
      cases f0
      obtain ⟨vs, f3, f1⟩ := bind_some fb
      rw [hv]
      refine tk x Zc ds[i] vs (capV σ caps) H3 _ (rx.same tc) hhc.zh f3 fun us ru hn => ⟨⟨by simp [hn], fun j v q => ?_⟩, ?_⟩
      · by_cases hj : j < vars.length
        · rw [List.getElem?_append_left (by simpa using hj), List.getElem?_replicate] at q
          split at q <;> cases q
        · rw [List.getElem?_append_right (by simpa using hj)] at q
          rw [List.getElem?_append_right (by simpa [hn] using hj)]
          simpa [hn] using q
      · refine ⟨H3, Zc, Zc, _, b, blk_hold hhc ru, f1, fun Z3 H3' h3 t3 => ?_⟩
        have hh3 := hhc.new ⟨t3, h3.h0, h3.zh, h3.zb⟩
        cases b with
        | false =>
          dsimp only
          rw [if_neg (by decide)]
          exact ⟨ds.length - (i + 1), by omega, rfl, hlt, Z3, xs, hh3, tc.trans t3, ff rfl, rc.same t3⟩
        | true =>
          dsimp only
          rw [if_pos rfl]
          obtain ⟨ei, f2, f4⟩ := ftr rfl
          rw [f3] at f2
          refine ⟨H3, Zc, Z3, _, ei, h3, f2, fun v Z4 H4 h4 t4 r4 => ⟨ds.length - (i + 1), by omega, rfl, hlt, Z4, xs ++ [ei], ?_, (tc.trans t3).trans t4, f4, ((rc.same t3).same t4).append (.cons r4 .nil)⟩⟩
          exact hhc.new ⟨t3.trans t4, h4.h0, h4.zh, h4.zb⟩
    · have hie : i = ds.length := by omega
      subst hie
      refine .inl ⟨ok.stop _ H2 zh (Nat.le_refl _), by omega, fun p hp => ?_⟩
      rw [List.take_length, e2] at fx
      cases fx
      have n := New.add hhc.zh hp (.lst ys)
      exact k _ _ _ (hhc.new n) ((t1.trans tc).trans n.z) (.lst (SqL.of upd_same) (rc.same n.z))
  · rw [if_neg hz] at e; cases e
theorem ev_compI (B : BlkOk X.env.scope.names X.N scope vars caps) (hc : X.calm = true) (hi : IV X tg iter fi) (tk : TgOk X.K g vars.length bv)
    (hg : ∀ C s₀ H₀ ex, PG (blk X scope (vars ++ caps.map (·.2)) C s₀ H₀ ex) tg g) (hb : ∀ C s₀ H₀ ex, TV (blk X scope (vars ++ caps.map (·.2)) C s₀ H₀ ex) cnd ft) (he : ∀ C s₀ H₀ ex, EV (blk X scope (vars ++ caps.map (·.2)) C s₀ H₀ ex) elt fe) (hs : ∀ x, foldedSetIterable iter X.env x = pure x := by intro _; rfl) :
    EV X (.ListComp elt [⟨tg, iter, [cnd], 0⟩] scope pos) (oCompI fi caps bv ft fe) :=
  PE.imp (pe_compI (tt := tVT X.K ft) (te := tV X.K fe) B hc hi hg hb he hs) fun _ _ _ h => comp_readI tk h
theorem sv_compI (i : Nat) {y : Str} {py spos : Pos} (hN : X.N.Nodup) (B : BlkOk X.env.scope.names X.N scope vars caps) (hc : X.calm = true) (hi : IV X tg iter fi) (tk : TgOk X.K g vars.length bv)
    (hg : ∀ C s₀ H₀ ex, PG (blk X scope (vars ++ caps.map (·.2)) C s₀ H₀ ex) tg g) (hb : ∀ C s₀ H₀ ex, TV (blk X scope (vars ++ caps.map (·.2)) C s₀ H₀ ex) cnd ft) (he : ∀ C s₀ H₀ ex, EV (blk X scope (vars ++ caps.map (·.2)) C s₀ H₀ ex) elt fe)
    (hy : X.N[i]? = some y := by rfl) (hx : Loc X.env.scope y := by first | exact Or.inl rfl | exact Or.inr rfl) (hsw : swapsWith (.ListComp elt [⟨tg, iter, [cnd], 0⟩] scope pos) (some (.Name y py)) spos.line X.env = pure true := by rfl)
    (hf : X.fn y = true ∨ X.env.scope.names.lookup y = some .local := by first | exact .inl rfl | exact .inr rfl | assumption) (hs : ∀ x, foldedSetIterable iter X.env x = pure x := by intro _; rfl) :
    SV X (.Assign [.Name y py] (.ListComp elt [⟨tg, iter, [cnd], 0⟩] scope pos) spos) (sSet i (oCompI fi caps bv ft fe)) :=
  PS.imp (ps_compI (tt := tVT X.K ft) (te := tV X.K fe) B hc hi hg hb he hN hy hx hsw hf hs) fun D σ H h => by
    obtain ⟨H₀, Z₀, Z, δ, r, hh, e, k⟩ := h
    obtain ⟨x, e1, e⟩ := bind_some e
    cases e
    exact comp_readI tk ⟨H₀, Z₀, Z, δ, x, hh, e1, fun v Z1 H1 hh1 s1 r1 => k _ H1 Z1 (hh1.set r1) s1⟩
end
end VL

set_option Elab.async false
set_option linter.all false
set_option maxRecDepth 100000
set_option maxHeartbeats 4000000
namespace VL
open PySem PySem.Spec PyProof.Rows L2
/-! ### a op b op c -/
section
variable {X : Cx} {a b c : Expr} {pos : Pos} {f1 f2 f3 : Dv → Option D}
end
/-! ### in, not in: flat items -/
noncomputable def flD : D → Bool
  | .none => true
  | .bool _ => true
  | .int _ => true
  | .str _ => true
  | _ => false
noncomputable def inL (x : D) (ds : List D) : Bool := ds.any fun y => PyData.eqv y x
noncomputable def inD (neg : Bool) : D → D → Option D := fun a b => (itsD b).bind fun ds => if flD a = true ∧ ds.all flD = true then some (.bool (if neg = true then !inL a ds else inL a ds)) else none
theorem Rep.flat {K : Fg} {Z : Hp} {v : V} {d : D} (r : Rep K Z v d) : flatV v = flD d := by cases r <;> rfl
theorem Rep.eqF {K : Fg} {Z : Hp} {v u : V} {d e : D} (r : Rep K Z v d) (q : Rep K Z u e) (h1 : flD d = true) (h2 : flD e = true) : eqV v u = PyData.eqv d e := by
  cases r <;> first | (cases q <;> first | rfl | cases h2) | cases h1
theorem Reps.allF {K : Fg} {Z : Hp} : ∀ {vs : List V} {ds : List D}, Reps K Z vs ds → vs.all flatV = ds.all flD
  | _, _, .nil => rfl
  | _, _, .cons r t => by rw [List.all_cons, List.all_cons, r.flat, t.allF]
theorem Reps.inF {K : Fg} {Z : Hp} {x : V} {a : D} (q : Rep K Z x a) (h : flD a = true) : ∀ {vs : List V} {ds : List D}, Reps K Z vs ds → ds.all flD = true → inV x vs = inL a ds
  | _, _, .nil, _ => rfl
  | _, _, .cons r t, f => by
    rw [List.all_cons, Bool.and_eq_true] at f
    show (eqV _ x || inV x _) = (PyData.eqv _ a || inL a _)
    rw [r.eqF q f.1 h, t.inF q h f.2]
theorem in_read {K : Fg} {neg : Bool} {x y : V} {H : Hp} {Q : VK} (h : rD K (inD neg) x y H Q) : rIn K neg x y H Q := by
  obtain ⟨Z, a, b, d, zh, ra, rb, e, k⟩ := h
  obtain ⟨ds, e1, e⟩ := bind_some e
  by_cases c : flD a = true ∧ ds.all flD = true
  · rw [if_pos c] at e
    cases e
    have go : ∀ (xs : List V), Reps K Z xs ds → (∃ p, y = .ref p ∧ (SqL K H p xs ∨ SqT K H p xs)) → rIn K neg x y H Q := fun xs r ⟨p, ey, hq⟩ => by
      refine ⟨p, xs, ey, hq, by rw [ra.flat]; exact c.1, by rw [r.allF]; exact c.2, ?_⟩
      have := r.inF ra c.1 c.2
      rw [this]
      exact k _ Z H (New.refl zh) (.bl _)
    cases rb with
    | lst h q => cases e1; exact go _ q ⟨_, rfl, .inl (SqL.same h zh)⟩
    | tup h q => cases e1; exact go _ q ⟨_, rfl, .inr (SqT.same h zh)⟩
    | _ => cases e1
  · rw [if_neg c] at e; cases e
theorem d_in {X : Cx} : OpR X (compareOp .In) (rD X.K (inD false)) := OpR.imp op_in_seq fun _ _ _ _ h => in_read h
/-! ### targets that are tuples -/
noncomputable def gT : List (D → Dv → Option Dv) → List D → Dv → Option Dv
  | [], [], δ => some δ
  | g :: gs, d :: ds, δ => (g d δ).bind fun δ1 => gT gs ds δ1
  | _, _, _ => none
noncomputable def gTu (gs : List (D → Dv → Option Dv)) : D → Dv → Option Dv
  | .tuple ds, δ => gT gs ds δ
  | _, _ => none
@[simp] theorem gT_nil (δ : Dv) : gT [] [] δ = some δ := rfl
@[simp] theorem gT_cons (g : D → Dv → Option Dv) (gs : List (D → Dv → Option Dv)) (d : D) (ds : List D) (δ : Dv) : gT (g :: gs) (d :: ds) δ = (g d δ).bind fun δ1 => gT gs ds δ1 := rfl
@[simp] theorem gTu_tup (gs : List (D → Dv → Option Dv)) (ds : List D) (δ : Dv) : gTu gs (.tuple ds) δ = gT gs ds δ := rfl
theorem gT_len : ∀ {gs : List (D → Dv → Option Dv)} {ds : List D} {δ δ' : Dv}, gT gs ds δ = some δ' → ds.length = gs.length
  | [], [], _, _, _ => rfl
  | [], _ :: _, _, _, h => by cases h
  | _ :: _, [], _, _, h => by cases h
  | g :: gs, d :: ds, δ, δ', h => by
    obtain ⟨δ1, _, h⟩ := bind_some h
    exact congrArg (· + 1) (gT_len h)
noncomputable def tVGs (K : Fg) (gs : List (D → Dv → Option Dv)) : TGs := fun vs σ H Q => ∃ H₀ Z₀ Z δ ds δ', Hold K H₀ Z₀ Z δ σ H ∧ Reps K Z vs ds ∧ gT gs ds δ = some δ' ∧ ∀ σ' H' Z', Hold K H₀ Z₀ Z' δ' σ' H' → Same Z Z' → Q σ' H'
noncomputable def GVs (X : Cx) (es : List Expr) (gs : List (D → Dv → Option Dv)) : Prop := PGs X es (tVGs X.K gs)
section
variable {X : Cx} {pos : Pos} {e : Expr} {es : List Expr} {g : D → Dv → Option Dv} {gs : List (D → Dv → Option Dv)}
theorem PGs.imp {t t' : TGs} (h : PGs X es t) (i : ∀ v σ H Q, t' v σ H Q → t v σ H Q) : PGs X es t' := fun pins s σ H x v Q I r q => h pins s σ H x v Q I r (i _ _ _ _ q)
theorem gvs_nil : GVs X [] [] := PGs.imp pgs_nil fun vs σ H Q h => by
  obtain ⟨H₀, Z₀, Z, δ, ds, δ', hh, r, e, k⟩ := h
  cases r with
  | nil => cases e; exact ⟨rfl, k σ H Z hh (Same.refl _)⟩
  | cons _ _ => cases e
theorem gvs_cons (h1 : GV X e g) (h2 : GVs X es gs) (hs : (assignEach (e :: es) X.env).map (·.2) = assign e X.env :: (assignEach es X.env).map (·.2) := by rfl) : GVs X (e :: es) (g :: gs) :=
  PGs.imp (pgs_cons h1 h2 hs) fun vs σ H Q h => by
    obtain ⟨H₀, Z₀, Z, δ, ds, δ', hh, r, e, k⟩ := h
    cases r with
    | nil => cases e
    | cons r t =>
      obtain ⟨δ1, e1, e⟩ := bind_some e
      exact ⟨_, _, rfl, H₀, Z₀, Z, δ, _, δ1, hh, r, e1, fun σ1 H1 Z1 hh1 s1 => ⟨H₀, Z₀, Z1, δ1, _, δ', hh1, t.same s1, e, fun σ2 H2 Z2 hh2 s2 => k σ2 H2 Z2 hh2 (s1.trans s2)⟩⟩
theorem gv_tup {k : Nat} (hc : X.calm = true) (h : GVs X es gs) (hn : (assignEach es X.env).length = gs.length := by rfl) (hst : (assignEach es X.env).findIdx? (·.1) = none := by rfl) : GV X (.Tuple es k pos) (gTu gs) :=
  PG.imp (pg_tup hc h hn hst) fun v σ H Q h => by
    obtain ⟨H₀, Z₀, Z, δ, d, δ', hh, r, e, k⟩ := h
    cases r with
    | tup q t =>
      have el : _ = gs.length := gT_len (gs := gs) e
      exact ⟨_, _, rfl, SqT.same q hh.zh, by rw [t.length]; exact el, H₀, Z₀, Z, δ, _, δ', hh, t, e, k⟩
    | _ => cases e
noncomputable def sAsg (f : Dv → Option D) (g : D → Dv → Option Dv) : Sf := fun δ => (f δ).bind fun d => (g d δ).bind fun δ' => some (.nx, δ')
theorem sv_asg {tg : Expr} {f : Dv → Option D} (he : EV X e f) (hg : GV X tg g) (hs : swapsWithSole [tg] e pos.line X.env = pure false := by rfl) (hw : swappedStores [tg] e X.env = pure none := by rfl)
    (h1 : (assignEach [tg] X.env).map (·.2) = [assign tg X.env] := by rfl) : SV X (.Assign [tg] e pos) (sAsg f g) :=
  PS.imp (ps_asg he hg hs hw h1) fun D σ H h => by
    obtain ⟨H₀, Z₀, Z, δ, r, hh, e, k⟩ := h
    obtain ⟨d, e1, e⟩ := bind_some e
    obtain ⟨δ', e2, e⟩ := bind_some e
    cases e
    exact ⟨H₀, Z₀, Z, δ, d, hh, e1, fun v Z1 H1 hh1 s1 r1 => ⟨H₀, Z₀, Z1, δ, d, δ', hh1, r1, e2, fun σ' H' Z' hh' s' => k σ' H' Z' hh' (s1.trans s')⟩⟩
end
/-! ### a block's target that is a tuple of names -/
/-! ### while -/
theorem loop_step {g : D → Dv → Option Dv} {b : Sf} {d : D} {ds : List D} {δ δ1 δ2 : Dv} (h1 : g d δ = some δ1) (h2 : b δ1 = some (.nx, δ2)) : loop g b (d :: ds) δ = loop g b ds δ2 := by
  show ((g d δ).bind fun δ1 => _) = _
  rw [h1, Option.bind_some, h2]; rfl
theorem loop_ret {g : D → Dv → Option Dv} {b : Sf} {d x : D} {ds : List D} {δ δ1 δ2 : Dv} (h1 : g d δ = some δ1) (h2 : b δ1 = some (.rt x, δ2)) : loop g b (d :: ds) δ = some (.rt x, δ2) := by
  show ((g d δ).bind fun δ1 => _) = _
  rw [h1, Option.bind_some, h2]; rfl
/-! ### a def that calls itself -/
end VL

set_option Elab.async false
set_option linter.all false
set_option maxRecDepth 100000
set_option maxHeartbeats 4000000
namespace VL
open PySem PySem.Spec PyProof.Rows L2
/-! ### an expression whose value is a list of one's own -/
@[simp] noncomputable def sOwnE (i : Nat) (f : Dv → Option (List D)) : Sf := fun δ => (f δ).bind fun ds => some (.nx, δ.set i (.ow ds))
section
variable {X : Cx} {e : Expr} {es : List Expr} {p pos : Pos} {f : Dv → Option (List D)} {fs : Dv → Option (List D)}
end
section
variable {X : Cx} {scope : Scope} {vars : List Str} {caps : List (Nat × Str)} {elt tg iter cnd : Expr} {pos : Pos} {g : TG} {fi : Dv → Option (List D)} {ft : Dv → Option Bool} {fe : Dv → Option D} {bv : D → Option (List D)}
end
/-! ### evaluation without the dead ways -/
noncomputable def seqK (t : Sf) : Fl × Dv → Option (Fl × Dv)
  | (.nx, δ) => t δ
  | r => some r
@[simp] theorem seqK_nx (t : Sf) (δ : Dv) : seqK t (.nx, δ) = t δ := rfl
@[simp] theorem seqK_rt (t : Sf) (d : D) (δ : Dv) : seqK t (.rt d, δ) = some (.rt d, δ) := rfl
@[simp] theorem seqK_bk (t : Sf) (δ : Dv) : seqK t (.bk, δ) = some (.bk, δ) := rfl
@[simp] theorem seqK_ct (t : Sf) (δ : Dv) : seqK t (.ct, δ) = some (.ct, δ) := rfl
noncomputable def ifK (u w : Sf) (δ : Dv) : Bool → Option (Fl × Dv)
  | true => u δ
  | false => w δ
@[simp] theorem ifK_t (u w : Sf) (δ : Dv) : ifK u w δ true = u δ := rfl
@[simp] theorem ifK_f (u w : Sf) (δ : Dv) : ifK u w δ false = w δ := rfl
theorem sSeq_k (s t : Sf) (δ : Dv) : sSeq s t δ = (s δ).bind (seqK t) := by
  unfold sSeq seqK
  congr 1
theorem sIf_k (t : Dv → Option Bool) (u w : Sf) (δ : Dv) : sIf t u w δ = (t δ).bind (ifK u w δ) := by
  unfold sIf
  congr 1
  funext c
  cases c <;> rfl
end VL

set_option Elab.async false
set_option linter.all false
set_option maxRecDepth 100000
set_option maxHeartbeats 4000000
namespace VL
open PySem PySem.Spec PyProof.Rows L2
/-! ### all, any, sum of a list; reversed; raise; extend -/
noncomputable def blsD : List D → Option (List Bool)
  | [] => some []
  | .bool b :: r => (blsD r).map (b :: ·)
  | _ => none
noncomputable def allD : List D → Option D
  | [.list xs] => (blsD xs).map fun bs => .bool (bs.all id)
  | _ => none
noncomputable def intsD : List D → Option (List Int)
  | [] => some []
  | .int b :: r => (intsD r).map (b :: ·)
  | _ => none
theorem blsD_map {α : Type} (f : α → Bool) : ∀ xs : List α, blsD (xs.map fun a => .bool (f a)) = some (xs.map f)
  | [] => rfl
  | a :: r => by simp [blsD, blsD_map f r]
theorem allD_map {α : Type} (f : α → Bool) (xs : List α) : allD [.list (xs.map fun a => .bool (f a))] = some (.bool (xs.all f)) := by
  simp [allD, blsD_map, List.all_map]
/-- list(reversed(x)) -/
noncomputable def revLD : D → Option D
  | .list xs => some (.list xs.reverse)
  | _ => none
@[simp] theorem revLD_list (xs : List D) : revLD (.list xs) = some (.list xs.reverse) := rfl
/-- for .. in reversed(x) -/
noncomputable def revI : D → Option (List D)
  | .list xs => some xs.reverse
  | .tuple xs => some xs.reverse
  | _ => none
@[simp] theorem revI_list (xs : List D) : revI (.list xs) = some xs.reverse := rfl
@[simp] theorem revI_tuple (xs : List D) : revI (.tuple xs) = some xs.reverse := rfl
@[simp] noncomputable def sNo : Sf := fun _ => none
/-- x.extend(v) -/
@[simp] noncomputable def sExt (i : Nat) (f : Dv → Option D) : Sf := fun δ => (f δ).bind fun v => (itsD v).bind fun es => (slO δ[i]?).bind fun ds => if ds.length + es.length ≤ sizeLine then some (.nx, δ.set i (.ow (ds ++ es))) else none

section
variable {X : Cx} {e : Expr} {es : List Expr} {p pos tpos apos : Pos} {f : Dv → Option D} {st : Stmt}
theorem bls_get {K : Fg} {Z : Hp} : ∀ {xs : List V} {ds : List D} {bs : List Bool} {its : List Value}, Reps K Z xs ds → Vals xs its → blsD ds = some bs → its.length = bs.length ∧ ∀ (i : Nat) (v : Value), its[i]? = some v → ∃ b, bs[i]? = some b ∧ v = .bool b
  | _, _, bs, _, .nil, .nil, h => by cases h; exact ⟨rfl, fun i v q => by simp at q⟩
  | _, _, bs, _, .cons r t, .cons q u, h => by
    cases r with
    | bl b =>
      unfold blsD at h
      cases g : blsD _ with
      | none => rw [g] at h; cases h
      | some cs =>
        rw [g] at h
        cases h
        obtain ⟨h1, h2⟩ := bls_get t u g
        refine ⟨by simp [h1], fun i v e => ?_⟩
        cases i with
        | zero => simp at e; subst e; exact ⟨b, rfl, q⟩
        | succ i => simp at e; simpa using h2 i v e
    | _ => cases h
theorem ints_get {K : Fg} {Z : Hp} : ∀ {xs : List V} {ds : List D} {bs : List Int} {its : List Value}, Reps K Z xs ds → Vals xs its → intsD ds = some bs → IntsAre its bs
  | _, _, bs, _, .nil, .nil, h => by cases h; exact .nil
  | _, _, bs, _, .cons r t, .cons q u, h => by
    cases r with
    | int b =>
      unfold intsD at h
      cases g : intsD _ with
      | none => rw [g] at h; cases h
      | some cs =>
        rw [g] at h
        cases h
        obtain ⟨tk, rfl⟩ := q
        exact .cons _ _ (ints_get t u g)
    | _ => cases h
theorem c_all (hc : X.calm = true) : CallR X (.builtin "all") (rDs X.K allD) := by
  intro pins s σ H xs us Q I rs q
  obtain ⟨Z, as, d, zh, ra, e, k⟩ := q
  cases ra with
  | nil => cases e
  | cons r1 r2 =>
    cases r2 with
    | cons _ _ => cases r1 <;> cases e
    | nil =>
      cases r1 with
      | @lst l ys ds h1 q1 =>
        have e : (blsD ds).map (fun bs => PyData.bool (bs.all id)) = some d := e
        cases g : blsD ds with
        | none => rw [g] at e; cases e
        | some bs =>
          rw [g] at e
          cases e
          obtain ⟨u, rfl, ru⟩ := vals1 rs
          cases ru
          obtain ⟨its, rv, pl, hz⟩ := I.list (SqL.same h1 zh)
          obtain ⟨hlen, hget⟩ := bls_get q1 rv g
          have hl := pl.isList
          have hlt : l < s.heap.objs.size := by obtain ⟨_, e, _⟩ := hl; exact Heap.lt_size e
          refine call_all_walk (wpAny_pyIter_list hl ?_)
          refine ⟨s.heap.objs.size, [s.heap.objs.size, l], [s.heap.objs.size], its.toArray.size, _, _, fun i => (bs[i]?).getD true, rfl, Walks.list (A := X.A.in1) (I.ok.hd hc) _ l (Nat.ne_of_lt hlt) its.toArray,
            ⟨⟨_, Heap.get?_push_size _ rfl, rfl, rfl⟩, hl.push _⟩, fun i v s' Q' E' hP hQ => ?_, fun h' tk hk => ?_⟩
          · obtain ⟨b, e, rfl⟩ := hget i v (by simpa using hP)
            simp only [e, Option.getD_some] at hQ
            exact wpAny_truthy_bool hQ
          · have e : ((List.range its.toArray.size).all fun i => (bs[i]?).getD true) = bs.all id := by
              rw [List.size_toArray, hlen]; exact LSm.range_all bs
            rw [e]
            exact ⟨.bl _, H, I.kept (t' := tk) (LSm.kept_iter hk), rfl, k _ Z H (New.refl zh) (.bl _)⟩
      | _ => cases e
theorem sv_no {st : Stmt} : SV X st sNo := fun pins s σ H D I h => by
  obtain ⟨_, _, _, _, _, _, e, _⟩ := h
  cases e
end
end VL

set_option Elab.async false
set_option linter.all false
set_option maxRecDepth 100000
set_option maxHeartbeats 4000000
namespace VL
open PySem PySem.Spec PyProof.Rows L2
/-! ### list(reversed(a list)) -/
section
variable {prog : Program} {w : World} {A : Around} {s : Shared} {R : Result → Shared → Prop}
variable {I : Addr} {fp wr : List Addr} {G : Array GenState → Array GenState → Prop} {n : Nat} {P : Nat → Value → Prop} {St : Nat → Shared → Prop}
end
section
variable {prog : Program} {w : World} {A : Around} {E : Value → Shared → Prop} {s : Shared}
variable {I : Addr} {fp wr : List Addr} {G : Array GenState → Array GenState → Prop} {n : Nat} {P : Nat → Value → Prop} {St : Nat → Shared → Prop}
end
section
variable {X : Cx} {e : Expr} {p p2 pos pos2 : Pos} {te : TE} {f : Dv → Option D}
end
end VL

set_option Elab.async false
set_option linter.all false
set_option maxRecDepth 100000
set_option maxHeartbeats 4000000
namespace VL
open PySem PySem.Spec PyProof.Rows L2
section
variable {prog : Program} {w : World} {A : Around} {E : Value → Shared → Prop} {s : Shared}
/-! the walk -/
noncomputable def IsRv (h : Heap) (a l : Addr) (i : Int) : Prop := ∃ o, h.get? a = some o ∧ o.cls = .type "reversed" ∧ o.data = .fields #[.ref l, rawInt i]
theorem IsRv.typeIs {a l : Addr} {i : Int} (x : IsRv s.heap a l i) : s.TypeIs (.ref a) "reversed" := let ⟨o, ho, hc, _⟩ := x; ⟨o, ho, hc⟩
theorem IsRv.at {h h' : Heap} {a l : Addr} {i : Int} (x : IsRv h a l i) (e : ∀ o, h.get? a = some o → h'.get? a = some o) : IsRv h' a l i := let ⟨o, ho, r⟩ := x; ⟨o, e _ ho, r⟩
end
/-! ### for x in reversed(a tuple) -/
noncomputable def revT : D → Option (List D)
  | .tuple xs => some xs.reverse
  | _ => none
@[simp] theorem revT_tuple (xs : List D) : revT (.tuple xs) = some xs.reverse := rfl
section
variable {X : Cx} {tg e : Expr} {p pos : Pos} {te : TE} {f : Dv → Option D}
end
end VL

set_option Elab.async false
set_option linter.all false
set_option maxRecDepth 100000
set_option maxHeartbeats 4000000
/-! Exceptions of the text's own classes: raised, passed on, caught, asked for their class. -/
namespace VL
open PySem PySem.Spec PyProof.Rows L2
/-! ### exceptions as plain data, and the functions of code that raises -/
noncomputable abbrev Xf := Dv → Option (Str × Dv)
@[simp] noncomputable def xNo : Xf := fun _ => none
@[simp] noncomputable def xRaise (n : Str) (f : Dv → Option D) : Xf := fun δ => (f δ).bind fun _ => some (n, δ)
@[simp] noncomputable def xE (f : Dv → Option Str) : Xf := fun δ => (f δ).bind fun n => some (n, δ)
@[simp] noncomputable def xIf (t : Dv → Option Bool) (u w : Xf) : Xf := fun δ => (t δ).bind fun c => if c = true then u δ else w δ
@[simp] noncomputable def xSeq (s : Sf) (u : Xf) : Xf := fun δ => (s δ).bind fun r => match r with
  | (.nx, δ') => u δ'
  | _ => none
@[simp] noncomputable def xBoth (u1 : Xf) (s : Sf) (u : Xf) : Xf := fun δ => match u1 δ with
  | some r => some r
  | none => xSeq s u δ
@[simp] noncomputable def osX (fs : Dv → Option (List D)) (g : List D → Option Str) : Dv → Option Str := fun δ => (fs δ).bind g
theorem exO_ok {P : Program} {w : World} {H : Hp} {h : Heap} {x C : Addr} {o : Obj} (e : h.get? x = some o) (c : o.cls = .ref C) : ObjOk P w H h x (exO x C) :=
  ⟨⟨o, e, c⟩, ⟨o, e⟩, fun h1 h2 ⟨o', e', c'⟩ k => ⟨o', k o' e', c'⟩⟩
/-- on its way out of a call: outer the frames that run -/
structure Thrown (P : Program) (w : World) (outer : List Env) (H : Hp) (s : Shared) (x C : Addr) (H' : Hp) (s' : Shared) : Prop where
  os : s'.os = s.os
  bare : AllBare s'.gens
  un : Un (frs outer) [] H H' s.heap s'.heap
  hok : HOk P w H' s'.heap
  sm : Same H H'
  is : H' x = some (exO x C)
  fly : ∃ B t, Heap.FlyingW B outer x (.ref C) t s'.heap ∧ (∀ b o, H' b = some o → b ≠ x → ∃ ob, B.get? b = some ob) ∧ (∀ b o, s.heap.get? b = some o → H b = none → b ∉ frs outer → B.get? b = some o)
noncomputable def CXX (P : Program) (w : World) : CXT := fun outer H s E e s' => ∃ x C H', e = .ref x ∧ Thrown P w outer H s x C H' s' ∧ E (.ref C) (some x) H'
theorem hok_fly {P : Program} {w : World} {H2 : Hp} {B h2 h' : Heap} {l l' : List Env} {x C : Addr} {t t' : Value} (ok : HOk P w H2 h2) (is : H2 x = some (exO x C)) (k2 : B.StaysIn h2) (fl' : Heap.FlyingW B l' x (.ref C) t' h')
    (hB : ∀ b o, H2 b = some o → b ≠ x → ∃ ob, B.get? b = some ob) : HOk P w H2 h' := fun b o e => by
  by_cases hb : b = x
  · subst hb
    rw [is] at e; cases e
    obtain ⟨ob, h1, h2⟩ := fl'.there
    exact exO_ok h1 h2
  · refine (ok b o e).stay (fun c u hc q => ?_) (fun _ q => q) fun _ _ q => q
    have : ∃ ob, B.get? c = some ob := by
      rcases hc with rfl | hc
      · exact hB c o e hb
      · refine hB c _ hc fun z => ?_
        subst z; rw [is] at hc; cases hc
    obtain ⟨ob, hob⟩ := this
    have := k2 c ob hob
    rw [q] at this; cases this
    exact fl'.1 c _ hob
section
variable {P : Program} {w : World} {K : PySem.W.Frag} {mg : Str → Option Value} {base : Heap} {N : List Str} {qual : Str} {scope : Scope} {f : Addr} {cd : Value} {A : Around} {outer : List Env} {s : Shared} {H : Hp} {E : XK} {pins : List (Addr × Obj)} {σ : St} {H1 H2 : Hp} {s1 s2 : Shared} {x C : Addr}
end
end VL

set_option Elab.async false
set_option linter.all false
set_option maxRecDepth 100000
set_option maxHeartbeats 4000000
namespace VL
open PySem PySem.Spec PyProof.Rows L2
/-! ### facts of a class -/
noncomputable abbrev vMro : List Value := [.type "ValueError", .type "Exception", .type "BaseException", .type "object"]
structure ExcC (K : Fg) (n : Str) (C : Addr) : Prop where
  nm : PySem.W.nsIn K mainGlobals n = some (some (.ref C))
  ex : PySem.W.excIn K C vMro "ValueError.__new__" = true
  ga : PySem.W.findIn K (.ref C) "__getattribute__" = some (some (.builtin "BaseException.__getattribute__"))
  gt : PySem.W.findIn K (.ref C) "__getattr__" = some none
  cl : PySem.W.findIn K (.ref C) "__class__" = some (some (.builtin "object.__class__"))
  mo : PySem.W.mroIn K C (.type "object") = some true
  be : PySem.W.mroIn K C (.type "BaseException") = some true
section
variable {K : Fg} {n : Str} {C x : Addr}
variable {prog : Program} {w : World} {A : Around} {E : Value → Shared → Prop}
open Builtin Builtin.ObjectAttr Builtin.Getset_descriptor in
end
end VL

set_option Elab.async false
set_option linter.all false
set_option maxRecDepth 100000
set_option maxHeartbeats 4000000
namespace VL
open PySem PySem.Spec PyProof.Rows L2
section
variable {K : Fg} {n : Str} {C x : Addr} {prog : Program} {w : World} {A : Around} {E : Value → Shared → Prop}
end
/-! ### isinstance of an exception -/
inductive IsX (K : Fg) (D : Str) : List (Str × Bool) → Prop
  | nil : IsX K D []
  | cons {n : Str} {b : Bool} {t : List (Str × Bool)} {C dC : Addr} : ExcC K n C → PySem.W.nsIn K mainGlobals D = some (some (.ref dC)) → PySem.W.kitOne K (.ref C) (.ref dC) = some b → IsX K D t → IsX K D ((n, b) :: t)
inductive IsT (K : Fg) (D : String) : List (Str × Bool) → Prop
  | nil : IsT K D []
  | cons {n : Str} {b : Bool} {t : List (Str × Bool)} {C : Addr} : ExcC K n C → PySem.W.kitOne K (.ref C) (.type D) = some b → IsT K D t → IsT K D ((n, b) :: t)
theorem lookup_cons_some {n m : Str} {b c : Bool} {t : List (Str × Bool)} (h : List.lookup m ((n, b) :: t) = some c) : (m = n ∧ c = b) ∨ List.lookup m t = some c := by
  rw [List.lookup_cons] at h
  split at h
  · rename_i q; cases h; exact .inl ⟨by simpa using q, rfl⟩
  · exact .inr h
theorem IsX.get {K : Fg} {D : Str} {t : List (Str × Bool)} (h : IsX K D t) {n : Str} {b : Bool} (e : t.lookup n = some b) : ∃ C dC, ExcC K n C ∧ PySem.W.nsIn K mainGlobals D = some (some (.ref dC)) ∧ PySem.W.kitOne K (.ref C) (.ref dC) = some b := by
  induction h with
  | nil => cases e
  | cons h1 h2 h3 _ ih =>
    rcases lookup_cons_some e with ⟨rfl, rfl⟩ | e
    · exact ⟨_, _, h1, h2, h3⟩
    · exact ih e
theorem IsT.get {K : Fg} {D : String} {t : List (Str × Bool)} (h : IsT K D t) {n : Str} {b : Bool} (e : t.lookup n = some b) : ∃ C, ExcC K n C ∧ PySem.W.kitOne K (.ref C) (.type D) = some b := by
  induction h with
  | nil => cases e
  | cons h1 h3 _ ih =>
    rcases lookup_cons_some e with ⟨rfl, rfl⟩ | e
    · exact ⟨_, h1, h3⟩
    · exact ih e
section
variable {X : Cx} {a : Expr} {f : Dv → Option D} {p pos : Pos}
end
end VL

set_option Elab.async false
set_option linter.all false
set_option maxRecDepth 100000
set_option maxHeartbeats 4000000
namespace VL
open PySem PySem.Spec PyProof.Rows L2
/-! ### code that raises -/
inductive Flung (m : Bool) (X : Cx) (n : Str) (Z H : Hp) (s : Shared) (e : Value) (s' : Shared) : Prop
  | made {x C : Addr} {vs : List Value} : m = true → PySem.W.nsIn X.K mainGlobals n = some (some (.ref C)) → e = .ref x → s' = { s with heap := s'.heap } → Heap.MadeExcOf s.heap s'.heap x (.ref C) vs → Flung m X n Z H s e s'
  | thrown {x C : Addr} {H' Z' : Hp} : PySem.W.nsIn X.K mainGlobals n = some (some (.ref C)) → e = .ref x → Thrown X.prog X.w X.stack H s x C H' s' → New Z H Z' H' → Z' x = some (exO x C) → Flung m X n Z H s e s'
section
variable {m : Bool} {X : Cx} {e c : Expr} {es : List Expr} {f : Dv → Option D} {fs : Dv → Option (List D)} {ft : Dv → Option Bool} {fx : Dv → Option Str} {st : Stmt} {sts body orelse : List Stmt} {s1 : Sf} {u u1 u2 : Xf} {pos p : Pos}
/-! ### raise -/
structure ExcX (K : Fg) (n : Str) : Prop where
  ex : ∃ C, ExcC K n C
/-! ### a call that raises -/
noncomputable def spX (K : Fg) (g : List D → Option Str) : Sp := fun vs H _ E => ∃ Z as n, Same Z H ∧ Reps K Z vs as ∧ g as = some n ∧ ∀ C x Z' H', PySem.W.nsIn K mainGlobals n = some (some (.ref C)) → New Z H Z' H' → Z' x = some (exO x C) → E (.ref C) (some x) H'
structure CalX (P : Program) (w : World) (K : PySem.W.Frag) (mg : Str → Option Value) (base : Heap) (x : Str) (k : Nat) (g : List D → Option Str) (dd : List D) : Prop where
  ex : ∃ (fa : Addr) (fd : FuncData) (ps : List Str) (ds : List Value) (dv : List V), FnOk P w K mg base (CXX P w) k fa fd ps (spX K g) ∧ mg x = some (.ref fa) ∧ PySem.W.keepIn K (.ref fa) = true ∧ Binds K fd ps ds ∧ Vals dv ds ∧ ∀ Z, Reps K Z dv dd
end
section
variable {P : Program} {w : World} {K : PySem.W.Frag} {mg : Str → Option Value} {base : Heap}
end
end VL

set_option Elab.async false
set_option linter.all false
set_option maxRecDepth 100000
set_option maxHeartbeats 4000000
namespace VL
open PySem PySem.Spec PyProof.Rows L2
/-! ### try: body except W as n: suite -/
inductive HndL (K : Fg) (W : Addr) : List Str → Prop
  | nil : HndL K W []
  | cons {n : Str} {t : List Str} {C : Addr} : ExcC K n C → PySem.W.subIn K (.ref C) (.ref W) = some true → HndL K W t → HndL K W (n :: t)
theorem HndL.get {K : Fg} {W : Addr} {t : List Str} (h : HndL K W t) {n : Str} (e : t.contains n = true) : ∃ C, ExcC K n C ∧ PySem.W.subIn K (.ref C) (.ref W) = some true := by
  induction h with
  | nil => cases e
  | cons h1 h2 _ ih =>
    rw [List.contains_cons, Bool.or_eq_true] at e
    rcases e with e | e
    · have := eq_of_beq e; subst this; exact ⟨_, h1, h2⟩
    · exact ih e
structure Hnd (K : Fg) (W : Str) (ns : List Str) : Prop where
  ex : ∃ wC, PySem.W.nsIn K mainGlobals W = some (some (.ref wC)) ∧ PySem.W.excIn K wC vMro "ValueError.__new__" = true ∧ HndL K wC ns
/-- the exception's own record has changed, else nothing but slots of frames -/
theorem Thrown.move {P : Program} {w : World} {l : List Env} {H H2 : Hp} {s s2 : Shared} {x C : Addr} (T : Thrown P w l H s x C H2 s2) (hf : ∀ b ∈ frs l, ∃ o, s.heap.get? b = some o ∧ ∀ vs, o.data ≠ .fields vs) (hn : ∀ b ∈ frs l, H b = none) :
    ∃ B t, Heap.FlyingW B l x (.ref C) t s2.heap ∧ ∀ h' t', Heap.FlyingW B l x (.ref C) t' h' → s2.heap.UpToSlots h' → Thrown P w l H s x C H2 { s2 with heap := h' } := by
  obtain ⟨B, t, fl, hB1, hB2⟩ := T.fly
  refine ⟨B, t, fl, fun h' t' fl' sm => ?_⟩
  have slot : ∀ b o, s.heap.get? b = some o → H b = none → b ∈ frs l → ∃ sl, h'.get? b = some { o with slots := sl } := fun b o q n hb => by
    obtain ⟨sl2, e2⟩ := T.un.slot b o q n hb (fun z => nomatch z)
    obtain ⟨o', ho', hd⟩ := hf b hb
    rw [q] at ho'; cases ho'
    obtain ⟨sl3, e3⟩ := sm b _ e2 hd
    exact ⟨sl3, e3⟩
  refine ⟨T.os, T.bare, ⟨fun b o q n hb _ => fl'.1 b o (hB2 b o q n hb), fun b o q n hb _ => slot b o q n hb, fun b o q n z => T.un.free b o q n z, fun b o q _ => ?_, T.un.tups, T.un.frzs, T.un.tbls⟩, hok_fly (l := []) (t := t) T.hok T.is fl.1 fl' hB1, T.sm, T.is, ⟨B, t', fl', hB1, hB2⟩⟩
  cases q2 : H2 b with
  | some ho =>
    by_cases hb : b = x
    · subst hb; obtain ⟨ob, e1, _⟩ := fl'.there; exact ⟨ob, e1⟩
    · obtain ⟨ob, e1⟩ := hB1 b ho q2 hb; exact ⟨ob, fl'.1 b ob e1⟩
  | none =>
    have n : H b = none := by
      cases e : H b with
      | none => rfl
      | some z => rw [T.sm b z e] at q2; cases q2
    by_cases hb : b ∈ frs l
    · obtain ⟨sl, e⟩ := slot b o q n hb; exact ⟨_, e⟩
    · exact ⟨o, fl'.1 b o (hB2 b o q n hb)⟩
section
variable {X : Cx} {pins : List (Addr × Obj)} {σ : St} {H : Hp} {s : Shared}
end
section
variable {X : Cx} {body suite : List Stmt} {b₀ : Stmt} {b bs : Sf} {bx : Xf} {np hpos pos : Pos}
end
end VL

set_option Elab.async false
set_option linter.all false
set_option maxRecDepth 100000
set_option maxHeartbeats 4000000
namespace VL
open PySem PySem.Spec PyProof.Rows L2
/-! ### a test that looks at the one list of one's own -/
--PURE
noncomputable def isOw : Sl → Bool
  | .ow _ => true
  | _ => false
@[simp] theorem isOw_fz (d : D) : isOw (.fz d) = false := rfl
@[simp] theorem isOw_un : isOw .un = false := rfl
noncomputable def sole : Nat → Dv → Bool
  | _, [] => true
  | 0, _ :: r => r.all fun s => !isOw s
  | n + 1, s :: r => !isOw s && sole n r
@[simp] theorem sole_nil (n : Nat) : sole n [] = true := by cases n <;> rfl
@[simp] theorem sole_zero (s : Sl) (r : Dv) : sole 0 (s :: r) = r.all fun s => !isOw s := rfl
@[simp] theorem sole_succ (n : Nat) (s : Sl) (r : Dv) : sole (n + 1) (s :: r) = (!isOw s && sole n r) := rfl
--END
end VL

set_option Elab.async false
set_option linter.all false
set_option maxRecDepth 100000
set_option maxHeartbeats 4000000
namespace VL
open PySem PySem.Spec PyProof.Rows L2
/-! ### xs.count(x), xs.index(x) of flat items -/
--PURE
@[simp] noncomputable def xThen (f : Dv → Option D) (u : Dv → Option Str) : Dv → Option Str := fun δ => (f δ).bind fun _ => u δ
--END
section
variable {X : Cx} {a b : Expr} {f1 f2 : Dv → Option D} {pos apos : Pos}
/-! ### what raises within a tuple's display -/
variable {m : Bool} {e : Expr} {es : List Expr} {f : Dv → Option D} {fx : Dv → Option Str} {x1 : Nat}
end
end VL

set_option Elab.async false
set_option linter.all false
set_option maxRecDepth 100000
set_option maxHeartbeats 4000000
namespace VL
open PySem PySem.Spec PyProof.Rows L2
/-! ### defs of the text as values -/
--PURE
/-- x.extend(a list) -/
@[simp] noncomputable def sExtL (i : Nat) (f : Dv → Option D) : Sf := fun δ => (f δ).bind fun v => (lstI v).bind fun es => (slO δ[i]?).bind fun ds => if ds.length + es.length ≤ sizeLine then some (.nx, δ.set i (.ow (ds ++ es))) else none
--END
/-- a def of the text under its name -/
structure CalF (P : Program) (w : World) (K : PySem.W.Frag) (mg : Str → Option Value) (base : Heap) (x : Str) (k : Nat) (g : List D → Option D) : Prop where
  ex : ∃ (fa : Addr) (fd : FuncData) (ps : List Str), FnOk P w K mg base CX0 k fa fd ps (spD K g) ∧ PySem.W.nsIn K mainGlobals x = some (some (.ref fa)) ∧ mg x = some (.ref fa) ∧ PySem.W.keepIn K (.ref fa) = true ∧ Binds K fd ps []
structure Fnm (K : PySem.W.Frag) (mg : Str → Option Value) (x : Str) : Prop where
  ex : ∃ fa, PySem.W.nsIn K mainGlobals x = some (some (.ref fa)) ∧ mg x = some (.ref fa)
section
variable {X : Cx} {e : Expr} {es : List Expr} {p pos : Pos} {fs : Dv → Option (List D)}
end
section
variable {X : Cx}
end
section
variable {X : Cx} {e : Expr} {f : Dv → Option D} {p pos apos : Pos}
end
/-- a comprehension that takes nothing from around it -/
theorem BlkOk.none {on : List (Str × NameKind)} {ON : List Str} {scope : Scope} {vars : List Str} (hk : scope.kind = .function) (hc : ∀ y ∈ scope.names, y.2 ≠ .cell) (hn : ∀ y ∈ scope.names, y.2 = .local → scope.names.lookup y.1 = some .local) (hf : ∀ y ∈ scope.names, y.2 ≠ .free) : BlkOk on ON scope vars [] :=
  ⟨hk, hc, hn, fun y hy e => absurd e (hf y hy), fun p hp => (nomatch hp)⟩
end VL

set_option Elab.async false
set_option linter.all false
set_option maxRecDepth 100000
set_option maxHeartbeats 4000000
namespace VL
open PySem PySem.Spec PyProof.Rows L2
/-! ### a list times an int -/
--PURE
--END
section
variable {X : Cx}
end
end VL

set_option Elab.async false
set_option linter.all false
set_option maxRecDepth 100000
set_option maxHeartbeats 4000000
namespace VL
open PySem PySem.Spec PyProof.Rows L2
/-! ### a comprehension whose variable another comprehension within it takes along -/
structure BlkOkC (on : List (Str × NameKind)) (ON : List Str) (scope : Scope) (m : Str) (vars : List Str) (caps : List (Nat × Str)) : Prop where
  kind : scope.kind = .function
  one : (scope.names.filter fun y => y.2 == NameKind.cell) = [(m, NameKind.cell)]
  names : ∀ y ∈ scope.names, y.2 = .local → scope.names.lookup y.1 = some .local
  free : ∀ y ∈ scope.names, y.2 = .free → on.lookup y.1 = some .cell ∨ on.lookup y.1 = some .free
  cap : ∀ p ∈ caps, ON[p.1]? = some p.2 ∧ scope.names.lookup p.2 = some .free
  mc : scope.names.lookup m = some .cell
section
variable {X : Cx} {pins : List (Addr × Obj)} {σ : St} {H H' : Hp} {s s' : Shared} {scope : Scope} {m : Str} {vars : List Str} {caps : List (Nat × Str)} {fp : List Addr} {C : Addr}
theorem BlkOkC.cells (B : BlkOkC X.env.scope.names X.N scope m vars caps) (I : Inv X pins σ H s) : ∀ y ∈ scope.names, y.2 = .free → ∃ c, X.env.cells.lookup y.1 = some c := fun y hy e => I.ok.has y.1 (B.free y hy e)
end
section
variable {X : Cx} {scope : Scope} {m : Str} {vars : List Str} {caps : List (Nat × Str)} {elt tg iter : Expr} {pos : Pos} {wi : TI} {g : TG} {te : TE}
end
section
variable {X : Cx} {scope : Scope} {m : Str} {vars : List Str} {caps : List (Nat × Str)} {elt tg iter : Expr} {pos : Pos} {g : TG} {fi : Dv → Option (List D)} {fe : Dv → Option D} {bv : D → Option (List D)}
end
end VL

set_option Elab.async false
set_option linter.all false
set_option maxRecDepth 100000
set_option maxHeartbeats 4000000
namespace VL
open PySem PySem.Spec PyProof.Rows L2
/-! ### a def that tells a new list -/
noncomputable def spO (K : Fg) (g : List D → Option D) : Sp := fun vs H Q _ => ∃ Z as ds, Same Z H ∧ Reps K Z vs as ∧ g as = some (.list ds) ∧ ∀ p us Z' H', New Z H Z' H' → H' p = none → Reps K Z' us ds → Q (.ref p) (upd H' p (.lst us))
section
variable {X : Cx} {e : Expr} {es : List Expr} {p pos : Pos} {st : Stmt} {sts : List Stmt} {f : Dv → Option (List D)} {fs : Dv → Option (List D)} {s : Sf}
end
section
variable {P : Program} {w : World} {K : PySem.W.Frag} {mg : Str → Option Value} {base : Heap}
structure CalO (P : Program) (w : World) (K : PySem.W.Frag) (mg : Str → Option Value) (base : Heap) (x : Str) (k : Nat) (g : List D → Option D) (dd : List D) : Prop where
  ex : ∃ (fa : Addr) (fd : FuncData) (ps : List Str) (ds : List Value) (dv : List V), FnOk P w K mg base CX0 k fa fd ps (spO K g) ∧ mg x = some (.ref fa) ∧ PySem.W.keepIn K (.ref fa) = true ∧ Binds K fd ps ds ∧ Vals dv ds ∧ ∀ Z, Reps K Z dv dd
end
section
variable {X : Cx} {e : Expr} {es : List Expr} {p pos : Pos} {fs : Dv → Option (List D)}
end
section
variable {X : Cx} {scope : Scope} {m : Str} {vars : List Str} {caps : List (Nat × Str)} {elt tg iter : Expr} {pos : Pos} {g : TG} {fi : Dv → Option (List D)} {fe : Dv → Option D} {bv : D → Option (List D)}
end
/-! ### lists of so many -/
theorem len1 {α : Type} : ∀ {us : List α}, us.length = 1 → ∃ a, us = [a]
  | [a], _ => ⟨a, rfl⟩
theorem len2 {α : Type} {us : List α} (h : us.length = 2) : ∃ a b, us = [a, b] := by
  cases us with
  | nil => cases h
  | cons a r =>
    obtain ⟨b, rfl⟩ := len1 (Nat.succ.inj h)
    exact ⟨a, b, rfl⟩
theorem len3 {α : Type} {us : List α} (h : us.length = 3) : ∃ a b c, us = [a, b, c] := by
  cases us with
  | nil => cases h
  | cons a r =>
    obtain ⟨b, c, rfl⟩ := len2 (Nat.succ.inj h)
    exact ⟨a, b, c, rfl⟩
theorem len4 {α : Type} {us : List α} (h : us.length = 4) : ∃ a b c d, us = [a, b, c, d] := by
  cases us with
  | nil => cases h
  | cons a r =>
    obtain ⟨b, c, d, rfl⟩ := len3 (Nat.succ.inj h)
    exact ⟨a, b, c, d, rfl⟩
theorem len5 {α : Type} {us : List α} (h : us.length = 5) : ∃ a b c d e, us = [a, b, c, d, e] := by
  cases us with
  | nil => cases h
  | cons a r =>
    obtain ⟨b, c, d, e, rfl⟩ := len4 (Nat.succ.inj h)
    exact ⟨a, b, c, d, e, rfl⟩
end VL

set_option Elab.async false
set_option linter.all false
set_option maxRecDepth 100000
set_option maxHeartbeats 4000000
namespace VL
open PySem PySem.Spec PyProof.Rows L2
--PURE
/-! ### lists of one's own handed on -/
--END
section
variable {X : Cx} {e : Expr} {es : List Expr} {p p' pos : Pos} {st : Stmt} {sts body : List Stmt} {f f1 f2 : Dv → Option (List D)} {s : Sf} {c : Expr} {ft : Dv → Option Bool}
end
/-! ### statements that always go on -/
end VL

set_option Elab.async false
set_option linter.all false
set_option maxRecDepth 100000
set_option maxHeartbeats 4000000
namespace VL
open PySem PySem.Spec PyProof.Rows L2
--PURE
/-! ### max of a list of ints -/
noncomputable def topI : List Int → Option Int
  | [] => none
  | b :: bs => some (bs.foldl (fun m x => if x > m then x else m) b)
noncomputable def maxLD : List D → Option D
  | [.list xs] => (intsD xs).bind fun bs => (topI bs).map .int
  | _ => none
--END
theorem top_of {M : Int} : ∀ (bs : List Int) (b : Int), (M = b ∨ M ∈ bs) → b ≤ M → (∀ a ∈ bs, a ≤ M) → bs.foldl (fun m x => if x > m then x else m) b = M
  | [], b, h, hb, _ => by
    rcases h with h | h
    · exact h.symm
    · cases h
  | c :: bs, b, h, hb, hl => by
    have hc := hl c List.mem_cons_self
    have hr := fun a ha => hl a (List.mem_cons_of_mem _ ha)
    show bs.foldl _ (if c > b then c else b) = M
    by_cases q : c > b
    · rw [if_pos q]
      refine top_of bs c ?_ hc hr
      rcases h with h | h
      · exact .inl (by omega)
      · rcases List.mem_cons.mp h with h | h
        · exact .inl h
        · exact .inr h
    · rw [if_neg q]
      refine top_of bs b ?_ hb hr
      rcases h with h | h
      · exact .inl h
      · rcases List.mem_cons.mp h with h | h
        · exact .inl (by omega)
        · exact .inr h
section
variable {X : Cx}
theorem c_maxL (hc : X.calm = true) : CallR X (.builtin "max") (rDs X.K maxLD) := by
  intro pins s σ H xs us Q I rs q
  obtain ⟨Z, as, d, zh, ra, e, k⟩ := q
  cases ra with
  | nil => cases e
  | cons r1 r2 =>
    cases r2 with
    | cons _ _ => cases r1 <;> cases e
    | nil =>
      cases r1 with
      | @lst l ys ds h1 q1 =>
        obtain ⟨bs, g, e⟩ := bind_some (show (intsD ds).bind _ = some d from e)
        cases bs with
        | nil => cases e
        | cons b bs =>
          cases e
          obtain ⟨u, rfl, ru⟩ := vals1 rs
          cases ru
          obtain ⟨its, rv, pl, hz⟩ := I.list (SqL.same h1 zh)
          have hi := ints_get q1 rv g
          obtain ⟨zs, hx⟩ := hi.allInts.items
          have hl' : s.heap.IsList l (intItems zs) := hx ▸ pl.isList
          have e1 : b :: bs = zs.toList.map (·.1) := by
            rw [← nums_intItems, ← hx]
            exact (show numsOf its.toArray.toList = b :: bs from hi.numsOf).symm
          have hsz : 0 < zs.size := by
            have q : bs.length + 1 = zs.toList.length := by
              have q := congrArg List.length e1
              rw [List.length_map] at q
              exact q
            have z : zs.toList.length = zs.size := Array.length_toList
            omega
          refine max_intList (I.ok.hd hc) hl' hsz fun v h' tk hv hk => ?_
          obtain ⟨t, rfl⟩ := intItems_at hv
          obtain ⟨m1, m2⟩ := argBest_gt (numAt zs) (zs.size - 1)
          have hM : numAt zs (argBest (fun i j => decide (numAt zs i > numAt zs j)) (zs.size - 1)) ∈ b :: bs := by
            rw [e1, numAt_eq]; exact getD_mem (by rw [List.length_map, Array.length_toList]; omega)
          have hA : ∀ a ∈ b :: bs, a ≤ numAt zs (argBest (fun i j => decide (numAt zs i > numAt zs j)) (zs.size - 1)) := fun a ha => by
            rw [e1] at ha
            obtain ⟨j, hj, rfl⟩ := mem_getD ha
            rw [List.length_map, Array.length_toList] at hj
            rw [← numAt_eq]; exact m2 j (by omega)
          have := top_of bs b (List.mem_cons.mp hM) (hA b List.mem_cons_self) fun a ha => hA a (List.mem_cons_of_mem _ ha)
          exact ⟨.int _, H, I.kept (t' := tk) hk, ⟨t, rfl⟩, k _ Z H (New.refl zh) (by rw [this]; exact .int _)⟩
      | _ => cases e
end
end VL

set_option Elab.async false
set_option linter.all false
set_option maxRecDepth 100000
set_option maxHeartbeats 4000000
namespace MA
open PySem
/-! ### or, the twos that are shared -/
theorem or_halves (x y : Int) : Builtin.bitOr x y = 2 * Builtin.bitOr (x / 2) (y / 2) + (if x % 2 = 0 ∧ y % 2 = 0 then 0 else 1) := by
  unfold Builtin.bitOr Builtin.bitNot
  have h := PySem.W.kbt_halves (-x - 1) (-y - 1)
  have hx : (-x - 1) / 2 = -(x / 2) - 1 := by omega
  have hy : (-y - 1) / 2 = -(y / 2) - 1 := by omega
  rw [hx, hy] at h
  rw [h]
  by_cases c : x % 2 = 0 ∧ y % 2 = 0
  · rw [if_pos c, if_pos (by omega)]; omega
  · rw [if_neg c, if_neg (by omega)]; omega
theorem pow_pos' (n : Nat) : (0 : Int) < 2 ^ n := by
  induction n with
  | zero => decide
  | succ n ih => rw [Int.pow_succ]; omega
theorem div_pow_succ (x : Int) (n : Nat) : x / 2 ^ (n + 1) = x / 2 / 2 ^ n := by
  rw [Int.pow_succ, Int.mul_comm, Int.ediv_ediv_of_nonneg (by decide)]
theorem dvd_pow_succ (x : Int) (n : Nat) : 2 ^ (n + 1) ∣ x ↔ x % 2 = 0 ∧ 2 ^ n ∣ x / 2 := by
  constructor
  · rintro ⟨c, rfl⟩
    rw [Int.pow_succ]
    refine ⟨?_, c, ?_⟩
    · rw [Int.mul_comm (2 ^ n) 2, Int.mul_assoc]; omega
    · rw [Int.mul_comm (2 ^ n) 2, Int.mul_assoc, Int.mul_ediv_cancel_left _ (by decide)]
  · rintro ⟨h, c, hc⟩
    refine ⟨c, ?_⟩
    rw [Int.pow_succ, Int.mul_comm (2 ^ n) 2, Int.mul_assoc, ← hc]
    omega
theorem or_pow (n : Nat) : ∀ x y : Int, (2 ^ n ∣ Builtin.bitOr x y ↔ 2 ^ n ∣ x ∧ 2 ^ n ∣ y) ∧ (2 ^ n ∣ Builtin.bitOr x y → Builtin.bitOr x y / 2 ^ n = Builtin.bitOr (x / 2 ^ n) (y / 2 ^ n)) := by
  induction n with
  | zero => intro x y; simp
  | succ n ih =>
    intro x y
    have h := or_halves x y
    have hd : Builtin.bitOr x y / 2 = Builtin.bitOr (x / 2) (y / 2) := by rw [h]; split <;> omega
    have hm : Builtin.bitOr x y % 2 = 0 ↔ x % 2 = 0 ∧ y % 2 = 0 := by
      rw [h]
      by_cases c : x % 2 = 0 ∧ y % 2 = 0
      · rw [if_pos c]; constructor
        · intro _; exact c
        · intro _; omega
      · rw [if_neg c]; constructor
        · intro z; omega
        · intro z; exact absurd z c
    obtain ⟨i1, i2⟩ := ih (x / 2) (y / 2)
    constructor
    · rw [dvd_pow_succ, dvd_pow_succ, dvd_pow_succ, hd, hm, i1]
      constructor
      · rintro ⟨⟨a, b⟩, c, d⟩; exact ⟨⟨a, c⟩, b, d⟩
      · rintro ⟨⟨a, c⟩, b, d⟩; exact ⟨⟨a, b⟩, c, d⟩
    · intro q
      rw [dvd_pow_succ, hd] at q
      rw [div_pow_succ, div_pow_succ, div_pow_succ, hd, i2 q.2]
theorem split2 : ∀ (n : Nat) (j : Int), j.natAbs ≤ n → j ≠ 0 → ∃ (t : Nat) (a : Int), j = 2 ^ t * (2 * a + 1)
  | 0, j, h, h0 => by omega
  | n + 1, j, h, h0 => by
    by_cases c : j % 2 = 0
    · obtain ⟨t, a, e⟩ := split2 n (j / 2) (by omega) (by omega)
      refine ⟨t + 1, a, ?_⟩
      rw [Int.pow_succ, Int.mul_comm (2 ^ t) 2, Int.mul_assoc, ← e]
      omega
    · exact ⟨0, j / 2, by simp; omega⟩
theorem bits_pow (t : Nat) : Builtin.Int.intBits (2 ^ t) = t + 1 := by
  unfold Builtin.Int.intBits
  have h : (2 : Int) ^ t ≠ 0 := Int.ne_of_gt (pow_pos' t)
  have e : ((2 : Int) ^ t).natAbs = 2 ^ t := by
    have : ((2 ^ t : Nat) : Int) = (2 : Int) ^ t := by simp
    rw [← this, Int.natAbs_natCast]
  rw [if_neg (by simpa using h), e, Nat.log2_two_pow]
/-- the number of twos, bounded: what twos_shared tells -/
noncomputable def twos (j most : Int) : Int := if j = 0 then most else if (Builtin.Int.intBits (Builtin.bitAnd j (-j)) : Int) - 1 < most then (Builtin.Int.intBits (Builtin.bitAnd j (-j)) : Int) - 1 else most
theorem twos_spec (j most : Int) (hm : 0 ≤ most) : ∃ t : Nat, twos j most = t ∧ (t : Int) ≤ most ∧ 2 ^ t ∣ j ∧ ((t : Int) < most → ¬ j / 2 ^ t % 2 = 0) := by
  unfold twos
  by_cases h : j = 0
  · subst h
    refine ⟨most.toNat, by rw [if_pos rfl]; omega, by omega, Int.dvd_zero _, fun z => by omega⟩
  · obtain ⟨t, a, e⟩ := split2 _ j (Nat.le_refl _) h
    have hb : Builtin.Int.intBits (Builtin.bitAnd j (-j)) = t + 1 := by rw [e, PySem.W.kbt_low, bits_pow]
    rw [if_neg h, hb]
    have q : ((t + 1 : Nat) : Int) - 1 = t := by omega
    rw [q]
    by_cases c : (t : Int) < most
    · refine ⟨t, by rw [if_pos c], by omega, ⟨_, e⟩, fun _ => ?_⟩
      rw [e, Int.mul_ediv_cancel_left _ (Int.ne_of_gt (pow_pos' t))]
      omega
    · refine ⟨most.toNat, by rw [if_neg c]; omega, by omega, ?_, fun z => by omega⟩
      refine Int.dvd_trans ?_ ⟨_, e⟩
      have : t = most.toNat + (t - most.toNat) := by omega
      rw [this, Int.pow_add]
      exact Int.dvd_mul_right _ _
/-! ### sizes -/
theorem bits_le {a : Int} {m : Nat} (h : a.natAbs < 2 ^ m) : Builtin.Int.intBits a ≤ m := by
  unfold Builtin.Int.intBits
  split
  · exact Nat.zero_le _
  · rename_i h0
    have h0 : a ≠ 0 := by simpa using h0
    have : a.natAbs.log2 < m := (Nat.log2_lt (by omega)).mpr h
    omega
/-! ### four parts -/
structure Q4 where
  a : Int
  b : Int
  c : Int
  d : Int
namespace Q4
theorem ext' {x y : Q4} (h1 : x.a = y.a) (h2 : x.b = y.b) (h3 : x.c = y.c) (h4 : x.d = y.d) : x = y := by
  cases x; cases y; simp at h1 h2 h3 h4; subst h1 h2 h3 h4; rfl
noncomputable def add (x y : Q4) : Q4 := ⟨x.a + y.a, x.b + y.b, x.c + y.c, x.d + y.d⟩
noncomputable def neg (x : Q4) : Q4 := ⟨-x.a, -x.b, -x.c, -x.d⟩
noncomputable def mul (x y : Q4) : Q4 := ⟨x.a * y.a - x.b * y.d - x.c * y.c - x.d * y.b, x.a * y.b + x.b * y.a - x.c * y.d - x.d * y.c, x.a * y.c + x.b * y.b + x.c * y.a - x.d * y.d, x.a * y.d + x.b * y.c + x.c * y.b + x.d * y.a⟩
/-- times the root of two -/
noncomputable def rt (x : Q4) : Q4 := ⟨x.b - x.d, x.a + x.c, x.b + x.d, x.c - x.a⟩
noncomputable def dbl (n : Int) (x : Q4) : Q4 := ⟨x.a * n, x.b * n, x.c * n, x.d * n⟩
noncomputable def mir (x : Q4) : Q4 := ⟨x.a, -x.d, -x.c, -x.b⟩
/-- an eighth turn -/
noncomputable def tn (x : Q4) : Q4 := ⟨-x.d, x.a, x.b, x.c⟩
noncomputable def rtn : Nat → Q4 → Q4
  | 0, x => x
  | n + 1, x => rtn n (rt x)
theorem rtn_succ (n : Nat) (x : Q4) : rtn (n + 1) x = rt (rtn n x) := by
  induction n generalizing x with
  | zero => rfl
  | succ n ih => exact ih (rt x)
theorem rtn_add (m n : Nat) (x : Q4) : rtn (m + n) x = rtn m (rtn n x) := by
  induction n generalizing x with
  | zero => rfl
  | succ n ih => exact ih (rt x)
theorem rt_rt (x : Q4) : rt (rt x) = dbl 2 x := by
  apply ext' <;> simp [rt, dbl] <;> omega
theorem dbl_dbl (m n : Int) (x : Q4) : dbl m (dbl n x) = dbl (n * m) x := by
  apply ext' <;> simp [dbl, Int.mul_assoc]
theorem rtn_two (t : Nat) (x : Q4) : rtn (2 * t) x = dbl (2 ^ t) x := by
  induction t generalizing x with
  | zero => apply ext' <;> simp [rtn, dbl]
  | succ t ih =>
    have e : 2 * (t + 1) = 2 * t + 1 + 1 := by omega
    rw [e]
    show rtn (2 * t) (rt (rt x)) = _
    rw [ih, rt_rt, dbl_dbl, Int.pow_succ, Int.mul_comm]
theorem rt_inj {x y : Q4} (h : rt x = rt y) : x = y := by
  have h1 := congrArg rt h
  rw [rt_rt, rt_rt] at h1
  have h2 := congrArg Q4.a h1
  have h3 := congrArg Q4.b h1
  have h4 := congrArg Q4.c h1
  have h5 := congrArg Q4.d h1
  simp only [dbl] at h2 h3 h4 h5
  apply ext' <;> omega
theorem rtn_inj {n : Nat} {x y : Q4} (h : rtn n x = rtn n y) : x = y := by
  induction n generalizing x y with
  | zero => exact h
  | succ n ih => exact rt_inj (ih h)
theorem rt_add (x y : Q4) : rt (add x y) = add (rt x) (rt y) := by apply ext' <;> simp [rt, add] <;> omega
theorem rtn_addQ (n : Nat) (x y : Q4) : rtn n (add x y) = add (rtn n x) (rtn n y) := by
  induction n generalizing x y with
  | zero => rfl
  | succ n ih => show rtn n (rt (add x y)) = _; rw [rt_add, ih]; rfl
theorem rt_mul (x y : Q4) : rt (mul x y) = mul (rt x) y := by apply ext' <;> simp only [rt, mul] <;> grind
theorem rtn_mul (n : Nat) (x y : Q4) : rtn n (mul x y) = mul (rtn n x) y := by
  induction n generalizing x with
  | zero => rfl
  | succ n ih => show rtn n (rt (mul x y)) = _; rw [rt_mul, ih]; rfl
theorem mul_comm (x y : Q4) : mul x y = mul y x := by apply ext' <;> simp only [mul] <;> grind
theorem mul_assoc (x y z : Q4) : mul (mul x y) z = mul x (mul y z) := by apply ext' <;> simp only [mul] <;> grind
theorem mul_add (x y z : Q4) : mul x (add y z) = add (mul x y) (mul x z) := by apply ext' <;> simp only [mul, add] <;> grind
theorem add_comm (x y : Q4) : add x y = add y x := by apply ext' <;> simp only [add] <;> omega
theorem add_assoc (x y z : Q4) : add (add x y) z = add x (add y z) := by apply ext' <;> simp only [add] <;> omega
theorem rtn_mul2 (m n : Nat) (x y : Q4) : rtn (m + n) (mul x y) = mul (rtn m x) (rtn n y) := by
  rw [rtn_add, mul_comm, rtn_mul, mul_comm, rtn_mul]
theorem tn_mul (x y : Q4) : tn (mul x y) = mul x (tn y) := by apply ext' <;> simp only [mul, tn] <;> grind
theorem tn_rt (x : Q4) : tn (rt x) = rt (tn x) := by apply ext' <;> simp only [rt, tn] <;> omega
/-- no root can be taken out -/
noncomputable def Odd (x : Q4) : Prop := ¬ ((x.a - x.c) % 2 = 0 ∧ (x.b - x.d) % 2 = 0)
theorem rt_even (x : Q4) : ¬ Odd (rt x) := by
  unfold Odd rt
  simp only
  omega
/-- least form -/
noncomputable def Least (x : Q4) (k : Int) : Prop := 0 ≤ k ∧ (0 < k → Odd x)
theorem Least.one {x y : Q4} {k l m : Nat} (hx : Least x k) (hy : Least y l) (h1 : k ≤ m) (h2 : l ≤ m) (h : rtn (m - k) x = rtn (m - l) y) : x = y ∧ k = l := by
  have key : ∀ {x y : Q4} {k l : Nat}, Least y l → k ≤ m → l ≤ m → k < l → rtn (m - k) x = rtn (m - l) y → False := by
    intro x y k l hy h1 h2 hlt h
    have e : m - k = (m - l) + (l - k) := by omega
    rw [e, rtn_add] at h
    have h3 := rtn_inj h
    obtain ⟨n, hn⟩ : ∃ n, l - k = n + 1 := ⟨l - k - 1, by omega⟩
    rw [hn, rtn_succ] at h3
    have := hy.2 (by omega)
    rw [← h3] at this
    exact rt_even _ this
  rcases Nat.lt_trichotomy k l with q | q | q
  · exact (key hy h1 h2 q h).elim
  · subst q; exact ⟨rtn_inj h, rfl⟩
  · exact (key hx h2 h1 q h.symm).elim
end Q4
/-- the four parts' twos -/
theorem twos_four (a b c d most : Int) (hm : 0 ≤ most) : ∃ t : Nat, twos (Builtin.bitOr (Builtin.bitOr (Builtin.bitOr a b) c) d) most = t ∧ (t : Int) ≤ most ∧ a = a / 2 ^ t * 2 ^ t ∧ b = b / 2 ^ t * 2 ^ t ∧ c = c / 2 ^ t * 2 ^ t ∧ d = d / 2 ^ t * 2 ^ t ∧
    ((t : Int) < most → ¬ (a / 2 ^ t % 2 = 0 ∧ b / 2 ^ t % 2 = 0 ∧ c / 2 ^ t % 2 = 0 ∧ d / 2 ^ t % 2 = 0)) := by
  obtain ⟨t, e, h1, h2, h3⟩ := twos_spec (Builtin.bitOr (Builtin.bitOr (Builtin.bitOr a b) c) d) most hm
  have o1 := or_pow t (Builtin.bitOr (Builtin.bitOr a b) c) d
  have d1 := o1.1.mp h2
  have o2 := or_pow t (Builtin.bitOr a b) c
  have d2 := o2.1.mp d1.1
  have o3 := or_pow t a b
  have d3 := o3.1.mp d2.1
  refine ⟨t, e, h1, (Int.ediv_mul_cancel d3.1).symm, (Int.ediv_mul_cancel d3.2).symm, (Int.ediv_mul_cancel d2.2).symm, (Int.ediv_mul_cancel d1.2).symm, fun z w => h3 z ?_⟩
  have ev : ∀ x y : Int, x % 2 = 0 → y % 2 = 0 → Builtin.bitOr x y % 2 = 0 := fun x y hx hy => by
    rw [or_halves, if_pos ⟨hx, hy⟩]; omega
  rw [o1.2 h2, o2.2 d1.1, o3.2 d2.1]
  exact ev _ _ (ev _ _ (ev _ _ w.1 w.2.1) w.2.2.1) w.2.2.2
/-- what number tells -/
noncomputable def num (x : Q4) (k : Int) : Q4 × Int :=
  let t := (twos (Builtin.bitOr (Builtin.bitOr (Builtin.bitOr x.a x.b) x.c) x.d) (k / 2)).toNat
  let y : Q4 := ⟨x.a / 2 ^ t, x.b / 2 ^ t, x.c / 2 ^ t, x.d / 2 ^ t⟩
  if k - 2 * t = 0 ∨ (y.a - y.c) % 2 = 1 ∨ (y.b - y.d) % 2 = 1 then (y, k - 2 * t) else (⟨(y.b - y.d) / 2, (y.a + y.c) / 2, (y.b + y.d) / 2, (y.c - y.a) / 2⟩, k - 2 * t - 1)
theorem half_s {p q : Int} (h : (p - q) % 2 = 0) : (p + q) / 2 - (q - p) / 2 = p ∧ (p + q) / 2 + (q - p) / 2 = q := by omega
theorem half_t {p q : Int} (h : (p - q) % 2 = 0) : (p - q) / 2 + (p + q) / 2 = p ∧ (p + q) / 2 - (p - q) / 2 = q := by omega
theorem par_of {x y : Int} (h : (x - y) % 2 = 0) (k : y % 2 = 0) : x % 2 = 0 := by omega
theorem par_of' {x y : Int} (h : (x - y) % 2 = 0) (k : x % 2 = 0) : y % 2 = 0 := by omega
theorem odd_half {a b c d : Int} (g1 : (a - c) % 2 = 0) (g2 : (b - d) % 2 = 0) (h : ¬ (a % 2 = 0 ∧ b % 2 = 0 ∧ c % 2 = 0 ∧ d % 2 = 0)) : Q4.Odd ⟨(b - d) / 2, (a + c) / 2, (b + d) / 2, (c - a) / 2⟩ := fun z => by
  have z1 : ((b - d) / 2 - (b + d) / 2) % 2 = 0 := z.1
  have z2 : ((a + c) / 2 - (c - a) / 2) % 2 = 0 := z.2
  rw [(half_s g1).1] at z2
  have e := (half_t g2).2
  have z3 : d % 2 = 0 := by omega
  exact h ⟨z2, par_of g2 z3, par_of' g1 z2, z3⟩
theorem num_spec (x : Q4) (k : Int) (hk : 0 ≤ k) : Q4.Least (num x k).1 (num x k).2 ∧ (num x k).2 ≤ k ∧ Q4.rtn (k - (num x k).2).toNat (num x k).1 = x := by
  obtain ⟨t, e, h1, ha, hb, hc, hd, h3⟩ := twos_four x.a x.b x.c x.d (k / 2) (by omega)
  have l2 : 2 * (t : Int) ≤ k := by omega
  unfold num
  simp only [e, Int.toNat_natCast]
  generalize x.a / 2 ^ t = a at *
  generalize x.b / 2 ^ t = b at *
  generalize x.c / 2 ^ t = c at *
  generalize x.d / 2 ^ t = d at *
  have e2 : Q4.dbl (2 ^ t) ⟨a, b, c, d⟩ = x := Q4.ext' ha.symm hb.symm hc.symm hd.symm
  split
  · rename_i h
    refine ⟨⟨Int.sub_nonneg_of_le l2, fun z => ?_⟩, Int.sub_le_self _ (by omega), ?_⟩
    · rcases h with h | h | h
      · exact absurd h (Int.ne_of_gt z)
      · exact fun w => absurd (h.symm.trans w.1) (by decide)
      · exact fun w => absurd (h.symm.trans w.2) (by decide)
    · have : (k - (k - 2 * (t : Int))).toNat = 2 * t := by omega
      simp only [this]
      rw [Q4.rtn_two, e2]
  · rename_i h
    have g0 : k - 2 * (t : Int) ≠ 0 := fun z => h (.inl z)
    have g1 : (a - c) % 2 = 0 := (Int.emod_two_eq (a - c)).resolve_right fun z => h (.inr (.inl z))
    have g2 : (b - d) % 2 = 0 := (Int.emod_two_eq (b - d)).resolve_right fun z => h (.inr (.inr z))
    refine ⟨⟨(by omega : 0 ≤ k - 2 * (t : Int) - 1), fun z => odd_half g1 g2 (h3 ?_)⟩, (by omega : k - 2 * (t : Int) - 1 ≤ k), ?_⟩
    · have z : 0 < k - 2 * (t : Int) - 1 := z
      omega
    · have : (k - (k - 2 * (t : Int) - 1)).toNat = 2 * t + 1 := by omega
      simp only [this]
      show Q4.rtn (2 * t) (Q4.rt _) = x
      rw [Q4.rtn_two]
      have e3 : Q4.rt ⟨(b - d) / 2, (a + c) / 2, (b + d) / 2, (c - a) / 2⟩ = ⟨a, b, c, d⟩ := Q4.ext' (half_s g1).1 (half_t g2).1 (half_s g1).2 (half_t g2).2
      rw [e3, e2]
/-- no part above a bound -/
noncomputable def Q4.Le (M : Nat) (x : Q4) : Prop := x.a.natAbs ≤ M ∧ x.b.natAbs ≤ M ∧ x.c.natAbs ≤ M ∧ x.d.natAbs ≤ M
theorem div_le (a : Int) (t : Nat) (h : a = a / 2 ^ t * 2 ^ t) : (a / 2 ^ t).natAbs ≤ a.natAbs := by
  have pw := pow_pos' t
  have : a.natAbs = (a / 2 ^ t).natAbs * ((2 : Int) ^ t).natAbs := by rw [← Int.natAbs_mul, ← h]
  rw [this]
  exact Nat.le_mul_of_pos_right _ (by omega)
theorem half_add_le {a b : Int} {M : Nat} (ha : a.natAbs ≤ M) (hb : b.natAbs ≤ M) : ((a + b) / 2).natAbs ≤ M := by omega
theorem half_sub_le {a b : Int} {M : Nat} (ha : a.natAbs ≤ M) (hb : b.natAbs ≤ M) : ((a - b) / 2).natAbs ≤ M := by omega
theorem num_le (x : Q4) (k : Int) (hk : 0 ≤ k) (M : Nat) (h : Q4.Le M x) : Q4.Le M (num x k).1 := by
  obtain ⟨t, e, h1, ha, hb, hc, hd, h3⟩ := twos_four x.a x.b x.c x.d (k / 2) (by omega)
  have la := Nat.le_trans (div_le _ _ ha) h.1
  have lb := Nat.le_trans (div_le _ _ hb) h.2.1
  have lc := Nat.le_trans (div_le _ _ hc) h.2.2.1
  have ld := Nat.le_trans (div_le _ _ hd) h.2.2.2
  unfold num Q4.Le
  simp only [e, Int.toNat_natCast]
  split
  · exact ⟨la, lb, lc, ld⟩
  · exact ⟨half_sub_le lb ld, half_add_le la lc, half_add_le lb ld, half_sub_le lc la⟩
theorem two_add_le {a b : Int} {M N : Nat} (ha : a.natAbs ≤ M) (hb : b.natAbs ≤ N) : (a + b).natAbs ≤ M + N := Nat.le_trans (Int.natAbs_add_le a b) (Nat.add_le_add ha hb)
theorem two_sub_le {a b : Int} {M N : Nat} (ha : a.natAbs ≤ M) (hb : b.natAbs ≤ N) : (a - b).natAbs ≤ M + N := Nat.le_trans (Int.natAbs_sub_le a b) (Nat.add_le_add ha hb)
theorem rt_le {x : Q4} {M : Nat} (h : Q4.Le M x) : Q4.Le (2 * M) (Q4.rt x) := by
  obtain ⟨g1, g2, g3, g4⟩ := h
  rw [Nat.two_mul]
  unfold Q4.Le Q4.rt
  exact ⟨two_sub_le g2 g4, two_add_le g1 g3, two_add_le g2 g4, two_sub_le g3 g1⟩
theorem rtn_le {x : Q4} {M : Nat} : ∀ (n : Nat), Q4.Le M x → Q4.Le (2 ^ n * M) (Q4.rtn n x)
  | 0, h => by simpa [Q4.rtn] using h
  | n + 1, h => by
    have := rt_le (rtn_le n h)
    rw [Q4.rtn_succ]
    rw [Nat.pow_succ, Nat.mul_comm (2 ^ n) 2, Nat.mul_assoc]
    exact this
theorem Q4.Le.mono {x : Q4} {M N : Nat} (h : Q4.Le M x) (hl : M ≤ N) : Q4.Le N x := ⟨Nat.le_trans h.1 hl, Nat.le_trans h.2.1 hl, Nat.le_trans h.2.2.1 hl, Nat.le_trans h.2.2.2 hl⟩
theorem add_le {x y : Q4} {M N : Nat} (h : Q4.Le M x) (h' : Q4.Le N y) : Q4.Le (M + N) (Q4.add x y) :=
  ⟨two_add_le h.1 h'.1, two_add_le h.2.1 h'.2.1, two_add_le h.2.2.1 h'.2.2.1, two_add_le h.2.2.2 h'.2.2.2⟩
/-- the sum and the product, as the program tells them -/
noncomputable def plusQ (x : Q4) (c : Int) (y : Q4) (d : Int) : Q4 × Int := num (Q4.add (Q4.rtn (max c d - c).toNat x) (Q4.rtn (max c d - d).toNat y)) (max c d)
/-- turned by eighths -/
noncomputable def tnn : Nat → Q4 → Q4
  | 0, x => x
  | n + 1, x => Q4.tn (tnn n x)
theorem tnn_le {x : Q4} {M : Nat} : ∀ n : Nat, Q4.Le M x → Q4.Le M (tnn n x)
  | 0, h => h
  | n + 1, h => by
    obtain ⟨a, b, c, d⟩ := tnn_le n h
    exact ⟨by simpa [tnn, Q4.tn] using d, a, b, c⟩
theorem tn_odd {x : Q4} : Q4.Odd (Q4.tn x) ↔ Q4.Odd x := by
  unfold Q4.Odd Q4.tn
  simp only
  omega
theorem tnn_odd {x : Q4} : ∀ n : Nat, Q4.Odd (tnn n x) ↔ Q4.Odd x
  | 0 => Iff.rfl
  | n + 1 => tn_odd.trans (tnn_odd n)
theorem tnn_least {x : Q4} {c : Int} (n : Nat) (h : Q4.Least x c) : Q4.Least (tnn n x) c := ⟨h.1, fun z => (tnn_odd n).mpr (h.2 z)⟩
/-- x over c roots is u over k roots, and it is in least form -/
noncomputable def Is (x : Q4) (c : Nat) (u : Q4) (k : Nat) : Prop := Q4.Least x c ∧ Q4.rtn k x = Q4.rtn c u
theorem rtn_swap (m n : Nat) (x : Q4) : Q4.rtn m (Q4.rtn n x) = Q4.rtn n (Q4.rtn m x) := by rw [← Q4.rtn_add, ← Q4.rtn_add, Nat.add_comm]
theorem Is.self {x : Q4} {c : Nat} (h : Q4.Least x c) : Is x c x c := ⟨h, rfl⟩
theorem Is.one {x y u v : Q4} {c d k l : Nat} (hx : Is x c u k) (hy : Is y d v l) (h : Q4.rtn l u = Q4.rtn k v) : x = y ∧ c = d := by
  have e : Q4.rtn d x = Q4.rtn c y := by
    refine Q4.rtn_inj (n := k + l) ?_
    rw [Q4.rtn_add, Q4.rtn_add, rtn_swap l d x, rtn_swap k d, rtn_swap k l, hx.2, rtn_swap l c u, h, rtn_swap l c y, hy.2, rtn_swap k c, rtn_swap k d v, rtn_swap d c]
  exact Q4.Least.one (m := c + d) hx.1 hy.1 (by omega) (by omega) (by rw [show c + d - c = d by omega, show c + d - d = c by omega]; exact e)
theorem num_is (u : Q4) (k : Nat) : ∃ c : Nat, (num u k).2 = c ∧ c ≤ k ∧ Is (num u k).1 c u k := by
  obtain ⟨s1, s2, s3⟩ := num_spec u k (by omega)
  obtain ⟨c, hc⟩ : ∃ c : Nat, (num u k).2 = c := ⟨(num u k).2.toNat, by have := s1.1; omega⟩
  rw [hc] at s1 s2 s3
  refine ⟨c, hc, by omega, s1, ?_⟩
  have e : ((k : Int) - c).toNat = k - c := by omega
  rw [e] at s3
  conv => rhs; rw [← s3]
  rw [← Q4.rtn_add]
  congr 1
  omega
theorem Is.trans {x u v : Q4} {c k l : Nat} (h : Is x c u k) (e : Q4.rtn l u = Q4.rtn k v) : Is x c v l := by
  refine ⟨h.1, Q4.rtn_inj (n := k) ?_⟩
  rw [rtn_swap, h.2, rtn_swap, e, rtn_swap]
theorem tn_rtn (n : Nat) (x : Q4) : Q4.tn (Q4.rtn n x) = Q4.rtn n (Q4.tn x) := by
  induction n generalizing x with
  | zero => rfl
  | succ n ih => show Q4.tn (Q4.rtn n (Q4.rt x)) = Q4.rtn n (Q4.rt (Q4.tn x)); rw [ih, Q4.tn_rt]
theorem tnn_rtn (m n : Nat) (x : Q4) : tnn m (Q4.rtn n x) = Q4.rtn n (tnn m x) := by
  induction m with
  | zero => rfl
  | succ m ih => show Q4.tn (tnn m (Q4.rtn n x)) = _; rw [ih, tn_rtn]; rfl
theorem tnn_add (m n : Nat) (x : Q4) : tnn (m + n) x = tnn m (tnn n x) := by
  induction m with
  | zero => rw [Nat.zero_add]; rfl
  | succ m ih => rw [Nat.succ_add]; show Q4.tn (tnn (m + n) x) = _; rw [ih]; rfl
theorem tnn8 (x : Q4) : tnn 8 x = x := by simp [tnn, Q4.tn]
theorem tnn_mod (n : Nat) (x : Q4) : tnn (n % 8) x = tnn n x := by
  conv => rhs; rw [← Nat.mod_add_div n 8]
  rw [tnn_add]
  congr 1
  generalize n / 8 = q
  induction q with
  | zero => rfl
  | succ q ih => rw [Nat.mul_succ, tnn_add, tnn8]; exact ih
theorem tnn_mul (n : Nat) (x y : Q4) : tnn n (Q4.mul x y) = Q4.mul x (tnn n y) := by
  induction n with
  | zero => rfl
  | succ n ih => show Q4.tn (tnn n (Q4.mul x y)) = _; rw [ih, Q4.tn_mul]; rfl
theorem plusQ_le {x y : Q4} {c d : Nat} {p r : Nat} (hx : Q4.Le (2 ^ p) x) (hy : Q4.Le (2 ^ p) y) (hc : c ≤ r) (hd : d ≤ r) : Q4.Le (2 ^ (p + r + 1)) (plusQ x c y d).1 := by
  have em : max (c : Int) d = ((max c d : Nat) : Int) := by omega
  unfold plusQ
  refine num_le _ _ (by omega) _ ?_
  have up : ∀ (n : Nat) (z : Q4), n ≤ r → Q4.Le (2 ^ p) z → Q4.Le (2 ^ (p + r)) (Q4.rtn n z) := fun n z hn hz => by
    refine (rtn_le n hz).mono ?_
    rw [← Nat.pow_add]
    exact Nat.pow_le_pow_right (by decide) (by omega)
  have := add_le (up (max (c : Int) d - c).toNat x (by omega) hx) (up (max (c : Int) d - d).toNat y (by omega) hy)
  rw [Nat.pow_succ, Nat.mul_two]
  exact this
/-! ### shares -/
structure S2 where
  p : Int
  q : Int
namespace S2
theorem ext' {x y : S2} (h1 : x.p = y.p) (h2 : x.q = y.q) : x = y := by
  cases x; cases y; simp at h1 h2; subst h1 h2; rfl
noncomputable def add (x y : S2) : S2 := ⟨x.p + y.p, x.q + y.q⟩
noncomputable def mul (x y : S2) : S2 := ⟨x.p * y.p + 2 * x.q * y.q, x.p * y.q + x.q * y.p⟩
noncomputable def sc (n : Nat) (x : S2) : S2 := ⟨x.p * 2 ^ n, x.q * 2 ^ n⟩
theorem sc_add (m n : Nat) (x : S2) : sc (m + n) x = sc m (sc n x) := by
  apply ext' <;> simp only [sc, Int.pow_add] <;> rw [Int.mul_assoc, Int.mul_comm (2 ^ n)]
theorem sc_swap (m n : Nat) (x : S2) : sc m (sc n x) = sc n (sc m x) := by rw [← sc_add, ← sc_add, Nat.add_comm]
theorem sc_inj {n : Nat} {x y : S2} (h : sc n x = sc n y) : x = y := by
  have pw := pow_pos' n
  have h1 := congrArg S2.p h
  have h2 := congrArg S2.q h
  simp only [sc] at h1 h2
  exact ext' (Int.eq_of_mul_eq_mul_right (by omega) h1) (Int.eq_of_mul_eq_mul_right (by omega) h2)
theorem sc_addS (n : Nat) (x y : S2) : sc n (add x y) = add (sc n x) (sc n y) := by apply ext' <;> simp only [sc, add, Int.add_mul]
noncomputable def Odd (x : S2) : Prop := ¬ (x.p % 2 = 0 ∧ x.q % 2 = 0)
theorem sc_even (n : Nat) (x : S2) : ¬ Odd (sc (n + 1) x) := by
  unfold Odd sc
  rw [Int.pow_succ, ← Int.mul_assoc, ← Int.mul_assoc]
  simp only
  omega
noncomputable def Least (x : S2) (c : Nat) : Prop := 0 < c → Odd x
theorem Least.one {x y : S2} {k l m : Nat} (hx : Least x k) (hy : Least y l) (h1 : k ≤ m) (h2 : l ≤ m) (h : sc (m - k) x = sc (m - l) y) : x = y ∧ k = l := by
  have key : ∀ {x y : S2} {k l : Nat}, Least y l → k ≤ m → l ≤ m → k < l → sc (m - k) x = sc (m - l) y → False := by
    intro x y k l hy h1 h2 hlt h
    have e : m - k = (m - l) + (l - k) := by omega
    rw [e, sc_add] at h
    have h3 := sc_inj h
    obtain ⟨n, hn⟩ : ∃ n, l - k = n + 1 := ⟨l - k - 1, by omega⟩
    rw [hn] at h3
    have := hy (by omega)
    rw [← h3] at this
    exact sc_even _ _ this
  rcases Nat.lt_trichotomy k l with q | q | q
  · exact (key hy h1 h2 q h).elim
  · subst q; exact ⟨sc_inj h, rfl⟩
  · exact (key hx h2 h1 q h.symm).elim
noncomputable def Le (M : Nat) (x : S2) : Prop := x.p.natAbs ≤ M ∧ x.q.natAbs ≤ M
theorem Le.mono {x : S2} {M N : Nat} (h : Le M x) (hl : M ≤ N) : Le N x := ⟨Nat.le_trans h.1 hl, Nat.le_trans h.2 hl⟩
theorem add_le {x y : S2} {M N : Nat} (h : Le M x) (h' : Le N y) : Le (M + N) (add x y) :=
  ⟨Nat.le_trans (Int.natAbs_add_le _ _) (Nat.add_le_add h.1 h'.1), Nat.le_trans (Int.natAbs_add_le _ _) (Nat.add_le_add h.2 h'.2)⟩
/-- x over c twos is u over k twos, in least form -/
noncomputable def Is (x : S2) (c : Nat) (u : S2) (k : Nat) : Prop := Least x c ∧ sc k x = sc c u
theorem Is.one {x y u v : S2} {c d k l : Nat} (hx : Is x c u k) (hy : Is y d v l) (h : sc l u = sc k v) : x = y ∧ c = d := by
  have e : sc d x = sc c y := by
    refine sc_inj (n := k + l) ?_
    rw [sc_add, sc_add, sc_swap l d x, sc_swap k d, sc_swap k l, hx.2, sc_swap l c u, h, sc_swap l c y, hy.2, sc_swap k c, sc_swap k d v, sc_swap d c]
  exact Least.one (m := c + d) hx.1 hy.1 (by omega) (by omega) (by rw [show c + d - c = d by omega, show c + d - d = c by omega]; exact e)
theorem Is.trans {x u v : S2} {c k l : Nat} (h : Is x c u k) (e : sc l u = sc k v) : Is x c v l := by
  refine ⟨h.1, sc_inj (n := k) ?_⟩
  rw [sc_swap, h.2, sc_swap, e, sc_swap]
end S2
/-- the size of four parts -/
noncomputable def nrm (x : Q4) : S2 := ⟨x.a * x.a + x.b * x.b + x.c * x.c + x.d * x.d, x.a * x.b + x.b * x.c + x.c * x.d - x.d * x.a⟩
theorem nrm_rt (x : Q4) : nrm (Q4.rt x) = S2.sc 1 (nrm x) := by apply S2.ext' <;> simp only [nrm, Q4.rt, S2.sc] <;> grind
theorem nrm_tn (x : Q4) : nrm (Q4.tn x) = nrm x := by apply S2.ext' <;> simp only [nrm, Q4.tn] <;> grind
theorem nrm_tnn (n : Nat) (x : Q4) : nrm (tnn n x) = nrm x := by
  induction n with
  | zero => rfl
  | succ n ih => show nrm (Q4.tn (tnn n x)) = _; rw [nrm_tn, ih]
theorem nrm_two (x y : Q4) : S2.add (nrm (Q4.add x y)) (nrm (Q4.add x (Q4.neg y))) = S2.add (S2.add (nrm x) (nrm y)) (S2.add (nrm x) (nrm y)) := by
  apply S2.ext' <;> simp only [nrm, Q4.add, Q4.neg, S2.add] <;> grind
theorem sq_nn (a : Int) : 0 ≤ a * a := by
  rcases Int.le_total 0 a with h | h
  · exact Int.mul_nonneg h h
  · have := Int.mul_nonneg (Int.neg_nonneg.mpr h) (Int.neg_nonneg.mpr h)
    rwa [Int.neg_mul_neg] at this
/-- a size is not below nought -/
theorem nrm_nn (x : Q4) : 0 ≤ (nrm x).p ∧ 2 * (nrm x).q * (nrm x).q ≤ (nrm x).p * (nrm x).p := by
  constructor
  · have := sq_nn x.a; have := sq_nn x.b; have := sq_nn x.c; have := sq_nn x.d
    simp only [nrm]
    omega
  · have e : (nrm x).p * (nrm x).p - 2 * (nrm x).q * (nrm x).q = (x.a * x.a - x.c * x.c + 2 * x.b * x.d) * (x.a * x.a - x.c * x.c + 2 * x.b * x.d) + (2 * x.a * x.c - x.b * x.b + x.d * x.d) * (2 * x.a * x.c - x.b * x.b + x.d * x.d) := by
      simp only [nrm]
      grind
    have h1 := sq_nn (x.a * x.a - x.c * x.c + 2 * x.b * x.d)
    have h2 := sq_nn (2 * x.a * x.c - x.b * x.b + x.d * x.d)
    omega
theorem nrm_zero {x : Q4} (h : (nrm x).p = 0) : x = ⟨0, 0, 0, 0⟩ := by
  have h1 := sq_nn x.a; have h2 := sq_nn x.b; have h3 := sq_nn x.c; have h4 := sq_nn x.d
  simp only [nrm] at h
  have z : ∀ a : Int, a * a = 0 → a = 0 := fun a e => by rcases Int.mul_eq_zero.mp e with q | q <;> exact q
  exact Q4.ext' (z _ (by omega)) (z _ (by omega)) (z _ (by omega)) (z _ (by omega))
/-! ### states -/
noncomputable abbrev Nu := Q4 × Nat
inductive Row where
  | swing (j : Nat) | turn (j : Nat) (e : Nat) | flip (j : Nat) | tie (i j : Nat) | sign (i j : Nat) | cross (i j : Nat)
noncomputable def plusN (u v : Nu) : Nu := ((plusQ u.1 u.2 v.1 v.2).1, (plusQ u.1 u.2 v.1 v.2).2.toNat)
noncomputable def halfN (u : Nu) : Nu := ((num u.1 ((u.2 + 1 : Nat) : Int)).1, (num u.1 ((u.2 + 1 : Nat) : Int)).2.toNat)
noncomputable def turnN (e : Nat) (u : Nu) : Nu := (tnn (e % 8) u.1, u.2)
/-- what wire j's bit is worth -/
noncomputable def wt (n j : Nat) : Nat := 2 ^ (n - 1 - j)
noncomputable def bit (w p : Nat) : Nat := p / w % 2
noncomputable def flp (w p : Nat) : Nat := if bit w p = 0 then p + w else p - w
/-- where a flip, a tie, a cross take the number from -/
noncomputable def from_ (n : Nat) : Row → Nat → Nat
  | .flip j, p => flp (wt n j) p
  | .tie i j, p => if bit (wt n i) p = 0 then p else flp (wt n j) p
  | .cross i j, p => if bit (wt n i) p = bit (wt n j) p then p else flp (wt n j) (flp (wt n i) p)
  | _, p => p
noncomputable def doneAt (n : Nat) (f : Nat → Nu) : Row → Nat → Nu
  | .swing j, p => if bit (wt n j) p = 0 then halfN (plusN (f p) (f (p + wt n j))) else halfN (plusN (f (p - wt n j)) (turnN 4 (f p)))
  | .turn j e, p => turnN (e * bit (wt n j) p) (f p)
  | .sign i j, p => turnN (4 * bit (wt n i) p * bit (wt n j) p) (f p)
  | r, p => f (from_ n r p)
noncomputable def Row.ok (n : Nat) : Row → Prop
  | .swing j => j < n
  | .turn j e => j < n ∧ 1 ≤ e ∧ e ≤ 7
  | .flip j => j < n
  | .tie i j => i < n ∧ j < n ∧ i ≠ j
  | .sign i j => i < n ∧ j < n ∧ i ≠ j
  | .cross i j => i < n ∧ j < n ∧ i ≠ j
theorem wt_pos (n j : Nat) : 0 < wt n j := Nat.pow_pos (by decide)
theorem wt_two {n j : Nat} (h : j < n) : 2 ^ n = wt n j * 2 ^ (j + 1) := by
  unfold wt
  rw [← Nat.pow_add]; congr 1; omega
theorem bit_lt (w p : Nat) : bit w p < 2 := Nat.mod_lt _ (by decide)
/-- p = (2 q + bit) w + rest -/
theorem bit_split (w p : Nat) (hw : 0 < w) : ∃ q r, p = (2 * q + bit w p) * w + r ∧ r < w := by
  refine ⟨p / w / 2, p % w, ?_, Nat.mod_lt _ hw⟩
  unfold bit
  rw [Nat.div_add_mod, Nat.div_add_mod']
theorem bit_of {w q b r : Nat} (hb : b < 2) (hr : r < w) : bit w ((2 * q + b) * w + r) = b := by
  unfold bit
  rw [Nat.mul_comm, Nat.mul_add_div (by omega), Nat.div_eq_of_lt hr]
  omega
theorem bit1_le {w p : Nat} (hw : 0 < w) (h : bit w p = 1) : w ≤ p := by
  obtain ⟨q, r, e, _⟩ := bit_split w p hw
  rw [h] at e
  have : (2 * q + 1) * w = 2 * q * w + w := by rw [Nat.add_mul, Nat.one_mul]
  omega
theorem bit0_lt {n j p : Nat} (hj : j < n) (hp : p < 2 ^ n) (h : bit (wt n j) p = 0) : p + wt n j < 2 ^ n := by
  obtain ⟨q, r, e, hr⟩ := bit_split (wt n j) p (wt_pos n j)
  rw [h] at e
  have h2 := wt_two hj
  have hq : q < 2 ^ j := by
    refine Nat.lt_of_not_le fun z => ?_
    have : 2 * 2 ^ j * wt n j ≤ 2 * q * wt n j := Nat.mul_le_mul_right _ (by omega)
    have e2 : wt n j * 2 ^ (j + 1) = 2 * 2 ^ j * wt n j := by rw [Nat.pow_succ, Nat.mul_comm, Nat.mul_comm (2 ^ j) 2]
    rw [Nat.add_zero] at e
    omega
  have : (2 * q + 2) * wt n j ≤ 2 * 2 ^ j * wt n j := Nat.mul_le_mul_right _ (by omega)
  have e2 : wt n j * 2 ^ (j + 1) = 2 * 2 ^ j * wt n j := by rw [Nat.pow_succ, Nat.mul_comm, Nat.mul_comm (2 ^ j) 2]
  have e3 : (2 * q + 2) * wt n j = 2 * q * wt n j + 2 * wt n j := Nat.add_mul ..
  rw [Nat.add_zero] at e
  omega
theorem flp_lt {n j p : Nat} (hj : j < n) (hp : p < 2 ^ n) : flp (wt n j) p < 2 ^ n := by
  unfold flp
  split
  · exact bit0_lt hj hp (by assumption)
  · omega
theorem from_lt {n p : Nat} {r : Row} (hr : r.ok n) (hp : p < 2 ^ n) : from_ n r p < 2 ^ n := by
  cases r with
  | flip j => exact flp_lt hr hp
  | tie i j => show (if _ then _ else _) < _; split; exact hp; exact flp_lt hr.2.1 hp
  | cross i j => show (if _ then _ else _) < _; split; exact hp; exact flp_lt hr.2.1 (flp_lt hr.1 hp)
  | _ => exact hp
theorem flp_div {w p : Nat} (hw : 0 < w) : flp w p / (2 * w) = p / (2 * w) := by
  obtain ⟨q, r, e, hr⟩ := bit_split w p hw
  have h2 := bit_lt w p
  have e1 : (2 * q + bit w p) * w = 2 * w * q + bit w p * w := by rw [Nat.add_mul, Nat.mul_right_comm]
  have one : ∀ x, x < 2 * w → (2 * w * q + x) / (2 * w) = q := fun x hx => by rw [Nat.mul_add_div (by omega), Nat.div_eq_of_lt hx, Nat.add_zero]
  unfold flp
  split
  · rename_i h
    rw [h] at e e1
    have a := one (r + w) (by omega)
    have b := one r (by omega)
    rw [show p + w = 2 * w * q + (r + w) by omega, a, show p = 2 * w * q + r by omega, b]
  · rename_i h
    have h1 : bit w p = 1 := by omega
    rw [h1] at e e1
    have a := one (r + w) (by omega)
    have b := one r (by omega)
    rw [show p - w = 2 * w * q + r by omega, b, show p = 2 * w * q + (r + w) by omega, a]
theorem bit_shift (x p m : Nat) (hx : 0 < x) : bit x (p + 2 * x * m) = bit x p := by
  unfold bit
  rw [show p + 2 * x * m = p + x * (2 * m) by rw [Nat.mul_comm 2 x, Nat.mul_assoc], Nat.add_mul_div_left _ _ hx]
  omega
/-- the other bits stay -/
theorem bit_flp {n i j p : Nat} (hi : i < n) (hj : j < n) (hij : i ≠ j) : bit (wt n j) (flp (wt n i) p) = bit (wt n j) p := by
  have hw := wt_pos n i
  by_cases h : j < i
  · -- the flipped bit is worth less
    have e : wt n j = 2 * wt n i * 2 ^ (i - j - 1) := by
      unfold wt
      rw [show 2 * 2 ^ (n - 1 - i) = 2 ^ (n - 1 - i + 1) by rw [Nat.pow_succ, Nat.mul_comm], ← Nat.pow_add]
      congr 1; omega
    unfold bit
    rw [e, ← Nat.div_div_eq_div_mul (flp (wt n i) p) (2 * wt n i), ← Nat.div_div_eq_div_mul p (2 * wt n i), flp_div hw]
  · have e : wt n i = 2 * wt n j * 2 ^ (j - i - 1) := by
      unfold wt
      rw [show 2 * 2 ^ (n - 1 - j) = 2 ^ (n - 1 - j + 1) by rw [Nat.pow_succ, Nat.mul_comm], ← Nat.pow_add]
      congr 1; omega
    unfold flp
    split
    · rw [e]; exact bit_shift _ _ _ (wt_pos n j)
    · rename_i hb
      have h2 := bit_lt (wt n i) p
      have := bit1_le (w := wt n i) (p := p) hw (by omega)
      have := bit_shift (wt n j) (p - wt n i) (2 ^ (j - i - 1)) (wt_pos n j)
      rw [← this, ← e, Nat.sub_add_cancel (by assumption)]
theorem bit_flp_same {w p : Nat} (hw : 0 < w) : bit w (flp w p) = 1 - bit w p := by
  obtain ⟨q, r, e, hr⟩ := bit_split w p hw
  have h2 := bit_lt w p
  unfold flp
  split
  · rename_i h
    rw [h] at e
    rw [h, show p + w = (2 * q + 1) * w + r by rw [Nat.add_mul] at e ⊢; omega]
    exact bit_of (by decide) hr
  · rename_i h
    have h1 : bit w p = 1 := by omega
    rw [h1] at e
    rw [h1, show p - w = (2 * q + 0) * w + r by rw [Nat.add_mul] at e ⊢; omega]
    exact bit_of (by decide) hr
theorem flp_flp {w p : Nat} (hw : 0 < w) : flp w (flp w p) = p := by
  have h := bit_flp_same (p := p) hw
  have h2 := bit_lt w p
  by_cases c : bit w p = 0
  · have e : flp w p = p + w := if_pos c
    rw [c] at h
    rw [e] at h ⊢
    unfold flp
    rw [if_neg (by omega)]; omega
  · have c1 : bit w p = 1 := by omega
    have e : flp w p = p - w := if_neg c
    have := bit1_le hw c1
    rw [c1] at h
    rw [e] at h ⊢
    unfold flp
    rw [if_pos (by omega)]; omega
/-! ### bits of a whole number -/
theorem band (a b : Nat) : Builtin.bitAnd (a : Int) (b : Int) = ((a &&& b : Nat) : Int) := by
  unfold Builtin.bitAnd
  simp
theorem two_parts {x y z : Nat} (h : x / 2 = y / 2 + z / 2) (m : x % 2 = y % 2 + z % 2) : x = y + z := by omega
theorem mod_parts {u v w : Nat} {p q : Prop} (hu : u < 2) (hv : v < 2) (hw : w < 2) (m1 : u = 1 ↔ p ∨ q) (m2 : v = 1 ↔ ¬ (p ↔ q)) (m3 : w = 1 ↔ p ∧ q) : u = v + w := by
  have z : ∀ {x : Nat}, x < 2 → ¬ x = 1 → x = 0 := fun h k => by omega
  by_cases a : p <;> by_cases b : q
  · rw [m1.mpr (.inl a), m3.mpr ⟨a, b⟩, z hv fun e => m2.mp e ⟨fun _ => b, fun _ => a⟩]
  · rw [m1.mpr (.inl a), m2.mpr fun e => b (e.mp a), z hw fun e => b (m3.mp e).2]
  · rw [m1.mpr (.inr b), m2.mpr fun e => a (e.mpr b), z hw fun e => a (m3.mp e).1]
  · rw [z hu fun e => (m1.mp e).elim a b, z hv fun e => m2.mp e ⟨fun c => absurd c a, fun c => absurd c b⟩, z hw fun e => a (m3.mp e).1]
theorem and_or_nat : ∀ (k a b : Nat), a < 2 ^ k → b < 2 ^ k → (a ||| b) = (a ^^^ b) + (a &&& b)
  | 0, a, b, ha, hb => by
    have : a = 0 := by simpa using ha
    have : b = 0 := by simpa using hb
    subst a; subst b; rfl
  | k + 1, a, b, ha, hb => by
    have ih := and_or_nat k (a / 2) (b / 2) (by rw [Nat.pow_succ] at ha; omega) (by rw [Nat.pow_succ] at hb; omega)
    have h1 := @Nat.or_div_two a b
    have h2 := @Nat.xor_div_two a b
    have h3 := @Nat.and_div_two a b
    have m1 := @Nat.or_mod_two_eq_one a b
    have m2 := @Nat.xor_mod_two_eq_one a b
    have m3 := @Nat.and_mod_two_eq_one a b
    rw [← h1, ← h2, ← h3] at ih
    exact two_parts ih (mod_parts (Nat.mod_lt _ (by decide)) (Nat.mod_lt _ (by decide)) (Nat.mod_lt _ (by decide)) m1 m2 m3)
theorem bor (a b : Nat) : Builtin.bitOr (a : Int) (b : Int) = ((a ||| b : Nat) : Int) := by
  have h1 : ¬ (0 : Int) ≤ Builtin.bitNot (a : Int) := by unfold Builtin.bitNot; omega
  have h2 : ¬ (0 : Int) ≤ Builtin.bitNot (b : Int) := by unfold Builtin.bitNot; omega
  have e1 : (Builtin.bitNot (Builtin.bitNot (a : Int))).toNat = a := by unfold Builtin.bitNot; omega
  have e2 : (Builtin.bitNot (Builtin.bitNot (b : Int))).toNat = b := by unfold Builtin.bitNot; omega
  unfold Builtin.bitOr Builtin.bitAnd
  rw [decide_eq_false h1, decide_eq_false h2]
  dsimp only
  rw [e1, e2]
  unfold Builtin.bitNot
  omega
theorem bxor (a b : Nat) : Builtin.bitXor (a : Int) (b : Int) = ((a ^^^ b : Nat) : Int) := by
  unfold Builtin.bitXor
  rw [bor, band]
  have h : ∀ n : Nat, n < 2 ^ n := fun n => Nat.lt_two_pow_self
  have := and_or_nat (max a b) a b (Nat.lt_of_lt_of_le (h a) (Nat.pow_le_pow_right (by decide) (by omega))) (Nat.lt_of_lt_of_le (h b) (Nat.pow_le_pow_right (by decide) (by omega)))
  omega
/-- how many bits are 1 -/
noncomputable def cnt (n : Nat) : Nat := if n = 0 then 0 else n % 2 + cnt (n / 2)
termination_by n
decreasing_by omega
/-- is an odd number of bits 1? -/
noncomputable def par (n : Nat) : Nat := cnt n % 2
/-! ### words -/
structure Wd where
  x : Nat
  z : Nat
  s : Nat
noncomputable def Wd.ok (n : Nat) (w : Wd) : Prop := w.x < 2 ^ n ∧ w.z < 2 ^ n ∧ w.s < 4
/-! ### shapes: == of a thing with itself -/
noncomputable def Sh (k : Nat) (d : PyData) : Prop := d.canLay0 = true ∧ d.depth ≤ k
theorem Sh.int (k : Nat) (i : Int) : Sh k (.int i) := ⟨by simp [PyData.canLay0], by simp [PyData.depth]⟩
theorem Sh.all {k : Nat} : ∀ (xs : List PyData), (∀ x ∈ xs, Sh k x) → PyData.canLayAll0 xs = true ∧ PyData.depthAll xs ≤ k
  | [], _ => ⟨by simp [PyData.canLayAll0], by simp [PyData.depthAll]⟩
  | x :: xs, h => by
    obtain ⟨a, b⟩ := Sh.all xs fun y hy => h y (List.mem_cons_of_mem _ hy)
    obtain ⟨c, d⟩ := h x List.mem_cons_self
    refine ⟨by simp [PyData.canLayAll0, a, c], ?_⟩
    simp only [PyData.depthAll]
    omega
theorem Sh.tuple {k : Nat} {xs : List PyData} (h : ∀ x ∈ xs, Sh k x) : Sh (k + 1) (.tuple xs) := by
  obtain ⟨a, b⟩ := Sh.all xs h
  exact ⟨by simp [PyData.canLay0, a], by simp only [PyData.depth]; omega⟩
theorem Sh.list {k : Nat} {xs : List PyData} (h : ∀ x ∈ xs, Sh k x) : Sh (k + 1) (.list xs) := by
  obtain ⟨a, b⟩ := Sh.all xs h
  exact ⟨by simp [PyData.canLay0, a], by simp only [PyData.depth]; omega⟩
mutual
theorem eqv_self : ∀ d : PyData, d.canLay0 = true → PyData.eqv d d = true
  | .none, _ => by simp [PyData.eqv]
  | .bool _, _ => by simp [PyData.eqv]
  | .int _, _ => by simp [PyData.eqv]
  | .str _, _ => by simp [PyData.eqv]
  | .list xs, h => by
    simp only [PyData.eqv]
    exact eqvAll_self xs (by simpa [PyData.canLay0] using h)
  | .tuple xs, h => by
    simp only [PyData.eqv]
    exact eqvAll_self xs (by simpa [PyData.canLay0] using h)
  | .dict _, h => by simp [PyData.canLay0] at h
theorem eqvAll_self : ∀ xs : List PyData, PyData.canLayAll0 xs = true → PyData.eqvAll xs xs = true
  | [], _ => by simp [PyData.eqvAll]
  | x :: xs, h => by
    have h' : x.canLay0 = true ∧ PyData.canLayAll0 xs = true := by simpa [PyData.canLayAll0] using h
    simp only [PyData.eqvAll, eqv_self x h'.1, eqvAll_self xs h'.2, Bool.and_self]
end
/-! ### all numbers over one great r**M -/
noncomputable def val (M : Nat) (u : Nu) : Q4 := Q4.rtn (M - u.2) u.1
theorem num_rtn (x : Q4) (k M : Nat) (h : k ≤ M) : Q4.rtn (M - (num x k).2.toNat) (num x k).1 = Q4.rtn (M - k) x := by
  obtain ⟨s1, s2, s3⟩ := num_spec x k (by omega)
  have h0 := s1.1
  have e : M - (num x (k : Int)).2.toNat = (M - k) + ((k : Int) - (num x (k : Int)).2).toNat := by omega
  rw [e, Q4.rtn_add, s3]
theorem val_turn (M e : Nat) (u : Nu) : val M (turnN e u) = tnn (e % 8) (val M u) := by
  unfold val turnN
  rw [tnn_rtn]
theorem val_plus {M : Nat} {u v : Nu} (hu : u.2 ≤ M) (hv : v.2 ≤ M) : val M (plusN u v) = Q4.add (val M u) (val M v) := by
  unfold val plusN plusQ
  have hk : max (u.2 : Int) v.2 = ((max u.2 v.2 : Nat) : Int) := by omega
  rw [hk]
  simp only
  rw [num_rtn _ _ M (by omega), Q4.rtn_addQ, ← Q4.rtn_add, ← Q4.rtn_add]
  congr 2 <;> congr 1 <;> omega
theorem val_half {M : Nat} {u : Nu} (hu : u.2 + 1 ≤ M) : Q4.rt (val M (halfN u)) = val M u := by
  unfold val halfN
  rw [num_rtn _ _ M hu, ← Q4.rtn_succ]
  congr 1
  omega
theorem val_neg (M : Nat) (u : Nu) : val M (turnN 4 u) = Q4.neg (val M u) := by
  rw [val_turn]
  show Q4.tn (Q4.tn (Q4.tn (Q4.tn (val M u)))) = _
  unfold Q4.tn Q4.neg
  rfl
noncomputable def LeastN (u : Nu) : Prop := Q4.Least u.1 u.2
theorem val_inj {M : Nat} {u v : Nu} (hu : LeastN u) (hv : LeastN v) (h1 : u.2 ≤ M) (h2 : v.2 ≤ M) (h : val M u = val M v) : u = v := by
  obtain ⟨a, b⟩ := Q4.Least.one hu hv h1 h2 h
  exact Prod.ext a b
theorem num_least (x : Q4) (k : Nat) : LeastN ((num x k).1, (num x k).2.toNat) := by
  obtain ⟨s1, s2, s3⟩ := num_spec x k (by omega)
  show Q4.Least (num x k).1 ((num x k).2.toNat : Int)
  rw [Int.toNat_of_nonneg s1.1]; exact s1
theorem half_least (u : Nu) : LeastN (halfN u) := num_least _ _
theorem turn_least {u : Nu} (e : Nat) (h : LeastN u) : LeastN (turnN e u) := tnn_least _ h
theorem done_least {f : Nat → Nu} (h : ∀ p, LeastN (f p)) (n : Nat) (r : Row) (p : Nat) : LeastN (doneAt n f r p) := by
  cases r with
  | swing j =>
    show LeastN (if bit (wt n j) p = 0 then _ else _)
    split <;> exact half_least _
  | turn j e => exact turn_least _ (h p)
  | sign i j => exact turn_least _ (h p)
  | flip j => exact h _
  | tie i j => exact h _
  | cross i j => exact h _
/-! ### sums over places -/
noncomputable def sumI : Nat → (Nat → Int) → Int
  | 0, _ => 0
  | n + 1, F => sumI n F + F n
theorem sumI_congr {F G : Nat → Int} : ∀ (n : Nat), (∀ p, p < n → F p = G p) → sumI n F = sumI n G
  | 0, _ => rfl
  | n + 1, h => by
    show sumI n F + F n = sumI n G + G n
    rw [sumI_congr n fun p hp => h p (by omega), h n (by omega)]
theorem sumI_add (F G : Nat → Int) : ∀ n : Nat, sumI n (fun p => F p + G p) = sumI n F + sumI n G
  | 0 => rfl
  | n + 1 => by
    show sumI n _ + (F n + G n) = sumI n F + F n + (sumI n G + G n)
    rw [sumI_add F G n]; omega
theorem sumI_split (F : Nat → Int) (a : Nat) : ∀ b : Nat, sumI (a + b) F = sumI a F + sumI b (fun r => F (a + r))
  | 0 => by show sumI a F = sumI a F + 0; omega
  | b + 1 => by
    show sumI (a + b) F + F (a + b) = _ + (sumI b _ + F (a + b))
    rw [sumI_split F a b]; omega
theorem sumI_mul (F : Nat → Int) (b : Nat) : ∀ a : Nat, sumI (a * b) F = sumI a (fun q => sumI b (fun r => F (q * b + r)))
  | 0 => by rw [Nat.zero_mul]; rfl
  | a + 1 => by
    rw [Nat.succ_mul, sumI_split, sumI_mul F b a]; rfl
theorem sum_pair {n j : Nat} (hj : j < n) {F G : Nat → Int} (h : ∀ p, p < 2 ^ n → bit (wt n j) p = 0 → G p + G (p + wt n j) = F p + F (p + wt n j)) : sumI (2 ^ n) G = sumI (2 ^ n) F := by
  have hw := wt_pos n j
  have e : 2 ^ n = 2 ^ j * (wt n j + wt n j) := by
    rw [wt_two hj, Nat.pow_succ, Nat.mul_comm, Nat.mul_assoc, Nat.mul_comm 2, Nat.mul_two]
  have two : ∀ H : Nat → Int, sumI (2 ^ n) H = sumI (2 ^ j) (fun q => sumI (wt n j) (fun r => H (q * (wt n j + wt n j) + r) + H (q * (wt n j + wt n j) + r + wt n j))) := fun H => by
    rw [e, sumI_mul]
    refine sumI_congr _ fun q _ => ?_
    rw [sumI_split, ← sumI_add]
    refine sumI_congr _ fun r _ => ?_
    rw [← Nat.add_assoc, Nat.add_right_comm]
  rw [two G, two F]
  refine sumI_congr _ fun q hq => sumI_congr _ fun r hr => ?_
  have e2 : q * (wt n j + wt n j) + r = (2 * q + 0) * wt n j + r := by
    rw [Nat.add_zero, Nat.mul_add, ← Nat.add_mul, ← Nat.two_mul]
  have hb : bit (wt n j) (q * (wt n j + wt n j) + r) = 0 := by rw [e2]; exact bit_of (by decide) hr
  have hl : q * (wt n j + wt n j) + r < 2 ^ n := by
    have : (q + 1) * (wt n j + wt n j) ≤ 2 ^ j * (wt n j + wt n j) := Nat.mul_le_mul_right _ hq
    rw [Nat.succ_mul] at this
    omega
  exact h _ hl hb
/-- a flip where some condition that does not see the bit holds -/
theorem sum_flip {n j : Nat} (hj : j < n) (c : Nat → Bool) (hc : ∀ p, c (flp (wt n j) p) = c p) (F : Nat → Int) : sumI (2 ^ n) (fun p => F (if c p = true then flp (wt n j) p else p)) = sumI (2 ^ n) F := by
  refine sum_pair hj fun p hp hb => ?_
  have e : flp (wt n j) p = p + wt n j := if_pos hb
  have hc := hc p
  rw [e] at hc
  have hw := wt_pos n j
  have e2 : flp (wt n j) (p + wt n j) = p := by rw [← e]; exact flp_flp hw
  rw [hc, e, e2]
  by_cases h : c p = true
  · rw [if_pos h, if_pos h]; omega
  · rw [if_neg h, if_neg h]
theorem sum_tie {n i j : Nat} (hi : i < n) (hj : j < n) (hij : i ≠ j) (F : Nat → Int) : sumI (2 ^ n) (fun p => F (from_ n (.tie i j) p)) = sumI (2 ^ n) F := by
  have := sum_flip hj (fun p => !(bit (wt n i) p == 0)) (fun p => by rw [bit_flp hj hi (Ne.symm hij)]) F
  rw [← this]
  refine sumI_congr _ fun p _ => ?_
  show F (if bit (wt n i) p = 0 then p else flp (wt n j) p) = _
  by_cases h : bit (wt n i) p = 0 <;> simp [h]
theorem flpZ {w p : Nat} (hw : 0 < w) : ((flp w p : Nat) : Int) = (p : Int) + w - 2 * ((w * bit w p : Nat) : Int) := by
  have h2 := bit_lt w p
  unfold flp
  by_cases h : bit w p = 0
  · rw [if_pos h, h]; omega
  · have h1 : bit w p = 1 := by omega
    have := bit1_le hw h1
    rw [if_neg h, h1]; omega
theorem flp_comm {n i j p : Nat} (hi : i < n) (hj : j < n) (hij : i ≠ j) : flp (wt n j) (flp (wt n i) p) = flp (wt n i) (flp (wt n j) p) := by
  have a := flpZ (p := flp (wt n i) p) (wt_pos n j)
  have b := flpZ (p := flp (wt n j) p) (wt_pos n i)
  rw [bit_flp hi hj hij, flpZ (wt_pos n i)] at a
  rw [bit_flp hj hi (Ne.symm hij), flpZ (wt_pos n j)] at b
  omega
theorem sum_cross {n i j : Nat} (hi : i < n) (hj : j < n) (hij : i ≠ j) (F : Nat → Int) : sumI (2 ^ n) (fun p => F (from_ n (.cross i j) p)) = sumI (2 ^ n) F := by
  have h1 := sum_tie hi hj hij (fun p => F (from_ n (.tie i j) (from_ n (.tie j i) p)))
  have h2 := sum_tie hj hi (Ne.symm hij) (fun p => F (from_ n (.tie i j) p))
  have h3 := sum_tie hi hj hij F
  rw [← h3, ← h2, ← h1]
  refine sumI_congr _ fun p _ => ?_
  have hwi := wt_pos n i
  have hwj := wt_pos n j
  have a1 := bit_lt (wt n i) p
  have a2 := bit_lt (wt n j) p
  have f1 := bit_flp (p := p) hj hi (Ne.symm hij)
  have f2 := bit_flp_same (p := p) hwj
  have f3 := bit_flp (p := p) hi hj hij
  have f4 := bit_flp_same (p := p) hwi
  congr 1
  show (if bit (wt n i) p = bit (wt n j) p then p else flp (wt n j) (flp (wt n i) p)) = _
  have b1 : bit (wt n i) p = 0 ∨ bit (wt n i) p = 1 := by omega
  have b2 : bit (wt n j) p = 0 ∨ bit (wt n j) p = 1 := by omega
  have comm : flp (wt n j) (flp (wt n i) p) = flp (wt n i) (flp (wt n j) p) := flp_comm hi hj hij
  have on : ∀ {i j p : Nat}, bit (wt n i) p = 1 → from_ n (.tie i j) p = flp (wt n j) p := fun {i j p} h => by
    show (if bit (wt n i) p = 0 then p else flp (wt n j) p) = _
    rw [h]; rfl
  have off : ∀ {i j p : Nat}, bit (wt n i) p = 0 → from_ n (.tie i j) p = p := fun {i j p} h => if_pos h
  rcases b1 with b1 | b1 <;> rcases b2 with b2 | b2
  · rw [if_pos (by rw [b1, b2]), off b1, off b2, off b1]
  · rw [if_neg (by rw [b1, b2]; decide), off b1, on b2, on (by rw [f4, b1])]
  · rw [if_neg (by rw [b1, b2]; decide), on b1, on (i := j) (by rw [f2, b2]), off (by rw [bit_flp_same hwi, f1, b1]), comm]
  · rw [if_pos (by rw [b1, b2]), on b1, off (i := j) (by rw [f2, b2]), on (by rw [f1, b1]), flp_flp hwj]
theorem plusN_le' (u v : Nu) : (plusN u v).2 ≤ max u.2 v.2 := by
  have hk : max (u.2 : Int) v.2 = ((max u.2 v.2 : Nat) : Int) := by omega
  unfold plusN plusQ
  rw [hk]
  obtain ⟨s1, s2, s3⟩ := num_spec (Q4.add (Q4.rtn (((max u.2 v.2 : Nat) : Int) - u.2).toNat u.1) (Q4.rtn (((max u.2 v.2 : Nat) : Int) - v.2).toNat v.1)) ((max u.2 v.2 : Nat) : Int) (by omega)
  show (num _ _).2.toNat ≤ _
  omega
/-! ### the whole and the inner number stay -/
theorem nrm_pair {x y s t : Q4} (h1 : Q4.rt x = Q4.add s t) (h2 : Q4.rt y = Q4.add s (Q4.neg t)) : S2.add (nrm x) (nrm y) = S2.add (nrm s) (nrm t) := by
  apply S2.sc_inj (n := 1)
  rw [S2.sc_addS, ← nrm_rt, ← nrm_rt, h1, h2, nrm_two]
  apply S2.ext' <;> simp only [S2.add, S2.sc] <;> omega
noncomputable def nsum (M n : Nat) (f : Nat → Nu) : S2 := ⟨sumI (2 ^ n) (fun p => (nrm (val M (f p))).p), sumI (2 ^ n) (fun p => (nrm (val M (f p))).q)⟩
/-- what a plain row does to a sum over places: F of the new state's place -/
theorem sum_done {n M : Nat} (r : Row) (hr : r.ok n) (f : Nat → Nu) (hf : ∀ p, (f p).2 + 1 ≤ M) (F : Q4 → Int) (ht : ∀ e x, F (tnn e x) = F x) (hp : ∀ x y s t, Q4.rt x = Q4.add s t → Q4.rt y = Q4.add s (Q4.neg t) → F x + F y = F s + F t) : sumI (2 ^ n) (fun p => F (val M (doneAt n f r p))) = sumI (2 ^ n) (fun p => F (val M (f p))) := by
  cases r with
  | swing j =>
    refine sum_pair hr fun p hp' hb => ?_
    have hw := wt_pos n j
    have hb1 : bit (wt n j) (p + wt n j) = 1 := by
      have := bit_flp_same (p := p) hw
      rw [show flp (wt n j) p = p + wt n j from if_pos hb, hb] at this
      exact this
    have e1 : doneAt n f (.swing j) p = halfN (plusN (f p) (f (p + wt n j))) := if_pos hb
    have e2 : doneAt n f (.swing j) (p + wt n j) = halfN (plusN (f (p + wt n j - wt n j)) (turnN 4 (f (p + wt n j)))) := if_neg (by rw [hb1]; decide)
    rw [Nat.add_sub_cancel] at e2
    rw [e1, e2]
    have a := hf p
    have b := hf (p + wt n j)
    have l1 : (plusN (f p) (f (p + wt n j))).2 ≤ max (f p).2 (f (p + wt n j)).2 := plusN_le' _ _
    have l2 : (plusN (f p) (turnN 4 (f (p + wt n j)))).2 ≤ max (f p).2 (f (p + wt n j)).2 := plusN_le' _ _
    refine hp _ _ _ _ ?_ ?_
    · rw [val_half (by omega), val_plus (by omega) (by omega)]
    · rw [val_half (by omega), val_plus (by omega) (by show (f (p + wt n j)).2 ≤ M; omega), val_neg]
  | turn j e => exact sumI_congr _ fun p _ => by show F (val M (turnN _ (f p))) = _; rw [val_turn, ht]
  | sign i j => exact sumI_congr _ fun p _ => by show F (val M (turnN _ (f p))) = _; rw [val_turn, ht]
  | flip j =>
    have := sum_flip hr (fun _ => true) (fun _ => rfl) (fun p => F (val M (f p)))
    exact this
  | tie i j => exact sum_tie hr.1 hr.2.1 hr.2.2 (fun p => F (val M (f p)))
  | cross i j => exact sum_cross hr.1 hr.2.1 hr.2.2 (fun p => F (val M (f p)))
theorem nsum_done {n M : Nat} (r : Row) (hr : r.ok n) (f : Nat → Nu) (hf : ∀ p, (f p).2 + 1 ≤ M) : nsum M n (doneAt n f r) = nsum M n f := by
  apply S2.ext'
  · exact sum_done r hr f hf (fun x => (nrm x).p) (fun e x => by rw [nrm_tnn]) fun x y s t h1 h2 => by
      have := congrArg S2.p (nrm_pair h1 h2); exact this
  · exact sum_done r hr f hf (fun x => (nrm x).q) (fun e x => by rw [nrm_tnn]) fun x y s t h1 h2 => by
      have := congrArg S2.q (nrm_pair h1 h2); exact this
/-! ### inner numbers -/
noncomputable def sumQ (N : Nat) (F : Nat → Q4) : Q4 := ⟨sumI N (fun p => (F p).a), sumI N (fun p => (F p).b), sumI N (fun p => (F p).c), sumI N (fun p => (F p).d)⟩
theorem sumQ_succ (N : Nat) (F : Nat → Q4) : sumQ (N + 1) F = Q4.add (sumQ N F) (F N) := rfl
theorem sumQ_congr {F G : Nat → Q4} (N : Nat) (h : ∀ p, p < N → F p = G p) : sumQ N F = sumQ N G := by
  apply Q4.ext'
  · exact sumI_congr N fun p hp => by rw [h p hp]
  · exact sumI_congr N fun p hp => by rw [h p hp]
  · exact sumI_congr N fun p hp => by rw [h p hp]
  · exact sumI_congr N fun p hp => by rw [h p hp]
theorem mul_two (s t s' t' : Q4) : Q4.add (Q4.mul (Q4.mir (Q4.add s t)) (Q4.add s' t')) (Q4.mul (Q4.mir (Q4.add s (Q4.neg t))) (Q4.add s' (Q4.neg t'))) = Q4.dbl 2 (Q4.add (Q4.mul (Q4.mir s) s') (Q4.mul (Q4.mir t) t')) := by
  apply Q4.ext' <;> simp only [Q4.mul, Q4.mir, Q4.add, Q4.neg, Q4.dbl] <;> grind
theorem rtn_zero : ∀ k, Q4.rtn k ⟨0, 0, 0, 0⟩ = ⟨0, 0, 0, 0⟩
  | 0 => rfl
  | k + 1 => by rw [Q4.rtn_succ, rtn_zero k]; rfl
/-! ### columns: the state of a sum is the sum of the states -/
theorem sumQ_rt (F : Nat → Q4) : ∀ N : Nat, Q4.rt (sumQ N F) = sumQ N (fun p => Q4.rt (F p))
  | 0 => by apply Q4.ext' <;> rfl
  | N + 1 => by rw [sumQ_succ, Q4.rt_add, sumQ_rt F N]; rfl
theorem tn_add (x y : Q4) : Q4.tn (Q4.add x y) = Q4.add (Q4.tn x) (Q4.tn y) := by apply Q4.ext' <;> simp only [Q4.tn, Q4.add] <;> omega
theorem tnn_addQ (e : Nat) : ∀ (x y : Q4), tnn e (Q4.add x y) = Q4.add (tnn e x) (tnn e y) := by
  induction e with
  | zero => intro x y; rfl
  | succ e ih =>
    intro x y
    have e1 : ∀ z, tnn (e + 1) z = tnn e (Q4.tn z) := fun z => by rw [tnn_add e 1 z]; rfl
    rw [e1, e1, e1, tn_add, ih]
theorem tnn_zero (e : Nat) : tnn e ⟨0, 0, 0, 0⟩ = ⟨0, 0, 0, 0⟩ := by
  induction e with
  | zero => rfl
  | succ e ih =>
    have e1 : ∀ z, tnn (e + 1) z = tnn e (Q4.tn z) := fun z => by rw [tnn_add e 1 z]; rfl
    rw [e1]
    exact ih
theorem sumQ_tnn (e : Nat) (F : Nat → Q4) : ∀ N : Nat, tnn e (sumQ N F) = sumQ N (fun p => tnn e (F p))
  | 0 => tnn_zero e
  | N + 1 => by rw [sumQ_succ, tnn_addQ, sumQ_tnn e F N]; rfl
theorem sumQ_add (F G : Nat → Q4) (N : Nat) : sumQ N (fun p => Q4.add (F p) (G p)) = Q4.add (sumQ N F) (sumQ N G) := by
  apply Q4.ext'
  · exact sumI_add (fun p => (F p).a) (fun p => (G p).a) N
  · exact sumI_add (fun p => (F p).b) (fun p => (G p).b) N
  · exact sumI_add (fun p => (F p).c) (fun p => (G p).c) N
  · exact sumI_add (fun p => (F p).d) (fun p => (G p).d) N
theorem val_swing {n M j : Nat} {f : Nat → Nu} (hf : ∀ p, (f p).2 + 1 ≤ M) (x : Nat) : Q4.rt (val M (doneAt n f (.swing j) x)) = if bit (wt n j) x = 0 then Q4.add (val M (f x)) (val M (f (x + wt n j))) else Q4.add (val M (f (x - wt n j))) (tnn 4 (val M (f x))) := by
  show Q4.rt (val M (if bit (wt n j) x = 0 then halfN (plusN (f x) (f (x + wt n j))) else halfN (plusN (f (x - wt n j)) (turnN 4 (f x))))) = _
  split
  · have a := hf x
    have b := hf (x + wt n j)
    have l := plusN_le' (f x) (f (x + wt n j))
    rw [val_half (by omega), val_plus (by omega) (by omega)]
  · have a := hf x
    have b := hf (x - wt n j)
    have l : (plusN (f (x - wt n j)) (turnN 4 (f x))).2 ≤ max (f (x - wt n j)).2 (f x).2 := plusN_le' _ _
    rw [val_half (by omega), val_plus (by omega) (by show (f x).2 ≤ M; omega), val_turn]
/-- g is the sum of the c p, each times a p -/
noncomputable def Sup (N M K : Nat) (a : Nat → Q4) (c : Nat → Nat → Nu) (g : Nat → Nu) : Prop := ∀ x, val N (g x) = sumQ K (fun p => Q4.mul (a p) (val M (c p x)))
theorem Sup.done {n N M K : Nat} {a : Nat → Q4} {c : Nat → Nat → Nu} {g : Nat → Nu} (h : Sup N M K a c g) (hg : ∀ p, (g p).2 + 1 ≤ N) (hc : ∀ p x, (c p x).2 + 1 ≤ M) (r : Row) : Sup N M K a (fun p => doneAt n (c p) r) (doneAt n g r) := by
  have tm : ∀ (e : Nat) (x : Nat), val N (turnN e (g x)) = sumQ K (fun p => Q4.mul (a p) (val M (turnN e (c p x)))) := fun e x => by
    rw [val_turn, h x, sumQ_tnn]
    refine sumQ_congr _ fun p _ => ?_
    rw [tnn_mul, val_turn]
  intro x
  cases r with
  | swing j =>
    apply Q4.rt_inj
    rw [val_swing hg x, sumQ_rt]
    have e : ∀ p, Q4.rt (Q4.mul (a p) (val M (doneAt n (c p) (.swing j) x))) = Q4.mul (a p) (if bit (wt n j) x = 0 then Q4.add (val M (c p x)) (val M (c p (x + wt n j))) else Q4.add (val M (c p (x - wt n j))) (tnn 4 (val M (c p x)))) := fun p => by
      rw [← val_swing (hc p) x, Q4.mul_comm, Q4.rt_mul, Q4.mul_comm]
    simp only [e]
    split
    · rw [h x, h (x + wt n j), ← sumQ_add]
      exact sumQ_congr _ fun p _ => by rw [Q4.mul_add]
    · rw [h x, h (x - wt n j), sumQ_tnn, ← sumQ_add]
      exact sumQ_congr _ fun p _ => by rw [Q4.mul_add, tnn_mul]
  | turn j e => exact tm _ x
  | sign i j => exact tm _ x
  | flip j => exact h _
  | tie i j => exact h _
  | cross i j => exact h _
/-- one at p, nought elsewhere -/
noncomputable def oneAt (p : Nat) : Nat → Nu := fun q => if q = p then (⟨1, 0, 0, 0⟩, 0) else (⟨0, 0, 0, 0⟩, 0)
theorem sumQ_one {F : Nat → Q4} {x : Nat} (hF : ∀ p, p ≠ x → F p = ⟨0, 0, 0, 0⟩) : ∀ N : Nat, sumQ N F = if x < N then F x else ⟨0, 0, 0, 0⟩
  | 0 => by rw [if_neg (by omega)]; apply Q4.ext' <;> rfl
  | N + 1 => by
    rw [sumQ_succ, sumQ_one hF N]
    by_cases h : x < N
    · rw [if_pos h, if_pos (by omega), hF N (by omega)]
      apply Q4.ext' <;> simp [Q4.add]
    · by_cases h2 : x = N
      · subst h2
        rw [if_neg h, if_pos (by omega)]
        apply Q4.ext' <;> simp [Q4.add]
      · rw [if_neg h, if_neg (by omega), hF N (Ne.symm h2)]
        apply Q4.ext' <;> simp [Q4.add]
theorem mul_zero' (x : Q4) : Q4.mul x ⟨0, 0, 0, 0⟩ = ⟨0, 0, 0, 0⟩ := by apply Q4.ext' <;> simp [Q4.mul]
theorem mul_one' (x : Q4) : Q4.mul x ⟨1, 0, 0, 0⟩ = x := by apply Q4.ext' <;> simp [Q4.mul]
theorem val_zero (M : Nat) : val M (⟨0, 0, 0, 0⟩, 0) = ⟨0, 0, 0, 0⟩ := rtn_zero _
theorem Sup.start {n M : Nat} (s : Nat → Nu) (hs : ∀ p, (s p).2 ≤ M) (hz : ∀ p, 2 ^ n ≤ p → s p = (⟨0, 0, 0, 0⟩, 0)) : Sup (M + M) M (2 ^ n) (fun p => val M (s p)) oneAt s := by
  intro x
  have hF : ∀ p, p ≠ x → Q4.mul (val M (s p)) (val M (oneAt p x)) = ⟨0, 0, 0, 0⟩ := fun p hp => by
    unfold oneAt
    rw [if_neg (Ne.symm hp), val_zero, mul_zero']
  rw [sumQ_one hF]
  by_cases h : x < 2 ^ n
  · rw [if_pos h]
    unfold oneAt
    rw [if_pos rfl]
    unfold val
    have := hs x
    show Q4.rtn (M + M - (s x).2) (s x).1 = Q4.mul (Q4.rtn (M - (s x).2) (s x).1) (Q4.rtn (M - 0) ⟨1, 0, 0, 0⟩)
    rw [← Q4.rtn_mul2, mul_one']
    congr 1
    omega
  · rw [if_neg h, hz x (by omega), val_zero]
end MA
namespace GN
open PySem L2 VL
noncomputable def top (i : Nat) : Stmt := PySem.Challenge.pw_wavewires_k57_alike_by_moves.main.body.getD i (.Pass ⟨0, 0, 0, 0⟩)
noncomputable abbrev s_twos_shared : Stmt := top 7
noncomputable abbrev N_twos_shared : List Str := ["joined", "most"]
noncomputable def b_twos_shared : Sf := sSeq (sIf (ob (o2 (oV 0) (oC (.int 0)) eqD)) (sRet (oV 1)) (sNx)) (sRet (os (oCons (oV 1) (oCons (o2 (o1 (o2 (oV 0) (o1 (oV 0) negD) andD) bitsD) (oC (.int 1)) subD) (oNil))) minD))
noncomputable def g_twos_shared : List D → Option D := runB N_twos_shared 2 b_twos_shared
noncomputable abbrev s_by_root : Stmt := top 8
noncomputable abbrev N_by_root : List Str := ["a", "b", "c", "d"]
noncomputable def b_by_root : Sf := sRet (os (oCons (o2 (oV 1) (oV 3) subD) (oCons (o2 (oV 0) (oV 2) addD) (oCons (o2 (oV 1) (oV 3) addD) (oCons (o2 (oV 2) (oV 0) subD) (oNil))))) tupD)
noncomputable def g_by_root : List D → Option D := runB N_by_root 4 b_by_root
noncomputable abbrev s_number : Stmt := top 9
noncomputable abbrev N_number : List Str := ["a", "b", "c", "d", "k", "twos", "doubled"]
noncomputable def b_number : Sf := sSeq (sSet 5 (os (oCons (o2 (o2 (o2 (oV 0) (oV 1) orD) (oV 2) orD) (oV 3) orD) (oCons (o2 (oV 4) (oC (.int 2)) divD) (oNil))) g_twos_shared)) (sSeq (sSet 0 (o2 (oV 0) (oV 5) shrD)) (sSeq (sSet 1 (o2 (oV 1) (oV 5) shrD)) (sSeq (sSet 2 (o2 (oV 2) (oV 5) shrD)) (sSeq (sSet 3 (o2 (oV 3) (oV 5) shrD)) (sSeq (sSet 4 (o2 (oV 4) (o2 (oC (.int 2)) (oV 5) mulI) subD)) (sSeq (sIf (oOr (ob (o2 (oV 4) (oC (.int 0)) eqD)) (oOr (ob (o2 (o2 (o2 (oV 0) (oV 2) subD) (oC (.int 2)) modD) (oC (.int 1)) eqD)) (ob (o2 (o2 (o2 (oV 1) (oV 3) subD) (oC (.int 2)) modD) (oC (.int 1)) eqD)))) (sRet (os (oCons (oV 0) (oCons (oV 1) (oCons (oV 2) (oCons (oV 3) (oCons (oV 4) (oNil)))))) tupD)) (sNx)) (sSeq (sSet 6 (os (oCons (oV 0) (oCons (oV 1) (oCons (oV 2) (oCons (oV 3) (oNil))))) g_by_root)) (sRet (os (oCons (o2 (o2 (oV 6) (oC (.int 0)) ixD) (oC (.int 2)) divD) (oCons (o2 (o2 (oV 6) (oC (.int 1)) ixD) (oC (.int 2)) divD) (oCons (o2 (o2 (oV 6) (oC (.int 2)) ixD) (oC (.int 2)) divD) (oCons (o2 (o2 (oV 6) (oC (.int 3)) ixD) (oC (.int 2)) divD) (oCons (o2 (oV 4) (oC (.int 1)) subD) (oNil)))))) tupD)))))))))
noncomputable def g_number : List D → Option D := runB N_number 5 b_number
noncomputable abbrev s_parts_over : Stmt := top 10
noncomputable abbrev N_parts_over : List Str := ["x", "k", "more", "twos", "a", "b", "c", "d"]
noncomputable def b_parts_over : Sf := sSeq (sSet 2 (o2 (oV 1) (o2 (oV 0) (oC (.int 4)) ixD) subD)) (sSeq (sSet 3 (o2 (oV 2) (oC (.int 2)) divD)) (sSeq (sSet 4 (o2 (o2 (oV 0) (oC (.int 0)) ixD) (oV 3) shlD)) (sSeq (sSet 5 (o2 (o2 (oV 0) (oC (.int 1)) ixD) (oV 3) shlD)) (sSeq (sSet 6 (o2 (o2 (oV 0) (oC (.int 2)) ixD) (oV 3) shlD)) (sSeq (sSet 7 (o2 (o2 (oV 0) (oC (.int 3)) ixD) (oV 3) shlD)) (sSeq (sIf (ob (o2 (o2 (oV 2) (oC (.int 2)) modD) (oC (.int 1)) eqD)) (sRet (os (oCons (oV 4) (oCons (oV 5) (oCons (oV 6) (oCons (oV 7) (oNil))))) g_by_root)) (sNx)) (sRet (os (oCons (oV 4) (oCons (oV 5) (oCons (oV 6) (oCons (oV 7) (oNil))))) tupD))))))))
noncomputable def g_parts_over : List D → Option D := runB N_parts_over 2 b_parts_over
noncomputable abbrev s_plus : Stmt := top 11
noncomputable abbrev N_plus : List Str := ["x", "y", "k", "s", "t"]
noncomputable def b_plus : Sf := sSeq (sSet 2 (os (oCons (o2 (oV 0) (oC (.int 4)) ixD) (oCons (o2 (oV 1) (oC (.int 4)) ixD) (oNil))) maxD)) (sSeq (sSet 3 (os (oCons (oV 0) (oCons (oV 2) (oNil))) g_parts_over)) (sSeq (sSet 4 (os (oCons (oV 1) (oCons (oV 2) (oNil))) g_parts_over)) (sRet (os (oCons (o2 (o2 (oV 3) (oC (.int 0)) ixD) (o2 (oV 4) (oC (.int 0)) ixD) addD) (oCons (o2 (o2 (oV 3) (oC (.int 1)) ixD) (o2 (oV 4) (oC (.int 1)) ixD) addD) (oCons (o2 (o2 (oV 3) (oC (.int 2)) ixD) (o2 (oV 4) (oC (.int 2)) ixD) addD) (oCons (o2 (o2 (oV 3) (oC (.int 3)) ixD) (o2 (oV 4) (oC (.int 3)) ixD) addD) (oCons (oV 2) (oNil)))))) g_number))))
noncomputable def g_plus : List D → Option D := runB N_plus 2 b_plus
noncomputable abbrev s_times : Stmt := top 12
noncomputable abbrev N_times : List Str := ["x", "y"]
noncomputable def b_times : Sf := sRet (os (oCons (o2 (o2 (o2 (o2 (o2 (oV 0) (oC (.int 0)) ixD) (o2 (oV 1) (oC (.int 0)) ixD) mulI) (o2 (o2 (oV 0) (oC (.int 1)) ixD) (o2 (oV 1) (oC (.int 3)) ixD) mulI) subD) (o2 (o2 (oV 0) (oC (.int 2)) ixD) (o2 (oV 1) (oC (.int 2)) ixD) mulI) subD) (o2 (o2 (oV 0) (oC (.int 3)) ixD) (o2 (oV 1) (oC (.int 1)) ixD) mulI) subD) (oCons (o2 (o2 (o2 (o2 (o2 (oV 0) (oC (.int 0)) ixD) (o2 (oV 1) (oC (.int 1)) ixD) mulI) (o2 (o2 (oV 0) (oC (.int 1)) ixD) (o2 (oV 1) (oC (.int 0)) ixD) mulI) addD) (o2 (o2 (oV 0) (oC (.int 2)) ixD) (o2 (oV 1) (oC (.int 3)) ixD) mulI) subD) (o2 (o2 (oV 0) (oC (.int 3)) ixD) (o2 (oV 1) (oC (.int 2)) ixD) mulI) subD) (oCons (o2 (o2 (o2 (o2 (o2 (oV 0) (oC (.int 0)) ixD) (o2 (oV 1) (oC (.int 2)) ixD) mulI) (o2 (o2 (oV 0) (oC (.int 1)) ixD) (o2 (oV 1) (oC (.int 1)) ixD) mulI) addD) (o2 (o2 (oV 0) (oC (.int 2)) ixD) (o2 (oV 1) (oC (.int 0)) ixD) mulI) addD) (o2 (o2 (oV 0) (oC (.int 3)) ixD) (o2 (oV 1) (oC (.int 3)) ixD) mulI) subD) (oCons (o2 (o2 (o2 (o2 (o2 (oV 0) (oC (.int 0)) ixD) (o2 (oV 1) (oC (.int 3)) ixD) mulI) (o2 (o2 (oV 0) (oC (.int 1)) ixD) (o2 (oV 1) (oC (.int 2)) ixD) mulI) addD) (o2 (o2 (oV 0) (oC (.int 2)) ixD) (o2 (oV 1) (oC (.int 1)) ixD) mulI) addD) (o2 (o2 (oV 0) (oC (.int 3)) ixD) (o2 (oV 1) (oC (.int 0)) ixD) mulI) addD) (oCons (o2 (o2 (oV 0) (oC (.int 4)) ixD) (o2 (oV 1) (oC (.int 4)) ixD) addD) (oNil)))))) g_number)
noncomputable def g_times : List D → Option D := runB N_times 2 b_times
noncomputable abbrev s_against : Stmt := top 13
noncomputable abbrev N_against : List Str := ["x"]
noncomputable def b_against : Sf := sRet (os (oCons (o1 (o2 (oV 0) (oC (.int 0)) ixD) negD) (oCons (o1 (o2 (oV 0) (oC (.int 1)) ixD) negD) (oCons (o1 (o2 (oV 0) (oC (.int 2)) ixD) negD) (oCons (o1 (o2 (oV 0) (oC (.int 3)) ixD) negD) (oCons (o2 (oV 0) (oC (.int 4)) ixD) (oNil)))))) tupD)
noncomputable def g_against : List D → Option D := runB N_against 1 b_against
noncomputable abbrev s_turned : Stmt := top 14
noncomputable abbrev N_turned : List Str := ["x", "e", "around"]
noncomputable def b_turned : Sf := sSeq (sSet 2 (os (oCons (o2 (oV 0) (oC (.int 0)) ixD) (oCons (o2 (oV 0) (oC (.int 1)) ixD) (oCons (o2 (oV 0) (oC (.int 2)) ixD) (oCons (o2 (oV 0) (oC (.int 3)) ixD) (oCons (o1 (o2 (oV 0) (oC (.int 0)) ixD) negD) (oCons (o1 (o2 (oV 0) (oC (.int 1)) ixD) negD) (oCons (o1 (o2 (oV 0) (oC (.int 2)) ixD) negD) (oCons (o1 (o2 (oV 0) (oC (.int 3)) ixD) negD) (oNil))))))))) tupD)) (sRet (os (oCons (o2 (oV 2) (o2 (o2 (oC (.int 0)) (oV 1) subD) (oC (.int 8)) modD) ixD) (oCons (o2 (oV 2) (o2 (o2 (oC (.int 1)) (oV 1) subD) (oC (.int 8)) modD) ixD) (oCons (o2 (oV 2) (o2 (o2 (oC (.int 2)) (oV 1) subD) (oC (.int 8)) modD) ixD) (oCons (o2 (oV 2) (o2 (o2 (oC (.int 3)) (oV 1) subD) (oC (.int 8)) modD) ixD) (oCons (o2 (oV 0) (oC (.int 4)) ixD) (oNil)))))) tupD))
noncomputable def g_turned : List D → Option D := runB N_turned 2 b_turned
noncomputable abbrev s_halved : Stmt := top 15
noncomputable abbrev N_halved : List Str := ["x"]
noncomputable def b_halved : Sf := sRet (os (oCons (o2 (oV 0) (oC (.int 0)) ixD) (oCons (o2 (oV 0) (oC (.int 1)) ixD) (oCons (o2 (oV 0) (oC (.int 2)) ixD) (oCons (o2 (oV 0) (oC (.int 3)) ixD) (oCons (o2 (o2 (oV 0) (oC (.int 4)) ixD) (oC (.int 1)) addD) (oNil)))))) g_number)
noncomputable def g_halved : List D → Option D := runB N_halved 1 b_halved
noncomputable abbrev s_worth : Stmt := top 18
noncomputable abbrev N_worth : List Str := ["wires", "wire"]
noncomputable def b_worth : Sf := sRet (o2 (oC (.int 1)) (o2 (o2 (oV 0) (oC (.int 1)) subD) (oV 1) subD) shlD)
noncomputable def g_worth : List D → Option D := runB N_worth 2 b_worth
noncomputable abbrev s_beginning : Stmt := top 19
noncomputable abbrev N_beginning : List Str := ["wires", "place"]
noncomputable def p1_beginning : Dv → Option D := oComp (oL (oCons (o2 (oC (.int 1)) (oV 0) shlD) (oNil)) rng1D) [(1, "place")] bv1 (oIf (ob (o2 (oV 0) (oV 1) eqD)) (oC (.tuple [.int 1, .int 0, .int 0, .int 0, .int 0])) (oC (.tuple [.int 0, .int 0, .int 0, .int 0, .int 0])))
noncomputable def b_beginning : Sf := sRet (os (oCons (p1_beginning) (oNil)) tupleD)
noncomputable def g_beginning : List D → Option D := runB N_beginning 2 b_beginning
noncomputable abbrev s_swung : Stmt := top 20
noncomputable abbrev N_swung : List Str := ["state", "bit", "told", "p"]
noncomputable def l1_swung : Sf := sIf (ob (o2 (o2 (oV 3) (oV 1) andD) (oC (.int 0)) eqD)) (sApp 2 (os (oCons (os (oCons (o2 (oV 0) (oV 3) ixD) (oCons (o2 (oV 0) (o2 (oV 3) (oV 1) xorD) ixD) (oNil))) g_plus) (oNil)) g_halved)) (sApp 2 (os (oCons (os (oCons (o2 (oV 0) (o2 (oV 3) (oV 1) xorD) ixD) (oCons (os (oCons (o2 (oV 0) (oV 3) ixD) (oNil)) g_against) (oNil))) g_plus) (oNil)) g_halved))
noncomputable def b_swung : Sf := sSeq (sOwn 2 (oNil)) (sSeq (sFor (oL (oCons (os (oCons (oV 0) (oNil)) lenD) (oNil)) rng1D) (gN 3) (l1_swung)) (fun δ => (sRet (os (oCons (oV 2) (oNil)) tupleD)) (dFz 2 δ)))
noncomputable def g_swung : List D → Option D := runB N_swung 2 b_swung
noncomputable abbrev s_turned_where : Stmt := top 21
noncomputable abbrev N_turned_where : List Str := ["state", "held", "e"]
noncomputable def p1_turned_where : Dv → Option D := oComp (oL (oCons (os (oCons (oV 0) (oNil)) lenD) (oNil)) rng1D) [(0, "state"), (1, "held"), (2, "e")] bv1 (oIf (ob (o2 (o2 (oV 0) (oV 2) andD) (oV 2) eqD)) (os (oCons (o2 (oV 1) (oV 0) ixD) (oCons (oV 3) (oNil))) g_turned) (o2 (oV 1) (oV 0) ixD))
noncomputable def b_turned_where : Sf := sRet (os (oCons (p1_turned_where) (oNil)) tupleD)
noncomputable def g_turned_where : List D → Option D := runB N_turned_where 3 b_turned_where
noncomputable abbrev s_flipped_where : Stmt := top 22
noncomputable abbrev N_flipped_where : List Str := ["state", "held", "bit"]
noncomputable def p1_flipped_where : Dv → Option D := oComp (oL (oCons (os (oCons (oV 0) (oNil)) lenD) (oNil)) rng1D) [(0, "state"), (1, "held"), (2, "bit")] bv1 (oIf (ob (o2 (o2 (oV 0) (oV 2) andD) (oV 2) eqD)) (o2 (oV 1) (o2 (oV 0) (oV 3) xorD) ixD) (o2 (oV 1) (oV 0) ixD))
noncomputable def b_flipped_where : Sf := sRet (os (oCons (p1_flipped_where) (oNil)) tupleD)
noncomputable def g_flipped_where : List D → Option D := runB N_flipped_where 3 b_flipped_where
noncomputable abbrev s_exchanged : Stmt := top 23
noncomputable abbrev N_exchanged : List Str := ["place", "both"]
noncomputable def b_exchanged : Sf := sRet (oIf (ob (o2 (o2 (oV 0) (oV 1) andD) (os (oCons (oC (.int 0)) (oCons (oV 1) (oNil))) tupD) (inD false))) (oV 0) (o2 (oV 0) (oV 1) xorD))
noncomputable def g_exchanged : List D → Option D := runB N_exchanged 2 b_exchanged
noncomputable abbrev s_done : Stmt := top 24
noncomputable abbrev N_done : List Str := ["state", "row", "wires", "first", "second"]
noncomputable def p1_done : Dv → Option D := oComp (oL (oCons (os (oCons (oV 0) (oNil)) lenD) (oNil)) rng1D) [(0, "state"), (3, "first"), (4, "second")] bv1 (o2 (oV 1) (os (oCons (oV 0) (oCons (o2 (oV 2) (oV 3) orD) (oNil))) g_exchanged) ixD)
noncomputable def b_done : Sf := sSeq (sSet 2 (o2 (o1 (os (oCons (oV 0) (oNil)) lenD) bitsD) (oC (.int 1)) subD)) (sSeq (sSet 3 (os (oCons (oV 2) (oCons (o2 (oV 1) (oC (.int 1)) ixD) (oNil))) g_worth)) (sSeq (sIf (ob (o2 (o2 (oV 1) (oC (.int 0)) ixD) (oC (.str "swing")) eqD)) (sRet (os (oCons (oV 0) (oCons (oV 3) (oNil))) g_swung)) (sNx)) (sSeq (sIf (ob (o2 (o2 (oV 1) (oC (.int 0)) ixD) (oC (.str "turn")) eqD)) (sRet (os (oCons (oV 0) (oCons (oV 3) (oCons (o2 (oV 1) (oC (.int 2)) ixD) (oNil)))) g_turned_where)) (sNx)) (sSeq (sIf (ob (o2 (o2 (oV 1) (oC (.int 0)) ixD) (oC (.str "flip")) eqD)) (sRet (os (oCons (oV 0) (oCons (oC (.int 0)) (oCons (oV 3) (oNil)))) g_flipped_where)) (sNx)) (sSeq (sSet 4 (os (oCons (oV 2) (oCons (o2 (oV 1) (oC (.int 2)) ixD) (oNil))) g_worth)) (sSeq (sIf (ob (o2 (o2 (oV 1) (oC (.int 0)) ixD) (oC (.str "tie")) eqD)) (sRet (os (oCons (oV 0) (oCons (oV 3) (oCons (oV 4) (oNil)))) g_flipped_where)) (sNx)) (sSeq (sIf (ob (o2 (o2 (oV 1) (oC (.int 0)) ixD) (oC (.str "sign")) eqD)) (sRet (os (oCons (oV 0) (oCons (o2 (oV 3) (oV 4) orD) (oCons (oC (.int 4)) (oNil)))) g_turned_where)) (sNx)) (sRet (os (oCons (p1_done) (oNil)) tupleD)))))))))
noncomputable def g_done : List D → Option D := runB N_done 2 b_done
noncomputable abbrev s_all_done : Stmt := top 25
noncomputable abbrev N_all_done : List Str := ["state", "rows", "row"]
noncomputable def l1_all_done : Sf := sSet 0 (os (oCons (oV 0) (oCons (oV 2) (oNil))) g_done)
noncomputable def b_all_done : Sf := sSeq (sFor (oI (oV 1) itsD) (gN 2) (l1_all_done)) (sRet (oV 0))
noncomputable def g_all_done : List D → Option D := runB N_all_done 2 b_all_done
noncomputable abbrev s_all_plain : Stmt := top 26
noncomputable abbrev N_all_plain : List Str := ["rows"]
noncomputable def p1_all_plain : Dv → Option D := oComp (oI (oV 0) itsD) [] bv1 (o2 (o2 (oV 0) (oC (.int 0)) ixD) (oC (.tuple [.str "swing", .str "turn", .str "flip", .str "tie", .str "sign", .str "cross"])) (inD false))
noncomputable def b_all_plain : Sf := sRet (os (oCons (p1_all_plain) (oNil)) allD)
noncomputable def g_all_plain : List D → Option D := runB N_all_plain 1 b_all_plain
noncomputable abbrev s_column : Stmt := top 27
noncomputable abbrev N_column : List Str := ["circuit", "place"]
noncomputable def b_column : Sf := sSeq (sIf (oNot (ob (os (oCons (o2 (oV 0) (oC (.int 1)) ixD) (oNil)) g_all_plain))) (sNo) (sNx)) (sRet (os (oCons (os (oCons (o2 (oV 0) (oC (.int 0)) ixD) (oCons (oV 1) (oNil))) g_beginning) (oCons (o2 (oV 0) (oC (.int 1)) ixD) (oNil))) g_all_done))
noncomputable def g_column : List D → Option D := runB N_column 2 b_column
noncomputable abbrev s_is_plain : Stmt := top 29
noncomputable abbrev N_is_plain : List Str := ["circuit"]
noncomputable def b_is_plain : Sf := sRet (os (oCons (o2 (oV 0) (oC (.int 1)) ixD) (oNil)) g_all_plain)
noncomputable def g_is_plain : List D → Option D := runB N_is_plain 1 b_is_plain
noncomputable abbrev s_refuse_apart : Stmt := top 31
noncomputable abbrev N_refuse_apart : List Str := ["one", "other"]
noncomputable def b_refuse_apart : Sf := sSeq (sIf (oOr (oNot (ob (os (oCons (oV 0) (oNil)) g_is_plain))) (oNot (ob (os (oCons (oV 1) (oNil)) g_is_plain)))) (sNo) (sNx)) (sIf (ob (o2 (o2 (oV 0) (oC (.int 0)) ixD) (o2 (oV 1) (oC (.int 0)) ixD) neD)) (sNo) (sNx))
noncomputable def g_refuse_apart : List D → Option D := runB N_refuse_apart 2 b_refuse_apart
noncomputable abbrev s_columns_apart : Stmt := top 33
noncomputable abbrev N_columns_apart : List Str := ["circuit", "apart", "begun"]
noncomputable def p1_columns_apart : Dv → Option D := oComp (oL (oCons (o2 (oC (.int 1)) (o2 (oV 0) (oC (.int 0)) ixD) shlD) (oNil)) rng1D) [(1, "apart")] bv1 (os (oCons (o2 (oC (.int 1)) (o2 (oV 1) (oV 0) mulI) shlD) (oCons (oC (.int 0)) (oCons (oC (.int 0)) (oCons (oC (.int 0)) (oCons (oC (.int 0)) (oNil)))))) tupD)
noncomputable def b_columns_apart : Sf := sSeq (sSet 2 (os (oCons (p1_columns_apart) (oNil)) tupleD)) (sRet (os (oCons (oV 2) (oCons (o2 (oV 0) (oC (.int 1)) ixD) (oNil))) g_all_done))
noncomputable def g_columns_apart : List D → Option D := runB N_columns_apart 2 b_columns_apart
noncomputable abbrev s_turn_to : Stmt := top 34
noncomputable abbrev N_turn_to : List Str := ["one", "other", "e"]
noncomputable def p1_turn_to : Dv → Option D := oComp (oI (oV 0) itsD) [(2, "e")] bv1 (os (oCons (oV 0) (oCons (oV 1) (oNil))) g_turned)
noncomputable def l1_turn_to : Sf := sIf (ob (o2 (os (oCons (p1_turn_to) (oNil)) tupleD) (oV 1) eqD)) (sRet (oV 2)) (sNx)
noncomputable def b_turn_to : Sf := sSeq (sFor (oL (oCons (oC (.int 8)) (oNil)) rng1D) (gN 2) (l1_turn_to)) (sRet (oC .none))
noncomputable def g_turn_to : List D → Option D := runB N_turn_to 2 b_turn_to
noncomputable abbrev s_turn_apart : Stmt := top 35
noncomputable abbrev N_turn_apart : List Str := ["one", "other", "swings", "apart"]
noncomputable def p1_turn_apart : Dv → Option D := oCompI (oI (oV 0) itsD) [] bv1 (ob (o2 (o2 (oV 0) (oC (.int 0)) ixD) (oC (.str "swing")) eqD)) (oV 0)
noncomputable def p2_turn_apart : Dv → Option D := oComp (oI (os (oCons (o2 (oV 0) (oC (.int 1)) ixD) (oCons (o2 (oV 1) (oC (.int 1)) ixD) (oNil))) tupD) itsD) [] bv1 (os (oCons (p1_turn_apart) (oNil)) lenD)
noncomputable def b_turn_apart : Sf := sSeq (sSet 2 (os (oCons (p2_turn_apart) (oNil)) maxLD)) (sSeq (sSet 3 (o2 (o2 (oV 2) (oC (.int 2)) divD) (oC (.int 2)) addD)) (sRet (os (oCons (os (oCons (oV 0) (oCons (oV 3) (oNil))) g_columns_apart) (oCons (os (oCons (oV 1) (oCons (oV 3) (oNil))) g_columns_apart) (oNil))) g_turn_to)))
noncomputable def g_turn_apart : List D → Option D := runB N_turn_apart 2 b_turn_apart
noncomputable abbrev s_unlike_paper : Stmt := top 36
noncomputable abbrev N_unlike_paper : List Str := ["one", "other", "f", "g", "base", "b", "first", "second", "p"]
noncomputable def p1_unlike_paper : Dv → Option D := oCompI (oL (oCons (os (oCons (oV 2) (oNil)) lenD) (oNil)) rng1D) [(2, "f")] bv1 (ob (o2 (o2 (oV 1) (oV 0) ixD) (oC (.tuple [.int 0, .int 0, .int 0, .int 0, .int 0])) neD)) (oV 0)
noncomputable def l1_unlike_paper : Sf := sIf (ob (o2 (os (oCons (o2 (oV 2) (oV 4) ixD) (oCons (o2 (oV 7) (oV 8) ixD) (oNil))) g_times) (os (oCons (o2 (oV 6) (oV 8) ixD) (oCons (o2 (oV 3) (oV 4) ixD) (oNil))) g_times) neD)) (sRet (os (oCons (oC (.str "unlike")) (oCons (oC (.int 0)) (oCons (oV 4) (oCons (oV 5) (oCons (oV 8) (oNil)))))) tupD)) (sNx)
noncomputable def l2_unlike_paper : Sf := sSeq (sSet 6 (os (oCons (oV 0) (oCons (oV 5) (oNil))) g_column)) (sSeq (sSet 7 (os (oCons (oV 1) (oCons (oV 5) (oNil))) g_column)) (sFor (oL (oCons (os (oCons (oV 2) (oNil)) lenD) (oNil)) rng1D) (gN 8) (l1_unlike_paper)))
noncomputable def b_unlike_paper : Sf := sSeq (sSet 2 (os (oCons (oV 0) (oCons (oC (.int 0)) (oNil))) g_column)) (sSeq (sSet 3 (os (oCons (oV 1) (oCons (oC (.int 0)) (oNil))) g_column)) (sSeq (sSet 4 (o2 (p1_unlike_paper) (oC (.int 0)) ixD)) (sFor (oL (oCons (os (oCons (oV 2) (oNil)) lenD) (oNil)) rng1D) (gN 5) (l2_unlike_paper))))
noncomputable def g_unlike_paper : List D → Option D := runB N_unlike_paper 2 b_unlike_paper
noncomputable abbrev s_alike_paper : Stmt := top 37
noncomputable abbrev N_alike_paper : List Str := ["one", "other", "e"]
noncomputable def b_alike_paper : Sf := sSeq (sDrop (os (oCons (oV 0) (oCons (oV 1) (oNil))) g_refuse_apart)) (sSeq (sSet 2 (os (oCons (oV 0) (oCons (oV 1) (oNil))) g_turn_apart)) (sSeq (sIf (ob (o2 (oV 2) (oC .none) isntD)) (sRet (os (oCons (oC (.str "alike")) (oCons (oV 2) (oNil))) tupD)) (sNx)) (sRet (os (oCons (oV 0) (oCons (oV 1) (oNil))) g_unlike_paper))))
noncomputable def g_alike_paper : List D → Option D := runB N_alike_paper 2 b_alike_paper
noncomputable abbrev s__law_cell_at : Stmt := top 39
noncomputable abbrev N__law_cell_at : List Str := ["script", "k"]
noncomputable def b__law_cell_at : Sf := sSeq (sIf (ob (o2 (oV 1) (os (oCons (oV 0) (oNil)) lenD) ltD)) (sRet (o2 (oV 0) (oV 1) ixD)) (sNx)) (sRet (oC (.int 0)))
noncomputable def g__law_cell_at : List D → Option D := runB N__law_cell_at 2 b__law_cell_at
noncomputable abbrev s__law_row : Stmt := top 40
noncomputable abbrev N__law_row : List Str := ["cell", "wires", "kind", "j", "i"]
noncomputable def b__law_row : Sf := sSeq (sSet 2 (o2 (oV 0) (oC (.int 6)) modD)) (sSeq (sSet 3 (o2 (o2 (oV 0) (oC (.int 6)) divD) (oV 1) modD)) (sSeq (sIf (oAnd (ob (o2 (oV 1) (oC (.int 1)) eqD)) (ob (o2 (oV 2) (oC (.int 2)) gtD))) (sSet 2 (o2 (oV 2) (oC (.int 2)) modD)) (sNx)) (sSeq (sIf (ob (o2 (oV 2) (oC (.int 1)) eqD)) (sRet (os (oCons (oC (.str "turn")) (oCons (oV 3) (oCons (o2 (oC (.int 1)) (o2 (o2 (oV 0) (oC (.int 18)) divD) (oC (.int 7)) modD) addD) (oNil)))) tupD)) (sNx)) (sSeq (sIf (oOr (ob (o2 (oV 2) (oC (.int 0)) eqD)) (ob (o2 (oV 2) (oC (.int 2)) eqD))) (sRet (os (oCons (o2 (os (oCons (oC (.str "swing")) (oCons (oC (.str "")) (oCons (oC (.str "flip")) (oNil)))) lstD) (oV 2) ixD) (oCons (oV 3) (oNil))) tupD)) (sNx)) (sSeq (sSet 4 (o2 (o2 (o2 (oV 3) (oC (.int 1)) addD) (o2 (o2 (oV 0) (oC (.int 18)) divD) (o2 (oV 1) (oC (.int 1)) subD) modD) addD) (oV 1) modD)) (sRet (os (oCons (o2 (os (oCons (oC (.str "tie")) (oCons (oC (.str "sign")) (oCons (oC (.str "cross")) (oNil)))) lstD) (o2 (oV 2) (oC (.int 3)) subD) ixD) (oCons (oV 4) (oCons (oV 3) (oNil)))) tupD)))))))
noncomputable def g__law_row : List D → Option D := runB N__law_row 2 b__law_row
noncomputable abbrev s__law_wires : Stmt := top 41
noncomputable abbrev N__law_wires : List Str := ["row"]
noncomputable def b__law_wires : Sf := sSeq (sIf (ob (o2 (o2 (oV 0) (oC (.int 0)) ixD) (oC (.str "turn")) eqD)) (sRet (os (oCons (o2 (oV 0) (oC (.int 1)) ixD) (oNil)) lstD)) (sNx)) (sRet (os (oCons (oSl (oV 0) (oP (oC (.int 1))) (oNo)) (oNil)) listD))
noncomputable def g__law_wires : List D → Option D := runB N__law_wires 1 b__law_wires
noncomputable abbrev s__law_nothing : Stmt := top 42
noncomputable abbrev N__law_nothing : List Str := ["cell", "wires", "j", "e", "row", "back", "swing", "some", "i"]
noncomputable def b__law_nothing : Sf := sSeq (sSet 2 (o2 (oV 0) (oV 1) modD)) (sSeq (sSet 3 (o2 (oC (.int 1)) (o2 (o2 (oV 0) (oC (.int 3)) divD) (oC (.int 7)) modD) addD)) (sSeq (sSet 4 (os (oCons (o2 (oV 0) (oC (.int 21)) divD) (oCons (oV 1) (oNil))) g__law_row)) (sSeq (sSet 5 (oV 4)) (sSeq (sIf (ob (o2 (o2 (oV 4) (oC (.int 0)) ixD) (oC (.str "turn")) eqD)) (sSet 5 (os (oCons (oC (.str "turn")) (oCons (o2 (oV 4) (oC (.int 1)) ixD) (oCons (o2 (oC (.int 8)) (o2 (oV 4) (oC (.int 2)) ixD) subD) (oNil)))) tupD)) (sNx)) (sSeq (sSet 6 (os (oCons (oC (.str "swing")) (oCons (oV 2) (oNil))) tupD)) (sSeq (sOwn 7 (oCons (os (oCons (oV 4) (oCons (oV 5) (oNil))) lstD) (oCons (os (oCons (oV 6) (oCons (os (oCons (oC (.str "turn")) (oCons (oV 2) (oCons (oC (.int 4)) (oNil)))) tupD) (oCons (oV 6) (oCons (os (oCons (oC (.str "flip")) (oCons (oV 2) (oNil))) tupD) (oNil))))) lstD) (oCons (os (oCons (os (oCons (oC (.str "turn")) (oCons (oV 2) (oCons (oV 3) (oNil)))) tupD) (oCons (os (oCons (oC (.str "turn")) (oCons (oV 2) (oCons (o2 (oC (.int 8)) (oV 3) subD) (oNil)))) tupD) (oNil))) lstD) (oNil))))) (sSeq (sIf (ob (o2 (oV 1) (oC (.int 1)) gtD)) (sSeq (sSet 8 (o2 (o2 (o2 (oV 2) (oC (.int 1)) addD) (o2 (o2 (oV 0) (oC (.int 7)) divD) (o2 (oV 1) (oC (.int 1)) subD) modD) addD) (oV 1) modD)) (sSeq (sApp 7 (os (oCons (os (oCons (oC (.str "tie")) (oCons (oV 8) (oCons (oV 2) (oNil)))) tupD) (oCons (os (oCons (oC (.str "tie")) (oCons (oV 2) (oCons (oV 8) (oNil)))) tupD) (oCons (os (oCons (oC (.str "tie")) (oCons (oV 8) (oCons (oV 2) (oNil)))) tupD) (oCons (os (oCons (oC (.str "cross")) (oCons (oV 2) (oCons (oV 8) (oNil)))) tupD) (oNil))))) lstD)) (sApp 7 (os (oCons (os (oCons (oC (.str "sign")) (oCons (oV 8) (oCons (oV 2) (oNil)))) tupD) (oCons (oV 6) (oCons (os (oCons (oC (.str "tie")) (oCons (oV 8) (oCons (oV 2) (oNil)))) tupD) (oCons (oV 6) (oNil))))) lstD)))) (sNx)) (sRet (oIxO 7 (o2 (o2 (oV 0) (oC (.int 11)) divD) (oLenO 7) modD))))))))))
noncomputable def g__law_nothing : List D → Option D := runB N__law_nothing 2 b__law_nothing
noncomputable abbrev s__law_changed : Stmt := top 43
noncomputable abbrev N__law_changed : List Str := ["rows", "cell", "wires", "room", "rest", "at", "both", "more", "e", "j"]
noncomputable def p1__law_changed : Dv → Option D := oCompI (oI (os (oCons (o2 (oV 0) (oV 5) ixD) (oNil)) g__law_wires) itsD) [(0, "rows"), (5, "at")] bv1 (ob (o2 (oV 0) (os (oCons (o2 (oV 1) (o2 (oV 2) (oC (.int 1)) addD) ixD) (oNil)) g__law_wires) (inD false))) (oV 0)
noncomputable def b__law_changed : Sf := sSeq (sSet 4 (o2 (oV 1) (oC (.int 3)) divD)) (sSeq (sSet 5 (o2 (oV 4) (o2 (os (oCons (oV 0) (oNil)) lenD) (oC (.int 1)) addD) modD)) (sSeq (sIf (oAnd (ob (o2 (o2 (oV 1) (oC (.int 3)) modD) (oC (.int 0)) eqD)) (ob (o2 (o2 (oV 5) (oC (.int 1)) addD) (os (oCons (oV 0) (oNil)) lenD) ltD))) (sSeq (sSet 6 (p1__law_changed)) (sIf (ob (o2 (oV 6) (os (oNil) lstD) eqD)) (sRet (os (oCons (o2 (o2 (oSl (oV 0) (oNo) (oP (oV 5))) (os (oCons (o2 (oV 0) (o2 (oV 5) (oC (.int 1)) addD) ixD) (oCons (o2 (oV 0) (oV 5) ixD) (oNil))) lstD) addD) (oSl (oV 0) (oP (o2 (oV 5) (oC (.int 2)) addD)) (oNo)) addD) (oCons (oC (.int 0)) (oNil))) tupD)) (sNx))) (sNx)) (sSeq (sSet 7 (os (oCons (o2 (oV 4) (oC (.int 7)) divD) (oCons (oV 2) (oNil))) g__law_nothing)) (sSeq (sSet 8 (oC (.int 0))) (sSeq (sIf (ob (o2 (o2 (oV 1) (oC (.int 3)) modD) (oC (.int 1)) eqD)) (sSeq (sSet 9 (o2 (o2 (oV 4) (oC (.int 5)) divD) (oV 2) modD)) (sSeq (sSet 8 (o2 (oC (.int 1)) (o2 (o2 (oV 4) (oC (.int 15)) divD) (oC (.int 7)) modD) addD)) (sSet 7 (os (oCons (os (oCons (oC (.str "flip")) (oCons (oV 9) (oNil))) tupD) (oCons (os (oCons (oC (.str "turn")) (oCons (oV 9) (oCons (oV 8) (oNil)))) tupD) (oCons (os (oCons (oC (.str "flip")) (oCons (oV 9) (oNil))) tupD) (oCons (os (oCons (oC (.str "turn")) (oCons (oV 9) (oCons (oV 8) (oNil)))) tupD) (oNil))))) lstD)))) (sNx)) (sSeq (sIf (ob (o2 (o2 (os (oCons (oV 0) (oNil)) lenD) (os (oCons (oV 7) (oNil)) lenD) addD) (oV 3) gtD)) (sRet (os (oCons (oV 0) (oCons (oC (.int 0)) (oNil))) tupD)) (sNx)) (sRet (os (oCons (o2 (o2 (oSl (oV 0) (oNo) (oP (oV 5))) (oV 7) addD) (oSl (oV 0) (oP (oV 5)) (oNo)) addD) (oCons (oV 8) (oNil))) tupD))))))))
noncomputable def g__law_changed : List D → Option D := runB N__law_changed 4 b__law_changed
noncomputable abbrev s__law_told : Stmt := top 44
noncomputable abbrev N__law_told : List Str := ["paper", "e"]
noncomputable def b__law_told : Sf := sSeq (sIf (oOr (oNot (ob (o1 (oV 0) (isiD "tuple")))) (oOr (ob (o2 (os (oCons (oV 0) (oNil)) lenD) (oC (.int 2)) neD)) (ob (o1 (o2 (oV 0) (oC (.int 1)) ixD) (isiD "bool"))))) (sRet (oC (.bool false))) (sNx)) (sRet (o2 (oV 0) (os (oCons (oC (.str "alike")) (oCons (o2 (oV 1) (oC (.int 8)) modD) (oNil))) tupD) eqD))
noncomputable def g__law_told : List D → Option D := runB N__law_told 2 b__law_told
noncomputable abbrev s_law : Stmt := top 45
noncomputable abbrev N_law : List Str := ["script", "head", "wires", "room", "cut", "rows", "others", "e", "cell", "more", "one", "other"]
noncomputable def p1_law : Dv → Option D := oComp (oI (oSl (oV 0) (oP (oC (.int 1))) (oP (o2 (oC (.int 1)) (oV 4) addD))) itsD) [(2, "wires")] bv1 (os (oCons (oV 0) (oCons (oV 1) (oNil))) g__law_row)
noncomputable def l1_law : Sf := sSeq (sAsg (os (oCons (oV 6) (oCons (oV 8) (oCons (oV 2) (oCons (oV 3) (oNil))))) g__law_changed) (gTu [gN 6, gN 9])) (sSet 7 (o2 (oV 7) (oV 9) addD))
noncomputable def b_law : Sf := sSeq (sSet 1 (os (oCons (oV 0) (oCons (oC (.int 0)) (oNil))) g__law_cell_at)) (sSeq (sSet 2 (o2 (oC (.int 1)) (o2 (oV 1) (oC (.int 3)) modD) addD)) (sSeq (sIf (ob (o2 (o2 (o2 (oV 1) (oC (.int 75)) divD) (oC (.int 12)) modD) (oC (.int 7)) eqD)) (sSet 2 (oC (.int 4))) (sNx)) (sSeq (sSet 3 (o2 (os (oCons (oC (.int 60)) (oCons (oC (.int 36)) (oCons (oC (.int 12)) (oCons (oC (.int 7)) (oNil))))) lstD) (o2 (oV 2) (oC (.int 1)) subD) ixD)) (sSeq (sSet 4 (o2 (o2 (oV 1) (oC (.int 3)) divD) (o2 (os (oCons (oC (.int 25)) (oCons (oC (.int 15)) (oCons (oC (.int 6)) (oCons (oC (.int 3)) (oNil))))) lstD) (o2 (oV 2) (oC (.int 1)) subD) ixD) modD)) (sSeq (sSet 5 (p1_law)) (sSeq (sSet 6 (os (oCons (oV 5) (oNil)) listD)) (sSeq (sSet 7 (oC (.int 0))) (sSeq (sFor (oI (oSl (oV 0) (oP (o2 (oC (.int 1)) (oV 4) addD)) (oNo)) itsD) (gN 8) (l1_law)) (sSeq (sSet 10 (os (oCons (oV 2) (oCons (os (oCons (oV 5) (oNil)) tupleD) (oNil))) tupD)) (sSeq (sSet 11 (os (oCons (oV 2) (oCons (os (oCons (oV 6) (oNil)) tupleD) (oNil))) tupD)) (sRet (oAndV (os (oCons (os (oCons (oV 10) (oCons (oV 11) (oNil))) g_alike_paper) (oCons (oV 7) (oNil))) g__law_told) (os (oCons (os (oCons (oV 11) (oCons (oV 10) (oNil))) g_alike_paper) (oCons (o1 (oV 7) negD) (oNil))) g__law_told)))))))))))))
noncomputable def g_law : List D → Option D := runB N_law 1 b_law

theorem twos_eq (j m : Int) : g_twos_shared [.int j, .int m] = some (.int (MA.twos j m)) := by
  by_cases h : j = 0
  · subst h
    simp [g_twos_shared, runB, b_twos_shared, startD, MA.twos]
  · simp [g_twos_shared, runB, b_twos_shared, startD, MA.twos, h]
theorem root_eq (a b c d : Int) : g_by_root [.int a, .int b, .int c, .int d] = some (.tuple [.int (b - d), .int (a + c), .int (b + d), .int (c - a)]) := by
  simp [g_by_root, runB, b_by_root, startD]
/-- a number as the program holds it -/
noncomputable def tup5 (x : MA.Q4) (k : Int) : D := .tuple [.int x.a, .int x.b, .int x.c, .int x.d, .int k]
theorem number_eq (a b c d k : Int) (hk : 0 ≤ k) : g_number [.int a, .int b, .int c, .int d, .int k] = some (tup5 (MA.num ⟨a, b, c, d⟩ k).1 (MA.num ⟨a, b, c, d⟩ k).2) := by
  obtain ⟨t, e, h1, _⟩ := MA.twos_four a b c d (k / 2) (by omega)
  have m2 : IntMulOk 2 (t : Int) := .of_left (by decide)
  have tw := twos_eq (Builtin.bitOr (Builtin.bitOr (Builtin.bitOr a b) c) d) (k / 2)
  rw [e] at tw
  unfold MA.num tup5
  simp only [e, Int.toNat_natCast]
  generalize ha : a / 2 ^ t = A
  generalize hb : b / 2 ^ t = B
  generalize hc : c / 2 ^ t = C
  generalize hd : d / 2 ^ t = E
  by_cases q0 : k - 2 * (t : Int) = 0
  · simp [g_number, runB, b_number, startD, tw, m2, ha, hb, hc, hd, q0]
  · by_cases q1 : (A - C) % 2 = 1
    · simp [g_number, runB, b_number, startD, tw, m2, ha, hb, hc, hd, q0, q1]
    · by_cases q2 : (B - E) % 2 = 1
      · simp [g_number, runB, b_number, startD, tw, m2, ha, hb, hc, hd, q0, q1, q2]
      · simp [g_number, runB, b_number, startD, tw, m2, ha, hb, hc, hd, q0, q1, q2, root_eq]


theorem maxI (c f : Int) : maxD [.int c, .int f] = some (.int (max c f)) := by
  rw [maxD_int]
  congr 2
  rw [Int.max_def]
  split <;> split <;> omega
/-- a number, in least form, its parts and roots bounded -/
structure Nm (M : Nat) (r : Int) (x : MA.Q4) (c : Int) : Prop where
  le : MA.Q4.Le M x
  ls : MA.Q4.Least x c
  c1 : c ≤ r
theorem numQ (x : MA.Q4) (k : Int) (hk : 0 ≤ k) : g_number [.int x.a, .int x.b, .int x.c, .int x.d, .int k] = some (tup5 (MA.num x k).1 (MA.num x k).2) := number_eq _ _ _ _ _ hk
noncomputable def tup4 (x : MA.Q4) : D := .tuple [.int x.a, .int x.b, .int x.c, .int x.d]
theorem over_eq (x : MA.Q4) (c k : Int) (h : MA.Q4.Le (2 ^ 100000) x) (h1 : c ≤ k) (h2 : k - c ≤ 100000) : g_parts_over [tup5 x c, .int k] = some (tup4 (MA.Q4.rtn (k - c).toNat x)) := by
  obtain ⟨l1, l2, l3, l4⟩ := h
  obtain ⟨t, ht⟩ : ∃ t : Nat, (k - c) / 2 = t := ⟨((k - c) / 2).toNat, by omega⟩
  have s : ∀ i : Int, i.natAbs ≤ 2 ^ 100000 → shlD (.int i) (.int (t : Int)) = some (.int (i * 2 ^ t)) := fun i hi => by
    have hb : i.natAbs < 2 ^ 100001 := Nat.lt_of_le_of_lt hi (Nat.pow_lt_pow_right (by decide) (by decide))
    have := MA.bits_le hb
    have q := shlD_int (i := i) (j := (t : Int)) (by omega) (by omega)
    simpa using q
  have r2 := MA.Q4.rtn_two t x
  unfold tup5 tup4
  by_cases o : (k - c) % 2 = 1
  · have e : (k - c).toNat = 2 * t + 1 := by omega
    have m : (2 * (t : Int) + 1) % 2 = 1 := by omega
    rw [e, MA.Q4.rtn_succ, r2]
    simp [g_parts_over, runB, b_parts_over, startD, ht, o, s _ l1, s _ l2, s _ l3, s _ l4, root_eq, MA.Q4.rt, MA.Q4.dbl]
  · have e : (k - c).toNat = 2 * t := by omega
    rw [e, r2]
    simp [g_parts_over, runB, b_parts_over, startD, ht, o, s _ l1, s _ l2, s _ l3, s _ l4, MA.Q4.dbl]
theorem plus_eq (x : MA.Q4) (c : Int) (y : MA.Q4) (d : Int) (hx : MA.Q4.Le (2 ^ 100000) x) (hy : MA.Q4.Le (2 ^ 100000) y) (hc : 0 ≤ c) (hd : 0 ≤ d) (hc1 : c ≤ 100000) (hd1 : d ≤ 100000) : g_plus [tup5 x c, tup5 y d] = some (tup5 (MA.plusQ x c y d).1 (MA.plusQ x c y d).2) := by
  have hm := maxI c d
  have k1 : c ≤ max c d := Int.le_max_left ..
  have k2 : d ≤ max c d := Int.le_max_right ..
  have k3 : max c d = c ∨ max c d = d := by omega
  have o1 := over_eq x c (max c d) hx k1 (by omega)
  have o2 := over_eq y d (max c d) hy k2 (by omega)
  unfold MA.plusQ
  have nm := numQ (MA.Q4.add (MA.Q4.rtn (max c d - c).toNat x) (MA.Q4.rtn (max c d - d).toNat y)) (max c d) (by omega)
  generalize max c d = m at *
  generalize MA.Q4.rtn (m - c).toNat x = u at *
  generalize MA.Q4.rtn (m - d).toNat y = v at *
  generalize MA.num (MA.Q4.add u v) m = r at *
  simp only [MA.Q4.add] at nm
  generalize tup5 r.1 r.2 = R at *
  simp only [tup5, tup4] at o1 o2 ⊢
  simp [-maxD_int, g_plus, runB, b_plus, startD, hm, o1, o2, nm]

theorem halved_eq (x : MA.Q4) (c : Int) (hc : 0 ≤ c) : g_halved [tup5 x c] = some (tup5 (MA.num x (c + 1)).1 (MA.num x (c + 1)).2) := by
  have nm := numQ x (c + 1) (by omega)
  generalize tup5 (MA.num x (c + 1)).1 (MA.num x (c + 1)).2 = R at *
  simp only [tup5]
  simp [g_halved, runB, b_halved, startD, nm]

theorem m8 {e r : Int} (i a : Int) (h : e % 8 = r) (k : (i - r) % 8 = a) : (i - e) % 8 = a := by omega
theorem turned_eq (x : MA.Q4) (c e : Int) : g_turned [tup5 x c, .int e] = some (tup5 (MA.tnn (e % 8).toNat x) c) := by
  have w : e % 8 = 0 ∨ e % 8 = 1 ∨ e % 8 = 2 ∨ e % 8 = 3 ∨ e % 8 = 4 ∨ e % 8 = 5 ∨ e % 8 = 6 ∨ e % 8 = 7 := by omega
  have go : ∀ (r a0 a1 a2 a3 : Int), e % 8 = r → (0 - e) % 8 = a0 → (1 - e) % 8 = a1 → (2 - e) % 8 = a2 → (3 - e) % 8 = a3 → ∀ b0 b1 b2 b3 : Int, atI [PyData.int x.a, .int x.b, .int x.c, .int x.d, .int (-x.a), .int (-x.b), .int (-x.c), .int (-x.d)] a0 = some (.int b0) → atI [PyData.int x.a, .int x.b, .int x.c, .int x.d, .int (-x.a), .int (-x.b), .int (-x.c), .int (-x.d)] a1 = some (.int b1) →
      atI [PyData.int x.a, .int x.b, .int x.c, .int x.d, .int (-x.a), .int (-x.b), .int (-x.c), .int (-x.d)] a2 = some (.int b2) → atI [PyData.int x.a, .int x.b, .int x.c, .int x.d, .int (-x.a), .int (-x.b), .int (-x.c), .int (-x.d)] a3 = some (.int b3) → g_turned [tup5 x c, .int e] = some (.tuple [.int b0, .int b1, .int b2, .int b3, .int c]) := by
    intro r a0 a1 a2 a3 _ h0 h1 h2 h3 b0 b1 b2 b3 k0 k1 k2 k3
    have h0 : -e % 8 = a0 := by omega
    simp only [tup5]
    simp [g_turned, runB, b_turned, startD, h0, h1, h2, h3, k0, k1, k2, k3]
  rcases w with w | w | w | w | w | w | w | w <;> rw [w]
  · exact go 0 0 1 2 3 w (m8 0 0 w rfl) (m8 1 1 w rfl) (m8 2 2 w rfl) (m8 3 3 w rfl) _ _ _ _ rfl rfl rfl rfl
  · exact go 1 7 0 1 2 w (m8 0 7 w rfl) (m8 1 0 w rfl) (m8 2 1 w rfl) (m8 3 2 w rfl) _ _ _ _ rfl rfl rfl rfl
  · exact go 2 6 7 0 1 w (m8 0 6 w rfl) (m8 1 7 w rfl) (m8 2 0 w rfl) (m8 3 1 w rfl) _ _ _ _ rfl rfl rfl rfl
  · exact go 3 5 6 7 0 w (m8 0 5 w rfl) (m8 1 6 w rfl) (m8 2 7 w rfl) (m8 3 0 w rfl) _ _ _ _ rfl rfl rfl rfl
  · exact go 4 4 5 6 7 w (m8 0 4 w rfl) (m8 1 5 w rfl) (m8 2 6 w rfl) (m8 3 7 w rfl) _ _ _ _ rfl rfl rfl rfl
  · have e0 : tup5 (MA.tnn (5 : Int).toNat x) c = .tuple [.int x.d, .int (-x.a), .int (-x.b), .int (-x.c), .int c] := by simp [tup5, MA.tnn, MA.Q4.tn]
    rw [e0]
    exact go 5 3 4 5 6 w (m8 0 3 w rfl) (m8 1 4 w rfl) (m8 2 5 w rfl) (m8 3 6 w rfl) _ _ _ _ (by simp) (by simp) (by simp) (by simp)
  · have e0 : tup5 (MA.tnn (6 : Int).toNat x) c = .tuple [.int x.c, .int x.d, .int (-x.a), .int (-x.b), .int c] := by simp [tup5, MA.tnn, MA.Q4.tn]
    rw [e0]
    exact go 6 2 3 4 5 w (m8 0 2 w rfl) (m8 1 3 w rfl) (m8 2 4 w rfl) (m8 3 5 w rfl) _ _ _ _ (by simp) (by simp) (by simp) (by simp)
  · have e0 : tup5 (MA.tnn (7 : Int).toNat x) c = .tuple [.int x.b, .int x.c, .int x.d, .int (-x.a), .int c] := by simp [tup5, MA.tnn, MA.Q4.tn]
    rw [e0]
    exact go 7 1 2 3 4 w (m8 0 1 w rfl) (m8 1 2 w rfl) (m8 2 3 w rfl) (m8 3 4 w rfl) _ _ _ _ (by simp) (by simp) (by simp) (by simp)

theorem against_eq (x : MA.Q4) (c : Int) : g_against [tup5 x c] = some (tup5 (MA.Q4.neg x) c) := by
  simp only [tup5]
  simp [g_against, runB, b_against, startD, MA.Q4.neg]

/-! ### the words of rows -/
noncomputable def okS (a : Str) : Bool := shp (.str a)
theorem eqS {a b : Str} (ha : okS a = true) (hb : okS b = true) : eqD (.str a) (.str b) = some (.bool (a == b)) := if_pos ⟨ha, hb⟩
theorem ok_w_swing : okS "swing" = true := by decide +kernel
theorem ok_w_turn : okS "turn" = true := by decide +kernel
theorem ok_w_flip : okS "flip" = true := by decide +kernel
theorem ok_w_tie : okS "tie" = true := by decide +kernel
theorem ok_w_sign : okS "sign" = true := by decide +kernel
theorem ok_w_cross : okS "cross" = true := by decide +kernel
theorem ok_w_look : okS "look" = true := by decide +kernel
theorem ok_w_where : okS "where" = true := by decide +kernel
@[simp] theorem kw_swing_swing : eqD (.str "swing") (.str "swing") = some (.bool true) := (eqS ok_w_swing ok_w_swing).trans (congrArg (fun z => some (PyData.bool z)) (show (("swing" : Str) == ("swing" : Str)) = true by decide +kernel))
@[simp] theorem kw_swing_turn : eqD (.str "swing") (.str "turn") = some (.bool false) := (eqS ok_w_swing ok_w_turn).trans (congrArg (fun z => some (PyData.bool z)) (show (("swing" : Str) == ("turn" : Str)) = false by decide +kernel))
@[simp] theorem kw_swing_flip : eqD (.str "swing") (.str "flip") = some (.bool false) := (eqS ok_w_swing ok_w_flip).trans (congrArg (fun z => some (PyData.bool z)) (show (("swing" : Str) == ("flip" : Str)) = false by decide +kernel))
@[simp] theorem kw_swing_tie : eqD (.str "swing") (.str "tie") = some (.bool false) := (eqS ok_w_swing ok_w_tie).trans (congrArg (fun z => some (PyData.bool z)) (show (("swing" : Str) == ("tie" : Str)) = false by decide +kernel))
@[simp] theorem kw_swing_sign : eqD (.str "swing") (.str "sign") = some (.bool false) := (eqS ok_w_swing ok_w_sign).trans (congrArg (fun z => some (PyData.bool z)) (show (("swing" : Str) == ("sign" : Str)) = false by decide +kernel))
@[simp] theorem kw_swing_cross : eqD (.str "swing") (.str "cross") = some (.bool false) := (eqS ok_w_swing ok_w_cross).trans (congrArg (fun z => some (PyData.bool z)) (show (("swing" : Str) == ("cross" : Str)) = false by decide +kernel))
@[simp] theorem kw_swing_look : eqD (.str "swing") (.str "look") = some (.bool false) := (eqS ok_w_swing ok_w_look).trans (congrArg (fun z => some (PyData.bool z)) (show (("swing" : Str) == ("look" : Str)) = false by decide +kernel))
@[simp] theorem kw_swing_where : eqD (.str "swing") (.str "where") = some (.bool false) := (eqS ok_w_swing ok_w_where).trans (congrArg (fun z => some (PyData.bool z)) (show (("swing" : Str) == ("where" : Str)) = false by decide +kernel))
@[simp] theorem kw_turn_swing : eqD (.str "turn") (.str "swing") = some (.bool false) := (eqS ok_w_turn ok_w_swing).trans (congrArg (fun z => some (PyData.bool z)) (show (("turn" : Str) == ("swing" : Str)) = false by decide +kernel))
@[simp] theorem kw_turn_turn : eqD (.str "turn") (.str "turn") = some (.bool true) := (eqS ok_w_turn ok_w_turn).trans (congrArg (fun z => some (PyData.bool z)) (show (("turn" : Str) == ("turn" : Str)) = true by decide +kernel))
@[simp] theorem kw_turn_flip : eqD (.str "turn") (.str "flip") = some (.bool false) := (eqS ok_w_turn ok_w_flip).trans (congrArg (fun z => some (PyData.bool z)) (show (("turn" : Str) == ("flip" : Str)) = false by decide +kernel))
@[simp] theorem kw_turn_tie : eqD (.str "turn") (.str "tie") = some (.bool false) := (eqS ok_w_turn ok_w_tie).trans (congrArg (fun z => some (PyData.bool z)) (show (("turn" : Str) == ("tie" : Str)) = false by decide +kernel))
@[simp] theorem kw_turn_sign : eqD (.str "turn") (.str "sign") = some (.bool false) := (eqS ok_w_turn ok_w_sign).trans (congrArg (fun z => some (PyData.bool z)) (show (("turn" : Str) == ("sign" : Str)) = false by decide +kernel))
@[simp] theorem kw_turn_cross : eqD (.str "turn") (.str "cross") = some (.bool false) := (eqS ok_w_turn ok_w_cross).trans (congrArg (fun z => some (PyData.bool z)) (show (("turn" : Str) == ("cross" : Str)) = false by decide +kernel))
@[simp] theorem kw_turn_look : eqD (.str "turn") (.str "look") = some (.bool false) := (eqS ok_w_turn ok_w_look).trans (congrArg (fun z => some (PyData.bool z)) (show (("turn" : Str) == ("look" : Str)) = false by decide +kernel))
@[simp] theorem kw_turn_where : eqD (.str "turn") (.str "where") = some (.bool false) := (eqS ok_w_turn ok_w_where).trans (congrArg (fun z => some (PyData.bool z)) (show (("turn" : Str) == ("where" : Str)) = false by decide +kernel))
@[simp] theorem kw_flip_swing : eqD (.str "flip") (.str "swing") = some (.bool false) := (eqS ok_w_flip ok_w_swing).trans (congrArg (fun z => some (PyData.bool z)) (show (("flip" : Str) == ("swing" : Str)) = false by decide +kernel))
@[simp] theorem kw_flip_turn : eqD (.str "flip") (.str "turn") = some (.bool false) := (eqS ok_w_flip ok_w_turn).trans (congrArg (fun z => some (PyData.bool z)) (show (("flip" : Str) == ("turn" : Str)) = false by decide +kernel))
@[simp] theorem kw_flip_flip : eqD (.str "flip") (.str "flip") = some (.bool true) := (eqS ok_w_flip ok_w_flip).trans (congrArg (fun z => some (PyData.bool z)) (show (("flip" : Str) == ("flip" : Str)) = true by decide +kernel))
@[simp] theorem kw_flip_tie : eqD (.str "flip") (.str "tie") = some (.bool false) := (eqS ok_w_flip ok_w_tie).trans (congrArg (fun z => some (PyData.bool z)) (show (("flip" : Str) == ("tie" : Str)) = false by decide +kernel))
@[simp] theorem kw_flip_sign : eqD (.str "flip") (.str "sign") = some (.bool false) := (eqS ok_w_flip ok_w_sign).trans (congrArg (fun z => some (PyData.bool z)) (show (("flip" : Str) == ("sign" : Str)) = false by decide +kernel))
@[simp] theorem kw_flip_cross : eqD (.str "flip") (.str "cross") = some (.bool false) := (eqS ok_w_flip ok_w_cross).trans (congrArg (fun z => some (PyData.bool z)) (show (("flip" : Str) == ("cross" : Str)) = false by decide +kernel))
@[simp] theorem kw_flip_look : eqD (.str "flip") (.str "look") = some (.bool false) := (eqS ok_w_flip ok_w_look).trans (congrArg (fun z => some (PyData.bool z)) (show (("flip" : Str) == ("look" : Str)) = false by decide +kernel))
@[simp] theorem kw_flip_where : eqD (.str "flip") (.str "where") = some (.bool false) := (eqS ok_w_flip ok_w_where).trans (congrArg (fun z => some (PyData.bool z)) (show (("flip" : Str) == ("where" : Str)) = false by decide +kernel))
@[simp] theorem kw_tie_swing : eqD (.str "tie") (.str "swing") = some (.bool false) := (eqS ok_w_tie ok_w_swing).trans (congrArg (fun z => some (PyData.bool z)) (show (("tie" : Str) == ("swing" : Str)) = false by decide +kernel))
@[simp] theorem kw_tie_turn : eqD (.str "tie") (.str "turn") = some (.bool false) := (eqS ok_w_tie ok_w_turn).trans (congrArg (fun z => some (PyData.bool z)) (show (("tie" : Str) == ("turn" : Str)) = false by decide +kernel))
@[simp] theorem kw_tie_flip : eqD (.str "tie") (.str "flip") = some (.bool false) := (eqS ok_w_tie ok_w_flip).trans (congrArg (fun z => some (PyData.bool z)) (show (("tie" : Str) == ("flip" : Str)) = false by decide +kernel))
@[simp] theorem kw_tie_tie : eqD (.str "tie") (.str "tie") = some (.bool true) := (eqS ok_w_tie ok_w_tie).trans (congrArg (fun z => some (PyData.bool z)) (show (("tie" : Str) == ("tie" : Str)) = true by decide +kernel))
@[simp] theorem kw_tie_sign : eqD (.str "tie") (.str "sign") = some (.bool false) := (eqS ok_w_tie ok_w_sign).trans (congrArg (fun z => some (PyData.bool z)) (show (("tie" : Str) == ("sign" : Str)) = false by decide +kernel))
@[simp] theorem kw_tie_cross : eqD (.str "tie") (.str "cross") = some (.bool false) := (eqS ok_w_tie ok_w_cross).trans (congrArg (fun z => some (PyData.bool z)) (show (("tie" : Str) == ("cross" : Str)) = false by decide +kernel))
@[simp] theorem kw_tie_look : eqD (.str "tie") (.str "look") = some (.bool false) := (eqS ok_w_tie ok_w_look).trans (congrArg (fun z => some (PyData.bool z)) (show (("tie" : Str) == ("look" : Str)) = false by decide +kernel))
@[simp] theorem kw_tie_where : eqD (.str "tie") (.str "where") = some (.bool false) := (eqS ok_w_tie ok_w_where).trans (congrArg (fun z => some (PyData.bool z)) (show (("tie" : Str) == ("where" : Str)) = false by decide +kernel))
@[simp] theorem kw_sign_swing : eqD (.str "sign") (.str "swing") = some (.bool false) := (eqS ok_w_sign ok_w_swing).trans (congrArg (fun z => some (PyData.bool z)) (show (("sign" : Str) == ("swing" : Str)) = false by decide +kernel))
@[simp] theorem kw_sign_turn : eqD (.str "sign") (.str "turn") = some (.bool false) := (eqS ok_w_sign ok_w_turn).trans (congrArg (fun z => some (PyData.bool z)) (show (("sign" : Str) == ("turn" : Str)) = false by decide +kernel))
@[simp] theorem kw_sign_flip : eqD (.str "sign") (.str "flip") = some (.bool false) := (eqS ok_w_sign ok_w_flip).trans (congrArg (fun z => some (PyData.bool z)) (show (("sign" : Str) == ("flip" : Str)) = false by decide +kernel))
@[simp] theorem kw_sign_tie : eqD (.str "sign") (.str "tie") = some (.bool false) := (eqS ok_w_sign ok_w_tie).trans (congrArg (fun z => some (PyData.bool z)) (show (("sign" : Str) == ("tie" : Str)) = false by decide +kernel))
@[simp] theorem kw_sign_sign : eqD (.str "sign") (.str "sign") = some (.bool true) := (eqS ok_w_sign ok_w_sign).trans (congrArg (fun z => some (PyData.bool z)) (show (("sign" : Str) == ("sign" : Str)) = true by decide +kernel))
@[simp] theorem kw_sign_cross : eqD (.str "sign") (.str "cross") = some (.bool false) := (eqS ok_w_sign ok_w_cross).trans (congrArg (fun z => some (PyData.bool z)) (show (("sign" : Str) == ("cross" : Str)) = false by decide +kernel))
@[simp] theorem kw_sign_look : eqD (.str "sign") (.str "look") = some (.bool false) := (eqS ok_w_sign ok_w_look).trans (congrArg (fun z => some (PyData.bool z)) (show (("sign" : Str) == ("look" : Str)) = false by decide +kernel))
@[simp] theorem kw_sign_where : eqD (.str "sign") (.str "where") = some (.bool false) := (eqS ok_w_sign ok_w_where).trans (congrArg (fun z => some (PyData.bool z)) (show (("sign" : Str) == ("where" : Str)) = false by decide +kernel))
@[simp] theorem kw_cross_swing : eqD (.str "cross") (.str "swing") = some (.bool false) := (eqS ok_w_cross ok_w_swing).trans (congrArg (fun z => some (PyData.bool z)) (show (("cross" : Str) == ("swing" : Str)) = false by decide +kernel))
@[simp] theorem kw_cross_turn : eqD (.str "cross") (.str "turn") = some (.bool false) := (eqS ok_w_cross ok_w_turn).trans (congrArg (fun z => some (PyData.bool z)) (show (("cross" : Str) == ("turn" : Str)) = false by decide +kernel))
@[simp] theorem kw_cross_flip : eqD (.str "cross") (.str "flip") = some (.bool false) := (eqS ok_w_cross ok_w_flip).trans (congrArg (fun z => some (PyData.bool z)) (show (("cross" : Str) == ("flip" : Str)) = false by decide +kernel))
@[simp] theorem kw_cross_tie : eqD (.str "cross") (.str "tie") = some (.bool false) := (eqS ok_w_cross ok_w_tie).trans (congrArg (fun z => some (PyData.bool z)) (show (("cross" : Str) == ("tie" : Str)) = false by decide +kernel))
@[simp] theorem kw_cross_sign : eqD (.str "cross") (.str "sign") = some (.bool false) := (eqS ok_w_cross ok_w_sign).trans (congrArg (fun z => some (PyData.bool z)) (show (("cross" : Str) == ("sign" : Str)) = false by decide +kernel))
@[simp] theorem kw_cross_cross : eqD (.str "cross") (.str "cross") = some (.bool true) := (eqS ok_w_cross ok_w_cross).trans (congrArg (fun z => some (PyData.bool z)) (show (("cross" : Str) == ("cross" : Str)) = true by decide +kernel))
@[simp] theorem kw_cross_look : eqD (.str "cross") (.str "look") = some (.bool false) := (eqS ok_w_cross ok_w_look).trans (congrArg (fun z => some (PyData.bool z)) (show (("cross" : Str) == ("look" : Str)) = false by decide +kernel))
@[simp] theorem kw_cross_where : eqD (.str "cross") (.str "where") = some (.bool false) := (eqS ok_w_cross ok_w_where).trans (congrArg (fun z => some (PyData.bool z)) (show (("cross" : Str) == ("where" : Str)) = false by decide +kernel))
@[simp] theorem kw_look_swing : eqD (.str "look") (.str "swing") = some (.bool false) := (eqS ok_w_look ok_w_swing).trans (congrArg (fun z => some (PyData.bool z)) (show (("look" : Str) == ("swing" : Str)) = false by decide +kernel))
@[simp] theorem kw_look_turn : eqD (.str "look") (.str "turn") = some (.bool false) := (eqS ok_w_look ok_w_turn).trans (congrArg (fun z => some (PyData.bool z)) (show (("look" : Str) == ("turn" : Str)) = false by decide +kernel))
@[simp] theorem kw_look_flip : eqD (.str "look") (.str "flip") = some (.bool false) := (eqS ok_w_look ok_w_flip).trans (congrArg (fun z => some (PyData.bool z)) (show (("look" : Str) == ("flip" : Str)) = false by decide +kernel))
@[simp] theorem kw_look_tie : eqD (.str "look") (.str "tie") = some (.bool false) := (eqS ok_w_look ok_w_tie).trans (congrArg (fun z => some (PyData.bool z)) (show (("look" : Str) == ("tie" : Str)) = false by decide +kernel))
@[simp] theorem kw_look_sign : eqD (.str "look") (.str "sign") = some (.bool false) := (eqS ok_w_look ok_w_sign).trans (congrArg (fun z => some (PyData.bool z)) (show (("look" : Str) == ("sign" : Str)) = false by decide +kernel))
@[simp] theorem kw_look_cross : eqD (.str "look") (.str "cross") = some (.bool false) := (eqS ok_w_look ok_w_cross).trans (congrArg (fun z => some (PyData.bool z)) (show (("look" : Str) == ("cross" : Str)) = false by decide +kernel))
@[simp] theorem kw_look_look : eqD (.str "look") (.str "look") = some (.bool true) := (eqS ok_w_look ok_w_look).trans (congrArg (fun z => some (PyData.bool z)) (show (("look" : Str) == ("look" : Str)) = true by decide +kernel))
@[simp] theorem kw_look_where : eqD (.str "look") (.str "where") = some (.bool false) := (eqS ok_w_look ok_w_where).trans (congrArg (fun z => some (PyData.bool z)) (show (("look" : Str) == ("where" : Str)) = false by decide +kernel))
@[simp] theorem kw_where_swing : eqD (.str "where") (.str "swing") = some (.bool false) := (eqS ok_w_where ok_w_swing).trans (congrArg (fun z => some (PyData.bool z)) (show (("where" : Str) == ("swing" : Str)) = false by decide +kernel))
@[simp] theorem kw_where_turn : eqD (.str "where") (.str "turn") = some (.bool false) := (eqS ok_w_where ok_w_turn).trans (congrArg (fun z => some (PyData.bool z)) (show (("where" : Str) == ("turn" : Str)) = false by decide +kernel))
@[simp] theorem kw_where_flip : eqD (.str "where") (.str "flip") = some (.bool false) := (eqS ok_w_where ok_w_flip).trans (congrArg (fun z => some (PyData.bool z)) (show (("where" : Str) == ("flip" : Str)) = false by decide +kernel))
@[simp] theorem kw_where_tie : eqD (.str "where") (.str "tie") = some (.bool false) := (eqS ok_w_where ok_w_tie).trans (congrArg (fun z => some (PyData.bool z)) (show (("where" : Str) == ("tie" : Str)) = false by decide +kernel))
@[simp] theorem kw_where_sign : eqD (.str "where") (.str "sign") = some (.bool false) := (eqS ok_w_where ok_w_sign).trans (congrArg (fun z => some (PyData.bool z)) (show (("where" : Str) == ("sign" : Str)) = false by decide +kernel))
@[simp] theorem kw_where_cross : eqD (.str "where") (.str "cross") = some (.bool false) := (eqS ok_w_where ok_w_cross).trans (congrArg (fun z => some (PyData.bool z)) (show (("where" : Str) == ("cross" : Str)) = false by decide +kernel))
@[simp] theorem kw_where_look : eqD (.str "where") (.str "look") = some (.bool false) := (eqS ok_w_where ok_w_look).trans (congrArg (fun z => some (PyData.bool z)) (show (("where" : Str) == ("look" : Str)) = false by decide +kernel))
@[simp] theorem kw_where_where : eqD (.str "where") (.str "where") = some (.bool true) := (eqS ok_w_where ok_w_where).trans (congrArg (fun z => some (PyData.bool z)) (show (("where" : Str) == ("where" : Str)) = true by decide +kernel))

@[simp] theorem inp_swing : inD false (.str "swing") (.tuple [.str "swing", .str "turn", .str "flip", .str "tie", .str "sign", .str "cross"]) = some (.bool true) := by rfl
@[simp] theorem int_swing : inD false (.str "swing") (.tuple [.str "tie", .str "sign", .str "cross"]) = some (.bool false) := by rfl
@[simp] theorem inp_turn : inD false (.str "turn") (.tuple [.str "swing", .str "turn", .str "flip", .str "tie", .str "sign", .str "cross"]) = some (.bool true) := by rfl
@[simp] theorem int_turn : inD false (.str "turn") (.tuple [.str "tie", .str "sign", .str "cross"]) = some (.bool false) := by rfl
@[simp] theorem inp_flip : inD false (.str "flip") (.tuple [.str "swing", .str "turn", .str "flip", .str "tie", .str "sign", .str "cross"]) = some (.bool true) := by rfl
@[simp] theorem int_flip : inD false (.str "flip") (.tuple [.str "tie", .str "sign", .str "cross"]) = some (.bool false) := by rfl
@[simp] theorem inp_tie : inD false (.str "tie") (.tuple [.str "swing", .str "turn", .str "flip", .str "tie", .str "sign", .str "cross"]) = some (.bool true) := by rfl
@[simp] theorem int_tie : inD false (.str "tie") (.tuple [.str "tie", .str "sign", .str "cross"]) = some (.bool true) := by rfl
@[simp] theorem inp_sign : inD false (.str "sign") (.tuple [.str "swing", .str "turn", .str "flip", .str "tie", .str "sign", .str "cross"]) = some (.bool true) := by rfl
@[simp] theorem int_sign : inD false (.str "sign") (.tuple [.str "tie", .str "sign", .str "cross"]) = some (.bool true) := by rfl
@[simp] theorem inp_cross : inD false (.str "cross") (.tuple [.str "swing", .str "turn", .str "flip", .str "tie", .str "sign", .str "cross"]) = some (.bool true) := by rfl
@[simp] theorem int_cross : inD false (.str "cross") (.tuple [.str "tie", .str "sign", .str "cross"]) = some (.bool true) := by rfl
@[simp] theorem inp_look : inD false (.str "look") (.tuple [.str "swing", .str "turn", .str "flip", .str "tie", .str "sign", .str "cross"]) = some (.bool false) := by rfl
@[simp] theorem int_look : inD false (.str "look") (.tuple [.str "tie", .str "sign", .str "cross"]) = some (.bool false) := by rfl
@[simp] theorem inp_where : inD false (.str "where") (.tuple [.str "swing", .str "turn", .str "flip", .str "tie", .str "sign", .str "cross"]) = some (.bool false) := by rfl
@[simp] theorem int_where : inD false (.str "where") (.tuple [.str "tie", .str "sign", .str "cross"]) = some (.bool false) := by rfl

@[simp] theorem ifK_beq (u w : Sf) (δ : Dv) (a b : Int) : ifK u w δ (a == b) = if a = b then u δ else w δ := by
  by_cases h : a = b
  · subst h; simp
  · have : (a == b) = false := by simpa using h
    rw [this, if_neg h]; rfl
theorem mapO_map {α : Type} {f : D → Option D} {h k : α → D} : ∀ (xs : List α), (∀ x ∈ xs, f (h x) = some (k x)) → mapO f (xs.map h) = some (xs.map k)
  | [], _ => rfl
  | x :: xs, H => by
    show ((f (h x)).bind fun y => _) = _
    rw [H x List.mem_cons_self]
    show ((mapO f (xs.map h)).bind fun ys => _) = _
    rw [mapO_map xs fun y hy => H y (List.mem_cons_of_mem _ hy)]
    rfl
theorem filO_map {α : Type} {t : D → Option Bool} {f : D → Option D} {h k : α → D} {b : α → Bool} : ∀ (xs : List α), (∀ x ∈ xs, t (h x) = some (b x)) → (∀ x ∈ xs, b x = true → f (h x) = some (k x)) → filO t f (xs.map h) = some ((xs.filter b).map k)
  | [], _, _ => rfl
  | x :: xs, H, G => by
    have ih := filO_map (k := k) xs (fun y hy => H y (List.mem_cons_of_mem _ hy)) (fun y hy => G y (List.mem_cons_of_mem _ hy))
    show ((t (h x)).bind fun c => _) = _
    rw [H x List.mem_cons_self, Option.bind_some]
    cases e : b x with
    | false => simp [e, ih]
    | true => simp [e, ih, G x List.mem_cons_self e]
theorem comp_map {α : Type} {fi : Dv → Option (List D)} {caps : List (Nat × Str)} {fe : Dv → Option D} {δ : Dv} {h k : α → D} {xs : List α} (e : fi δ = some (xs.map h)) (hl : xs.length ≤ 16777216) (H : ∀ x ∈ xs, fe (.fz (h x) :: capS δ caps) = some (k x)) : oComp fi caps bv1 fe δ = some (.list (xs.map k)) := by
  unfold oComp
  rw [e, Option.bind_some, if_pos (by rw [List.length_map]; exact hl), mapO_map xs (k := k) fun x hx => by
    show fe _ = _
    exact H x hx]
  rfl
theorem compI_map {α : Type} {fi : Dv → Option (List D)} {caps : List (Nat × Str)} {ft : Dv → Option Bool} {fe : Dv → Option D} {δ : Dv} {h k : α → D} {b : α → Bool} {xs : List α} (e : fi δ = some (xs.map h)) (hl : xs.length ≤ 16777216) (H : ∀ x ∈ xs, ft (.fz (h x) :: capS δ caps) = some (b x)) (G : ∀ x ∈ xs, b x = true → fe (.fz (h x) :: capS δ caps) = some (k x)) : oCompI fi caps bv1 ft fe δ = some (.list ((xs.filter b).map k)) := by
  unfold oCompI
  rw [e, Option.bind_some, if_pos (by rw [List.length_map]; exact hl), filO_map xs (b := b) (k := k) (fun x hx => by
    show ft _ = _
    exact H x hx) (fun x hx hb => by
    show fe _ = _
    exact G x hx hb)]
  rfl

@[simp] theorem ifK_bne (u w : Sf) (δ : Dv) (a b : Int) : ifK u w δ (!(a == b)) = if a = b then w δ else u δ := by
  by_cases h : a = b
  · subst h; simp
  · have : (a == b) = false := by simpa using h
    rw [this, if_neg h]; rfl
@[simp] theorem lstD6' (a b c d e f : D) : lstD [a, b, c, d, e, f] = some (.list [a, b, c, d, e, f]) := lstD_ok (by simp)

open MA (Nu Row wt bit flp from_ doneAt)
noncomputable def numD (u : Nu) : D := tup5 u.1 u.2
noncomputable def stD (n : Nat) (f : Nat → Nu) : D := .tuple ((List.range (2 ^ n)).map fun p => numD (f p))
noncomputable def rowD : Row → D
  | .swing j => .tuple [.str "swing", .int j]
  | .turn j e => .tuple [.str "turn", .int j, .int e]
  | .flip j => .tuple [.str "flip", .int j]
  | .tie i j => .tuple [.str "tie", .int i, .int j]
  | .sign i j => .tuple [.str "sign", .int i, .int j]
  | .cross i j => .tuple [.str "cross", .int i, .int j]
theorem st_at {n : Nat} {f : Nat → Nu} {i : Int} (p : Nat) (hi : i = p) (hp : p < 2 ^ n) : ixD (stD n f) (.int i) = some (numD (f p)) := by
  show atI _ _ = _
  exact atI_of (j := p) hi (by simp [hp])
theorem len_st (n : Nat) (f : Nat → Nu) : lenD [stD n f] = some (.int ((2 ^ n : Nat) : Int)) := by
  show some (PyData.int (((List.range (2 ^ n)).map fun p => numD (f p)).length : Nat)) = _
  rw [List.length_map, List.length_range]
theorem loop_rng {b : Sf} {k : Nat} (I : Nat → Dv → Prop) (n : Nat) (h : ∀ i, i < n → ∀ δ, I i δ → ∃ δ2, b (δ.set k (.fz (.int i))) = some (.nx, δ2) ∧ I (i + 1) δ2) : ∀ δ, I 0 δ → ∃ δ', loop (gN k) b (rngL 0 n) δ = some (.nx, δ') ∧ I n δ' := by
  have go : ∀ (m i : Nat), i + m = n → ∀ δ, I i δ → ∃ δ', loop (gN k) b ((List.range' i m).map fun (k : Nat) => PyData.int (0 + (k : Int))) δ = some (.nx, δ') ∧ I n δ' := by
    intro m
    induction m with
    | zero => intro i e δ h; exact ⟨δ, rfl, by rw [← e]; exact h⟩
    | succ m ih =>
      intro i e δ hi
      obtain ⟨δ2, e2, h2⟩ := h i (by omega) δ hi
      obtain ⟨δ', e3, h3⟩ := ih (i + 1) (by omega) δ2 h2
      refine ⟨δ', ?_, h3⟩
      rw [← e3, List.range'_succ, List.map_cons]
      exact loop_step (δ1 := δ.set k (.fz (.int i))) (by simp) e2
  intro δ h0
  have := go n 0 (by omega) δ h0
  rw [← List.range_eq_range'] at this
  exact this
theorem num2 (x : MA.Q4) (k : Nat) : ∃ c : Nat, (MA.num x k).2 = c ∧ c ≤ k := by
  obtain ⟨c, e, h, _⟩ := MA.num_is x k
  exact ⟨c, e, h⟩
theorem plusN_le (u v : Nu) : (MA.plusN u v).2 ≤ max u.2 v.2 := by
  obtain ⟨c, e2, h⟩ := num2 (MA.Q4.add (MA.Q4.rtn (max (u.2 : Int) v.2 - u.2).toNat u.1) (MA.Q4.rtn (max (u.2 : Int) v.2 - v.2).toNat v.1)) (max u.2 v.2)
  have e3 : ((max u.2 v.2 : Nat) : Int) = max (u.2 : Int) v.2 := by omega
  rw [e3] at e2
  show (MA.plusQ u.1 u.2 v.1 v.2).2.toNat ≤ _
  unfold MA.plusQ
  rw [e2]; exact h
theorem rng_pow (n : Nat) (hn : n ≤ 6) : rng1D [.int ((2 ^ n : Nat) : Int)] = some ((List.range (2 ^ n)).map fun k : Nat => PyData.int (0 + (k : Int))) := by
  have sq : (2 ^ n : Nat) ≤ 64 := (Nat.pow_le_pow_right (by decide) hn : 2 ^ n ≤ 2 ^ 6)
  generalize (2 ^ n : Nat) = N at sq ⊢
  exact rng1D_int (j := (N : Int)) (by omega) (by omega)

theorem comp_r0 {fi : Dv → Option (List D)} {caps : List (Nat × Str)} {fe : Dv → Option D} {δ : Dv} {N : Nat} {y : Nat → D} (e : fi δ = some ((List.range N).map fun k : Nat => PyData.int (0 + (k : Int)))) (hl : N ≤ 16777216) (H : ∀ p : Nat, p < N → fe (.fz (.int p) :: capS δ caps) = some (y p)) : oComp fi caps bv1 fe δ = some (.list ((List.range N).map y)) := by
  refine comp_map e (by rw [List.length_range]; exact hl) fun p hp => ?_
  rw [Int.zero_add]
  exact H p (List.mem_range.mp hp)

/-- bounds of a state -/
noncomputable def Bd (k p : Nat) (f : Nat → Nu) : Prop := ∀ x, (f x).2 ≤ k ∧ MA.Q4.Le (2 ^ p) (f x).1
theorem half_le (u : Nu) : (MA.halfN u).2 ≤ u.2 + 1 := by
  obtain ⟨c, e, h⟩ := num2 u.1 (u.2 + 1)
  show (MA.num u.1 ((u.2 + 1 : Nat) : Int)).2.toNat ≤ _
  rw [e]; exact h
theorem half_Le {u : Nu} {M : Nat} (h : MA.Q4.Le M u.1) : MA.Q4.Le M (MA.halfN u).1 := MA.num_le _ _ (by omega) _ h
theorem Bd.done {k p : Nat} {f : Nat → Nu} (h : Bd k p f) (n : Nat) (r : Row) : Bd (k + 1) (p + k + 1) (doneAt n f r) := fun x => by
  have mono : ∀ y, (f y).2 ≤ k + 1 ∧ MA.Q4.Le (2 ^ (p + k + 1)) (f y).1 := fun y => ⟨by have := (h y).1; omega, (h y).2.mono (Nat.pow_le_pow_right (by decide) (by omega))⟩
  have pl : ∀ (u v : Nu), u.2 ≤ k → v.2 ≤ k → MA.Q4.Le (2 ^ p) u.1 → MA.Q4.Le (2 ^ p) v.1 → (MA.halfN (MA.plusN u v)).2 ≤ k + 1 ∧ MA.Q4.Le (2 ^ (p + k + 1)) (MA.halfN (MA.plusN u v)).1 := fun u v h1 h2 h3 h4 => by
    refine ⟨?_, half_Le ?_⟩
    · have := half_le (MA.plusN u v)
      have := plusN_le u v
      omega
    · exact MA.plusQ_le h3 h4 h1 h2
  cases r with
  | swing j =>
    show (if bit (wt n j) x = 0 then _ else _ : Nu).2 ≤ _ ∧ MA.Q4.Le _ (if bit (wt n j) x = 0 then _ else _ : Nu).1
    split
    · exact pl _ _ (h _).1 (h _).1 (h _).2 (h _).2
    · exact pl _ _ (h _).1 (h _).1 (h _).2 (MA.tnn_le _ (h _).2)
  | turn j e => exact ⟨(mono x).1, MA.tnn_le _ (mono x).2⟩
  | sign i j => exact ⟨(mono x).1, MA.tnn_le _ (mono x).2⟩
  | flip j => exact mono _
  | tie i j => exact mono _
  | cross i j => exact mono _
theorem Bd.mono {k p k' p' : Nat} {f : Nat → Nu} (h : Bd k p f) (h1 : k ≤ k') (h2 : p ≤ p') : Bd k' p' f := fun x => ⟨Nat.le_trans (h x).1 h1, (h x).2.mono (Nat.pow_le_pow_right (by decide) h2)⟩

/-! ### the landed done -/
theorem tab1 : ((List.range 6).all fun k => (List.range 64).all fun p => (p &&& 2 ^ k == 2 ^ k * bit (2 ^ k) p) && (p ^^^ 2 ^ k == flp (2 ^ k) p)) = true := by decide +kernel
theorem tab2 : ((List.range 6).all fun k => (List.range 6).all fun l => (List.range 64).all fun p => (k == l) || ((2 ^ k ||| 2 ^ l == 2 ^ k + 2 ^ l) && (p &&& (2 ^ k + 2 ^ l) == 2 ^ k * bit (2 ^ k) p + 2 ^ l * bit (2 ^ l) p) && (p ^^^ (2 ^ k + 2 ^ l) == flp (2 ^ l) (flp (2 ^ k) p)))) = true := by decide +kernel
section
variable {n : Nat} (hn : n ≤ 6)
include hn
theorem pow64 : 2 ^ n ≤ 64 := (Nat.pow_le_pow_right (by decide) hn : 2 ^ n ≤ 2 ^ 6)
theorem and_wt {j p : Nat} (hj : j < n) (hp : p < 2 ^ n) : p &&& wt n j = wt n j * bit (wt n j) p ∧ p ^^^ wt n j = flp (wt n j) p := by
  have h := tab1
  rw [List.all_eq_true] at h
  have h := h (n - 1 - j) (List.mem_range.mpr (by omega))
  rw [List.all_eq_true] at h
  have h := h p (List.mem_range.mpr (Nat.lt_of_lt_of_le hp (pow64 hn)))
  rw [Bool.and_eq_true, beq_iff_eq, beq_iff_eq] at h
  exact h
theorem and_wt2 {i j p : Nat} (hi : i < n) (hj : j < n) (hij : i ≠ j) (hp : p < 2 ^ n) : wt n i ||| wt n j = wt n i + wt n j ∧ p &&& (wt n i + wt n j) = wt n i * bit (wt n i) p + wt n j * bit (wt n j) p ∧ p ^^^ (wt n i + wt n j) = flp (wt n j) (flp (wt n i) p) := by
  have h := tab2
  rw [List.all_eq_true] at h
  have h := h (n - 1 - i) (List.mem_range.mpr (by omega))
  rw [List.all_eq_true] at h
  have h := h (n - 1 - j) (List.mem_range.mpr (by omega))
  rw [List.all_eq_true] at h
  have h := h p (List.mem_range.mpr (Nat.lt_of_lt_of_le hp (pow64 hn)))
  rw [Bool.or_eq_true, Bool.and_eq_true, Bool.and_eq_true, beq_iff_eq, beq_iff_eq, beq_iff_eq, beq_iff_eq] at h
  rcases h with h | h
  · exact absurd h (by omega)
  · exact ⟨h.1.1, h.1.2, h.2⟩
theorem worth_eq {j : Nat} (hj : j < n) : g_worth [.int n, .int j] = some (.int (wt n j : Nat)) := by
  have hb : Builtin.Int.intBits 1 = 1 := by decide +kernel
  have e := shlD_int (i := 1) (j := (n : Int) - 1 - (j : Int)) (by omega) (by omega)
  have e2 : (1 : Int) * 2 ^ ((n : Int) - 1 - (j : Int)).toNat = ((wt n j : Nat) : Int) := by
    unfold MA.wt
    rw [show ((n : Int) - 1 - (j : Int)).toNat = n - 1 - j by omega]
    push_cast
    omega
  rw [e2] at e
  simp [g_worth, runB, b_worth, startD, e]
theorem wires_st (f : Nat → Nu) : bitsD (.int ((2 ^ n : Nat) : Int)) = some (.int ((n : Int) + 1)) := by
  have e : ((2 ^ n : Nat) : Int) = 2 ^ n := by push_cast; rfl
  have := MA.bits_pow n
  rw [bitsD_int, e, this]
  rfl
/-! numbers -/
theorem plus_n (u v : Nu) (hu : MA.Q4.Le (2 ^ 100000) u.1) (hv : MA.Q4.Le (2 ^ 100000) v.1) (hc : u.2 ≤ 50000) (hd : v.2 ≤ 50000) : g_plus [numD u, numD v] = some (numD (MA.plusN u v)) := by
  have e := plus_eq u.1 u.2 v.1 v.2 hu hv (by omega) (by omega) (by omega) (by omega)
  unfold numD MA.plusN
  rw [e]
  obtain ⟨c, e2, h⟩ := num2 (MA.Q4.add (MA.Q4.rtn (max (u.2 : Int) v.2 - u.2).toNat u.1) (MA.Q4.rtn (max (u.2 : Int) v.2 - v.2).toNat v.1)) (max u.2 v.2)
  have e3 : ((max u.2 v.2 : Nat) : Int) = max (u.2 : Int) v.2 := by omega
  rw [e3] at e2
  show some (tup5 _ (MA.plusQ u.1 u.2 v.1 v.2).2) = some (tup5 _ ((MA.plusQ u.1 u.2 v.1 v.2).2.toNat : Int))
  unfold MA.plusQ
  rw [e2]; rfl
theorem halved_n (u : Nu) : g_halved [numD u] = some (numD (MA.halfN u)) := by
  have e := halved_eq u.1 u.2 (by omega)
  obtain ⟨c, e2, h⟩ := num2 u.1 (u.2 + 1)
  have e3 : ((u.2 + 1 : Nat) : Int) = (u.2 : Int) + 1 := by omega
  unfold numD MA.halfN
  rw [e, e3]
  rw [e3] at e2
  rw [e2]; rfl
theorem against_n (u : Nu) : g_against [numD u] = some (numD (MA.turnN 4 u)) := by
  have e := against_eq u.1 u.2
  unfold numD MA.turnN
  rw [e]
  have : MA.tnn (4 % 8) u.1 = MA.Q4.neg u.1 := by
    show MA.Q4.tn (MA.Q4.tn (MA.Q4.tn (MA.Q4.tn u.1))) = _
    unfold MA.Q4.tn MA.Q4.neg
    rfl
  rw [this]
theorem turned_n (u : Nu) (e : Nat) : g_turned [numD u, .int e] = some (numD (MA.turnN e u)) := by
  have h := turned_eq u.1 u.2 e
  unfold numD MA.turnN
  rw [h, show ((e : Int) % 8).toNat = e % 8 by omega]
end
section
variable {n : Nat} (hn : n ≤ 6) (f : Nat → Nu) (hf : ∀ p, (f p).2 ≤ 40000) (hL : ∀ p, MA.Q4.Le (2 ^ 100000) (f p).1)
include hn
theorem swung_x0 (X x y a b : D) (p w q : Int) (ds : List D) (hs : ds.length < sizeLine) (h1 : Builtin.bitAnd p w = 0) (h2 : Builtin.bitXor p w = q) (a0 : ixD X (.int p) = some x) (a1 : ixD X (.int q) = some y) (e1 : g_plus [x, y] = some a) (e2 : g_halved [a] = some b) :
    l1_swung [.fz X, .fz (.int w), .ow ds, .fz (.int p)] = some (.nx, [.fz X, .fz (.int w), .ow (ds ++ [b]), .fz (.int p)]) := by
  simp [-sSeq, -sIf, sSeq_k, sIf_k, l1_swung, h1, h2, a0, a1, e1, e2, hs]
theorem swung_x1 (X x y z a b : D) (p w q m : Int) (ds : List D) (hs : ds.length < sizeLine) (h1 : Builtin.bitAnd p w = m) (hm : m ≠ 0) (h2 : Builtin.bitXor p w = q) (a0 : ixD X (.int p) = some x) (a1 : ixD X (.int q) = some y) (e0 : g_against [x] = some z) (e1 : g_plus [y, z] = some a) (e2 : g_halved [a] = some b) :
    l1_swung [.fz X, .fz (.int w), .ow ds, .fz (.int p)] = some (.nx, [.fz X, .fz (.int w), .ow (ds ++ [b]), .fz (.int p)]) := by
  have hm' : (m == 0) = false := by simpa using hm
  simp [-sSeq, -sIf, sSeq_k, sIf_k, l1_swung, h1, hm', h2, a0, a1, e0, e1, e2, hs]
include hf hL
theorem swung_at {j : Nat} (hj : j < n) (p : Nat) (hp : p < 2 ^ n) (ds : List D) (hl : ds.length < 1000) :
    l1_swung [.fz (stD n f), .fz (.int (wt n j : Nat)), .ow ds, .fz (.int p)] = some (.nx, [.fz (stD n f), .fz (.int (wt n j : Nat)), .ow (ds ++ [numD (doneAt n f (.swing j) p)]), .fz (.int p)]) := by
  have hs : ds.length < sizeLine := by show _ < 16777216; omega
  have ha := and_wt hn hj hp
  have b1 := MA.band p (wt n j)
  have b2 := MA.bxor p (wt n j)
  rw [ha.1] at b1
  rw [ha.2] at b2
  have hw := MA.wt_pos n j
  have q := MA.flp_lt hj hp
  have a0 : ixD (stD n f) (.int (p : Int)) = some (numD (f p)) := st_at p rfl hp
  have a1 : ixD (stD n f) (.int ((flp (wt n j) p : Nat) : Int)) = some (numD (f (flp (wt n j) p))) := st_at _ rfl q
  by_cases h : bit (wt n j) p = 0
  · rw [h, Nat.mul_zero] at b1
    have e : doneAt n f (.swing j) p = MA.halfN (MA.plusN (f p) (f (p + wt n j))) := if_pos h
    have ef : flp (wt n j) p = p + wt n j := if_pos h
    rw [ef] at a1 b2
    rw [e]
    exact swung_x0 hn _ _ _ _ _ _ _ _ _ hs b1 b2 a0 a1 (plus_n hn _ _ (hL _) (hL _) (by have := hf p; omega) (by have := hf (p + wt n j); omega)) (halved_n hn _)
  · have h1 : bit (wt n j) p = 1 := by have := MA.bit_lt (wt n j) p; omega
    rw [h1, Nat.mul_one] at b1
    have e : doneAt n f (.swing j) p = MA.halfN (MA.plusN (f (p - wt n j)) (MA.turnN 4 (f p))) := if_neg h
    have ef : flp (wt n j) p = p - wt n j := if_neg h
    rw [ef] at a1 b2
    rw [e]
    exact swung_x1 hn _ _ _ _ _ _ _ _ _ _ _ hs b1 (by omega) b2 a0 a1 (against_n hn _) (plus_n hn _ _ (hL _) (MA.tnn_le _ (hL p)) (by have := hf (p - wt n j); omega) (by show (f p).2 ≤ _; have := hf p; omega)) (halved_n hn _)
omit hf hL hn in
theorem swung_y (X Y : D) (w S : Int) (RL L : List D) (y : Sl) (ln : lenD [X] = some (.int S)) (hN : rng1D [.int S] = some RL) (e : loop (gN 3) l1_swung RL [.fz X, .fz (.int w), .ow [], .un] = some (.nx, [.fz X, .fz (.int w), .ow L, y])) (tp : tupleD [.list L] = some Y) : g_swung [X, .int w] = some Y := by
  simp [-sSeq, -sIf, sSeq_k, sIf_k, g_swung, runB, b_swung, startD, ln, hN, e, dFz, tp]
theorem swung_eq {j : Nat} (hj : j < n) : g_swung [stD n f, .int (wt n j : Nat)] = some (stD n (doneAt n f (.swing j))) := by
  have sq := pow64 hn
  have hN : rng1D [.int ((2 ^ n : Nat) : Int)] = some (rngL 0 (2 ^ n)) := rng_pow n hn
  obtain ⟨δ', e, y3, rfl⟩ := loop_rng (b := l1_swung) (k := 3) (fun i δ => ∃ y3, δ = [.fz (stD n f), .fz (.int (wt n j : Nat)), .ow ((List.range i).map fun p => numD (doneAt n f (.swing j) p)), y3]) (2 ^ n) (by
      rintro i hi δ ⟨y3, rfl⟩
      have e := swung_at hn f hf hL hj i hi ((List.range i).map fun p => numD (doneAt n f (.swing j) p)) (by simp; omega)
      refine ⟨[.fz (stD n f), .fz (.int (wt n j : Nat)), .ow ((List.range (i + 1)).map fun p => numD (doneAt n f (.swing j) p)), .fz (.int i)], ?_, _, rfl⟩
      rw [List.range_succ, List.map_append]
      exact e) [.fz (stD n f), .fz (.int (wt n j : Nat)), .ow [], .un] ⟨_, rfl⟩
  have ln := len_st n f
  have tp : tupleD [.list ((List.range (2 ^ n)).map fun p => numD (doneAt n f (.swing j) p))] = some (stD n (doneAt n f (.swing j))) := rfl
  exact swung_y _ _ _ _ _ _ _ ln hN e tp
omit hf hL
omit hn in
theorem comp_r {fi : Dv → Option (List D)} {caps : List (Nat × Str)} {fe : Dv → Option D} {δ : Dv} {N : Nat} {y : Nat → D} (e : fi δ = some ((List.range N).map fun k : Nat => PyData.int (0 + (k : Int)))) (hl : N ≤ 16777216) (H : ∀ p : Nat, p < N → fe (.fz (.int p) :: capS δ caps) = some (y p)) : oComp fi caps bv1 fe δ = some (.list ((List.range N).map y)) := by
  refine comp_map e (by rw [List.length_range]; exact hl) fun p hp => ?_
  rw [Int.zero_add]
  exact H p (List.mem_range.mp hp)
omit hn in
theorem tw_c (X : D) (h e S : Int) (N : Nat) (x y : Nat → D) (ln : lenD [X] = some (.int S)) (hN : rng1D [.int S] = some ((List.range N).map fun k : Nat => PyData.int (0 + (k : Int)))) (hl : N ≤ 16777216) (a : ∀ p : Nat, p < N → ixD X (.int p) = some (x p))
    (t : ∀ p : Nat, p < N → Builtin.bitAnd p h = h → g_turned [x p, .int e] = some (y p)) (u : ∀ p : Nat, p < N → Builtin.bitAnd p h ≠ h → y p = x p) : g_turned_where [X, .int h, .int e] = some (.tuple ((List.range N).map y)) := by
  have c : p1_turned_where [.fz X, .fz (.int h), .fz (.int e)] = some (.list ((List.range N).map y)) := comp_r (by simp [ln, hN]) hl fun p hp => by
    have a0 := a p hp
    by_cases q : Builtin.bitAnd p h = h
    · have t := t p hp q
      simp [capS, a0, q, t]
    · have t := u p hp q
      rw [t]
      simp [capS, a0, q]
  simp [g_turned_where, runB, b_turned_where, startD, c]
omit hn in
theorem fw_c (X : D) (h w S : Int) (N : Nat) (x y : Nat → D) (ln : lenD [X] = some (.int S)) (hN : rng1D [.int S] = some ((List.range N).map fun k : Nat => PyData.int (0 + (k : Int)))) (hl : N ≤ 16777216) (a : ∀ p : Nat, p < N → ixD X (.int p) = some (x p))
    (t : ∀ p : Nat, p < N → Builtin.bitAnd p h = h → ∃ q : Nat, q < N ∧ Builtin.bitXor p w = q ∧ y p = x q) (u : ∀ p : Nat, p < N → Builtin.bitAnd p h ≠ h → y p = x p) : g_flipped_where [X, .int h, .int w] = some (.tuple ((List.range N).map y)) := by
  have c : p1_flipped_where [.fz X, .fz (.int h), .fz (.int w)] = some (.list ((List.range N).map y)) := comp_r (by simp [ln, hN]) hl fun p hp => by
    have a0 := a p hp
    by_cases q : Builtin.bitAnd p h = h
    · obtain ⟨q', hq, e1, e2⟩ := t p hp q
      have a1 := a q' hq
      rw [e2]
      simp [capS, e1, q, a1]
    · have t := u p hp q
      rw [t]
      simp [capS, a0, q]
  simp [g_flipped_where, runB, b_flipped_where, startD, c]
theorem tw_eq (h e : Int) (g : Nat → Nu) (H : ∀ p : Nat, p < 2 ^ n → (Builtin.bitAnd p h = h → g_turned [numD (f p), .int e] = some (numD (g p))) ∧ (Builtin.bitAnd p h ≠ h → g p = f p)) : g_turned_where [stD n f, .int h, .int e] = some (stD n g) :=
  tw_c (stD n f) h e _ (2 ^ n) (fun p => numD (f p)) (fun p => numD (g p)) (len_st n f) (rng_pow n hn) (Nat.le_trans (pow64 hn) (by decide)) (fun p hp => st_at p rfl hp) (fun p hp q => (H p hp).1 q) (fun p hp q => congrArg numD ((H p hp).2 q))
theorem fw_eq (h w : Int) (g : Nat → Nu) (H : ∀ p : Nat, p < 2 ^ n → (Builtin.bitAnd p h = h → ∃ q : Nat, q < 2 ^ n ∧ Builtin.bitXor p w = q ∧ g p = f q) ∧ (Builtin.bitAnd p h ≠ h → g p = f p)) : g_flipped_where [stD n f, .int h, .int w] = some (stD n g) :=
  fw_c (stD n f) h w _ (2 ^ n) (fun p => numD (f p)) (fun p => numD (g p)) (len_st n f) (rng_pow n hn) (Nat.le_trans (pow64 hn) (by decide)) (fun p hp => st_at p rfl hp) (fun p hp q => let ⟨q', h1, h2, h3⟩ := (H p hp).1 q; ⟨q', h1, h2, congrArg numD h3⟩) (fun p hp q => congrArg numD ((H p hp).2 q))
omit hn in
theorem exch_x (p W m q r : Int) (c : Bool) {b : Bool} (h1 : Builtin.bitAnd p W = m) (h2 : Builtin.bitXor p W = q) (h3 : inD false (.int m) (.tuple [.int 0, .int W]) = some (.bool b)) (hb : b = c) (hr : (if c = true then p else q) = r) : g_exchanged [.int p, .int W] = some (.int r) := by
  subst hb
  cases b
  · simp at hr; subst hr; simp [g_exchanged, runB, b_exchanged, startD, h1, h2, h3]
  · simp at hr; subst hr; simp [g_exchanged, runB, b_exchanged, startD, h1, h2, h3]
theorem exch_eq {i j : Nat} (hi : i < n) (hj : j < n) (hij : i ≠ j) {p : Nat} (hp : p < 2 ^ n) : g_exchanged [.int p, .int ((wt n i + wt n j : Nat) : Int)] = some (.int (from_ n (.cross i j) p : Nat)) := by
  have ha := and_wt2 hn hi hj hij hp
  have b1 := MA.band p (wt n i + wt n j)
  have b2 := MA.bxor p (wt n i + wt n j)
  rw [ha.2.1] at b1
  rw [ha.2.2] at b2
  have hwi := MA.wt_pos n i
  have hwj := MA.wt_pos n j
  have l1 := MA.bit_lt (wt n i) p
  have l2 := MA.bit_lt (wt n j) p
  have inT : ∀ a b : Int, inD false (.int a) (.tuple [.int 0, .int b]) = some (.bool (0 == a || b == a)) := fun a b => by
    show some (PyData.bool (PyData.eqv (.int 0) (.int a) || (PyData.eqv (.int b) (.int a) || false))) = _
    rw [Bool.or_false]
    rfl
  have ef : from_ n (.cross i j) p = if bit (wt n i) p = bit (wt n j) p then p else flp (wt n j) (flp (wt n i) p) := rfl
  rw [ef]
  by_cases h : bit (wt n i) p = bit (wt n j) p
  · rw [if_pos h]
    have hb : bit (wt n i) p = 0 ∨ bit (wt n i) p = 1 := by omega
    refine exch_x _ _ _ _ _ true b1 b2 (inT _ _) ?_ rfl
    rcases hb with hb | hb
    · rw [← h, hb]; simp
    · rw [← h, hb]; simp
  · rw [if_neg h]
    refine exch_x _ _ _ _ _ false b1 b2 (inT _ _) ?_ rfl
    have hb : (bit (wt n i) p = 0 ∧ bit (wt n j) p = 1) ∨ (bit (wt n i) p = 1 ∧ bit (wt n j) p = 0) := by omega
    rcases hb with ⟨hb, hc⟩ | ⟨hb, hc⟩
    · rw [hb, hc, Nat.mul_zero, Nat.mul_one, Nat.zero_add, Bool.or_eq_false_iff, beq_eq_false_iff_ne, beq_eq_false_iff_ne]
      omega
    · rw [hb, hc, Nat.mul_zero, Nat.mul_one, Nat.add_zero, Bool.or_eq_false_iff, beq_eq_false_iff_ne, beq_eq_false_iff_ne]
      omega
omit hn in
theorem cr_c (X : D) (S W1 W2 W : Int) (N : Nat) (x y : Nat → D) (R w0 : Sl) (ho : Builtin.bitOr W1 W2 = W) (ln : lenD [X] = some (.int S)) (hN : rng1D [.int S] = some ((List.range N).map fun k : Nat => PyData.int (0 + (k : Int)))) (hl : N ≤ 16777216) (a : ∀ p : Nat, p < N → ixD X (.int p) = some (x p))
    (t : ∀ p : Nat, p < N → ∃ q : Nat, q < N ∧ g_exchanged [.int p, .int W] = some (.int q) ∧ y p = x q) : p1_done [.fz X, R, w0, .fz (.int W1), .fz (.int W2)] = some (.list ((List.range N).map y)) :=
  comp_r (by simp [ln, hN]) hl fun p hp => by
    obtain ⟨q, hq, e1, e2⟩ := t p hp
    have a1 := a q hq
    rw [e2]
    simp [capS, ho, e1, a1]
section
omit hn
variable (X R Y : D) (S N w1 w2 : Int) (i j : Int) (ln : lenD [X] = some (.int S)) (bl : bitsD (.int S) = some (.int (N + 1))) (r1 : ixD R (.int 1) = some (.int i)) (v1 : g_worth [.int N, .int i] = some (.int w1))
include ln bl r1 v1
theorem done_swing_x (r0 : ixD R (.int 0) = some (.str "swing")) (h : g_swung [X, .int w1] = some Y) : g_done [X, R] = some Y := by
  simp [-sSeq, -sIf, sSeq_k, sIf_k, g_done, runB, b_done, startD, ln, bl, r0, r1, v1, h]
theorem done_turn_x (r0 : ixD R (.int 0) = some (.str "turn")) (r2 : ixD R (.int 2) = some (.int j)) (h : g_turned_where [X, .int w1, .int j] = some Y) : g_done [X, R] = some Y := by
  simp [-sSeq, -sIf, sSeq_k, sIf_k, g_done, runB, b_done, startD, ln, bl, r0, r1, r2, v1, h]
theorem done_flip_x (r0 : ixD R (.int 0) = some (.str "flip")) (h : g_flipped_where [X, .int 0, .int w1] = some Y) : g_done [X, R] = some Y := by
  simp [-sSeq, -sIf, sSeq_k, sIf_k, g_done, runB, b_done, startD, ln, bl, r0, r1, v1, h]
variable (r2 : ixD R (.int 2) = some (.int j)) (v2 : g_worth [.int N, .int j] = some (.int w2))
include r2 v2
theorem done_tie_x (r0 : ixD R (.int 0) = some (.str "tie")) (h : g_flipped_where [X, .int w1, .int w2] = some Y) : g_done [X, R] = some Y := by
  simp [-sSeq, -sIf, sSeq_k, sIf_k, g_done, runB, b_done, startD, ln, bl, r0, r1, r2, v1, v2, h]
theorem done_sign_x (W : Int) (ho : Builtin.bitOr w1 w2 = W) (r0 : ixD R (.int 0) = some (.str "sign")) (h : g_turned_where [X, .int W, .int 4] = some Y) : g_done [X, R] = some Y := by
  simp [-sSeq, -sIf, sSeq_k, sIf_k, g_done, runB, b_done, startD, ln, bl, r0, r1, r2, v1, v2, ho, h]
theorem done_cross_x (L : D) (r0 : ixD R (.int 0) = some (.str "cross")) (h : p1_done [.fz X, .fz R, .fz (.int N), .fz (.int w1), .fz (.int w2)] = some L) (t : tupleD [L] = some Y) : g_done [X, R] = some Y := by
  simp [-sSeq, -sIf, sSeq_k, sIf_k, g_done, runB, b_done, startD, ln, bl, r0, r1, r2, v1, v2, h, t]
end
include hf hL
theorem done_eq (r : Row) (hr : r.ok n) : g_done [stD n f, rowD r] = some (stD n (doneAt n f r)) := by
  have ln := len_st n f
  have bl := wires_st hn f
  have sq := pow64 hn
  cases r with
  | swing j => exact done_swing_x _ _ _ _ _ _ _ ln bl rfl (worth_eq hn hr) rfl (swung_eq hn f hf hL hr)
  | turn j e =>
    refine done_turn_x _ _ _ _ _ _ _ _ ln bl rfl (worth_eq hn hr.1) rfl rfl (tw_eq hn f _ _ _ fun p hp => ?_)
    have ha := (and_wt hn hr.1 hp).1
    have b1 := MA.band p (wt n j)
    rw [ha] at b1
    have hw := MA.wt_pos n j
    have hb : bit (wt n j) p = 0 ∨ bit (wt n j) p = 1 := by have := MA.bit_lt (wt n j) p; omega
    have e1 : doneAt n f (.turn j e) p = MA.turnN (e * bit (wt n j) p) (f p) := rfl
    rw [e1, b1]
    rcases hb with hb | hb
    · rw [hb, Nat.mul_zero, Nat.mul_zero]
      exact ⟨fun q => absurd q (by omega), fun _ => rfl⟩
    · rw [hb, Nat.mul_one, Nat.mul_one]
      exact ⟨fun _ => turned_n hn _ _, fun q => absurd rfl q⟩
  | flip j =>
    refine done_flip_x _ _ _ _ _ _ _ ln bl rfl (worth_eq hn hr) rfl (fw_eq hn f _ _ _ fun p hp => ?_)
    have b2 := MA.bxor p (wt n j)
    rw [(and_wt hn hr hp).2] at b2
    have b0 := MA.band p 0
    rw [Nat.and_zero] at b0
    exact ⟨fun _ => ⟨_, MA.flp_lt hr hp, b2, rfl⟩, fun q => absurd b0 q⟩
  | tie i j =>
    refine done_tie_x _ _ _ _ _ _ _ _ _ ln bl rfl (worth_eq hn hr.1) rfl (worth_eq hn hr.2.1) rfl (fw_eq hn f _ _ _ fun p hp => ?_)
    have b2 := MA.bxor p (wt n j)
    rw [(and_wt hn hr.2.1 hp).2] at b2
    have b1 := MA.band p (wt n i)
    rw [(and_wt hn hr.1 hp).1] at b1
    have hw := MA.wt_pos n i
    have hb : bit (wt n i) p = 0 ∨ bit (wt n i) p = 1 := by have := MA.bit_lt (wt n i) p; omega
    have e1 : doneAt n f (.tie i j) p = f (if bit (wt n i) p = 0 then p else flp (wt n j) p) := rfl
    rw [e1, b1]
    rcases hb with hb | hb
    · rw [hb, Nat.mul_zero]
      exact ⟨fun q => absurd q (by omega), fun _ => rfl⟩
    · rw [hb, Nat.mul_one, if_neg (by decide)]
      exact ⟨fun _ => ⟨_, MA.flp_lt hr.2.1 hp, b2, rfl⟩, fun q => absurd rfl q⟩
  | sign i j =>
    have ho := MA.bor (wt n i) (wt n j)
    rw [(and_wt2 hn hr.1 hr.2.1 hr.2.2 (p := 0) (Nat.pow_pos (by decide))).1] at ho
    refine done_sign_x _ _ _ _ _ _ _ _ _ ln bl rfl (worth_eq hn hr.1) rfl (worth_eq hn hr.2.1) _ ho rfl (tw_eq hn f _ _ _ fun p hp => ?_)
    have b1 := MA.band p (wt n i + wt n j)
    rw [(and_wt2 hn hr.1 hr.2.1 hr.2.2 hp).2.1] at b1
    have hw := MA.wt_pos n i
    have hw2 := MA.wt_pos n j
    have hb : bit (wt n i) p = 0 ∨ bit (wt n i) p = 1 := by have := MA.bit_lt (wt n i) p; omega
    have hc : bit (wt n j) p = 0 ∨ bit (wt n j) p = 1 := by have := MA.bit_lt (wt n j) p; omega
    have e1 : doneAt n f (.sign i j) p = MA.turnN (4 * bit (wt n i) p * bit (wt n j) p) (f p) := rfl
    rw [e1, b1]
    rcases hb with hb | hb
    · rw [hb, Nat.mul_zero, Nat.mul_zero, Nat.zero_mul]
      refine ⟨fun q => absurd q ?_, fun _ => rfl⟩
      rcases hc with hc | hc <;> rw [hc] <;> omega
    · rcases hc with hc | hc
      · rw [hb, hc, Nat.mul_one, Nat.mul_zero, Nat.mul_zero]
        exact ⟨fun q => absurd q (by omega), fun _ => rfl⟩
      · rw [hb, hc, Nat.mul_one, Nat.mul_one, Nat.mul_one, Nat.mul_one]
        exact ⟨fun _ => turned_n hn _ 4, fun q => absurd rfl q⟩
  | cross i j =>
    have ho := MA.bor (wt n i) (wt n j)
    rw [(and_wt2 hn hr.1 hr.2.1 hr.2.2 (p := 0) (Nat.pow_pos (by decide))).1] at ho
    refine done_cross_x _ _ _ _ _ _ _ _ _ ln bl rfl (worth_eq hn hr.1) rfl (worth_eq hn hr.2.1) _ rfl (cr_c (stD n f) _ _ _ _ (2 ^ n) (fun p => numD (f p)) (fun p => numD (doneAt n f (.cross i j) p)) _ _ ho ln (rng_pow n hn) (by omega) (fun p hp => st_at p rfl hp) fun p hp => ?_) rfl
    exact ⟨_, MA.from_lt (r := .cross i j) hr hp, exch_eq hn hr.1 hr.2.1 hr.2.2 hp, rfl⟩
end

theorem alld_x (rows : Sl) (X Y r : D) (h1 : g_done [X, r] = some Y) : l1_all_done [.fz X, rows, .fz r] = some (.nx, [.fz Y, rows, .fz r]) := by
  simp [l1_all_done, h1]
noncomputable def doneL (n : Nat) (f : Nat → Nu) : List Row → Nat → Nu
  | [] => f
  | r :: rs => doneL n (doneAt n f r) rs
theorem alld_loop (rows : Sl) {n : Nat} (hn : n ≤ 6) : ∀ (rs : List Row), (∀ r ∈ rs, r.ok n) → ∀ (k p : Nat) (f : Nat → Nu), Bd k p f → k + rs.length ≤ 300 → p + 400 * rs.length ≤ 80000 → ∀ z, ∃ y, loop (gN 2) l1_all_done (rs.map rowD) [.fz (stD n f), rows, z] = some (.nx, [.fz (stD n (doneL n f rs)), rows, y])
  | [], _, _, _, _, _, _, _, z => ⟨z, rfl⟩
  | r :: rs, hr, k, p, f, hb, hk, hp, z => by
    simp only [List.length_cons] at hk hp
    have h1 := done_eq hn f (fun x => by have := (hb x).1; omega) (fun x => (hb x).2.mono (Nat.pow_le_pow_right (by decide) (by omega))) r (hr r List.mem_cons_self)
    obtain ⟨y, e⟩ := alld_loop rows hn rs (fun q hq => hr q (List.mem_cons_of_mem _ hq)) (k + 1) (p + k + 1) (doneAt n f r) (hb.done n r) (by omega) (by omega) (.fz (rowD r))
    exact ⟨y, by rw [List.map_cons, loop_step (by rfl) (alld_x rows _ _ _ h1)]; exact e⟩
theorem alld_y (X Y R : D) (L : List D) (y : Sl) (it : itsD R = some L) (e : loop (gN 2) l1_all_done L [.fz X, .fz R, .un] = some (.nx, [.fz Y, .fz R, y])) : g_all_done [X, R] = some Y := by
  simp [g_all_done, runB, b_all_done, startD, it, e]
theorem alld_eq {n : Nat} (hn : n ≤ 6) (rs : List Row) (hr : ∀ r ∈ rs, r.ok n) {k p : Nat} {f : Nat → Nu} (hb : Bd k p f) (hk : k + rs.length ≤ 300) (hp : p + 400 * rs.length ≤ 80000) : g_all_done [stD n f, .tuple (rs.map rowD)] = some (stD n (doneL n f rs)) := by
  obtain ⟨y, e⟩ := alld_loop (.fz (.tuple (rs.map rowD))) hn rs hr k p f hb hk hp .un
  exact alld_y _ _ _ _ y rfl e

theorem shl1 (w : Nat) (h : w ≤ 100) : shlD (.int 1) (.int (w : Int)) = some (.int ((2 ^ w : Nat) : Int)) := by
  have hb : Builtin.Int.intBits 1 = 1 := by decide +kernel
  have e := shlD_int (i := 1) (j := (w : Int)) (by omega) (by omega)
  rw [e]
  simp


theorem eq_self {d : D} {k : Nat} (h : MA.Sh k d) (hk : k ≤ 64) : eqD d d = some (.bool true) := by
  have hs : shp d = true := by
    show (d.canLay0 && decide (d.depth ≤ 64)) = true
    rw [h.1, decide_eq_true (Nat.le_trans h.2 hk)]; rfl
  unfold eqD
  rw [if_pos ⟨hs, hs⟩, MA.eqv_self d h.1]
/-! ### rows on whole quadruples: moves -/
noncomputable def ldn (n : Nat) (q : Nat → MA.Q4) : Row → Nat → MA.Q4
  | .swing j, p => if bit (wt n j) p = 0 then MA.Q4.add (q p) (q (p + wt n j)) else MA.Q4.add (q (p - wt n j)) (MA.tnn 4 (q p))
  | .turn j e, p => MA.tnn (e * bit (wt n j) p) (q p)
  | .sign i j, p => MA.tnn (4 * bit (wt n i) p * bit (wt n j) p) (q p)
  | r, p => q (from_ n r p)
noncomputable def swn : Row → Nat
  | .swing _ => 1
  | _ => 0
theorem sw_eq (n : Nat) (q : Nat → MA.Q4) (j x : Nat) : ldn n q (.swing j) x = if bit (wt n j) x = 0 then MA.Q4.add (q x) (q (flp (wt n j) x)) else MA.Q4.add (q (flp (wt n j) x)) (MA.tnn 4 (q x)) := by
  show (if bit (wt n j) x = 0 then _ else _) = _
  unfold MA.flp
  by_cases h : bit (wt n j) x = 0
  · rw [if_pos h, if_pos h, if_pos h]
  · rw [if_neg h, if_neg h, if_neg h]
theorem tn_addQ (x y : MA.Q4) : MA.Q4.tn (MA.Q4.add x y) = MA.Q4.add (MA.Q4.tn x) (MA.Q4.tn y) := by
  apply MA.Q4.ext' <;> simp only [MA.Q4.tn, MA.Q4.add] <;> omega
theorem tnn_addQ (e : Nat) (x y : MA.Q4) : MA.tnn e (MA.Q4.add x y) = MA.Q4.add (MA.tnn e x) (MA.tnn e y) := by
  induction e with
  | zero => rfl
  | succ e ih => show MA.Q4.tn (MA.tnn e _) = MA.Q4.add (MA.Q4.tn (MA.tnn e x)) (MA.Q4.tn (MA.tnn e y)); rw [ih, tn_addQ]
theorem tnn_swap (a b : Nat) (x : MA.Q4) : MA.tnn a (MA.tnn b x) = MA.tnn b (MA.tnn a x) := by rw [← MA.tnn_add, ← MA.tnn_add, Nat.add_comm]
theorem tnn_8 (k : Nat) (x : MA.Q4) : MA.tnn (8 * k) x = x := by rw [← MA.tnn_mod, Nat.mul_mod_right]; rfl
theorem lin_t (n : Nat) (q : Nat → MA.Q4) (e : Nat) (r : Row) (x : Nat) : ldn n (fun y => MA.tnn e (q y)) r x = MA.tnn e (ldn n q r x) := by
  cases r with
  | swing j =>
    rw [sw_eq, sw_eq]
    split
    · rw [tnn_addQ]
    · rw [tnn_addQ, tnn_swap 4 e]
  | turn j a => exact tnn_swap _ _ _
  | sign i j => exact tnn_swap _ _ _
  | flip j => rfl
  | tie i j => rfl
  | cross i j => rfl
theorem lin_r (n : Nat) (q : Nat → MA.Q4) (k : Nat) (r : Row) (x : Nat) : ldn n (fun y => MA.Q4.rtn k (q y)) r x = MA.Q4.rtn k (ldn n q r x) := by
  cases r with
  | swing j =>
    rw [sw_eq, sw_eq]
    split
    · rw [MA.Q4.rtn_addQ]
    · rw [MA.Q4.rtn_addQ, MA.tnn_rtn]
  | turn j a => exact MA.tnn_rtn _ _ _
  | sign i j => exact MA.tnn_rtn _ _ _
  | flip j => rfl
  | tie i j => rfl
  | cross i j => rfl
/-! rows that only carry and turn -/
noncomputable def cR (n : Nat) : Row → Nat → Bool
  | .flip _, _ => true
  | .tie i _, x => bit (wt n i) x != 0
  | .cross i j, x => bit (wt n i) x != bit (wt n j) x
  | _, _ => false
noncomputable def fR (n : Nat) : Row → Nat → Nat
  | .flip j, x => flp (wt n j) x
  | .tie _ j, x => flp (wt n j) x
  | .cross i j, x => flp (wt n j) (flp (wt n i) x)
  | _, x => x
noncomputable def tR (n : Nat) : Row → Nat → Nat
  | .turn j e, x => e * bit (wt n j) x
  | .sign i j, x => 4 * bit (wt n i) x * bit (wt n j) x
  | _, _ => 0
noncomputable def wiresR : Row → List Nat
  | .swing j => [j]
  | .turn j _ => [j]
  | .flip j => [j]
  | .tie i j => [i, j]
  | .sign i j => [i, j]
  | .cross i j => [i, j]
noncomputable def isSw : Row → Bool
  | .swing _ => true
  | _ => false
theorem mono_eq (n : Nat) (q : Nat → MA.Q4) (r : Row) (h : isSw r = false) (x : Nat) : ldn n q r x = MA.tnn (tR n r x) (q (if cR n r x = true then fR n r x else x)) := by
  cases r with
  | swing j => cases h
  | turn j e => rfl
  | sign i j => rfl
  | flip j => rfl
  | tie i j =>
    show q (if bit (wt n i) x = 0 then x else flp (wt n j) x) = q (if (bit (wt n i) x != 0) = true then flp (wt n j) x else x)
    by_cases b : bit (wt n i) x = 0
    · rw [if_pos b, if_neg (by simp [b])]
    · rw [if_neg b, if_pos (by simp [b])]
  | cross i j =>
    show q (if bit (wt n i) x = bit (wt n j) x then x else flp (wt n j) (flp (wt n i) x)) = q (if (bit (wt n i) x != bit (wt n j) x) = true then flp (wt n j) (flp (wt n i) x) else x)
    by_cases b : bit (wt n i) x = bit (wt n j) x
    · rw [if_pos b, if_neg (by simp [b])]
    · rw [if_neg b, if_pos (by simp [b])]
theorem far_of {n k : Nat} {r : Row} (hr : r.ok n) (hk : k < n) (hf : k ∉ wiresR r) (x : Nat) : cR n r (flp (wt n k) x) = cR n r x ∧ tR n r (flp (wt n k) x) = tR n r x ∧ fR n r (flp (wt n k) x) = flp (wt n k) (fR n r x) := by
  have bt : ∀ i, i < n → i ≠ k → bit (wt n i) (flp (wt n k) x) = bit (wt n i) x := fun i hi h => MA.bit_flp hk hi (Ne.symm h)
  have fc : ∀ i, i < n → i ≠ k → ∀ y, flp (wt n i) (flp (wt n k) y) = flp (wt n k) (flp (wt n i) y) := fun i hi h y => MA.flp_comm hk hi (Ne.symm h)
  cases r with
  | swing j => exact ⟨rfl, rfl, rfl⟩
  | turn j e =>
    have hj : j ≠ k := fun z => hf (by simp [wiresR, z])
    exact ⟨rfl, by show e * _ = e * _; rw [bt j hr.1 hj], rfl⟩
  | flip j =>
    have hj : j ≠ k := fun z => hf (by simp [wiresR, z])
    exact ⟨rfl, rfl, fc j hr hj x⟩
  | tie i j =>
    have hi : i ≠ k := fun z => hf (by simp [wiresR, z])
    have hj : j ≠ k := fun z => hf (by simp [wiresR, z])
    exact ⟨by show (_ != _) = (_ != _); rw [bt i hr.1 hi], rfl, fc j hr.2.1 hj x⟩
  | sign i j =>
    have hi : i ≠ k := fun z => hf (by simp [wiresR, z])
    have hj : j ≠ k := fun z => hf (by simp [wiresR, z])
    exact ⟨rfl, by show 4 * _ * _ = 4 * _ * _; rw [bt i hr.1 hi, bt j hr.2.1 hj], rfl⟩
  | cross i j =>
    have hi : i ≠ k := fun z => hf (by simp [wiresR, z])
    have hj : j ≠ k := fun z => hf (by simp [wiresR, z])
    exact ⟨by show (_ != _) = (_ != _); rw [bt i hr.1 hi, bt j hr.2.1 hj], rfl, by show flp _ (flp _ _) = _; rw [fc i hr.1 hi, fc j hr.2.1 hj]; rfl⟩
/-- what no flip of the row's wires changes, the row's carrying does not change -/
theorem fR_inv {n : Nat} {r : Row} {α : Type} (G : Nat → α) (h : ∀ k ∈ wiresR r, ∀ x, G (flp (wt n k) x) = G x) (x : Nat) : G (fR n r x) = G x := by
  cases r with
  | swing j => rfl
  | turn j e => rfl
  | sign i j => rfl
  | flip j => exact h j (by simp [wiresR]) x
  | tie i j => exact h j (by simp [wiresR]) x
  | cross i j => exact (h j (by simp [wiresR]) _).trans (h i (by simp [wiresR]) x)
theorem fR_com {n : Nat} {r : Row} (K : Nat → Nat) (h : ∀ k ∈ wiresR r, ∀ x, K (flp (wt n k) x) = flp (wt n k) (K x)) (x : Nat) : K (fR n r x) = fR n r (K x) := by
  cases r with
  | swing j => rfl
  | turn j e => rfl
  | sign i j => rfl
  | flip j => exact h j (by simp [wiresR]) x
  | tie i j => exact h j (by simp [wiresR]) x
  | cross i j => show K (flp _ (flp _ x)) = flp _ (flp _ (K x)); rw [h j (by simp [wiresR]), h i (by simp [wiresR])]
theorem ok_lt {n k : Nat} {r : Row} (hr : r.ok n) (h : k ∈ wiresR r) : k < n := by
  cases r with
  | swing j => simp [wiresR] at h; subst h; exact hr
  | turn j e => simp [wiresR] at h; subst h; exact hr.1
  | flip j => simp [wiresR] at h; subst h; exact hr
  | tie i j => simp [wiresR] at h; rcases h with rfl | rfl; exact hr.1; exact hr.2.1
  | sign i j => simp [wiresR] at h; rcases h with rfl | rfl; exact hr.1; exact hr.2.1
  | cross i j => simp [wiresR] at h; rcases h with rfl | rfl; exact hr.1; exact hr.2.1
noncomputable def apartR (r s : Row) : Prop := ∀ k ∈ wiresR r, k ∉ wiresR s
theorem mono_com {n : Nat} (q : Nat → MA.Q4) {r s : Row} (hr : r.ok n) (hs : s.ok n) (mr : isSw r = false) (ms : isSw s = false) (ap : apartR r s) (x : Nat) : ldn n (ldn n q r) s x = ldn n (ldn n q s) r x := by
  have ap' : apartR s r := fun k h1 h2 => ap k h2 h1
  have a1 : ∀ x, cR n s (fR n r x) = cR n s x := fR_inv (r := r) _ fun k hk x => (far_of hs (ok_lt hr hk) (ap k hk) x).1
  have a2 : ∀ x, tR n s (fR n r x) = tR n s x := fR_inv (r := r) _ fun k hk x => (far_of hs (ok_lt hr hk) (ap k hk) x).2.1
  have a3 : ∀ x, fR n s (fR n r x) = fR n r (fR n s x) := fR_com (r := r) _ fun k hk x => (far_of hs (ok_lt hr hk) (ap k hk) x).2.2
  have b1 : ∀ x, cR n r (fR n s x) = cR n r x := fR_inv (r := s) _ fun k hk x => (far_of hr (ok_lt hs hk) (ap' k hk) x).1
  have b2 : ∀ x, tR n r (fR n s x) = tR n r x := fR_inv (r := s) _ fun k hk x => (far_of hr (ok_lt hs hk) (ap' k hk) x).2.1
  rw [mono_eq n _ s ms, mono_eq n _ r mr, mono_eq n _ r mr, mono_eq n _ s ms]
  cases hc : cR n s x <;> cases hd : cR n r x
  · simp only [hc, hd, Bool.false_eq_true, if_false]; exact tnn_swap _ _ _
  · simp only [hc, hd, Bool.false_eq_true, if_false, if_true, a1, a2]; exact tnn_swap _ _ _
  · simp only [hc, hd, Bool.false_eq_true, if_false, if_true, b1, b2]; exact tnn_swap _ _ _
  · simp only [hc, hd, if_true, a1, a2, b1, b2, a3]; exact tnn_swap _ _ _

theorem sw_mono {n j : Nat} (q : Nat → MA.Q4) {s : Row} (hj : j < n) (hs : s.ok n) (ms : isSw s = false) (ap : j ∉ wiresR s) (x : Nat) : ldn n (ldn n q (.swing j)) s x = ldn n (ldn n q s) (.swing j) x := by
  obtain ⟨f1, f2, f3⟩ := far_of hs hj ap x
  have bj : ∀ y, bit (wt n j) (fR n s y) = bit (wt n j) y := fR_inv (r := s) _ fun k hk y => MA.bit_flp (ok_lt hs hk) hj (fun z => ap (z ▸ hk))
  have bs : bit (wt n j) (if cR n s x = true then fR n s x else x) = bit (wt n j) x := by split; exact bj x; rfl
  have fs : flp (wt n j) (if cR n s x = true then fR n s x else x) = (if cR n s (flp (wt n j) x) = true then fR n s (flp (wt n j) x) else flp (wt n j) x) := by
    rw [f1]
    split
    · exact f3.symm
    · rfl
  rw [mono_eq n _ s ms, sw_eq, sw_eq, bs, mono_eq n q s ms x, mono_eq n q s ms (flp (wt n j) x), f2, fs]
  split
  · rw [tnn_addQ]
  · rw [tnn_addQ, tnn_swap 4]
theorem tnn4 (x : MA.Q4) : MA.tnn 4 x = ⟨-x.a, -x.b, -x.c, -x.d⟩ := by
  apply MA.Q4.ext' <;> simp [MA.tnn, MA.Q4.tn]
theorem sw_sw {n i j : Nat} (q : Nat → MA.Q4) (hi : i < n) (hj : j < n) (hij : i ≠ j) (x : Nat) : ldn n (ldn n q (.swing i)) (.swing j) x = ldn n (ldn n q (.swing j)) (.swing i) x := by
  have b1 : bit (wt n i) (flp (wt n j) x) = bit (wt n i) x := MA.bit_flp hj hi (Ne.symm hij)
  have b2 : bit (wt n j) (flp (wt n i) x) = bit (wt n j) x := MA.bit_flp hi hj hij
  have fc : flp (wt n j) (flp (wt n i) x) = flp (wt n i) (flp (wt n j) x) := MA.flp_comm hi hj hij
  rw [sw_eq n (ldn n q (.swing i)) j x, sw_eq n (ldn n q (.swing j)) i x, sw_eq n q i x, sw_eq n q i (flp (wt n j) x), sw_eq n q j x, sw_eq n q j (flp (wt n i) x), b1, b2, fc]
  generalize q x = A
  generalize q (flp (wt n j) x) = B
  generalize q (flp (wt n i) x) = C
  generalize q (flp (wt n i) (flp (wt n j) x)) = D
  by_cases h1 : bit (wt n i) x = 0 <;> by_cases h2 : bit (wt n j) x = 0 <;> simp only [h1, h2, if_true, if_false, tnn4] <;> apply MA.Q4.ext' <;> simp only [MA.Q4.add] <;> omega
theorem row_com {n : Nat} (q : Nat → MA.Q4) {r s : Row} (hr : r.ok n) (hs : s.ok n) (ap : apartR r s) (x : Nat) : ldn n (ldn n q r) s x = ldn n (ldn n q s) r x := by
  cases mr : isSw r with
  | false =>
    cases ms : isSw s with
    | false => exact mono_com q hr hs mr ms ap x
    | true =>
      cases s with
      | swing j => exact (sw_mono q hs hr mr (fun z => ap j z (by simp [wiresR])) x).symm
      | _ => cases ms
  | true =>
    cases r with
    | swing i =>
      cases ms : isSw s with
      | false => exact sw_mono q hr hs ms (fun z => ap i (by simp [wiresR]) z) x
      | true =>
        cases s with
        | swing j => exact sw_sw q hr hs (fun z => ap i (by simp [wiresR]) (by simp [wiresR, z])) x
        | _ => cases ms
    | _ => cases mr
/-! ### rows that come to nothing -/
theorem rtn2 (x : MA.Q4) : MA.Q4.rtn 2 x = ⟨2 * x.a, 2 * x.b, 2 * x.c, 2 * x.d⟩ := by
  apply MA.Q4.ext' <;> simp [MA.Q4.rtn, MA.Q4.rt] <;> omega
theorem no_swing {n j : Nat} (q : Nat → MA.Q4) (x : Nat) : ldn n (ldn n q (.swing j)) (.swing j) x = MA.Q4.rtn 2 (q x) := by
  have w := MA.wt_pos n j
  have b := MA.bit_flp_same (w := wt n j) (p := x) w
  have f := MA.flp_flp (w := wt n j) (p := x) w
  have l := MA.bit_lt (wt n j) x
  rw [sw_eq, sw_eq n q j x, sw_eq n q j (flp (wt n j) x), b, f, rtn2]
  generalize q x = A
  generalize q (flp (wt n j) x) = B
  by_cases h : bit (wt n j) x = 0
  · simp only [h, if_true, tnn4]; apply MA.Q4.ext' <;> simp [MA.Q4.add] <;> omega
  · have h1 : bit (wt n j) x = 1 := by omega
    simp only [h1, tnn4]; apply MA.Q4.ext' <;> simp [MA.Q4.add] <;> omega
theorem no_turn {n j e : Nat} (he : e ≤ 8) (q : Nat → MA.Q4) (x : Nat) : ldn n (ldn n q (.turn j e)) (.turn j (8 - e)) x = q x := by
  show MA.tnn ((8 - e) * bit (wt n j) x) (MA.tnn (e * bit (wt n j) x) (q x)) = q x
  rw [← MA.tnn_add, ← Nat.add_mul, show 8 - e + e = 8 by omega, tnn_8]
theorem no_flip {n j : Nat} (q : Nat → MA.Q4) (x : Nat) : ldn n (ldn n q (.flip j)) (.flip j) x = q x := by
  show q (flp (wt n j) (flp (wt n j) x)) = q x
  rw [MA.flp_flp (MA.wt_pos n j)]
theorem tie_eq (n : Nat) (q : Nat → MA.Q4) (i j x : Nat) : ldn n q (.tie i j) x = q (if bit (wt n i) x = 0 then x else flp (wt n j) x) := rfl
theorem cross_eq (n : Nat) (q : Nat → MA.Q4) (i j x : Nat) : ldn n q (.cross i j) x = q (if bit (wt n i) x = bit (wt n j) x then x else flp (wt n j) (flp (wt n i) x)) := rfl
theorem no_tie {n i j : Nat} (hi : i < n) (hj : j < n) (hij : i ≠ j) (q : Nat → MA.Q4) (x : Nat) : ldn n (ldn n q (.tie i j)) (.tie i j) x = q x := by
  have b1 : bit (wt n i) (flp (wt n j) x) = bit (wt n i) x := MA.bit_flp hj hi (Ne.symm hij)
  have f := MA.flp_flp (w := wt n j) (p := x) (MA.wt_pos n j)
  rw [tie_eq, tie_eq]
  by_cases h : bit (wt n i) x = 0
  · simp only [h, if_true]
  · simp only [h, if_false, b1, f]
theorem no_sign {n i j : Nat} (q : Nat → MA.Q4) (x : Nat) : ldn n (ldn n q (.sign i j)) (.sign i j) x = q x := by
  show MA.tnn (4 * bit (wt n i) x * bit (wt n j) x) (MA.tnn (4 * bit (wt n i) x * bit (wt n j) x) (q x)) = q x
  rw [← MA.tnn_add, show 4 * bit (wt n i) x * bit (wt n j) x + 4 * bit (wt n i) x * bit (wt n j) x = 8 * (bit (wt n i) x * bit (wt n j) x) by rw [Nat.mul_assoc]; omega, tnn_8]
/-- the bits of two wires behind flips -/
theorem bts {n i j : Nat} (hi : i < n) (hj : j < n) (hij : i ≠ j) (x : Nat) : bit (wt n i) (flp (wt n j) x) = bit (wt n i) x ∧ bit (wt n j) (flp (wt n i) x) = bit (wt n j) x ∧ bit (wt n i) (flp (wt n i) x) = 1 - bit (wt n i) x ∧ bit (wt n j) (flp (wt n j) x) = 1 - bit (wt n j) x :=
  ⟨MA.bit_flp hj hi (Ne.symm hij), MA.bit_flp hi hj hij, MA.bit_flp_same (MA.wt_pos n i), MA.bit_flp_same (MA.wt_pos n j)⟩
theorem no_cross {n i j : Nat} (hi : i < n) (hj : j < n) (hij : i ≠ j) (q : Nat → MA.Q4) (x : Nat) : ldn n (ldn n q (.cross i j)) (.cross i j) x = q x := by
  obtain ⟨c1, c2, c3, c4⟩ := bts hi hj hij x
  obtain ⟨d1, d2, d3, d4⟩ := bts hi hj hij (flp (wt n i) x)
  have l1 := MA.bit_lt (wt n i) x
  have l2 := MA.bit_lt (wt n j) x
  rw [cross_eq, cross_eq]
  by_cases h : bit (wt n i) x = bit (wt n j) x
  · simp only [h, if_true]
  · rw [if_neg h, d1, d4, c3, c2, if_neg (by omega)]
    rw [← MA.flp_comm (p := flp (wt n i) x) hi hj hij, MA.flp_flp (w := wt n i) (MA.wt_pos n i), MA.flp_flp (MA.wt_pos n j)]
/-- a row and the row that undoes it -/
noncomputable def backR : Row → Row
  | .turn j e => .turn j (8 - e)
  | r => r
theorem no_back {n : Nat} {r : Row} (hr : r.ok n) (q : Nat → MA.Q4) (x : Nat) : ldn n (ldn n q r) (backR r) x = MA.Q4.rtn (2 * swn r) (q x) := by
  cases r with
  | swing j => exact no_swing q x
  | turn j e => exact no_turn (by have := hr.2.2; omega) q x
  | flip j => exact no_flip q x
  | tie i j => exact no_tie hr.1 hr.2.1 hr.2.2 q x
  | sign i j => exact no_sign q x
  | cross i j => exact no_cross hr.1 hr.2.1 hr.2.2 q x
theorem no_hzhx {n j : Nat} (q : Nat → MA.Q4) (x : Nat) : ldn n (ldn n (ldn n (ldn n q (.swing j)) (.turn j 4)) (.swing j)) (.flip j) x = MA.Q4.rtn 2 (q x) := by
  have w := MA.wt_pos n j
  have b := MA.bit_flp_same (w := wt n j) (p := x) w
  have f := MA.flp_flp (w := wt n j) (p := x) w
  have l := MA.bit_lt (wt n j) x
  show ldn n (ldn n (ldn n q (.swing j)) (.turn j 4)) (.swing j) (flp (wt n j) x) = _
  rw [sw_eq n _ j (flp (wt n j) x), f, b]
  show (if 1 - bit (wt n j) x = 0 then MA.Q4.add (MA.tnn (4 * bit (wt n j) (flp (wt n j) x)) (ldn n q (.swing j) (flp (wt n j) x))) (MA.tnn (4 * bit (wt n j) x) (ldn n q (.swing j) x)) else MA.Q4.add (MA.tnn (4 * bit (wt n j) x) (ldn n q (.swing j) x)) (MA.tnn 4 (MA.tnn (4 * bit (wt n j) (flp (wt n j) x)) (ldn n q (.swing j) (flp (wt n j) x))))) = _
  rw [sw_eq n q j x, sw_eq n q j (flp (wt n j) x), b, f, rtn2]
  generalize q x = A
  generalize q (flp (wt n j) x) = B
  by_cases h : bit (wt n j) x = 0
  · simp [h, tnn4, MA.tnn, MA.Q4.tn, MA.Q4.add]; omega
  · have h1 : bit (wt n j) x = 1 := by omega
    simp [h1, tnn4, MA.tnn, MA.Q4.tn, MA.Q4.add]; omega
theorem no_ties {n i j : Nat} (hi : i < n) (hj : j < n) (hij : i ≠ j) (q : Nat → MA.Q4) (x : Nat) : ldn n (ldn n (ldn n (ldn n q (.tie i j)) (.tie j i)) (.tie i j)) (.cross j i) x = q x := by
  have l1 := MA.bit_lt (wt n i) x
  have l2 := MA.bit_lt (wt n j) x
  have fi : ∀ y, flp (wt n i) (flp (wt n i) y) = y := fun y => MA.flp_flp (MA.wt_pos n i)
  have fj : ∀ y, flp (wt n j) (flp (wt n j) y) = y := fun y => MA.flp_flp (MA.wt_pos n j)
  have fc : ∀ y, flp (wt n j) (flp (wt n i) y) = flp (wt n i) (flp (wt n j) y) := fun y => MA.flp_comm hi hj hij
  have c1 : ∀ y, bit (wt n i) (flp (wt n j) y) = bit (wt n i) y := fun y => (bts hi hj hij y).1
  have c2 : ∀ y, bit (wt n j) (flp (wt n i) y) = bit (wt n j) y := fun y => (bts hi hj hij y).2.1
  have c3 : ∀ y, bit (wt n i) (flp (wt n i) y) = 1 - bit (wt n i) y := fun y => (bts hi hj hij y).2.2.1
  have c4 : ∀ y, bit (wt n j) (flp (wt n j) y) = 1 - bit (wt n j) y := fun y => (bts hi hj hij y).2.2.2
  rw [cross_eq, tie_eq, tie_eq, tie_eq]
  rcases (by omega : bit (wt n i) x = 0 ∨ bit (wt n i) x = 1) with h | h <;> rcases (by omega : bit (wt n j) x = 0 ∨ bit (wt n j) x = 1) with k | k <;> simp [h, k, c1, c2, c3, c4, fi, fj, fc]
theorem no_hcz {n i j : Nat} (hi : i < n) (hj : j < n) (hij : i ≠ j) (q : Nat → MA.Q4) (x : Nat) : ldn n (ldn n (ldn n (ldn n q (.sign i j)) (.swing j)) (.tie i j)) (.swing j) x = MA.Q4.rtn 2 (q x) := by
  have l1 := MA.bit_lt (wt n i) x
  have l2 := MA.bit_lt (wt n j) x
  have fj : ∀ y, flp (wt n j) (flp (wt n j) y) = y := fun y => MA.flp_flp (MA.wt_pos n j)
  have c1 : ∀ y, bit (wt n i) (flp (wt n j) y) = bit (wt n i) y := fun y => (bts hi hj hij y).1
  have c4 : ∀ y, bit (wt n j) (flp (wt n j) y) = 1 - bit (wt n j) y := fun y => (bts hi hj hij y).2.2.2
  have sg : ∀ y, ldn n q (.sign i j) y = MA.tnn (4 * bit (wt n i) y * bit (wt n j) y) (q y) := fun _ => rfl
  rw [sw_eq, tie_eq, tie_eq, rtn2]
  rcases (by omega : bit (wt n i) x = 0 ∨ bit (wt n i) x = 1) with h | h <;> rcases (by omega : bit (wt n j) x = 0 ∨ bit (wt n j) x = 1) with k | k <;> simp [h, k, c1, c4, fj, sw_eq, sg, tnn4, MA.tnn, MA.Q4.tn, MA.Q4.add] <;> omega
theorem glob_turn {n j e : Nat} (q : Nat → MA.Q4) (x : Nat) : ldn n (ldn n (ldn n (ldn n q (.flip j)) (.turn j e)) (.flip j)) (.turn j e) x = MA.tnn e (q x) := by
  have w := MA.wt_pos n j
  have b := MA.bit_flp_same (w := wt n j) (p := x) w
  have f := MA.flp_flp (w := wt n j) (p := x) w
  have l := MA.bit_lt (wt n j) x
  show MA.tnn (e * bit (wt n j) x) (MA.tnn (e * bit (wt n j) (flp (wt n j) x)) (q (flp (wt n j) (flp (wt n j) x)))) = _
  rw [b, f, ← MA.tnn_add, ← Nat.mul_add, show bit (wt n j) x + (1 - bit (wt n j) x) = 1 by omega, Nat.mul_one]

/-! ### whole circuits that differ by moves -/
noncomputable def ldnL (n : Nat) : (Nat → MA.Q4) → List Row → Nat → MA.Q4
  | q, [] => q
  | q, r :: rs => ldnL n (ldn n q r) rs
noncomputable def swL : List Row → Nat
  | [] => 0
  | r :: rs => swn r + swL rs
theorem ldnL_app (n : Nat) : ∀ (as bs : List Row) (q : Nat → MA.Q4), ldnL n q (as ++ bs) = ldnL n (ldnL n q as) bs
  | [], _, _ => rfl
  | a :: as, bs, q => ldnL_app n as bs (ldn n q a)
theorem swL_app : ∀ as bs : List Row, swL (as ++ bs) = swL as + swL bs
  | [], bs => (Nat.zero_add _).symm
  | a :: as, bs => by show swn a + swL (as ++ bs) = swn a + swL as + swL bs; rw [swL_app as bs]; omega
theorem linL_t (n e : Nat) : ∀ (rs : List Row) (q : Nat → MA.Q4) (x : Nat), ldnL n (fun y => MA.tnn e (q y)) rs x = MA.tnn e (ldnL n q rs x)
  | [], _, _ => rfl
  | r :: rs, q, x => by
    have h : ldn n (fun y => MA.tnn e (q y)) r = fun y => MA.tnn e (ldn n q r y) := funext (lin_t n q e r)
    show ldnL n (ldn n (fun y => MA.tnn e (q y)) r) rs x = _
    rw [h]
    exact linL_t n e rs (ldn n q r) x
theorem linL_r (n k : Nat) : ∀ (rs : List Row) (q : Nat → MA.Q4) (x : Nat), ldnL n (fun y => MA.Q4.rtn k (q y)) rs x = MA.Q4.rtn k (ldnL n q rs x)
  | [], _, _ => rfl
  | r :: rs, q, x => by
    have h : ldn n (fun y => MA.Q4.rtn k (q y)) r = fun y => MA.Q4.rtn k (ldn n q r y) := funext (lin_r n q k r)
    show ldnL n (ldn n (fun y => MA.Q4.rtn k (q y)) r) rs x = _
    rw [h]
    exact linL_r n k rs (ldn n q r) x
/-- the rows bs do what the rows as do, turned by e -/
noncomputable def Mv (n : Nat) (as bs : List Row) (e : Nat) : Prop := ∀ q x, MA.Q4.rtn (swL as) (ldnL n q bs x) = MA.Q4.rtn (swL bs) (MA.tnn e (ldnL n q as x))
theorem Mv.refl (n : Nat) (as : List Row) : Mv n as as 0 := fun _ _ => rfl
theorem Mv.trans {n e f : Nat} {as bs cs : List Row} (h : Mv n as bs e) (k : Mv n bs cs f) : Mv n as cs (e + f) := fun q x => by
  apply MA.Q4.rtn_inj (n := swL bs)
  rw [MA.rtn_swap (swL bs) (swL as), k q x, MA.rtn_swap (swL as) (swL cs), ← MA.tnn_rtn, h q x, MA.tnn_rtn, ← MA.tnn_add, Nat.add_comm f e, MA.rtn_swap (swL cs)]
/-- rows that come to nothing, or to a turn -/
noncomputable def Nil (n : Nat) (more : List Row) (e : Nat) : Prop := ∀ q x, ldnL n q more x = MA.Q4.rtn (swL more) (MA.tnn e (q x))
theorem Mv.put {n e : Nat} {more : List Row} (h : Nil n more e) (pre post : List Row) : Mv n (pre ++ post) (pre ++ more ++ post) e := fun q x => by
  have h1 : ldnL n (ldnL n q pre) more = fun y => MA.Q4.rtn (swL more) (MA.tnn e (ldnL n q pre y)) := funext (h _)
  rw [ldnL_app, ldnL_app, ldnL_app, h1, linL_r n (swL more) post (fun y => MA.tnn e (ldnL n q pre y)), linL_t, swL_app, swL_app, swL_app, ← MA.Q4.rtn_add]
  congr 1
  omega
theorem Mv.swap {n : Nat} {r s : Row} (hr : r.ok n) (hs : s.ok n) (ap : apartR r s) (pre post : List Row) : Mv n (pre ++ r :: s :: post) (pre ++ s :: r :: post) 0 := fun q x => by
  have h1 : ldn n (ldn n (ldnL n q pre) r) s = ldn n (ldn n (ldnL n q pre) s) r := funext (row_com _ hr hs ap)
  have e1 : ldnL n q (pre ++ r :: s :: post) = ldnL n (ldn n (ldn n (ldnL n q pre) r) s) post := by rw [ldnL_app]; rfl
  have e2 : ldnL n q (pre ++ s :: r :: post) = ldnL n (ldn n (ldn n (ldnL n q pre) s) r) post := by rw [ldnL_app]; rfl
  have s1 : swL (pre ++ r :: s :: post) = swL (pre ++ s :: r :: post) := by
    rw [swL_app, swL_app]
    show _ + (swn r + (swn s + swL post)) = _ + (swn s + (swn r + swL post))
    omega
  rw [e1, e2, h1, s1]; rfl
theorem nil_back {n : Nat} {r : Row} (hr : r.ok n) : Nil n [r, backR r] 0 := fun q x => by
  have s : swL [r, backR r] = 2 * swn r := by
    cases r <;> rfl
  rw [s]
  exact no_back hr q x
theorem nil_hzhx (n j : Nat) : Nil n [.swing j, .turn j 4, .swing j, .flip j] 0 := fun q x => no_hzhx q x
theorem nil_turn {n j e : Nat} (he : e ≤ 8) : Nil n [.turn j e, .turn j (8 - e)] 0 := fun q x => no_turn he q x
theorem nil_ties {n i j : Nat} (hi : i < n) (hj : j < n) (hij : i ≠ j) : Nil n [.tie i j, .tie j i, .tie i j, .cross j i] 0 := fun q x => no_ties hi hj hij q x
theorem nil_hcz {n i j : Nat} (hi : i < n) (hj : j < n) (hij : i ≠ j) : Nil n [.sign i j, .swing j, .tie i j, .swing j] 0 := fun q x => no_hcz hi hj hij q x
theorem nil_glob (n j e : Nat) : Nil n [.flip j, .turn j e, .flip j, .turn j e] e := fun q x => glob_turn q x
/-! ### a number that is not nought has eight turns -/
theorem tn_fix {d : Nat} (h0 : 0 < d) (h8 : d < 8) {u : MA.Q4} (h : MA.tnn d u = u) : u = ⟨0, 0, 0, 0⟩ := by
  obtain ⟨a, b, c, e⟩ := u
  have : d = 1 ∨ d = 2 ∨ d = 3 ∨ d = 4 ∨ d = 5 ∨ d = 6 ∨ d = 7 := by omega
  rcases this with rfl | rfl | rfl | rfl | rfl | rfl | rfl <;> simp [MA.tnn, MA.Q4.tn] at h <;> apply MA.Q4.ext' <;> simp only <;> omega
theorem tnn_inj8 {a b : Nat} (ha : a < 8) (hb : b < 8) {u : MA.Q4} (hu : u ≠ ⟨0, 0, 0, 0⟩) (h : MA.tnn a u = MA.tnn b u) : a = b := by
  have go : ∀ a b : Nat, a < b → b < 8 → MA.tnn a u = MA.tnn b u → False := fun a b hab hb h => by
    have e : MA.tnn (b - a) (MA.tnn a u) = MA.tnn a u := by rw [← MA.tnn_add, show b - a + a = b by omega, h]
    have z := tn_fix (by omega) (by omega) e
    have : MA.tnn (8 - a) (MA.tnn a u) = u := by rw [← MA.tnn_add, show 8 - a + a = 8 * 1 by omega, tnn_8]
    rw [z] at this
    have zz : ∀ k, MA.tnn k ⟨0, 0, 0, 0⟩ = ⟨0, 0, 0, 0⟩ := fun k => by
      induction k with
      | zero => rfl
      | succ k ih => show MA.Q4.tn (MA.tnn k _) = _; rw [ih]; rfl
    rw [zz] at this
    exact hu this.symm
  rcases Nat.lt_trichotomy a b with q | q | q
  · exact (go a b q hb h).elim
  · exact q
  · exact (go b a q ha h.symm).elim

theorem doneL_least {n : Nat} : ∀ (rs : List Row) {f : Nat → Nu}, (∀ q, MA.LeastN (f q)) → ∀ q, MA.LeastN (doneL n f rs q)
  | [], _, h => h
  | r :: rs, _, h => doneL_least rs (MA.done_least h n r)
/-! ### states of circuits that differ by moves -/
noncomputable def Rl (M s : Nat) (f : Nat → Nu) (q : Nat → MA.Q4) : Prop := ∀ x, MA.val M (f x) = MA.Q4.rtn (M - s) (q x)
theorem Rl.done {M s n k p : Nat} {f : Nat → Nu} {q : Nat → MA.Q4} (h : Rl M s f q) (hb : Bd k p f) (hk : k + 1 ≤ M) (hs : s + 1 ≤ M) (r : Row) : Rl M (s + swn r) (doneAt n f r) (ldn n q r) := fun x => by
  have tn : ∀ e, MA.val M (MA.turnN e (f x)) = MA.Q4.rtn (M - s) (MA.tnn e (q x)) := fun e => by rw [MA.val_turn, h x, MA.tnn_mod, MA.tnn_rtn]
  cases r with
  | swing j =>
    have e := MA.val_swing (n := n) (M := M) (j := j) (f := f) (fun y => by have := (hb y).1; omega) x
    refine MA.Q4.rt_inj (e.trans ?_)
    show _ = MA.Q4.rt (MA.Q4.rtn (M - (s + 1)) (if bit (wt n j) x = 0 then MA.Q4.add (q x) (q (x + wt n j)) else MA.Q4.add (q (x - wt n j)) (MA.tnn 4 (q x))))
    rw [← MA.Q4.rtn_succ, show M - (s + 1) + 1 = M - s by omega]
    by_cases hx : bit (wt n j) x = 0
    · rw [if_pos hx, if_pos hx, h, h, MA.Q4.rtn_addQ]
    · rw [if_neg hx, if_neg hx, h, h, MA.Q4.rtn_addQ, MA.tnn_rtn]
  | turn j e => exact tn _
  | sign i j => exact tn _
  | flip j => exact h _
  | tie i j => exact h _
  | cross i j => exact h _
theorem sw_le (r : Row) : swn r ≤ 1 := by cases r <;> simp [swn]
theorem swL_le : ∀ rs : List Row, swL rs ≤ rs.length
  | [] => Nat.le_refl _
  | r :: rs => by have := sw_le r; have := swL_le rs; show swn r + swL rs ≤ rs.length + 1; omega
theorem Rl.all {M n : Nat} : ∀ (rs : List Row) (s k p : Nat) (f : Nat → Nu) (q : Nat → MA.Q4), Rl M s f q → Bd k p f → k + rs.length ≤ M → s + rs.length ≤ M → Rl M (s + swL rs) (doneL n f rs) (ldnL n q rs) ∧ ∃ p', Bd (k + rs.length) p' (doneL n f rs)
  | [], s, k, p, f, q, h, hb, _, _ => ⟨h, p, hb⟩
  | r :: rs, s, k, p, f, q, h, hb, hk, hs => by
    simp only [List.length_cons] at hk hs
    have sr := sw_le r
    obtain ⟨h1, p', h2⟩ := Rl.all rs (s + swn r) (k + 1) (p + k + 1) _ _ (h.done hb (by omega) (by omega) r) (hb.done n r) (by omega) (by omega)
    refine ⟨?_, p', ?_⟩
    · rw [show s + swL (r :: rs) = s + swn r + swL rs by show s + (swn r + swL rs) = _; omega]; exact h1
    · show Bd (k + (rs.length + 1)) p' _
      rw [show k + (rs.length + 1) = k + 1 + rs.length by omega]; exact h2
theorem mv_state {n e p : Nat} {as bs : List Row} (mv : Mv n as bs e) (la : as.length ≤ 60) (lb : bs.length ≤ 60) {f : Nat → Nu} (hf : ∀ x, (f x).2 = 0) (hl : ∀ x, MA.LeastN (f x)) (hb : Bd 0 p f) (x : Nat) : doneL n f bs x = MA.turnN e (doneL n f as x) := by
  have r0 : Rl 60 0 f (fun y => (f y).1) := fun y => by show MA.Q4.rtn (60 - (f y).2) (f y).1 = _; rw [hf y]
  obtain ⟨ra, pa, ba⟩ := Rl.all (M := 60) (n := n) as 0 0 p f _ r0 hb (by omega) (by omega)
  obtain ⟨rb, pb, bb⟩ := Rl.all (M := 60) (n := n) bs 0 0 p f _ r0 hb (by omega) (by omega)
  rw [Nat.zero_add] at ra rb ba bb
  have sa := swL_le as
  have sb := swL_le bs
  have l1 : MA.LeastN (doneL n f bs x) := doneL_least bs hl x
  have l2 : MA.LeastN (doneL n f as x) := doneL_least as hl x
  refine MA.val_inj (M := 60) l1 (MA.turn_least e l2) (by have := (bb x).1; omega) (by have := (ba x).1; show (doneL n f as x).2 ≤ 60; omega) ?_
  rw [MA.val_turn, MA.tnn_mod]
  apply MA.Q4.rtn_inj (n := swL as)
  rw [rb x, ra x, MA.rtn_swap (swL as), mv _ x, ← MA.Q4.rtn_add, MA.tnn_rtn, ← MA.Q4.rtn_add]
  congr 1
  omega

/-! ### not all nought -/
theorem sumI_pos {F : Nat → Int} : ∀ (N p0 : Nat), (∀ p, p < N → 0 ≤ F p) → p0 < N → 0 < F p0 → 0 < MA.sumI N F
  | 0, _, _, h, _ => absurd h (Nat.not_lt_zero _)
  | N + 1, p0, hn, h, hp => by
    have nn : 0 ≤ MA.sumI N F := by
      have : ∀ M, M ≤ N → 0 ≤ MA.sumI M F := fun M => by
        induction M with
        | zero => intro _; exact Int.le_refl _
        | succ M ih => intro hM; have := ih (by omega); have := hn M (by omega); show 0 ≤ MA.sumI M F + F M; omega
      exact this N (Nat.le_refl _)
    show 0 < MA.sumI N F + F N
    by_cases q : p0 = N
    · subst q; omega
    · have := sumI_pos N p0 (fun p h => hn p (by omega)) (by omega) hp
      have := hn N (by omega)
      omega
theorem doneL_nsum {n M : Nat} : ∀ (rs : List Row), (∀ r ∈ rs, r.ok n) → ∀ {k p : Nat} {f : Nat → Nu}, Bd k p f → k + rs.length ≤ M → MA.nsum M n (doneL n f rs) = MA.nsum M n f
  | [], _, _, _, _, _, _ => rfl
  | r :: rs, hr, k, p, f, hb, hk => by
    simp only [List.length_cons] at hk
    show MA.nsum M n (doneL n (doneAt n f r) rs) = _
    rw [doneL_nsum rs (fun q hq => hr q (List.mem_cons_of_mem _ hq)) (hb.done n r) (by omega), MA.nsum_done r (hr r List.mem_cons_self) f fun q => by have := (hb q).1; omega]
theorem sumI_zero (N : Nat) (F : Nat → Int) (h : ∀ p, p < N → F p = 0) : MA.sumI N F = 0 := by
  induction N with
  | zero => rfl
  | succ N ih => show MA.sumI N F + F N = 0; rw [ih fun p hp => h p (by omega), h N (by omega)]; rfl
theorem st_some {n p : Nat} (rs : List Row) (hr : ∀ r ∈ rs, r.ok n) (hl : rs.length ≤ 60) {f : Nat → Nu} (hb : Bd 0 p f) (h0 : (f 0).1 ≠ ⟨0, 0, 0, 0⟩) : ∃ x, x < 2 ^ n ∧ (doneL n f rs x).1 ≠ ⟨0, 0, 0, 0⟩ := by
  apply Classical.byContradiction
  intro no
  have z : ∀ x, x < 2 ^ n → (doneL n f rs x).1 = ⟨0, 0, 0, 0⟩ := fun x hx => Classical.byContradiction fun q => no ⟨x, hx, q⟩
  have e := congrArg MA.S2.p (doneL_nsum (M := 60) rs hr hb (by omega))
  have l : (MA.nsum 60 n (doneL n f rs)).p = 0 := sumI_zero _ _ fun x hx => by
    show (MA.nrm (MA.Q4.rtn _ (doneL n f rs x).1)).p = 0
    rw [z x hx, MA.rtn_zero]; rfl
  have g : 0 < (MA.nsum 60 n f).p := sumI_pos _ 0 (fun x _ => (MA.nrm_nn _).1) (Nat.pow_pos (by decide)) (by
    have nn := (MA.nrm_nn (MA.val 60 (f 0))).1
    have ne : (MA.nrm (MA.val 60 (f 0))).p ≠ 0 := fun q => h0 (MA.Q4.rtn_inj (n := 60 - (f 0).2) ((MA.nrm_zero q).trans (MA.rtn_zero _).symm))
    omega)
  rw [l] at e
  omega
/-! ### states compared -/
theorem eqv_num (u v : Nu) : PyData.eqv (numD u) (numD v) = true → u = v := by
  obtain ⟨⟨a, b, c, d⟩, k⟩ := u
  obtain ⟨⟨a', b', c', d'⟩, k'⟩ := v
  show PyData.eqv (.tuple [.int a, .int b, .int c, .int d, .int (k : Int)]) (.tuple [.int a', .int b', .int c', .int d', .int (k' : Int)]) = true → _
  simp [PyData.eqv, PyData.eqvAll]
  intro h1 h2 h3 h4 h5
  exact ⟨⟨h1, h2, h3, h4⟩, by omega⟩
theorem eqvAll_map (A B : Nat → Nu) : ∀ l : List Nat, PyData.eqvAll (l.map fun x => numD (A x)) (l.map fun x => numD (B x)) = true → ∀ x ∈ l, A x = B x
  | [], _, x, hx => (nomatch hx)
  | a :: l, h, x, hx => by
    have h : (PyData.eqv (numD (A a)) (numD (B a)) && PyData.eqvAll (l.map fun x => numD (A x)) (l.map fun x => numD (B x))) = true := h
    rw [Bool.and_eq_true] at h
    rcases List.mem_cons.mp hx with rfl | hx
    · exact eqv_num _ _ h.1
    · exact eqvAll_map A B l h.2 x hx
theorem sh_num (u : Nu) : MA.Sh 1 (numD u) := MA.Sh.tuple fun x hx => by
  simp only [List.mem_cons, List.not_mem_nil, or_false] at hx
  rcases hx with rfl | rfl | rfl | rfl | rfl <;> exact MA.Sh.int 0 _
theorem sh_st (n : Nat) (f : Nat → Nu) : MA.Sh 2 (stD n f) := MA.Sh.tuple fun y hy => by
  obtain ⟨p, _, rfl⟩ := List.mem_map.mp hy
  exact sh_num _
theorem shp_of {d : D} {k : Nat} (h : MA.Sh k d) (hk : k ≤ 64) : shp d = true := by
  show (d.canLay0 && decide (d.depth ≤ 64)) = true
  rw [h.1, decide_eq_true (Nat.le_trans h.2 hk)]; rfl
theorem st_ne {n : Nat} {A B : Nat → Nu} (h : ∃ x, x < 2 ^ n ∧ A x ≠ B x) : eqD (stD n A) (stD n B) = some (.bool false) := by
  obtain ⟨x, hx, ne⟩ := h
  unfold eqD
  rw [if_pos ⟨shp_of (sh_st n A) (by decide), shp_of (sh_st n B) (by decide)⟩]
  have : PyData.eqv (stD n A) (stD n B) = false := by
    cases q : PyData.eqv (stD n A) (stD n B) with
    | false => rfl
    | true => exact absurd (eqvAll_map A B (List.range (2 ^ n)) q x (List.mem_range.mpr hx)) ne
  rw [this]
/-! ### turn_to -/
theorem tt_p {n : Nat} (hn : n ≤ 6) (F : Nat → Nu) (z1 : Sl) (e : Nat) : p1_turn_to [.fz (stD n F), z1, .fz (.int (e : Nat))] = some (.list ((List.range (2 ^ n)).map fun x => numD (MA.turnN e (F x)))) := by
  have sq : (2 ^ n : Nat) ≤ 64 := (Nat.pow_le_pow_right (by decide) hn : 2 ^ n ≤ 2 ^ 6)
  refine comp_map (h := fun x => numD (F x)) (k := fun x => numD (MA.turnN e (F x))) (xs := List.range (2 ^ n)) (by simp [stD]) (by rw [List.length_range]; omega) fun x _ => ?_
  have := turned_n hn (F x) e
  simp [capS, this]
theorem tt_x (X Y : D) (L : List D) (e : Int) (b : Bool) (p : p1_turn_to [.fz X, .fz Y, .fz (.int e)] = some (.list L)) (q : eqD (.tuple L) Y = some (.bool b)) : l1_turn_to [.fz X, .fz Y, .fz (.int e)] = some (if b = true then .rt (.int e) else .nx, [.fz X, .fz Y, .fz (.int e)]) := by
  cases b <;> simp [l1_turn_to, p, q]
theorem tt_loop {X Y : D} (e0 : Nat) (st : ∀ e : Nat, e < 8 → l1_turn_to [.fz X, .fz Y, .fz (.int (e : Nat))] = some (if decide (e = e0) = true then .rt (.int (e : Nat)) else .nx, [.fz X, .fz Y, .fz (.int (e : Nat))])) : ∀ (m i : Nat) (z : Sl), i + m ≤ 8 → i ≤ e0 → e0 < i + m → loop (gN 2) l1_turn_to ((List.range' i m).map fun k : Nat => PyData.int (0 + (k : Int))) [.fz X, .fz Y, z] = some (.rt (.int (e0 : Nat)), [.fz X, .fz Y, .fz (.int (e0 : Nat))])
  | 0, i, z, _, h1, h2 => by omega
  | m + 1, i, z, h, h1, h2 => by
    rw [List.range'_succ, List.map_cons, Int.zero_add]
    by_cases q : i = e0
    · subst q
      have s := st i (by omega)
      rw [if_pos (by simp)] at s
      exact loop_ret (δ1 := [.fz X, .fz Y, .fz (.int (i : Nat))]) (by simp) s
    · have s := st i (by omega)
      rw [if_neg (by simp [q])] at s
      rw [loop_step (δ1 := [.fz X, .fz Y, .fz (.int (i : Nat))]) (by simp) s]
      exact tt_loop e0 st m (i + 1) _ (by omega) (by omega) (by omega)
theorem tt_y (X Y : D) (L : List D) (R : D) (δ : Dv) (rg : rng1D [.int 8] = some L) (lp : loop (gN 2) l1_turn_to L [.fz X, .fz Y, .un] = some (.rt R, δ)) : g_turn_to [X, Y] = some R := by
  simp [g_turn_to, runB, b_turn_to, startD, rg, lp]
theorem turnto_eq {n : Nat} (hn : n ≤ 6) (F : Nat → Nu) (e : Nat) (some : ∃ x, x < 2 ^ n ∧ (F x).1 ≠ ⟨0, 0, 0, 0⟩) : g_turn_to [stD n F, stD n fun x => MA.turnN e (F x)] = Option.some (.int ((e % 8 : Nat) : Int)) := by
  obtain ⟨x0, hx, ne⟩ := some
  have st : ∀ a : Nat, a < 8 → l1_turn_to [.fz (stD n F), .fz (stD n fun x => MA.turnN e (F x)), .fz (.int (a : Nat))] = Option.some (if decide (a = e % 8) = true then .rt (.int (a : Nat)) else .nx, [.fz (stD n F), .fz (stD n fun x => MA.turnN e (F x)), .fz (.int (a : Nat))]) := fun a ha => by
    refine tt_x _ _ _ _ _ (tt_p hn F _ a) ?_
    by_cases q : a = e % 8
    · have h : (fun x => MA.turnN a (F x)) = fun x => MA.turnN e (F x) := funext fun x => by
        unfold MA.turnN
        rw [q, Nat.mod_mod]
      rw [decide_eq_true q]
      show eqD (stD n fun x => MA.turnN a (F x)) (stD n fun x => MA.turnN e (F x)) = _
      rw [h]
      exact eq_self (sh_st n _) (by decide)
    · rw [decide_eq_false q]
      exact st_ne (A := fun x => MA.turnN a (F x)) (B := fun x => MA.turnN e (F x)) ⟨x0, hx, fun z => q (tnn_inj8 ha (Nat.mod_lt _ (by decide)) ne (by
        have := congrArg Prod.fst z
        unfold MA.turnN at this
        rw [Nat.mod_eq_of_lt ha] at this
        exact this))⟩
  have lp := tt_loop (e % 8) st 8 0 .un (by omega) (Nat.zero_le _) (Nat.mod_lt _ (by decide))
  exact tt_y _ _ _ _ _ rfl lp

/-! ### the columns of both, at once -/
theorem shlN (w : Nat) (h : w ≤ 100000) : shlD (.int 1) (.int (w : Int)) = some (.int ((2 ^ w : Nat) : Int)) := by
  have hb : Builtin.Int.intBits 1 = 1 := by decide +kernel
  have e := shlD_int (i := 1) (j := (w : Int)) (by omega) (by omega)
  rw [e]
  simp
noncomputable def begA (a : Nat) : Nat → Nu := fun b => (⟨((2 ^ (a * b) : Nat) : Int), 0, 0, 0⟩, 0)
theorem begA_least (a x : Nat) : MA.LeastN (begA a x) := ⟨by simp [begA], fun z => by simp [begA] at z⟩
theorem ca_i (C A : D) (z2 : Sl) (n M : Int) (R : List D) (c0 : ixD C (.int 0) = some (.int n)) (sh : shlD (.int 1) (.int n) = some (.int M)) (rg : rng1D [.int M] = some R) : (oL (oCons (o2 (oC (.int 1)) (o2 (oV 0) (oC (.int 0)) ixD) shlD) (oNil)) rng1D) [.fz C, .fz A, z2] = some R := by
  simp [c0, sh, rg]
theorem ca_e (a b : Nat) (ha : a ≤ 100) (hb : b ≤ 100) : (VL.os (oCons (o2 (oC (.int 1)) (o2 (oV 1) (oV 0) mulI) shlD) (oCons (oC (.int 0)) (oCons (oC (.int 0)) (oCons (oC (.int 0)) (oCons (oC (.int 0)) (oNil)))))) tupD) [.fz (.int (b : Nat)), .fz (.int (a : Nat))] = some (numD (begA a b)) := by
  have mk : IntMulOk (a : Int) (b : Int) := .of_left (Nat.le_trans (MA.bits_le (m := 7) (by omega)) (by decide))
  have m : mulI (.int (a : Nat)) (.int (b : Nat)) = some (.int ((a * b : Nat) : Int)) := by rw [mulI_int mk]; norm_cast
  have le : a * b ≤ 100 * 100 := Nat.mul_le_mul ha hb
  have s := shlN (a * b) (by omega)
  simp only [VL.os, oCons, oNil, o2, oV, oC, slV, List.getElem?_cons_zero, List.getElem?_cons_succ, Option.bind_some, m, s]
  rfl
theorem ca_p {n : Nat} (hn : n ≤ 4) (C : D) (a : Nat) (ha : a ≤ 100) (z2 : Sl) (c0 : ixD C (.int 0) = some (.int (n : Nat))) : p1_columns_apart [.fz C, .fz (.int (a : Nat)), z2] = some (.list ((List.range (2 ^ n)).map fun b => numD (begA a b))) := by
  have sq : (2 ^ n : Nat) ≤ 16 := (Nat.pow_le_pow_right (by decide) hn : 2 ^ n ≤ 2 ^ 4)
  exact comp_r0 (N := 2 ^ n) (y := fun b => numD (begA a b)) (ca_i C _ z2 n _ _ c0 (shl1 n (by omega)) (rng_pow n (by omega))) (by omega) fun b hb => ca_e a b ha (by omega)
theorem ca_x (C A R Y : D) (L : List D) (c1 : ixD C (.int 1) = some R) (p : ∀ z2, p1_columns_apart [.fz C, .fz A, z2] = some (.list L)) (h : g_all_done [.tuple L, R] = some Y) : g_columns_apart [C, A] = some Y := by
  simp [g_columns_apart, runB, b_columns_apart, startD, c1, p, h]
theorem begA_bd (a : Nat) (ha : a ≤ 100) (N : Nat) : ∀ x, x ≤ N → (begA a x).2 ≤ 0 ∧ MA.Q4.Le (2 ^ (a * N)) (begA a x).1 := fun x hx => ⟨Nat.le_refl _, by
  refine ⟨?_, Nat.zero_le _, Nat.zero_le _, Nat.zero_le _⟩
  show ((2 ^ (a * x) : Nat) : Int).natAbs ≤ _
  rw [Int.natAbs_natCast]
  exact Nat.pow_le_pow_right (by decide) (Nat.mul_le_mul_left _ hx)⟩
/-- the same state, nought beyond the places -/
noncomputable def begC (n a : Nat) : Nat → Nu := fun x => if x < 2 ^ n then begA a x else (⟨0, 0, 0, 0⟩, 0)
theorem begC_least (n a x : Nat) : MA.LeastN (begC n a x) := by
  unfold begC
  split
  · exact begA_least a x
  · exact ⟨by simp, fun z => by simp at z⟩
theorem begC_zero (n a x : Nat) : (begC n a x).2 = 0 := by
  unfold begC
  split <;> rfl
theorem begC_bd {n a : Nat} (hn : n ≤ 4) (ha : a ≤ 100) : Bd 0 1600 (begC n a) := fun x => by
  have sq : (2 ^ n : Nat) ≤ 16 := (Nat.pow_le_pow_right (by decide) hn : 2 ^ n ≤ 2 ^ 4)
  unfold begC
  split
  · rename_i h
    have b := begA_bd a ha 16 x (by omega)
    exact ⟨b.1, b.2.mono (Nat.pow_le_pow_right (by decide) (by have : a * 16 ≤ 100 * 16 := Nat.mul_le_mul_right _ ha; omega))⟩
  · exact ⟨Nat.le_refl _, Nat.zero_le _, Nat.zero_le _, Nat.zero_le _, Nat.zero_le _⟩
theorem st_begC (n a : Nat) : stD n (begC n a) = .tuple ((List.range (2 ^ n)).map fun b => numD (begA a b)) := by
  unfold stD
  congr 1
  exact List.map_congr_left fun b hb => by unfold begC; rw [if_pos (List.mem_range.mp hb)]
noncomputable def cpD (n : Nat) (rs : List Row) : D := .tuple [.int (n : Nat), .tuple (rs.map rowD)]
theorem cols_eq {n : Nat} (hn : n ≤ 4) (rs : List Row) (hr : ∀ r ∈ rs, r.ok n) (hl : rs.length ≤ 60) (a : Nat) (ha : a ≤ 100) : g_columns_apart [cpD n rs, .int (a : Nat)] = some (stD n (doneL n (begC n a) rs)) := by
  refine ca_x _ _ _ _ _ (at1 _ _ _) (fun z2 => ca_p hn _ a ha z2 (at0 _ _)) ?_
  rw [← st_begC]
  exact alld_eq (by omega) rs hr (begC_bd hn ha) (by omega) (by omega)
/-! ### plain circuits -/
theorem row_word (r : Row) : ∃ s : Str, ixD (rowD r) (.int 0) = some (.str s) ∧ eqD (.str s) (.str "swing") = some (.bool (isSw r)) ∧ inD false (.str s) (.tuple [.str "swing", .str "turn", .str "flip", .str "tie", .str "sign", .str "cross"]) = some (.bool true) := by
  cases r <;> exact ⟨_, at0 _ _, by simp [isSw], by simp⟩
theorem plain_eq (rs : List Row) (hl : rs.length ≤ 100000) : g_all_plain [.tuple (rs.map rowD)] = some (.bool true) := by
  have e : p1_all_plain [.fz (.tuple (rs.map rowD))] = some (.list (rs.map fun _ => .bool true)) := comp_map (k := fun _ => .bool true) (h := rowD) (by simp) (by omega) fun r _ => by
    obtain ⟨s, h0, _, h3⟩ := row_word r
    simp [h0, h3]
  have a := allD_map (fun _ : Row => true) rs
  have t : (rs.all fun _ => true) = true := List.all_eq_true.mpr fun _ _ => rfl
  simp [g_all_plain, runB, b_all_plain, startD, e, a]
theorem isplain_eq (n : Nat) (rs : List Row) (hl : rs.length ≤ 100000) : g_is_plain [cpD n rs] = some (.bool true) := by
  have h := plain_eq rs hl
  have c : ixD (cpD n rs) (.int 1) = some (.tuple (rs.map rowD)) := at1 _ _ _
  simp [g_is_plain, runB, b_is_plain, startD, c, h]
theorem ra_x (C1 C2 : D) (n : Int) (p1 : g_is_plain [C1] = some (.bool true)) (p2 : g_is_plain [C2] = some (.bool true)) (c1 : ixD C1 (.int 0) = some (.int n)) (c2 : ixD C2 (.int 0) = some (.int n)) : g_refuse_apart [C1, C2] = some .none := by
  have ne : neD (.int n) (.int n) = some (.bool false) := by
    have : neD (.int n) (.int n) = some (.bool (!(n == n))) := rfl
    rw [this, beq_self_eq_true]; rfl
  simp [g_refuse_apart, runB, b_refuse_apart, startD, p1, p2, c1, c2, ne]
theorem sws_eq (rs : List Row) (hl : rs.length ≤ 1000) : p1_turn_apart [.fz (.tuple (rs.map rowD))] = some (.list ((rs.filter isSw).map rowD)) :=
  compI_map (h := rowD) (b := isSw) (by simp) (by omega) (fun r _ => by
    obtain ⟨s, h0, h1, _⟩ := row_word r
    simp [capS, h0, h1]) fun r _ _ => by simp
theorem ta_p (C1 C2 R1 R2 : D) (L1 L2 : List D) (z2 z3 : Sl) (c1 : ixD C1 (.int 1) = some R1) (c2 : ixD C2 (.int 1) = some R2) (p1 : p1_turn_apart [.fz R1] = some (.list L1)) (p2 : p1_turn_apart [.fz R2] = some (.list L2)) : p2_turn_apart [.fz C1, .fz C2, z2, z3] = some (.list [.int L1.length, .int L2.length]) := by
  have := comp_map (fi := oI (VL.os (oCons (o2 (oV 0) (oC (.int 1)) ixD) (oCons (o2 (oV 1) (oC (.int 1)) ixD) (oNil))) tupD) itsD) (caps := []) (fe := VL.os (oCons (p1_turn_apart) (oNil)) lenD) (δ := [.fz C1, .fz C2, z2, z3]) (h := fun k : Bool => if k then R2 else R1) (k := fun k : Bool => if k then PyData.int L2.length else .int L1.length) (xs := [false, true]) (by simp [c1, c2]) (by simp) (fun x _ => by
    cases x
    · show (VL.os (oCons (p1_turn_apart) (oNil)) lenD) [.fz R1] = _
      simp [p1]
    · show (VL.os (oCons (p1_turn_apart) (oNil)) lenD) [.fz R2] = _
      simp [p2])
  exact this
theorem ta_x (C1 C2 K1 K2 R : D) (a b s : Int) (p : ∀ z2 z3, p2_turn_apart [.fz C1, .fz C2, z2, z3] = some (.list [.int a, .int b])) (hs : (if b > a then b else a) = s) (k1 : g_columns_apart [C1, .int (s / 2 + 2)] = some K1) (k2 : g_columns_apart [C2, .int (s / 2 + 2)] = some K2) (t : g_turn_to [K1, K2] = some R) : g_turn_apart [C1, C2] = some R := by
  have m : maxLD [.list [.int a, .int b]] = some (.int s) := by rw [← hs]; rfl
  simp [g_turn_apart, runB, b_turn_apart, startD, p, m, k1, k2, t]
theorem al_x (C1 C2 : D) (e : Int) (r : g_refuse_apart [C1, C2] = some .none) (t : g_turn_apart [C1, C2] = some (.int e)) : g_alike_paper [C1, C2] = some (.tuple [.str "alike", .int e]) := by
  have q : isntD (.int e) .none = some (.bool true) := rfl
  simp [g_alike_paper, runB, b_alike_paper, startD, r, t, q]
theorem alike_eq {n e : Nat} (hn : n ≤ 4) {as bs : List Row} (mv : Mv n as bs e) (ha : ∀ r ∈ as, r.ok n) (hb : ∀ r ∈ bs, r.ok n) (la : as.length ≤ 60) (lb : bs.length ≤ 60) : g_alike_paper [cpD n as, cpD n bs] = some (.tuple [.str "alike", .int ((e % 8 : Nat) : Int)]) := by
  have fa : (as.filter isSw).length ≤ 60 := Nat.le_trans (List.length_filter_le _ _) la
  have fb : (bs.filter isSw).length ≤ 60 := Nat.le_trans (List.length_filter_le _ _) lb
  obtain ⟨s, hs, hs2⟩ : ∃ s : Nat, (if (((bs.filter isSw).map rowD).length : Int) > ((as.filter isSw).map rowD).length then (((bs.filter isSw).map rowD).length : Int) else ((as.filter isSw).map rowD).length) = s ∧ s ≤ 60 := by
    rw [List.length_map, List.length_map]
    split
    · exact ⟨_, rfl, fb⟩
    · exact ⟨_, rfl, fa⟩
  have es : (s : Int) / 2 + 2 = ((s / 2 + 2 : Nat) : Int) := by omega
  have k1 := cols_eq hn as ha la (s / 2 + 2) (by omega)
  have k2 := cols_eq hn bs hb lb (s / 2 + 2) (by omega)
  rw [← es] at k1 k2
  have mvs : doneL n (begC n (s / 2 + 2)) bs = fun x => MA.turnN e (doneL n (begC n (s / 2 + 2)) as x) := funext fun x => mv_state mv la lb (begC_zero n _) (begC_least n _) (begC_bd hn (by omega)) x
  rw [mvs] at k2
  have tt := turnto_eq (n := n) (by omega) (doneL n (begC n (s / 2 + 2)) as) e (st_some as ha la (begC_bd hn (by omega)) (by
    unfold begC
    rw [if_pos (Nat.pow_pos (by decide))]
    intro z
    have := congrArg MA.Q4.a z
    simp [begA] at this))
  exact al_x _ _ _ (ra_x _ _ n (isplain_eq n as (by omega)) (isplain_eq n bs (by omega)) (at0 _ _) (at0 _ _)) (ta_x _ _ _ _ _ _ _ s (fun z2 z3 => ta_p _ _ _ _ _ _ z2 z3 (at1 _ _ _) (at1 _ _ _) (sws_eq as (by omega)) (sws_eq bs (by omega))) hs k1 k2 tt)
theorem Mv.symm {n e e' : Nat} {as bs : List Row} (h : Mv n as bs e) (k : ∃ m, e + e' = 8 * m) : Mv n bs as e' := fun q x => by
  obtain ⟨m, k⟩ := k
  rw [← MA.tnn_rtn, h q x, MA.tnn_rtn, ← MA.tnn_add, Nat.add_comm, k, tnn_8]

/-! ### the law's rows -/
theorem lr_swap (c : Int) (w j k : Int) (hw : w = 1) (hk : 2 < k) (h6 : c % 6 = k) (hj : modD (.int (c / 6)) (.int w) = some (.int j)) (r : D) (h : ∀ b : Int, b = k % 2 → (b = 0 → r = .tuple [.str "swing", .int j]) ∧ (b = 1 → r = .tuple [.str "turn", .int j, .int (1 + c / 18 % 7)])) : g__law_row [.int c, .int w] = some r := by
  obtain ⟨a, b⟩ := h (k % 2) rfl
  rcases (by omega : k % 2 = 0 ∨ k % 2 = 1) with q | q
  · have r' := a q
    subst r' hw
    have e : atI [PyData.str "swing", .str "", .str "flip"] 0 = some (.str "swing") := rfl
    simp [-sSeq, -sIf, sSeq_k, sIf_k, g__law_row, runB, b__law_row, startD, h6, hj, hk, q, e]
  · have r' := b q
    subst r' hw
    simp [-sSeq, -sIf, sSeq_k, sIf_k, g__law_row, runB, b__law_row, startD, h6, hj, hk, q]
theorem lr_turn (c w j : Int) (h6 : c % 6 = 1) (hj : modD (.int (c / 6)) (.int w) = some (.int j)) : g__law_row [.int c, .int w] = some (.tuple [.str "turn", .int j, .int (1 + c / 18 % 7)]) := by
  have t : (oAnd (ob (o2 (oV 1) (oC (.int 1)) eqD)) (ob (o2 (oV 2) (oC (.int 2)) gtD))) [.fz (.int c), .fz (.int w), .fz (.int 1), .fz (.int j), .un] = some false := by
    by_cases q : w = 1 <;> simp [q]
  simp [-sSeq, -sIf, sSeq_k, sIf_k, g__law_row, runB, b__law_row, startD, h6, hj, t]
theorem lr_one (c w j k : Int) (s : Str) (h6 : c % 6 = k) (hk : k = 0 ∨ k = 2) (hj : modD (.int (c / 6)) (.int w) = some (.int j)) (hs : atI [PyData.str "swing", .str "", .str "flip"] k = some (.str s)) : g__law_row [.int c, .int w] = some (.tuple [.str s, .int j]) := by
  have t : (oAnd (ob (o2 (oV 1) (oC (.int 1)) eqD)) (ob (o2 (oV 2) (oC (.int 2)) gtD))) [.fz (.int c), .fz (.int w), .fz (.int k), .fz (.int j), .un] = some false := by
    have : ¬ 2 < k := by omega
    by_cases q : w = 1 <;> simp [q, this]
  have n1 : ¬ k = 1 := by omega
  rcases hk with rfl | rfl
  · simp [-sSeq, -sIf, sSeq_k, sIf_k, g__law_row, runB, b__law_row, startD, h6, hj, t, hs]
  · simp [-sSeq, -sIf, sSeq_k, sIf_k, g__law_row, runB, b__law_row, startD, h6, hj, t, hs]
theorem lr_two (c w j k m i : Int) (s : Str) (h6 : c % 6 = k) (hw : ¬ w = 1) (hk : 2 < k) (hj : modD (.int (c / 6)) (.int w) = some (.int j)) (hm : modD (.int (c / 18)) (.int (w - 1)) = some (.int m)) (hi : modD (.int (j + 1 + m)) (.int w) = some (.int i)) (hs : atI [PyData.str "tie", .str "sign", .str "cross"] (k - 3) = some (.str s)) : g__law_row [.int c, .int w] = some (.tuple [.str s, .int i, .int j]) := by
  have n1 : ¬ k = 1 := by omega
  have n0 : ¬ k = 0 := by omega
  have n2 : ¬ k = 2 := by omega
  simp [-sSeq, -sIf, sSeq_k, sIf_k, g__law_row, runB, b__law_row, startD, h6, hj, hw, n1, n0, n2, hm, hi, hs]
theorem mod_nat (a : Int) (w : Nat) (h : 1 ≤ w) : ∃ m : Nat, m < w ∧ modD (.int a) (.int (w : Nat)) = some (.int (m : Nat)) ∧ a % (w : Int) = m := by
  have h0 : (0 : Int) < w := by omega
  have b1 := Int.emod_nonneg a (show (w : Int) ≠ 0 by omega)
  have b2 := Int.emod_lt_of_pos a h0
  refine ⟨(a % (w : Int)).toNat, by omega, ?_, by omega⟩
  rw [modD_int h0]
  congr 2
  omega
theorem lrow_ok (c : Int) (w : Nat) (hw : 1 ≤ w) : ∃ r : Row, g__law_row [.int c, .int (w : Nat)] = some (rowD r) ∧ r.ok w := by
  obtain ⟨j, hj, ej, _⟩ := mod_nat (c / 6) w hw
  obtain ⟨e, he, e7⟩ : ∃ e : Nat, 1 + c / 18 % 7 = (e : Int) ∧ 1 ≤ e ∧ e ≤ 7 := ⟨(1 + c / 18 % 7).toNat, by omega, by omega, by omega⟩
  have tk : Row.ok w (.turn j e) := ⟨hj, e7.1, e7.2⟩
  have k6 : 0 ≤ c % 6 ∧ c % 6 < 6 := by omega
  by_cases h1 : c % 6 = 1
  · exact ⟨.turn j e, by rw [lr_turn c w j h1 ej, he]; rfl, tk⟩
  by_cases h0 : c % 6 = 0
  · exact ⟨.swing j, lr_one c w j 0 "swing" h0 (.inl rfl) ej rfl, hj⟩
  by_cases h2 : c % 6 = 2
  · exact ⟨.flip j, lr_one c w j 2 "flip" h2 (.inr rfl) ej rfl, hj⟩
  by_cases hw1 : w = 1
  · rcases (by omega : c % 6 % 2 = 0 ∨ c % 6 % 2 = 1) with q | q
    · exact ⟨.swing j, lr_swap c w j (c % 6) (by omega) (by omega) rfl ej _ fun b hb => ⟨fun _ => rfl, fun z => by omega⟩, hj⟩
    · exact ⟨.turn j e, lr_swap c w j (c % 6) (by omega) (by omega) rfl ej _ fun b hb => ⟨fun z => by omega, fun _ => by rw [he]; rfl⟩, tk⟩
  · obtain ⟨m, hm, em, _⟩ := mod_nat (c / 18) (w - 1) (by omega)
    have ew : ((w - 1 : Nat) : Int) = (w : Int) - 1 := by omega
    rw [ew] at em
    obtain ⟨i, hi, ei, ei2⟩ := mod_nat ((j : Int) + 1 + (m : Int)) w hw
    have ne : i ≠ j := fun z => by
      subst z
      have : ((i : Int) + 1 + m) % w = i := ei2
      by_cases q : (i : Int) + 1 + m < w
      · rw [Int.emod_eq_of_lt (by omega) q] at this; omega
      · have : ((i : Int) + 1 + m - w) % w = i := by rw [Int.sub_emod_right]; exact ei2
        rw [Int.emod_eq_of_lt (by omega) (by omega)] at this
        omega
    have r2 : ∀ s : Str, atI [PyData.str "tie", .str "sign", .str "cross"] (c % 6 - 3) = some (.str s) → g__law_row [.int c, .int (w : Nat)] = some (.tuple [.str s, .int (i : Nat), .int (j : Nat)]) := fun s hs => lr_two c w j (c % 6) m i s rfl (by omega) (by omega) ej em ei hs
    rcases (by omega : c % 6 = 3 ∨ c % 6 = 4 ∨ c % 6 = 5) with q | q | q
    · exact ⟨.tie i j, r2 "tie" (by rw [q]; rfl), hi, hj, ne⟩
    · exact ⟨.sign i j, r2 "sign" (by rw [q]; rfl), hi, hj, ne⟩
    · exact ⟨.cross i j, r2 "cross" (by rw [q]; rfl), hi, hj, ne⟩

noncomputable def ln_1 : Sf := sSet 2 (o2 (oV 0) (oV 1) modD)
noncomputable def ln_2 : Sf := sSet 3 (o2 (oC (.int 1)) (o2 (o2 (oV 0) (oC (.int 3)) divD) (oC (.int 7)) modD) addD)
noncomputable def ln_3 : Sf := sSet 4 (VL.os (oCons (o2 (oV 0) (oC (.int 21)) divD) (oCons (oV 1) (oNil))) g__law_row)
noncomputable def ln_4 : Sf := sSet 5 (oV 4)
noncomputable def ln_5 : Sf := sIf (ob (o2 (o2 (oV 4) (oC (.int 0)) ixD) (oC (.str "turn")) eqD)) (sSet 5 (VL.os (oCons (oC (.str "turn")) (oCons (o2 (oV 4) (oC (.int 1)) ixD) (oCons (o2 (oC (.int 8)) (o2 (oV 4) (oC (.int 2)) ixD) subD) (oNil)))) tupD)) (sNx)
noncomputable def ln_6 : Sf := sSet 6 (VL.os (oCons (oC (.str "swing")) (oCons (oV 2) (oNil))) tupD)
noncomputable def ln_7 : Sf := sOwn 7 (oCons (VL.os (oCons (oV 4) (oCons (oV 5) (oNil))) lstD) (oCons (VL.os (oCons (oV 6) (oCons (VL.os (oCons (oC (.str "turn")) (oCons (oV 2) (oCons (oC (.int 4)) (oNil)))) tupD) (oCons (oV 6) (oCons (VL.os (oCons (oC (.str "flip")) (oCons (oV 2) (oNil))) tupD) (oNil))))) lstD) (oCons (VL.os (oCons (VL.os (oCons (oC (.str "turn")) (oCons (oV 2) (oCons (oV 3) (oNil)))) tupD) (oCons (VL.os (oCons (oC (.str "turn")) (oCons (oV 2) (oCons (o2 (oC (.int 8)) (oV 3) subD) (oNil)))) tupD) (oNil))) lstD) (oNil))))
noncomputable def ln_8 : Sf := sIf (ob (o2 (oV 1) (oC (.int 1)) gtD)) (sSeq (sSet 8 (o2 (o2 (o2 (oV 2) (oC (.int 1)) addD) (o2 (o2 (oV 0) (oC (.int 7)) divD) (o2 (oV 1) (oC (.int 1)) subD) modD) addD) (oV 1) modD)) (sSeq (sApp 7 (VL.os (oCons (VL.os (oCons (oC (.str "tie")) (oCons (oV 8) (oCons (oV 2) (oNil)))) tupD) (oCons (VL.os (oCons (oC (.str "tie")) (oCons (oV 2) (oCons (oV 8) (oNil)))) tupD) (oCons (VL.os (oCons (oC (.str "tie")) (oCons (oV 8) (oCons (oV 2) (oNil)))) tupD) (oCons (VL.os (oCons (oC (.str "cross")) (oCons (oV 2) (oCons (oV 8) (oNil)))) tupD) (oNil))))) lstD)) (sApp 7 (VL.os (oCons (VL.os (oCons (oC (.str "sign")) (oCons (oV 8) (oCons (oV 2) (oNil)))) tupD) (oCons (oV 6) (oCons (VL.os (oCons (oC (.str "tie")) (oCons (oV 8) (oCons (oV 2) (oNil)))) tupD) (oCons (oV 6) (oNil))))) lstD)))) (sNx)
noncomputable def ln_9 : Sf := sRet (oIxO 7 (o2 (o2 (oV 0) (oC (.int 11)) divD) (oLenO 7) modD))
theorem ln_st : b__law_nothing = sSeq ln_1 (sSeq ln_2 (sSeq ln_3 (sSeq ln_4 (sSeq ln_5 (sSeq ln_6 (sSeq ln_7 (sSeq ln_8 (ln_9)))))))) := rfl

/-! ### rows that come to nothing, by a cell -/
noncomputable def rsD (rs : List Row) : D := .list (rs.map rowD)
theorem seq_nx {s t : Sf} {δ δ' : Dv} (h : s δ = some (.nx, δ')) : sSeq s t δ = t δ' := by simp [h]
theorem seq_rt {s t : Sf} {δ δ' : Dv} {d : D} (h : s δ = some (.rt d, δ')) : sSeq s t δ = some (.rt d, δ') := by simp [h]
theorem run_rt {N : List Str} {n : Nat} {b : Sf} {as : List D} {d : D} (hl : as.length = n) (h : ∃ δ, b (startD N as) = some (.rt d, δ)) : runB N n b as = some d := by
  obtain ⟨δ, h⟩ := h
  unfold runB
  rw [if_pos hl, h]; rfl
theorem n1 (c w j : Int) (h : modD (.int c) (.int w) = some (.int j)) : ln_1 [.fz (.int c), .fz (.int w), .un, .un, .un, .un, .un, .un, .un] = some (.nx, [.fz (.int c), .fz (.int w), .fz (.int j), .un, .un, .un, .un, .un, .un]) := by
  simp [ln_1, h]
theorem n2 (c w j e : Int) (h : 1 + c / 3 % 7 = e) : ln_2 [.fz (.int c), .fz (.int w), .fz (.int j), .un, .un, .un, .un, .un, .un] = some (.nx, [.fz (.int c), .fz (.int w), .fz (.int j), .fz (.int e), .un, .un, .un, .un, .un]) := by
  subst h
  simp [ln_2]
theorem n3 (c w : Int) (z2 z3 : Sl) (R : D) (h : g__law_row [.int (c / 21), .int w] = some R) : ln_3 [.fz (.int c), .fz (.int w), z2, z3, .un, .un, .un, .un, .un] = some (.nx, [.fz (.int c), .fz (.int w), z2, z3, .fz R, .un, .un, .un, .un]) := by
  simp [ln_3, h]
theorem n4 (z0 z1 z2 z3 : Sl) (R : D) : ln_4 [z0, z1, z2, z3, .fz R, .un, .un, .un, .un] = some (.nx, [z0, z1, z2, z3, .fz R, .fz R, .un, .un, .un]) := by
  simp [ln_4]
theorem n5_t (z0 z1 z2 z3 : Sl) (R : D) (j e : Int) (r0 : ixD R (.int 0) = some (.str "turn")) (r1 : ixD R (.int 1) = some (.int j)) (r2 : ixD R (.int 2) = some (.int e)) : ln_5 [z0, z1, z2, z3, .fz R, .fz R, .un, .un, .un] = some (.nx, [z0, z1, z2, z3, .fz R, .fz (.tuple [.str "turn", .int j, .int (8 - e)]), .un, .un, .un]) := by
  simp [ln_5, r0, r1, r2]
theorem n5_n (z0 z1 z2 z3 : Sl) (R : D) (s : Str) (r0 : ixD R (.int 0) = some (.str s)) (q : eqD (.str s) (.str "turn") = some (.bool false)) : ln_5 [z0, z1, z2, z3, .fz R, .fz R, .un, .un, .un] = some (.nx, [z0, z1, z2, z3, .fz R, .fz R, .un, .un, .un]) := by
  simp [ln_5, r0, q]
theorem n5 {n : Nat} (z0 z1 z2 z3 : Sl) (r : Row) (hr : r.ok n) : ln_5 [z0, z1, z2, z3, .fz (rowD r), .fz (rowD r), .un, .un, .un] = some (.nx, [z0, z1, z2, z3, .fz (rowD r), .fz (rowD (backR r)), .un, .un, .un]) := by
  cases r with
  | turn j e =>
    have h := n5_t z0 z1 z2 z3 (rowD (.turn j e)) j e (at0 _ _) (at1 _ _ _) (at2 _ _ _ _)
    have : (8 : Int) - e = ((8 - e : Nat) : Int) := by have := hr.2.2; omega
    rw [this] at h
    exact h
  | swing j => exact n5_n z0 z1 z2 z3 _ "swing" (at0 _ _) (by simp)
  | flip j => exact n5_n z0 z1 z2 z3 _ "flip" (at0 _ _) (by simp)
  | tie i j => exact n5_n z0 z1 z2 z3 _ "tie" (at0 _ _) (by simp)
  | sign i j => exact n5_n z0 z1 z2 z3 _ "sign" (at0 _ _) (by simp)
  | cross i j => exact n5_n z0 z1 z2 z3 _ "cross" (at0 _ _) (by simp)
theorem n6 (z0 z1 z3 z4 z5 : Sl) (j : Int) : ln_6 [z0, z1, .fz (.int j), z3, z4, z5, .un, .un, .un] = some (.nx, [z0, z1, .fz (.int j), z3, z4, z5, .fz (.tuple [.str "swing", .int j]), .un, .un]) := by
  simp [ln_6]
theorem n7 (z0 z1 : Sl) (j e : Int) (R B S : D) : ln_7 [z0, z1, .fz (.int j), .fz (.int e), .fz R, .fz B, .fz S, .un, .un] = some (.nx, [z0, z1, .fz (.int j), .fz (.int e), .fz R, .fz B, .fz S, .ow [.list [R, B], .list [S, .tuple [.str "turn", .int j, .int 4], S, .tuple [.str "flip", .int j]], .list [.tuple [.str "turn", .int j, .int e], .tuple [.str "turn", .int j, .int (8 - e)]]], .un]) := by
  have sz : 3 ≤ sizeLine := by show 3 ≤ 16777216; decide
  simp [ln_7, sz]
theorem n8_1 (c j : Int) (z3 z4 z5 z6 z7 : Sl) : ln_8 [.fz (.int c), .fz (.int 1), .fz (.int j), z3, z4, z5, z6, z7, .un] = some (.nx, [.fz (.int c), .fz (.int 1), .fz (.int j), z3, z4, z5, z6, z7, .un]) := by
  simp [ln_8]
theorem n8_2 (c w j m i : Int) (z3 z4 z5 : Sl) (S : D) (ds : List D) (hw : 1 < w) (hm : modD (.int (c / 7)) (.int (w - 1)) = some (.int m)) (hi : modD (.int (j + 1 + m)) (.int w) = some (.int i)) (sz : ds.length + 2 ≤ 1000) : ln_8 [.fz (.int c), .fz (.int w), .fz (.int j), z3, z4, z5, .fz S, .ow ds, .un] = some (.nx, [.fz (.int c), .fz (.int w), .fz (.int j), z3, z4, z5, .fz S, .ow (ds ++ [.list [.tuple [.str "tie", .int i, .int j], .tuple [.str "tie", .int j, .int i], .tuple [.str "tie", .int i, .int j], .tuple [.str "cross", .int j, .int i]]] ++ [.list [.tuple [.str "sign", .int i, .int j], S, .tuple [.str "tie", .int i, .int j], S]]), .fz (.int i)]) := by
  have s1 : ds.length < sizeLine := by show _ < 16777216; omega
  have s2 : ds.length + 1 < sizeLine := by show _ < 16777216; omega
  simp [ln_8, hw, hm, hi, s1, s2]
theorem n9 (c k : Int) (z1 z2 z3 z4 z5 z6 z8 : Sl) (ds : List D) (d : D) (hk : modD (.int (c / 11)) (.int (ds.length : Int)) = some (.int k)) (h : atI ds k = some d) : ln_9 [.fz (.int c), z1, z2, z3, z4, z5, z6, .ow ds, z8] = some (.rt d, [.fz (.int c), z1, z2, z3, z4, z5, z6, .ow ds, z8]) := by
  simp [ln_9, hk, h]
theorem nothing_eq (c : Int) (w : Nat) (hw : 1 ≤ w) : ∃ more : List Row, g__law_nothing [.int c, .int (w : Nat)] = some (rsD more) ∧ Nil w more 0 ∧ (∀ r ∈ more, r.ok w) ∧ more.length ≤ 4 := by
  obtain ⟨j, hj, ej, _⟩ := mod_nat c w hw
  obtain ⟨e, he, e7⟩ : ∃ e : Nat, 1 + c / 3 % 7 = (e : Int) ∧ 1 ≤ e ∧ e ≤ 7 := ⟨(1 + c / 3 % 7).toNat, by omega, by omega, by omega⟩
  obtain ⟨r, er, hr⟩ := lrow_ok (c / 21) w hw
  have e8 : (8 : Int) - e = ((8 - e : Nat) : Int) := by omega
  have bo : (backR r).ok w := by
    cases r with
    | turn j e => exact ⟨hr.1, by have := hr.2.2; omega, by have := hr.2.1; omega⟩
    | _ => exact hr
  have fin : ∀ (ms : List (List Row)) (z8 : Sl), 0 < ms.length → (∀ more ∈ ms, Nil w more 0 ∧ (∀ r ∈ more, r.ok w) ∧ more.length ≤ 4) → ln_8 [.fz (.int c), .fz (.int (w : Nat)), .fz (.int (j : Nat)), .fz (.int (e : Nat)), .fz (rowD r), .fz (rowD (backR r)), .fz (rowD (.swing j)), .ow ([[r, backR r], [.swing j, .turn j 4, .swing j, .flip j], [.turn j e, .turn j (8 - e)]].map rsD), .un] = some (.nx, [.fz (.int c), .fz (.int (w : Nat)), .fz (.int (j : Nat)), .fz (.int (e : Nat)), .fz (rowD r), .fz (rowD (backR r)), .fz (rowD (.swing j)), .ow (ms.map rsD), z8]) → ∃ more : List Row, g__law_nothing [.int c, .int (w : Nat)] = some (rsD more) ∧ Nil w more 0 ∧ (∀ r ∈ more, r.ok w) ∧ more.length ≤ 4 := fun ms z8 h0 hm h8 => by
    obtain ⟨k, hk, ek, _⟩ := mod_nat (c / 11) ms.length h0
    refine ⟨ms[k], ?_, hm _ (List.getElem_mem hk)⟩
    have st7 := n7 (.fz (.int c)) (.fz (.int (w : Nat))) j e (rowD r) (rowD (backR r)) (rowD (.swing j))
    rw [e8] at st7
    have ln : (ms.map rsD).length = ms.length := List.length_map _
    have st9 := n9 c k (.fz (.int (w : Nat))) (.fz (.int (j : Nat))) (.fz (.int (e : Nat))) (.fz (rowD r)) (.fz (rowD (backR r))) (.fz (rowD (.swing j))) z8 (ms.map rsD) (rsD ms[k]) (by rw [ln]; exact ek) (atI_of (j := k) rfl (by simp [hk]))
    refine run_rt (N := N__law_nothing) (n := 2) (b := b__law_nothing) rfl ⟨?_, (congrFun ln_st _).trans ?_⟩
    rotate_left
    refine (seq_nx (n1 c w j ej)).trans ?_
    refine (seq_nx (n2 c w j e he)).trans ?_
    refine (seq_nx (n3 c w _ _ _ er)).trans ?_
    refine (seq_nx (n4 _ _ _ _ _)).trans ?_
    refine (seq_nx (n5 _ _ _ _ r hr)).trans ?_
    refine (seq_nx (n6 _ _ _ _ _ j)).trans ?_
    refine (seq_nx st7).trans ?_
    refine (seq_nx h8).trans ?_
    exact st9
  have m1 : Nil w [r, backR r] 0 ∧ (∀ q ∈ [r, backR r], q.ok w) ∧ [r, backR r].length ≤ 4 := ⟨nil_back hr, fun q hq => by
    simp only [List.mem_cons, List.not_mem_nil, or_false] at hq
    rcases hq with rfl | rfl
    · exact hr
    · exact bo, by simp⟩
  have m2 : Nil w [.swing j, .turn j 4, .swing j, .flip j] 0 ∧ (∀ q ∈ [Row.swing j, .turn j 4, .swing j, .flip j], q.ok w) ∧ [Row.swing j, .turn j 4, .swing j, .flip j].length ≤ 4 := ⟨nil_hzhx w j, fun q hq => by
    simp only [List.mem_cons, List.not_mem_nil, or_false] at hq
    rcases hq with rfl | rfl | rfl | rfl
    · exact hj
    · exact ⟨hj, by decide, by decide⟩
    · exact hj
    · exact hj, by simp⟩
  have m3 : Nil w [.turn j e, .turn j (8 - e)] 0 ∧ (∀ q ∈ [Row.turn j e, .turn j (8 - e)], q.ok w) ∧ [Row.turn j e, .turn j (8 - e)].length ≤ 4 := ⟨nil_turn (by omega), fun q hq => by
    simp only [List.mem_cons, List.not_mem_nil, or_false] at hq
    rcases hq with rfl | rfl
    · exact ⟨hj, e7.1, e7.2⟩
    · exact ⟨hj, by omega, by omega⟩, by simp⟩
  by_cases hw1 : w = 1
  · subst hw1
    refine fin [[r, backR r], [.swing j, .turn j 4, .swing j, .flip j], [.turn j e, .turn j (8 - e)]] .un (by simp) (fun more hm => ?_) (n8_1 _ _ _ _ _ _ _)
    simp only [List.mem_cons, List.not_mem_nil, or_false] at hm
    rcases hm with rfl | rfl | rfl
    · exact m1
    · exact m2
    · exact m3
  · obtain ⟨m, hm, em, _⟩ := mod_nat (c / 7) (w - 1) (by omega)
    have ew : ((w - 1 : Nat) : Int) = (w : Int) - 1 := by omega
    rw [ew] at em
    obtain ⟨i, hi, ei, ei2⟩ := mod_nat ((j : Int) + 1 + (m : Int)) w hw
    have ne : i ≠ j := fun z => by
      subst z
      have t : ((i : Int) + 1 + m) % w = i := ei2
      by_cases q : (i : Int) + 1 + m < w
      · rw [Int.emod_eq_of_lt (by omega) q] at t; omega
      · have : ((i : Int) + 1 + m - w) % w = i := by rw [Int.sub_emod_right]; exact ei2
        rw [Int.emod_eq_of_lt (by omega) (by omega)] at this
        omega
    have m4 : Nil w [.tie i j, .tie j i, .tie i j, .cross j i] 0 ∧ (∀ q ∈ [Row.tie i j, .tie j i, .tie i j, .cross j i], q.ok w) ∧ [Row.tie i j, .tie j i, .tie i j, .cross j i].length ≤ 4 := ⟨nil_ties hi hj ne, fun q hq => by
      simp only [List.mem_cons, List.not_mem_nil, or_false] at hq
      rcases hq with rfl | rfl | rfl | rfl
      · exact ⟨hi, hj, ne⟩
      · exact ⟨hj, hi, ne.symm⟩
      · exact ⟨hi, hj, ne⟩
      · exact ⟨hj, hi, ne.symm⟩, by simp⟩
    have m5 : Nil w [.sign i j, .swing j, .tie i j, .swing j] 0 ∧ (∀ q ∈ [Row.sign i j, .swing j, .tie i j, .swing j], q.ok w) ∧ [Row.sign i j, .swing j, .tie i j, .swing j].length ≤ 4 := ⟨nil_hcz hi hj ne, fun q hq => by
      simp only [List.mem_cons, List.not_mem_nil, or_false] at hq
      rcases hq with rfl | rfl | rfl | rfl
      · exact ⟨hi, hj, ne⟩
      · exact hj
      · exact ⟨hi, hj, ne⟩
      · exact hj, by simp⟩
    refine fin [[r, backR r], [.swing j, .turn j 4, .swing j, .flip j], [.turn j e, .turn j (8 - e)], [.tie i j, .tie j i, .tie i j, .cross j i], [.sign i j, .swing j, .tie i j, .swing j]] (.fz (.int (i : Nat))) (by simp) (fun more hm => ?_) (n8_2 c w j m i _ _ _ _ _ (by omega) em ei (by simp))
    simp only [List.mem_cons, List.not_mem_nil, or_false] at hm
    rcases hm with rfl | rfl | rfl | rfl | rfl
    · exact m1
    · exact m2
    · exact m3
    · exact m4
    · exact m5

noncomputable def lc_1 : Sf := sSet 4 (o2 (oV 1) (oC (.int 3)) divD)
noncomputable def lc_2 : Sf := sSet 5 (o2 (oV 4) (o2 (VL.os (oCons (oV 0) (oNil)) lenD) (oC (.int 1)) addD) modD)
noncomputable def lc_3 : Sf := sIf (oAnd (ob (o2 (o2 (oV 1) (oC (.int 3)) modD) (oC (.int 0)) eqD)) (ob (o2 (o2 (oV 5) (oC (.int 1)) addD) (VL.os (oCons (oV 0) (oNil)) lenD) ltD))) (sSeq (sSet 6 (p1__law_changed)) (sIf (ob (o2 (oV 6) (VL.os (oNil) lstD) eqD)) (sRet (VL.os (oCons (o2 (o2 (oSl (oV 0) (oNo) (oP (oV 5))) (VL.os (oCons (o2 (oV 0) (o2 (oV 5) (oC (.int 1)) addD) ixD) (oCons (o2 (oV 0) (oV 5) ixD) (oNil))) lstD) addD) (oSl (oV 0) (oP (o2 (oV 5) (oC (.int 2)) addD)) (oNo)) addD) (oCons (oC (.int 0)) (oNil))) tupD)) (sNx))) (sNx)
noncomputable def lc_4 : Sf := sSet 7 (VL.os (oCons (o2 (oV 4) (oC (.int 7)) divD) (oCons (oV 2) (oNil))) g__law_nothing)
noncomputable def lc_5 : Sf := sSet 8 (oC (.int 0))
noncomputable def lc_6 : Sf := sIf (ob (o2 (o2 (oV 1) (oC (.int 3)) modD) (oC (.int 1)) eqD)) (sSeq (sSet 9 (o2 (o2 (oV 4) (oC (.int 5)) divD) (oV 2) modD)) (sSeq (sSet 8 (o2 (oC (.int 1)) (o2 (o2 (oV 4) (oC (.int 15)) divD) (oC (.int 7)) modD) addD)) (sSet 7 (VL.os (oCons (VL.os (oCons (oC (.str "flip")) (oCons (oV 9) (oNil))) tupD) (oCons (VL.os (oCons (oC (.str "turn")) (oCons (oV 9) (oCons (oV 8) (oNil)))) tupD) (oCons (VL.os (oCons (oC (.str "flip")) (oCons (oV 9) (oNil))) tupD) (oCons (VL.os (oCons (oC (.str "turn")) (oCons (oV 9) (oCons (oV 8) (oNil)))) tupD) (oNil))))) lstD)))) (sNx)
noncomputable def lc_7 : Sf := sIf (ob (o2 (o2 (VL.os (oCons (oV 0) (oNil)) lenD) (VL.os (oCons (oV 7) (oNil)) lenD) addD) (oV 3) gtD)) (sRet (VL.os (oCons (oV 0) (oCons (oC (.int 0)) (oNil))) tupD)) (sNx)
noncomputable def lc_8 : Sf := sRet (VL.os (oCons (o2 (o2 (oSl (oV 0) (oNo) (oP (oV 5))) (oV 7) addD) (oSl (oV 0) (oP (oV 5)) (oNo)) addD) (oCons (oV 8) (oNil))) tupD)
theorem lc_st : b__law_changed = sSeq lc_1 (sSeq lc_2 (sSeq lc_3 (sSeq lc_4 (sSeq lc_5 (sSeq lc_6 (sSeq lc_7 (lc_8))))))) := rfl

/-! ### a move, by a cell -/
noncomputable def wsD (ws : List Nat) : D := .list (ws.map fun k => PyData.int (k : Nat))
theorem lw_t (R : D) (j : Int) (r0 : ixD R (.int 0) = some (.str "turn")) (r1 : ixD R (.int 1) = some (.int j)) : g__law_wires [R] = some (.list [.int j]) := by
  simp [g__law_wires, runB, b__law_wires, startD, r0, r1]
theorem lw_n (R : D) (s : Str) (L : List D) (r0 : ixD R (.int 0) = some (.str s)) (q : eqD (.str s) (.str "turn") = some (.bool false)) (sl : slD R (some 1) none = some (.tuple L)) : g__law_wires [R] = some (.list L) := by
  simp [g__law_wires, runB, b__law_wires, startD, r0, q, sl]
theorem lwires_eq (r : Row) : g__law_wires [rowD r] = some (wsD (wiresR r)) := by
  cases r with
  | turn j e => exact lw_t _ j (at0 _ _) (at1 _ _ _)
  | swing j => exact lw_n _ "swing" _ (at0 _ _) (by simp) rfl
  | flip j => exact lw_n _ "flip" _ (at0 _ _) (by simp) rfl
  | tie i j => exact lw_n _ "tie" _ (at0 _ _) (by simp) rfl
  | sign i j => exact lw_n _ "sign" _ (at0 _ _) (by simp) rfl
  | cross i j => exact lw_n _ "cross" _ (at0 _ _) (by simp) rfl
theorem in_ws (k : Nat) (ws : List Nat) : inD false (.int (k : Nat)) (wsD ws) = some (.bool (ws.any (· == k))) := by
  unfold inD wsD
  have it : itsD (.list (ws.map fun k => PyData.int (k : Nat))) = some (ws.map fun k => PyData.int (k : Nat)) := rfl
  rw [it, Option.bind_some, if_pos ⟨rfl, List.all_eq_true.mpr fun x hx => by obtain ⟨m, _, rfl⟩ := List.mem_map.mp hx; rfl⟩]
  have : ∀ ws : List Nat, inL (.int (k : Nat)) (ws.map fun k => PyData.int (k : Nat)) = ws.any (· == k) := fun ws => by
    induction ws with
    | nil => rfl
    | cons w ws ih =>
      have e : PyData.eqv (.int (w : Nat)) (.int (k : Nat)) = (w == k) := by
        rw [Bool.eq_iff_iff]
        simp [PyData.eqv]
        omega
      rw [List.map_cons, List.any_cons, ← ih, ← e]
      rfl
  simp [this]
theorem ch_f (i : Nat) (R2 : D) (L : List D) (w : Nat) (vs : List Nat) (rows : D) (at_ : Int) (x : ixD rows (.int (at_ + 1)) = some R2) (lw : g__law_wires [R2] = some (wsD vs)) : (ob (o2 (oV 0) (VL.os (oCons (o2 (oV 1) (o2 (oV 2) (oC (.int 1)) addD) ixD) (oNil)) g__law_wires) (inD false))) [.fz (.int (w : Nat)), .fz rows, .fz (.int at_)] = some (vs.any (· == w)) := by
  have := in_ws w vs
  simp [x, lw, this]
theorem ch_p (rows : D) (a : Int) (R1 R2 : D) (us vs : List Nat) (z1 z2 z3 z4 z6 z7 z8 z9 : Sl) (hl : us.length ≤ 1000) (x1 : ixD rows (.int a) = some R1) (x2 : ixD rows (.int (a + 1)) = some R2) (w1 : g__law_wires [R1] = some (wsD us)) (w2 : g__law_wires [R2] = some (wsD vs)) : p1__law_changed [.fz rows, z1, z2, z3, z4, .fz (.int a), z6, z7, z8, z9] = some (wsD (us.filter fun k => vs.any (· == k))) := by
  refine compI_map (h := fun k : Nat => PyData.int (k : Nat)) (k := fun k : Nat => PyData.int (k : Nat)) (b := fun k => vs.any (· == k)) (xs := us) (by simp [x1, w1, wsD]) (by omega) (fun k _ => ?_) fun k _ _ => by simp
  exact ch_f 0 R2 [] k vs rows a x2 w2
theorem eq_ws (ws : List Nat) : eqD (wsD ws) (.list []) = some (.bool ws.isEmpty) := by
  have sh : MA.Sh 1 (wsD ws) := MA.Sh.list fun x hx => by
    obtain ⟨m, _, rfl⟩ := List.mem_map.mp hx
    exact MA.Sh.int 0 _
  have sh0 : MA.Sh 1 (.list []) := MA.Sh.list fun x hx => (nomatch hx)
  unfold eqD
  rw [if_pos ⟨shp_of sh (by decide), shp_of sh0 (by decide)⟩]
  cases ws with
  | nil => rfl
  | cons w ws => rfl
theorem cut_to (xs : List D) (a : Nat) : slD (.list xs) none (some (a : Int)) = some (.list (xs.take a)) := by
  show some (PyData.list (cutD _ _ _)) = _
  unfold cutD
  have e1 : HT.sIx xs.length 0 none = 0 := rfl
  have e2 : HT.sIx xs.length xs.length (some (a : Int)) = min a xs.length := by
    show (if (a : Int) < 0 then ((a : Int) + (xs.length : Int)).toNat else min (a : Int).toNat xs.length) = _
    rw [if_neg (by omega)]; rfl
  rw [e1, e2, Nat.sub_zero, List.drop_zero]
  congr 2
  rcases Nat.le_total a xs.length with h | h
  · rw [Nat.min_eq_left h]
  · rw [Nat.min_eq_right h, List.take_of_length_le (Nat.le_refl _), List.take_of_length_le h]
theorem cut_from (xs : List D) (a : Nat) : slD (.list xs) (some (a : Int)) none = some (.list (xs.drop a)) := by
  show some (PyData.list (cutD _ _ _)) = _
  unfold cutD
  have e1 : HT.sIx xs.length 0 (some (a : Int)) = min a xs.length := by
    show (if (a : Int) < 0 then ((a : Int) + (xs.length : Int)).toNat else min (a : Int).toNat xs.length) = _
    rw [if_neg (by omega)]; rfl
  have e2 : HT.sIx xs.length xs.length none = xs.length := rfl
  rw [e1, e2]
  congr 2
  rcases Nat.le_total a xs.length with h | h
  · rw [Nat.min_eq_left h, List.take_of_length_le (by rw [List.length_drop]; exact Nat.le_refl _)]
  · rw [Nat.min_eq_right h, Nat.sub_self, List.take_zero, List.drop_of_length_le h]
theorem c1_ (rows c w m : D) (k : Int) (h : c = .int k) : lc_1 [.fz rows, .fz c, .fz w, .fz m, .un, .un, .un, .un, .un, .un] = some (.nx, [.fz rows, .fz c, .fz w, .fz m, .fz (.int (k / 3)), .un, .un, .un, .un, .un]) := by
  subst h
  simp [lc_1]
theorem c2_ (rows c w m : D) (r K a : Int) (ln : lenD [rows] = some (.int K)) (h : modD (.int r) (.int (K + 1)) = some (.int a)) : lc_2 [.fz rows, .fz c, .fz w, .fz m, .fz (.int r), .un, .un, .un, .un, .un] = some (.nx, [.fz rows, .fz c, .fz w, .fz m, .fz (.int r), .fz (.int a), .un, .un, .un, .un]) := by
  simp [lc_2, ln, h]
theorem c3_no (rows w m : D) (c r K a : Int) (ln : lenD [rows] = some (.int K)) (h : ¬ (c % 3 = 0 ∧ a + 1 < K)) : lc_3 [.fz rows, .fz (.int c), .fz w, .fz m, .fz (.int r), .fz (.int a), .un, .un, .un, .un] = some (.nx, [.fz rows, .fz (.int c), .fz w, .fz m, .fz (.int r), .fz (.int a), .un, .un, .un, .un]) := by
  by_cases q : c % 3 = 0
  · have n : ¬ a + 1 < K := fun z => h ⟨q, z⟩
    simp [lc_3, ln, q, n]
  · simp [lc_3, q]
theorem c3_nil (rows w m A B C R1 R2 : D) (c r K a : Int) (ln : lenD [rows] = some (.int K)) (h0 : c % 3 = 0) (h1 : a + 1 < K) (p : p1__law_changed [.fz rows, .fz (.int c), .fz w, .fz m, .fz (.int r), .fz (.int a), .un, .un, .un, .un] = some (.list [])) (x1 : ixD rows (.int a) = some R1) (x2 : ixD rows (.int (a + 1)) = some R2) (s1 : slD rows none (some a) = some A) (ad1 : addD A (.list [R2, R1]) = some B) (s2 : slD rows (some (a + 2)) none = some C) (R : D) (ad2 : addD B C = some R) : lc_3 [.fz rows, .fz (.int c), .fz w, .fz m, .fz (.int r), .fz (.int a), .un, .un, .un, .un] = some (.rt (.tuple [R, .int 0]), [.fz rows, .fz (.int c), .fz w, .fz m, .fz (.int r), .fz (.int a), .fz (.list []), .un, .un, .un]) := by
  have e : eqD (.list []) (.list []) = some (.bool true) := eq_ws []
  simp [lc_3, ln, h0, h1, p, e, x1, x2, s1, ad1, s2, ad2]
theorem c3_some (rows w m X : D) (c r K a : Int) (ln : lenD [rows] = some (.int K)) (h0 : c % 3 = 0) (h1 : a + 1 < K) (p : p1__law_changed [.fz rows, .fz (.int c), .fz w, .fz m, .fz (.int r), .fz (.int a), .un, .un, .un, .un] = some X) (e : eqD X (.list []) = some (.bool false)) : lc_3 [.fz rows, .fz (.int c), .fz w, .fz m, .fz (.int r), .fz (.int a), .un, .un, .un, .un] = some (.nx, [.fz rows, .fz (.int c), .fz w, .fz m, .fz (.int r), .fz (.int a), .fz X, .un, .un, .un]) := by
  simp [lc_3, ln, h0, h1, p, e]
theorem c4_ (rows w m N : D) (z1 z5 z6 : Sl) (r : Int) (h : g__law_nothing [.int (r / 7), w] = some N) : lc_4 [.fz rows, z1, .fz w, .fz m, .fz (.int r), z5, z6, .un, .un, .un] = some (.nx, [.fz rows, z1, .fz w, .fz m, .fz (.int r), z5, z6, .fz N, .un, .un]) := by
  simp [lc_4, h]
theorem c5_ (z0 z1 z2 z3 z4 z5 z6 z7 : Sl) : lc_5 [z0, z1, z2, z3, z4, z5, z6, z7, .un, .un] = some (.nx, [z0, z1, z2, z3, z4, z5, z6, z7, .fz (.int 0), .un]) := by
  simp [lc_5]
theorem c6_no (z0 z2 z3 z4 z5 z6 z7 z8 : Sl) (c : Int) (h : ¬ c % 3 = 1) : lc_6 [z0, .fz (.int c), z2, z3, z4, z5, z6, z7, z8, .un] = some (.nx, [z0, .fz (.int c), z2, z3, z4, z5, z6, z7, z8, .un]) := by
  simp [lc_6, h]
theorem c6_yes (z0 z3 z5 z6 z7 z8 : Sl) (c w r j e : Int) (h : c % 3 = 1) (hj : modD (.int (r / 5)) (.int w) = some (.int j)) (he : 1 + r / 15 % 7 = e) : lc_6 [z0, .fz (.int c), .fz (.int w), z3, .fz (.int r), z5, z6, z7, z8, .un] = some (.nx, [z0, .fz (.int c), .fz (.int w), z3, .fz (.int r), z5, z6, .fz (.list [.tuple [.str "flip", .int j], .tuple [.str "turn", .int j, .int e], .tuple [.str "flip", .int j], .tuple [.str "turn", .int j, .int e]]), .fz (.int e), .fz (.int j)]) := by
  subst he
  simp [lc_6, h, hj]
theorem c7_yes (rows N : D) (z1 z2 z4 z5 z6 z8 z9 : Sl) (K L M : Int) (ln : lenD [rows] = some (.int K)) (lm : lenD [N] = some (.int L)) (h : M < K + L) : lc_7 [.fz rows, z1, z2, .fz (.int M), z4, z5, z6, .fz N, z8, z9] = some (.rt (.tuple [rows, .int 0]), [.fz rows, z1, z2, .fz (.int M), z4, z5, z6, .fz N, z8, z9]) := by
  simp [lc_7, ln, lm, h]
theorem c7_no (rows N : D) (z1 z2 z4 z5 z6 z8 z9 : Sl) (K L M : Int) (ln : lenD [rows] = some (.int K)) (lm : lenD [N] = some (.int L)) (h : ¬ M < K + L) : lc_7 [.fz rows, z1, z2, .fz (.int M), z4, z5, z6, .fz N, z8, z9] = some (.nx, [.fz rows, z1, z2, .fz (.int M), z4, z5, z6, .fz N, z8, z9]) := by
  simp [lc_7, ln, lm, h]
theorem c8_ (rows N A B C R : D) (z1 z2 z3 z4 z6 z9 : Sl) (a e : Int) (s1 : slD rows none (some a) = some A) (ad1 : addD A N = some B) (s2 : slD rows (some a) none = some C) (ad2 : addD B C = some R) : lc_8 [.fz rows, z1, z2, z3, z4, .fz (.int a), z6, .fz N, .fz (.int e), z9] = some (.rt (.tuple [R, .int e]), [.fz rows, z1, z2, z3, z4, .fz (.int a), z6, .fz N, .fz (.int e), z9]) := by
  simp [lc_8, s1, ad1, s2, ad2]

theorem addL {xs ys : List D} (h : xs.length + ys.length ≤ 16777216) : addD (.list xs) (.list ys) = some (.list (xs ++ ys)) := if_pos h
theorem len_rs (rs : List Row) : lenD [rsD rs] = some (.int (rs.length : Nat)) := by
  show some (PyData.int ((rs.map rowD).length : Nat)) = _
  rw [List.length_map]
theorem at_rs (rs : List Row) (a : Nat) (h : a < rs.length) (i : Int) (hi : i = a) : ixD (rsD rs) (.int i) = some (rowD rs[a]) := atI_of (j := a) hi (by simp [h])
theorem split_at {rs : List Row} {a : Nat} (h : a + 1 < rs.length) : rs = rs.take a ++ rs[a] :: rs[a + 1] :: rs.drop (a + 2) := by
  have h1 : rs.drop a = rs[a] :: rs.drop (a + 1) := List.drop_eq_getElem_cons (by omega)
  have h2 : rs.drop (a + 1) = rs[a + 1] :: rs.drop (a + 2) := List.drop_eq_getElem_cons (by omega)
  have h3 := (List.take_append_drop a rs).symm
  rw [h1, h2] at h3
  exact h3
/-- what a move tells -/
structure Told (n : Nat) (rs : List Row) (s : Sf) (δ0 : Dv) : Prop where
  ex : ∃ (rs' : List Row) (e : Nat) (δ : Dv), s δ0 = some (.rt (.tuple [rsD rs', .int (e : Nat)]), δ) ∧ Mv n rs rs' e ∧ (∀ r ∈ rs', r.ok n) ∧ rs'.length ≤ 60
theorem Told.of {n : Nat} {rs : List Row} {s t : Sf} {δ0 δ1 : Dv} (h : Told n rs t δ1) (e : s δ0 = t δ1) : Told n rs s δ0 := by
  obtain ⟨a, b, c, d, f⟩ := h.ex
  exact ⟨a, b, c, e.trans d, f⟩
theorem told_end {n M a : Nat} (hM : M ≤ 60) (rs : List Row) (hr : ∀ r ∈ rs, r.ok n) (hl : rs.length ≤ 60) (more : List Row) (e : Nat) (nm : Nil n more e) (om : ∀ r ∈ more, r.ok n) (lm : more.length ≤ 4) (z1 z2 z4 z6 z9 : Sl) : Told n rs (sSeq lc_7 lc_8) [.fz (rsD rs), z1, z2, .fz (.int (M : Nat)), z4, .fz (.int (a : Nat)), z6, .fz (rsD more), .fz (.int (e : Nat)), z9] := by
  by_cases h : (M : Int) < (rs.length : Int) + more.length
  · exact ⟨rs, 0, _, seq_rt (c7_yes _ _ z1 z2 z4 _ z6 _ z9 _ _ _ (len_rs rs) (len_rs more) h), Mv.refl n rs, hr, hl⟩
  · have t := cut_to (rs.map rowD) a
    have d := cut_from (rs.map rowD) a
    rw [← List.map_take] at t
    rw [← List.map_drop] at d
    have l1 : (rs.take a).length ≤ 60 := by rw [List.length_take]; omega
    have l2 : (rs.drop a).length ≤ 60 := by rw [List.length_drop]; omega
    have ad1 : addD (.list ((rs.take a).map rowD)) (rsD more) = some (.list ((rs.take a ++ more).map rowD)) := by
      rw [List.map_append]; exact addL (by rw [List.length_map, List.length_map]; omega)
    have ad2 : addD (.list ((rs.take a ++ more).map rowD)) (.list ((rs.drop a).map rowD)) = some (rsD (rs.take a ++ more ++ rs.drop a)) := by
      have := addL (xs := (rs.take a ++ more).map rowD) (ys := (rs.drop a).map rowD) (by rw [List.length_map, List.length_map, List.length_append]; omega)
      rw [← List.map_append] at this
      exact this
    have st := c8_ (rsD rs) (rsD more) _ _ _ _ z1 z2 (.fz (.int (M : Nat))) z4 z6 z9 a e t ad1 d ad2
    refine ⟨rs.take a ++ more ++ rs.drop a, e, _, (seq_nx (c7_no _ _ z1 z2 z4 _ z6 _ z9 _ _ _ (len_rs rs) (len_rs more) h)).trans st, ?_, fun r q => ?_, ?_⟩
    · have := Mv.put nm (rs.take a) (rs.drop a)
      rwa [List.take_append_drop] at this
    · rcases List.mem_append.mp q with q | q
      · rcases List.mem_append.mp q with q | q
        · exact hr r (List.mem_of_mem_take q)
        · exact om r q
      · exact hr r (List.mem_of_mem_drop q)
    · rw [List.length_append, List.length_append, List.length_take, List.length_drop]; omega
theorem told_rest {n M a : Nat} (hn : 1 ≤ n) (hM : M ≤ 60) (rs : List Row) (hr : ∀ r ∈ rs, r.ok n) (hl : rs.length ≤ 60) (c : Int) (z6 : Sl) : Told n rs (sSeq lc_4 (sSeq lc_5 (sSeq lc_6 (sSeq lc_7 lc_8)))) [.fz (rsD rs), .fz (.int c), .fz (.int (n : Nat)), .fz (.int (M : Nat)), .fz (.int (c / 3)), .fz (.int (a : Nat)), z6, .un, .un, .un] := by
  obtain ⟨more, em, nm, om, lm⟩ := nothing_eq (c / 3 / 7) n hn
  have s45 : ∀ t : Sf, (sSeq lc_4 (sSeq lc_5 t)) [.fz (rsD rs), .fz (.int c), .fz (.int (n : Nat)), .fz (.int (M : Nat)), .fz (.int (c / 3)), .fz (.int (a : Nat)), z6, .un, .un, .un] = t [.fz (rsD rs), .fz (.int c), .fz (.int (n : Nat)), .fz (.int (M : Nat)), .fz (.int (c / 3)), .fz (.int (a : Nat)), z6, .fz (rsD more), .fz (.int 0), .un] := fun t => (seq_nx (c4_ _ _ _ _ _ _ _ _ em)).trans (seq_nx (c5_ _ _ _ _ _ _ _ _))
  by_cases h : c % 3 = 1
  · obtain ⟨j, hj, ej, _⟩ := mod_nat (c / 3 / 5) n hn
    obtain ⟨e, he, e7⟩ : ∃ e : Nat, 1 + c / 3 / 15 % 7 = (e : Int) ∧ 1 ≤ e ∧ e ≤ 7 := ⟨(1 + c / 3 / 15 % 7).toNat, by omega, by omega, by omega⟩
    exact Told.of (told_end hM rs hr hl [.flip j, .turn j e, .flip j, .turn j e] e (nil_glob n j e) (fun r q => by
      simp only [List.mem_cons, List.not_mem_nil, or_false] at q
      rcases q with rfl | rfl | rfl | rfl
      · exact hj
      · exact ⟨hj, e7.1, e7.2⟩
      · exact hj
      · exact ⟨hj, e7.1, e7.2⟩) (by simp) _ _ _ z6 _) ((s45 _).trans (seq_nx (c6_yes _ _ _ _ _ _ c n _ j e h ej he)))
  · exact Told.of (told_end hM rs hr hl more 0 nm om lm _ _ _ z6 .un) ((s45 _).trans (seq_nx (c6_no _ _ _ _ _ _ _ _ c h)))
theorem told_all {n M : Nat} (hn : 1 ≤ n) (hM : M ≤ 60) (rs : List Row) (hr : ∀ r ∈ rs, r.ok n) (hl : rs.length ≤ 60) (c : Int) : Told n rs b__law_changed [.fz (rsD rs), .fz (.int c), .fz (.int (n : Nat)), .fz (.int (M : Nat)), .un, .un, .un, .un, .un, .un] := by
  obtain ⟨a, ha, ea, _⟩ := mod_nat (c / 3) (rs.length + 1) (by omega)
  rw [show ((rs.length + 1 : Nat) : Int) = (rs.length : Int) + 1 by omega] at ea
  have s12 : ∀ t : Sf, (sSeq lc_1 (sSeq lc_2 t)) [.fz (rsD rs), .fz (.int c), .fz (.int (n : Nat)), .fz (.int (M : Nat)), .un, .un, .un, .un, .un, .un] = t [.fz (rsD rs), .fz (.int c), .fz (.int (n : Nat)), .fz (.int (M : Nat)), .fz (.int (c / 3)), .fz (.int (a : Nat)), .un, .un, .un, .un] := fun t => (seq_nx (c1_ _ _ _ _ c rfl)).trans (seq_nx (c2_ _ _ _ _ _ _ _ (len_rs rs) ea))
  refine Told.of (t := sSeq lc_3 (sSeq lc_4 (sSeq lc_5 (sSeq lc_6 (sSeq lc_7 lc_8))))) ?_ ((congrFun lc_st _).trans (s12 _))
  by_cases h : c % 3 = 0 ∧ (a : Int) + 1 < (rs.length : Nat)
  · have h1 : a + 1 < rs.length := by omega
    have x1 := at_rs rs a (by omega) a rfl
    have x2 := at_rs rs (a + 1) h1 ((a : Int) + 1) (by omega)
    have ul : (wiresR rs[a]).length ≤ 1000 := by cases rs[a] <;> simp [wiresR]
    have p := ch_p (rsD rs) a _ _ _ _ (.fz (.int c)) (.fz (.int (n : Nat))) (.fz (.int (M : Nat))) (.fz (.int (c / 3))) .un .un .un .un ul x1 x2 (lwires_eq rs[a]) (lwires_eq rs[a + 1])
    cases q : (wiresR rs[a]).filter fun k => (wiresR rs[a + 1]).any (· == k) with
    | nil =>
      rw [q] at p
      have t := cut_to (rs.map rowD) a
      have d := cut_from (rs.map rowD) (a + 2)
      rw [← List.map_take] at t
      rw [← List.map_drop, show ((a + 2 : Nat) : Int) = (a : Int) + 2 by omega] at d
      have l1 : (rs.take a).length ≤ 60 := by rw [List.length_take]; omega
      have l2 : (rs.drop (a + 2)).length ≤ 60 := by rw [List.length_drop]; omega
      have ad1 : addD (.list ((rs.take a).map rowD)) (.list [rowD rs[a + 1], rowD rs[a]]) = some (.list ((rs.take a ++ [rs[a + 1], rs[a]]).map rowD)) := by
        rw [List.map_append]; exact addL (by rw [List.length_map]; simp; omega)
      have ad2 : addD (.list ((rs.take a ++ [rs[a + 1], rs[a]]).map rowD)) (.list ((rs.drop (a + 2)).map rowD)) = some (rsD (rs.take a ++ rs[a + 1] :: rs[a] :: rs.drop (a + 2))) := by
        have := addL (xs := (rs.take a ++ [rs[a + 1], rs[a]]).map rowD) (ys := (rs.drop (a + 2)).map rowD) (by rw [List.length_map, List.length_map, List.length_append]; simp only [List.length_cons, List.length_nil]; omega)
        rw [← List.map_append, List.append_assoc] at this
        exact this
      have ap : apartR rs[a] rs[a + 1] := fun k hk hk2 => by
        have : k ∈ (wiresR rs[a]).filter fun k => (wiresR rs[a + 1]).any (· == k) := List.mem_filter.mpr ⟨hk, List.any_eq_true.mpr ⟨k, hk2, by simp⟩⟩
        rw [q] at this
        cases this
      have sp := split_at h1
      refine ⟨rs.take a ++ rs[a + 1] :: rs[a] :: rs.drop (a + 2), 0, _, seq_rt (c3_nil _ _ _ _ _ _ _ _ c _ _ a (len_rs rs) h.1 h.2 p x1 x2 t ad1 d _ ad2), ?_, fun r hm => ?_, ?_⟩
      · have := Mv.swap (hr rs[a] (List.getElem_mem _)) (hr rs[a + 1] (List.getElem_mem _)) ap (rs.take a) (rs.drop (a + 2))
        rwa [← sp] at this
      · rcases List.mem_append.mp hm with hm | hm
        · exact hr r (List.mem_of_mem_take hm)
        · rcases List.mem_cons.mp hm with rfl | hm
          · exact hr _ (List.getElem_mem _)
          · rcases List.mem_cons.mp hm with rfl | hm
            · exact hr _ (List.getElem_mem _)
            · exact hr r (List.mem_of_mem_drop hm)
      · rw [List.length_append, List.length_cons, List.length_cons, List.length_take, List.length_drop]; omega
    | cons k ks =>
      have e := eq_ws ((wiresR rs[a]).filter fun k => (wiresR rs[a + 1]).any (· == k))
      rw [show ((wiresR rs[a]).filter fun k => (wiresR rs[a + 1]).any (· == k)).isEmpty = false by rw [q]; rfl] at e
      exact Told.of (told_rest hn hM rs hr hl c _) (seq_nx (c3_some _ _ _ _ c _ _ a (len_rs rs) h.1 h.2 p e))
  · exact Told.of (told_rest hn hM rs hr hl c .un) (seq_nx (c3_no _ _ _ c _ _ a (len_rs rs) h))
theorem changed_eq {n M : Nat} (hn : 1 ≤ n) (hM : M ≤ 60) (rs : List Row) (hr : ∀ r ∈ rs, r.ok n) (hl : rs.length ≤ 60) (c : Int) : ∃ (rs' : List Row) (e : Nat), g__law_changed [rsD rs, .int c, .int (n : Nat), .int (M : Nat)] = some (.tuple [rsD rs', .int (e : Nat)]) ∧ Mv n rs rs' e ∧ (∀ r ∈ rs', r.ok n) ∧ rs'.length ≤ 60 := by
  obtain ⟨rs', e, δ, h, r⟩ := (told_all hn hM rs hr hl c).ex
  exact ⟨rs', e, run_rt (N := N__law_changed) (n := 4) (b := b__law_changed) rfl ⟨δ, h⟩, r⟩

noncomputable def st_1 : Sf := sSet 1 (VL.os (oCons (oV 0) (oCons (oC (.int 0)) (oNil))) g__law_cell_at)
noncomputable def st_2 : Sf := sSet 2 (o2 (oC (.int 1)) (o2 (oV 1) (oC (.int 3)) modD) addD)
noncomputable def st_3 : Sf := sIf (ob (o2 (o2 (o2 (oV 1) (oC (.int 75)) divD) (oC (.int 12)) modD) (oC (.int 7)) eqD)) (sSet 2 (oC (.int 4))) (sNx)
noncomputable def st_4 : Sf := sSet 3 (o2 (VL.os (oCons (oC (.int 60)) (oCons (oC (.int 36)) (oCons (oC (.int 12)) (oCons (oC (.int 7)) (oNil))))) lstD) (o2 (oV 2) (oC (.int 1)) subD) ixD)
noncomputable def st_5 : Sf := sSet 4 (o2 (o2 (oV 1) (oC (.int 3)) divD) (o2 (VL.os (oCons (oC (.int 25)) (oCons (oC (.int 15)) (oCons (oC (.int 6)) (oCons (oC (.int 3)) (oNil))))) lstD) (o2 (oV 2) (oC (.int 1)) subD) ixD) modD)
noncomputable def st_6 : Sf := sSet 5 (p1_law)
noncomputable def st_7 : Sf := sSet 6 (VL.os (oCons (oV 5) (oNil)) listD)
noncomputable def st_8 : Sf := sSet 7 (oC (.int 0))
noncomputable def st_9 : Sf := sFor (oI (oSl (oV 0) (oP (o2 (oC (.int 1)) (oV 4) addD)) (oNo)) itsD) (gN 8) (l1_law)
noncomputable def st_10 : Sf := sSet 10 (VL.os (oCons (oV 2) (oCons (VL.os (oCons (oV 5) (oNil)) tupleD) (oNil))) tupD)
noncomputable def st_11 : Sf := sSet 11 (VL.os (oCons (oV 2) (oCons (VL.os (oCons (oV 6) (oNil)) tupleD) (oNil))) tupD)
noncomputable def st_12 : Sf := sRet (oAndV (VL.os (oCons (VL.os (oCons (oV 10) (oCons (oV 11) (oNil))) g_alike_paper) (oCons (oV 7) (oNil))) g__law_told) (VL.os (oCons (VL.os (oCons (oV 11) (oCons (oV 10) (oNil))) g_alike_paper) (oCons (o1 (oV 7) negD) (oNil))) g__law_told))
theorem law_st : b_law = sSeq st_1 (sSeq st_2 (sSeq st_3 (sSeq st_4 (sSeq st_5 (sSeq st_6 (sSeq st_7 (sSeq st_8 (sSeq st_9 (sSeq st_10 (sSeq st_11 (st_12))))))))))) := rfl

/-! ### the law -/
theorem told_x (k e : Int) (h : e % 8 = k) : g__law_told [.tuple [.str "alike", .int k], .int e] = some (.bool true) := by
  subst h
  have t : isiD "tuple" (.tuple [.str "alike", .int (e % 8)]) = some (.bool true) := rfl
  have b : isiD "bool" (.int (e % 8)) = some (.bool false) := rfl
  have ne : neD (.int 2) (.int 2) = some (.bool false) := rfl
  have a1 : atI [PyData.str "alike", .int (e % 8)] 1 = some (.int (e % 8)) := rfl
  have sh : MA.Sh 1 (.tuple [.str "alike", .int (e % 8)]) := MA.Sh.tuple fun x hx => by
    simp only [List.mem_cons, List.not_mem_nil, or_false] at hx
    rcases hx with rfl | rfl
    · have h : ((PyData.str "alike").canLay0 && decide ((PyData.str "alike").depth ≤ 64)) = true := (by decide +kernel : okS "alike" = true)
      rw [Bool.and_eq_true] at h
      exact ⟨h.1, by simp [PyData.depth]⟩
    · exact MA.Sh.int 0 _
  have eq := eq_self sh (by decide)
  simp [g__law_told, runB, b__law_told, startD, t, b, ne, a1, eq]
theorem a1 (S : D) (c : Int) (h : g__law_cell_at [S, .int 0] = some (.int c)) : st_1 [.fz S, .un, .un, .un, .un, .un, .un, .un, .un, .un, .un, .un] = some (.nx, [.fz S, .fz (.int c), .un, .un, .un, .un, .un, .un, .un, .un, .un, .un]) := by
  simp [st_1, h]
theorem a2 (z0 : Sl) (c : Int) : st_2 [z0, .fz (.int c), .un, .un, .un, .un, .un, .un, .un, .un, .un, .un] = some (.nx, [z0, .fz (.int c), .fz (.int (1 + c % 3)), .un, .un, .un, .un, .un, .un, .un, .un, .un]) := by
  simp [st_2]
theorem a3 (z0 : Sl) (c w : Int) (h : (if c / 75 % 12 = 7 then 4 else 1 + c % 3) = w) : st_3 [z0, .fz (.int c), .fz (.int (1 + c % 3)), .un, .un, .un, .un, .un, .un, .un, .un, .un] = some (.nx, [z0, .fz (.int c), .fz (.int w), .un, .un, .un, .un, .un, .un, .un, .un, .un]) := by
  by_cases q : c / 75 % 12 = 7
  · rw [if_pos q] at h
    subst h
    simp [st_3, q]
  · rw [if_neg q] at h
    subst h
    simp [st_3, q]
theorem a4 (z0 z1 : Sl) (w M : Int) (h : atI [PyData.int 60, .int 36, .int 12, .int 7] (w - 1) = some (.int M)) : st_4 [z0, z1, .fz (.int w), .un, .un, .un, .un, .un, .un, .un, .un, .un] = some (.nx, [z0, z1, .fz (.int w), .fz (.int M), .un, .un, .un, .un, .un, .un, .un, .un]) := by
  simp [st_4, h]
theorem a5 (z0 z3 : Sl) (c w x k : Int) (h : atI [PyData.int 25, .int 15, .int 6, .int 3] (w - 1) = some (.int x)) (hk : modD (.int (c / 3)) (.int x) = some (.int k)) : st_5 [z0, .fz (.int c), .fz (.int w), z3, .un, .un, .un, .un, .un, .un, .un, .un] = some (.nx, [z0, .fz (.int c), .fz (.int w), z3, .fz (.int k), .un, .un, .un, .un, .un, .un, .un]) := by
  simp [st_5, h, hk]
theorem a6 (z0 z1 z2 z3 z4 : Sl) (R : D) (h : p1_law [z0, z1, z2, z3, z4, .un, .un, .un, .un, .un, .un, .un] = some R) : st_6 [z0, z1, z2, z3, z4, .un, .un, .un, .un, .un, .un, .un] = some (.nx, [z0, z1, z2, z3, z4, .fz R, .un, .un, .un, .un, .un, .un]) := by
  simp [st_6, h]
theorem a7 (z0 z1 z2 z3 z4 : Sl) (L : List D) : st_7 [z0, z1, z2, z3, z4, .fz (.list L), .un, .un, .un, .un, .un, .un] = some (.nx, [z0, z1, z2, z3, z4, .fz (.list L), .fz (.list L), .un, .un, .un, .un, .un]) := by
  simp [st_7]
theorem a8 (z0 z1 z2 z3 z4 z5 z6 : Sl) : st_8 [z0, z1, z2, z3, z4, z5, z6, .un, .un, .un, .un, .un] = some (.nx, [z0, z1, z2, z3, z4, z5, z6, .fz (.int 0), .un, .un, .un, .un]) := by
  simp [st_8]
theorem a9 (S X : D) (z1 z2 z3 z5 z6 z7 : Sl) (k : Int) (L : List D) (δ : Dv) (sl : slD S (some (1 + k)) none = some X) (it : itsD X = some L) (lp : loop (gN 8) l1_law L [.fz S, z1, z2, z3, .fz (.int k), z5, z6, z7, .un, .un, .un, .un] = some (.nx, δ)) : st_9 [.fz S, z1, z2, z3, .fz (.int k), z5, z6, z7, .un, .un, .un, .un] = some (.nx, δ) := by
  simp [st_9, sl, it, lp]
theorem a10 (z0 z1 z3 z4 z6 z7 z8 z9 : Sl) (w : D) (L : List D) : st_10 [z0, z1, .fz w, z3, z4, .fz (.list L), z6, z7, z8, z9, .un, .un] = some (.nx, [z0, z1, .fz w, z3, z4, .fz (.list L), z6, z7, z8, z9, .fz (.tuple [w, .tuple L]), .un]) := by
  simp [st_10]
theorem a11 (z0 z1 z3 z4 z5 z7 z8 z9 z10 : Sl) (w : D) (L : List D) : st_11 [z0, z1, .fz w, z3, z4, z5, .fz (.list L), z7, z8, z9, z10, .un] = some (.nx, [z0, z1, .fz w, z3, z4, z5, .fz (.list L), z7, z8, z9, z10, .fz (.tuple [w, .tuple L])]) := by
  simp [st_11]
theorem a12 (z0 z1 z2 z3 z4 z5 z6 z8 z9 : Sl) (A B P Q : D) (e : Int) (p : g_alike_paper [A, B] = some P) (q : g_alike_paper [B, A] = some Q) (t : g__law_told [P, .int e] = some (.bool true)) (u : g__law_told [Q, .int (-e)] = some (.bool true)) : st_12 [z0, z1, z2, z3, z4, z5, z6, .fz (.int e), z8, z9, .fz A, .fz B] = some (.rt (.bool true), [z0, z1, z2, z3, z4, z5, z6, .fz (.int e), z8, z9, .fz A, .fz B]) := by
  simp [st_12, p, q, t, u, asB]
theorem lcell_eq (ns : List Int) (k : Int) (hk : 0 ≤ k) : ∃ c, g__law_cell_at [.list (ns.map .int), .int k] = some (.int c) := by
  by_cases h : k < ns.length
  · have hk' : k.toNat < ns.length := by omega
    refine ⟨ns[k.toNat], ?_⟩
    have e : atI (ns.map PyData.int) k = some (.int ns[k.toNat]) := atI_of (j := k.toNat) (by omega) (by simp [hk'])
    simp [g__law_cell_at, runB, b__law_cell_at, startD, h, e]
  · exact ⟨0, by simp [g__law_cell_at, runB, b__law_cell_at, startD, h]⟩
theorem cut_1 (ns : List Int) (x : Nat) : ∃ cs : List Int, cs.length ≤ x ∧ slD (.list (ns.map .int)) (some 1) (some (1 + (x : Int))) = some (.list (cs.map .int)) := by
  refine ⟨(ns.drop (HT.sIx ns.length 0 (some 1))).take (HT.sIx ns.length ns.length (some (1 + (x : Int))) - HT.sIx ns.length 0 (some 1)), ?_, ?_⟩
  · rw [List.length_take, List.length_drop]
    have e1 : HT.sIx ns.length 0 (some 1) = min 1 ns.length := rfl
    have e2 : HT.sIx ns.length ns.length (some (1 + (x : Int))) ≤ 1 + x := by
      unfold HT.sIx
      simp only
      split <;> omega
    omega
  · show some (PyData.list (cutD _ _ _)) = _
    unfold cutD
    rw [List.length_map, ← List.map_drop, ← List.map_take]
theorem p1_i (S : D) (k : Int) (L : List D) (z1 z2 z3 z5 z6 z7 z8 z9 z10 z11 : Sl) (sl : slD S (some 1) (some (1 + k)) = some (.list L)) : (oI (oSl (oV 0) (oP (oC (.int 1))) (oP (o2 (oC (.int 1)) (oV 4) addD))) itsD) [.fz S, z1, z2, z3, .fz (.int k), z5, z6, z7, z8, z9, z10, z11] = some L := by
  simp [sl]
theorem p1_e (c w R : D) (h : g__law_row [c, w] = some R) : (VL.os (oCons (oV 0) (oCons (oV 1) (oNil))) g__law_row) [.fz c, .fz w] = some R := by
  simp [h]
theorem p1_eq (n : Nat) (hn : 1 ≤ n) (S B : D) (cs : List Int) (hl : cs.length ≤ 1000) (k : Int) (z1 z3 z5 z6 z7 z8 z9 z10 z11 : Sl) (sl : slD S (some 1) (some (1 + k)) = some (.list (cs.map .int))) : ∃ rs : List Row, rs.length = cs.length ∧ (∀ r ∈ rs, r.ok n) ∧ p1_law [.fz S, z1, .fz (.int (n : Nat)), z3, .fz (.int k), z5, z6, z7, z8, z9, z10, z11] = some (rsD rs) := by
  have ch : ∀ c : Int, ∃ r : Row, g__law_row [.int c, .int (n : Nat)] = some (rowD r) ∧ r.ok n := fun c => lrow_ok c n hn
  refine ⟨cs.map fun c => Classical.choose (ch c), by rw [List.length_map], fun r hr => ?_, ?_⟩
  · obtain ⟨c, _, rfl⟩ := List.mem_map.mp hr
    exact (Classical.choose_spec (ch c)).2
  · unfold rsD
    rw [List.map_map]
    exact comp_map (h := PyData.int) (k := fun c => rowD (Classical.choose (ch c))) (xs := cs) (p1_i S k _ z1 _ z3 z5 z6 z7 z8 z9 z10 z11 sl) (by omega) fun c _ => p1_e _ _ _ (Classical.choose_spec (ch c)).1
theorem l1_x (z0 z1 z4 z5 z10 z11 : Sl) (w M O O' : D) (c e f : Int) (z9 : Sl) (h : g__law_changed [O, .int c, w, M] = some (.tuple [O', .int f])) : l1_law [z0, z1, .fz w, .fz M, z4, z5, .fz O, .fz (.int e), .fz (.int c), z9, z10, z11] = some (.nx, [z0, z1, .fz w, .fz M, z4, z5, .fz O', .fz (.int (e + f)), .fz (.int c), .fz (.int f), z10, z11]) := by
  simp [l1_law, sAsg, h]
theorem l1_loop {n M : Nat} (hn : 1 ≤ n) (hM : M ≤ 60) (as : List Row) (z0 z1 z4 z5 z10 z11 : Sl) : ∀ (cs : List Int) (oq : List Row) (e : Nat) (z8 z9 : Sl), Mv n as oq e → (∀ r ∈ oq, r.ok n) → oq.length ≤ 60 → ∃ (oq' : List Row) (e' : Nat) (y8 y9 : Sl), loop (gN 8) l1_law (cs.map .int) [z0, z1, .fz (.int (n : Nat)), .fz (.int (M : Nat)), z4, z5, .fz (rsD oq), .fz (.int (e : Nat)), z8, z9, z10, z11] = some (.nx, [z0, z1, .fz (.int (n : Nat)), .fz (.int (M : Nat)), z4, z5, .fz (rsD oq'), .fz (.int (e' : Nat)), y8, y9, z10, z11]) ∧ Mv n as oq' e' ∧ (∀ r ∈ oq', r.ok n) ∧ oq'.length ≤ 60
  | [], oq, e, z8, z9, mv, ok, ln => ⟨oq, e, z8, z9, rfl, mv, ok, ln⟩
  | c :: cs, oq, e, z8, z9, mv, ok, ln => by
    obtain ⟨o1, f, h, mv1, ok1, ln1⟩ := changed_eq hn hM oq ok ln c
    have st := l1_x z0 z1 z4 z5 z10 z11 (.int (n : Nat)) (.int (M : Nat)) _ _ c e f z9 h
    rw [← Int.natCast_add] at st
    obtain ⟨oq', e', y8, y9, lp, r⟩ := l1_loop hn hM as z0 z1 z4 z5 z10 z11 cs o1 (e + f) (.fz (.int c)) (.fz (.int (f : Nat))) (mv.trans mv1) ok1 ln1
    refine ⟨oq', e', y8, y9, ?_, r⟩
    rw [List.map_cons, loop_step (δ1 := [z0, z1, .fz (.int (n : Nat)), .fz (.int (M : Nat)), z4, z5, .fz (rsD oq), .fz (.int (e : Nat)), .fz (.int c), z9, z10, z11]) (by simp) st]
    exact lp
theorem law_true (ns : List Int) (hl : ns.length ≤ 63) : g_law [.list (ns.map .int)] = some (.bool true) := by
  obtain ⟨c, hc⟩ := lcell_eq ns 0 (by decide)
  obtain ⟨n, hw⟩ : ∃ w : Nat, (if c / 75 % 12 = 7 then 4 else 1 + c % 3) = (w : Int) := ⟨(if c / 75 % 12 = 7 then 4 else 1 + c % 3).toNat, by split <;> omega⟩
  have n14 : 1 ≤ n ∧ n ≤ 4 := by split at hw <;> omega
  obtain ⟨M, x, eM, ex, hM, hx1, hx2⟩ : ∃ M x : Nat, atI [PyData.int 60, .int 36, .int 12, .int 7] ((n : Int) - 1) = some (.int (M : Nat)) ∧ atI [PyData.int 25, .int 15, .int 6, .int 3] ((n : Int) - 1) = some (.int (x : Nat)) ∧ M ≤ 60 ∧ 1 ≤ x ∧ x ≤ 25 := by
    rcases (by omega : n = 1 ∨ n = 2 ∨ n = 3 ∨ n = 4) with rfl | rfl | rfl | rfl
    · exact ⟨60, 25, rfl, rfl, by decide, by decide, by decide⟩
    · exact ⟨36, 15, rfl, rfl, by decide, by decide, by decide⟩
    · exact ⟨12, 6, rfl, rfl, by decide, by decide, by decide⟩
    · exact ⟨7, 3, rfl, rfl, by decide, by decide, by decide⟩
  obtain ⟨k, hk, ek, _⟩ := mod_nat (c / 3) x hx1
  obtain ⟨cs, hcl, hsl⟩ := cut_1 ns k
  obtain ⟨rs, rl, ro, P1⟩ := p1_eq n n14.1 (.list (ns.map .int)) .none cs (by omega) k (.fz (.int c)) (.fz (.int (M : Nat))) .un .un .un .un .un .un .un hsl
  have cf := cut_from (ns.map PyData.int) (1 + k)
  rw [← List.map_drop, show ((1 + k : Nat) : Int) = 1 + (k : Int) by omega] at cf
  obtain ⟨oq, e, y8, y9, lp, mv, oo, ol⟩ := l1_loop n14.1 hM rs (.fz (.list (ns.map .int))) (.fz (.int c)) (.fz (.int (k : Nat))) (.fz (rsD rs)) .un .un (ns.drop (1 + k)) rs 0 .un .un (Mv.refl n rs) ro (by omega)
  have A1 := alike_eq n14.2 mv ro oo (by omega) ol
  have A2 := alike_eq (e := 8 * e - e) n14.2 (mv.symm ⟨e, by omega⟩) oo ro ol (by omega)
  have T1 := told_x ((e % 8 : Nat) : Int) (e : Nat) (by omega)
  have T2 := told_x (((8 * e - e) % 8 : Nat) : Int) (-(e : Int)) (by omega)
  refine run_rt (N := N_law) (n := 1) (b := b_law) rfl ⟨?_, (congrFun law_st _).trans ?_⟩
  rotate_left
  refine (seq_nx (a1 _ _ hc)).trans ?_
  refine (seq_nx (a2 _ _)).trans ?_
  refine (seq_nx (a3 _ _ _ hw)).trans ?_
  refine (seq_nx (a4 _ _ _ _ eM)).trans ?_
  refine (seq_nx (a5 _ _ _ _ _ _ ex ek)).trans ?_
  refine (seq_nx (a6 _ _ _ _ _ _ P1)).trans ?_
  refine (seq_nx (a7 _ _ _ _ _ _)).trans ?_
  refine (seq_nx (a8 _ _ _ _ _ _ _)).trans ?_
  refine (seq_nx (a9 _ _ _ _ _ _ _ _ _ _ _ cf rfl lp)).trans ?_
  refine (seq_nx (a10 _ _ _ _ _ _ _ _ _ _)).trans ?_
  refine (seq_nx (a11 _ _ _ _ _ _ _ _ _ _ _)).trans ?_
  exact a12 _ _ _ _ _ _ _ _ _ _ _ _ _ _ A1 A2 T1 T2


end GN
namespace GN
open PySem PySem.Spec PyProof.Rows L2 VL
structure Txt (mg : Str → Option Value) : Prop where
  min : mg "min" = none
  max : mg "max" = none
  tuple : mg "tuple" = none
  range : mg "range" = none
  len : mg "len" = none
  all : mg "all" = none
  list : mg "list" = none
  isinstance : mg "isinstance" = none
  bool : mg "bool" = none
section
variable {P : Program} {w : World} {K : PySem.W.Frag} {mg : Str → Option Value} {base : Heap}
theorem sc_twos_shared : FnScope N_twos_shared ["joined", "most"] (defScope s_twos_shared) := ⟨rfl, rfl, rfl, by decide +kernel, rfl, by decide +kernel, by decide +kernel⟩
theorem ok_twos_shared {f : Addr} {fd : FuncData} {dV : Value} (F : FunV K "twos_shared" "twos_shared" s_twos_shared f fd dV) (T : Txt mg) : FnOk P w K mg base CX0 1 f fd ["joined", "most"] (spD K g_twos_shared) :=
  fn_b (k := 0) (b := b_twos_shared) F sc_twos_shared fun cdv A outer s H E hr => (bv_cons (sv_if (tv_cmp (d_eq hr.units) (ev_var 0) ev_int (nomark _)) (bv_one (sv_ret (ev_var 1))) bv_nil) (bv_one (sv_ret (ev_callB (c_min rfl) rfl T.min (by decide +kernel) (av_cons (ev_var 1) (av_cons (ev_op d_sub (ev_bits (ev_op d_and (ev_var 0) (ev_un d_neg (ev_var 0)))) ev_int) av_nil))))))
theorem sc_by_root : FnScope N_by_root ["a", "b", "c", "d"] (defScope s_by_root) := ⟨rfl, rfl, rfl, by decide +kernel, rfl, by decide +kernel, by decide +kernel⟩
theorem ok_by_root {f : Addr} {fd : FuncData} {dV : Value} (F : FunV K "by_root" "by_root" s_by_root f fd dV) (T : Txt mg) : FnOk P w K mg base CX0 1 f fd ["a", "b", "c", "d"] (spD K g_by_root) :=
  fn_b (k := 0) (b := b_by_root) F sc_by_root fun cdv A outer s H E hr => (bv_one (sv_ret (ev_tup (av_cons (ev_op d_sub (ev_var 1) (ev_var 3)) (av_cons (ev_op d_add (ev_var 0) (ev_var 2)) (av_cons (ev_op d_add (ev_var 1) (ev_var 3)) (av_cons (ev_op d_sub (ev_var 2) (ev_var 0)) av_nil)))))))
theorem sc_number : FnScope N_number ["a", "b", "c", "d", "k"] (defScope s_number) := ⟨rfl, rfl, rfl, by decide +kernel, rfl, by decide +kernel, by decide +kernel⟩
theorem ok_number {f : Addr} {fd : FuncData} {dV : Value} (F : FunV K "number" "number" s_number f fd dV) (T : Txt mg) (C_twos_shared : Cal P w K mg base "twos_shared" 1 g_twos_shared []) (C_by_root : Cal P w K mg base "by_root" 1 g_by_root []) : FnOk P w K mg base CX0 2 f fd ["a", "b", "c", "d", "k"] (spD K g_number) :=
  fn_b (k := 1) (b := b_number) F sc_number fun cdv A outer s H E hr => (bv_cons (sv_set 5 sc_number.nd (ev_def0 C_twos_shared (hr.mono (by decide)) rfl (av_cons (ev_op d_or (ev_op d_or (ev_op d_or (ev_var 0) (ev_var 1)) (ev_var 2)) (ev_var 3)) (av_cons (ev_op d_div (ev_var 4) ev_int) av_nil)))) (bv_cons (sv_set 0 sc_number.nd (ev_op d_shr (ev_var 0) (ev_var 5))) (bv_cons (sv_set 1 sc_number.nd (ev_op d_shr (ev_var 1) (ev_var 5))) (bv_cons (sv_set 2 sc_number.nd (ev_op d_shr (ev_var 2) (ev_var 5))) (bv_cons (sv_set 3 sc_number.nd (ev_op d_shr (ev_var 3) (ev_var 5))) (bv_cons (sv_set 4 sc_number.nd (ev_op d_sub (ev_var 4) (ev_op d_mulI ev_int (ev_var 5)))) (bv_cons (sv_if (WV.tv (wv_or (tv_cmp (d_eq hr.units) (ev_var 4) ev_int (nomark _)) (wv_or (tv_cmp (d_eq hr.units) (ev_op d_mod (ev_op d_sub (ev_var 0) (ev_var 2)) ev_int) ev_int (nomark _)) (wv_or1 (tv_cmp (d_eq hr.units) (ev_op d_mod (ev_op d_sub (ev_var 1) (ev_var 3)) ev_int) ev_int (nomark _)))))) (bv_one (sv_ret (ev_tup (av_cons (ev_var 0) (av_cons (ev_var 1) (av_cons (ev_var 2) (av_cons (ev_var 3) (av_cons (ev_var 4) av_nil)))))))) bv_nil) (bv_cons (sv_set 6 sc_number.nd (ev_def0 C_by_root (hr.mono (by decide)) rfl (av_cons (ev_var 0) (av_cons (ev_var 1) (av_cons (ev_var 2) (av_cons (ev_var 3) av_nil)))))) (bv_one (sv_ret (ev_tup (av_cons (ev_op d_div (ev_ix d_ix (ev_var 6) ev_int (fun _ _ => rfl)) ev_int) (av_cons (ev_op d_div (ev_ix d_ix (ev_var 6) ev_int (fun _ _ => rfl)) ev_int) (av_cons (ev_op d_div (ev_ix d_ix (ev_var 6) ev_int (fun _ _ => rfl)) ev_int) (av_cons (ev_op d_div (ev_ix d_ix (ev_var 6) ev_int (fun _ _ => rfl)) ev_int) (av_cons (ev_op d_sub (ev_var 4) ev_int) av_nil))))))))))))))))
theorem sc_parts_over : FnScope N_parts_over ["x", "k"] (defScope s_parts_over) := ⟨rfl, rfl, rfl, by decide +kernel, rfl, by decide +kernel, by decide +kernel⟩
theorem ok_parts_over {f : Addr} {fd : FuncData} {dV : Value} (F : FunV K "parts_over" "parts_over" s_parts_over f fd dV) (T : Txt mg) (C_by_root : Cal P w K mg base "by_root" 1 g_by_root []) : FnOk P w K mg base CX0 2 f fd ["x", "k"] (spD K g_parts_over) :=
  fn_b (k := 1) (b := b_parts_over) F sc_parts_over fun cdv A outer s H E hr => (bv_cons (sv_set 2 sc_parts_over.nd (ev_op d_sub (ev_var 1) (ev_ix d_ix (ev_var 0) ev_int (fun _ _ => rfl)))) (bv_cons (sv_set 3 sc_parts_over.nd (ev_op d_div (ev_var 2) ev_int)) (bv_cons (sv_set 4 sc_parts_over.nd (ev_op d_shl (ev_ix d_ix (ev_var 0) ev_int (fun _ _ => rfl)) (ev_var 3))) (bv_cons (sv_set 5 sc_parts_over.nd (ev_op d_shl (ev_ix d_ix (ev_var 0) ev_int (fun _ _ => rfl)) (ev_var 3))) (bv_cons (sv_set 6 sc_parts_over.nd (ev_op d_shl (ev_ix d_ix (ev_var 0) ev_int (fun _ _ => rfl)) (ev_var 3))) (bv_cons (sv_set 7 sc_parts_over.nd (ev_op d_shl (ev_ix d_ix (ev_var 0) ev_int (fun _ _ => rfl)) (ev_var 3))) (bv_cons (sv_if (tv_cmp (d_eq hr.units) (ev_op d_mod (ev_var 2) ev_int) ev_int (nomark _)) (bv_one (sv_ret (ev_def0 C_by_root (hr.mono (by decide)) rfl (av_cons (ev_var 4) (av_cons (ev_var 5) (av_cons (ev_var 6) (av_cons (ev_var 7) av_nil))))))) bv_nil) (bv_one (sv_ret (ev_tup (av_cons (ev_var 4) (av_cons (ev_var 5) (av_cons (ev_var 6) (av_cons (ev_var 7) av_nil))))))))))))))
theorem sc_plus : FnScope N_plus ["x", "y"] (defScope s_plus) := ⟨rfl, rfl, rfl, by decide +kernel, rfl, by decide +kernel, by decide +kernel⟩
theorem ok_plus {f : Addr} {fd : FuncData} {dV : Value} (F : FunV K "plus" "plus" s_plus f fd dV) (T : Txt mg) (C_parts_over : Cal P w K mg base "parts_over" 2 g_parts_over []) (C_number : Cal P w K mg base "number" 2 g_number []) : FnOk P w K mg base CX0 3 f fd ["x", "y"] (spD K g_plus) :=
  fn_b (k := 2) (b := b_plus) F sc_plus fun cdv A outer s H E hr => (bv_cons (sv_set 2 sc_plus.nd (ev_callB (c_max rfl) rfl T.max (by decide +kernel) (av_cons (ev_ix d_ix (ev_var 0) ev_int (fun _ _ => rfl)) (av_cons (ev_ix d_ix (ev_var 1) ev_int (fun _ _ => rfl)) av_nil)))) (bv_cons (sv_set 3 sc_plus.nd (ev_def0 C_parts_over (hr.mono (by decide)) rfl (av_cons (ev_var 0) (av_cons (ev_var 2) av_nil)))) (bv_cons (sv_set 4 sc_plus.nd (ev_def0 C_parts_over (hr.mono (by decide)) rfl (av_cons (ev_var 1) (av_cons (ev_var 2) av_nil)))) (bv_one (sv_ret (ev_def0 C_number (hr.mono (by decide)) rfl (av_cons (ev_op d_add (ev_ix d_ix (ev_var 3) ev_int (fun _ _ => rfl)) (ev_ix d_ix (ev_var 4) ev_int (fun _ _ => rfl))) (av_cons (ev_op d_add (ev_ix d_ix (ev_var 3) ev_int (fun _ _ => rfl)) (ev_ix d_ix (ev_var 4) ev_int (fun _ _ => rfl))) (av_cons (ev_op d_add (ev_ix d_ix (ev_var 3) ev_int (fun _ _ => rfl)) (ev_ix d_ix (ev_var 4) ev_int (fun _ _ => rfl))) (av_cons (ev_op d_add (ev_ix d_ix (ev_var 3) ev_int (fun _ _ => rfl)) (ev_ix d_ix (ev_var 4) ev_int (fun _ _ => rfl))) (av_cons (ev_var 2) av_nil)))))))))))
theorem sc_times : FnScope N_times ["x", "y"] (defScope s_times) := ⟨rfl, rfl, rfl, by decide +kernel, rfl, by decide +kernel, by decide +kernel⟩
theorem ok_times {f : Addr} {fd : FuncData} {dV : Value} (F : FunV K "times" "times" s_times f fd dV) (T : Txt mg) (C_number : Cal P w K mg base "number" 2 g_number []) : FnOk P w K mg base CX0 3 f fd ["x", "y"] (spD K g_times) :=
  fn_b (k := 2) (b := b_times) F sc_times fun cdv A outer s H E hr => (bv_one (sv_ret (ev_def0 C_number (hr.mono (by decide)) rfl (av_cons (ev_op d_sub (ev_op d_sub (ev_op d_sub (ev_op d_mulI (ev_ix d_ix (ev_var 0) ev_int (fun _ _ => rfl)) (ev_ix d_ix (ev_var 1) ev_int (fun _ _ => rfl))) (ev_op d_mulI (ev_ix d_ix (ev_var 0) ev_int (fun _ _ => rfl)) (ev_ix d_ix (ev_var 1) ev_int (fun _ _ => rfl)))) (ev_op d_mulI (ev_ix d_ix (ev_var 0) ev_int (fun _ _ => rfl)) (ev_ix d_ix (ev_var 1) ev_int (fun _ _ => rfl)))) (ev_op d_mulI (ev_ix d_ix (ev_var 0) ev_int (fun _ _ => rfl)) (ev_ix d_ix (ev_var 1) ev_int (fun _ _ => rfl)))) (av_cons (ev_op d_sub (ev_op d_sub (ev_op d_add (ev_op d_mulI (ev_ix d_ix (ev_var 0) ev_int (fun _ _ => rfl)) (ev_ix d_ix (ev_var 1) ev_int (fun _ _ => rfl))) (ev_op d_mulI (ev_ix d_ix (ev_var 0) ev_int (fun _ _ => rfl)) (ev_ix d_ix (ev_var 1) ev_int (fun _ _ => rfl)))) (ev_op d_mulI (ev_ix d_ix (ev_var 0) ev_int (fun _ _ => rfl)) (ev_ix d_ix (ev_var 1) ev_int (fun _ _ => rfl)))) (ev_op d_mulI (ev_ix d_ix (ev_var 0) ev_int (fun _ _ => rfl)) (ev_ix d_ix (ev_var 1) ev_int (fun _ _ => rfl)))) (av_cons (ev_op d_sub (ev_op d_add (ev_op d_add (ev_op d_mulI (ev_ix d_ix (ev_var 0) ev_int (fun _ _ => rfl)) (ev_ix d_ix (ev_var 1) ev_int (fun _ _ => rfl))) (ev_op d_mulI (ev_ix d_ix (ev_var 0) ev_int (fun _ _ => rfl)) (ev_ix d_ix (ev_var 1) ev_int (fun _ _ => rfl)))) (ev_op d_mulI (ev_ix d_ix (ev_var 0) ev_int (fun _ _ => rfl)) (ev_ix d_ix (ev_var 1) ev_int (fun _ _ => rfl)))) (ev_op d_mulI (ev_ix d_ix (ev_var 0) ev_int (fun _ _ => rfl)) (ev_ix d_ix (ev_var 1) ev_int (fun _ _ => rfl)))) (av_cons (ev_op d_add (ev_op d_add (ev_op d_add (ev_op d_mulI (ev_ix d_ix (ev_var 0) ev_int (fun _ _ => rfl)) (ev_ix d_ix (ev_var 1) ev_int (fun _ _ => rfl))) (ev_op d_mulI (ev_ix d_ix (ev_var 0) ev_int (fun _ _ => rfl)) (ev_ix d_ix (ev_var 1) ev_int (fun _ _ => rfl)))) (ev_op d_mulI (ev_ix d_ix (ev_var 0) ev_int (fun _ _ => rfl)) (ev_ix d_ix (ev_var 1) ev_int (fun _ _ => rfl)))) (ev_op d_mulI (ev_ix d_ix (ev_var 0) ev_int (fun _ _ => rfl)) (ev_ix d_ix (ev_var 1) ev_int (fun _ _ => rfl)))) (av_cons (ev_op d_add (ev_ix d_ix (ev_var 0) ev_int (fun _ _ => rfl)) (ev_ix d_ix (ev_var 1) ev_int (fun _ _ => rfl))) av_nil))))))))
theorem sc_against : FnScope N_against ["x"] (defScope s_against) := ⟨rfl, rfl, rfl, by decide +kernel, rfl, by decide +kernel, by decide +kernel⟩
theorem ok_against {f : Addr} {fd : FuncData} {dV : Value} (F : FunV K "against" "against" s_against f fd dV) (T : Txt mg) : FnOk P w K mg base CX0 1 f fd ["x"] (spD K g_against) :=
  fn_b (k := 0) (b := b_against) F sc_against fun cdv A outer s H E hr => (bv_one (sv_ret (ev_tup (av_cons (ev_un d_neg (ev_ix d_ix (ev_var 0) ev_int (fun _ _ => rfl))) (av_cons (ev_un d_neg (ev_ix d_ix (ev_var 0) ev_int (fun _ _ => rfl))) (av_cons (ev_un d_neg (ev_ix d_ix (ev_var 0) ev_int (fun _ _ => rfl))) (av_cons (ev_un d_neg (ev_ix d_ix (ev_var 0) ev_int (fun _ _ => rfl))) (av_cons (ev_ix d_ix (ev_var 0) ev_int (fun _ _ => rfl)) av_nil))))))))
theorem sc_turned : FnScope N_turned ["x", "e"] (defScope s_turned) := ⟨rfl, rfl, rfl, by decide +kernel, rfl, by decide +kernel, by decide +kernel⟩
theorem ok_turned {f : Addr} {fd : FuncData} {dV : Value} (F : FunV K "turned" "turned" s_turned f fd dV) (T : Txt mg) : FnOk P w K mg base CX0 1 f fd ["x", "e"] (spD K g_turned) :=
  fn_b (k := 0) (b := b_turned) F sc_turned fun cdv A outer s H E hr => (bv_cons (sv_set 2 sc_turned.nd (ev_tup (av_cons (ev_ix d_ix (ev_var 0) ev_int (fun _ _ => rfl)) (av_cons (ev_ix d_ix (ev_var 0) ev_int (fun _ _ => rfl)) (av_cons (ev_ix d_ix (ev_var 0) ev_int (fun _ _ => rfl)) (av_cons (ev_ix d_ix (ev_var 0) ev_int (fun _ _ => rfl)) (av_cons (ev_un d_neg (ev_ix d_ix (ev_var 0) ev_int (fun _ _ => rfl))) (av_cons (ev_un d_neg (ev_ix d_ix (ev_var 0) ev_int (fun _ _ => rfl))) (av_cons (ev_un d_neg (ev_ix d_ix (ev_var 0) ev_int (fun _ _ => rfl))) (av_cons (ev_un d_neg (ev_ix d_ix (ev_var 0) ev_int (fun _ _ => rfl))) av_nil)))))))))) (bv_one (sv_ret (ev_tup (av_cons (ev_ix d_ix (ev_var 2) (ev_op d_mod (ev_op d_sub ev_int (ev_var 1)) ev_int) (fun _ _ => rfl)) (av_cons (ev_ix d_ix (ev_var 2) (ev_op d_mod (ev_op d_sub ev_int (ev_var 1)) ev_int) (fun _ _ => rfl)) (av_cons (ev_ix d_ix (ev_var 2) (ev_op d_mod (ev_op d_sub ev_int (ev_var 1)) ev_int) (fun _ _ => rfl)) (av_cons (ev_ix d_ix (ev_var 2) (ev_op d_mod (ev_op d_sub ev_int (ev_var 1)) ev_int) (fun _ _ => rfl)) (av_cons (ev_ix d_ix (ev_var 0) ev_int (fun _ _ => rfl)) av_nil)))))))))
theorem sc_halved : FnScope N_halved ["x"] (defScope s_halved) := ⟨rfl, rfl, rfl, by decide +kernel, rfl, by decide +kernel, by decide +kernel⟩
theorem ok_halved {f : Addr} {fd : FuncData} {dV : Value} (F : FunV K "halved" "halved" s_halved f fd dV) (T : Txt mg) (C_number : Cal P w K mg base "number" 2 g_number []) : FnOk P w K mg base CX0 3 f fd ["x"] (spD K g_halved) :=
  fn_b (k := 2) (b := b_halved) F sc_halved fun cdv A outer s H E hr => (bv_one (sv_ret (ev_def0 C_number (hr.mono (by decide)) rfl (av_cons (ev_ix d_ix (ev_var 0) ev_int (fun _ _ => rfl)) (av_cons (ev_ix d_ix (ev_var 0) ev_int (fun _ _ => rfl)) (av_cons (ev_ix d_ix (ev_var 0) ev_int (fun _ _ => rfl)) (av_cons (ev_ix d_ix (ev_var 0) ev_int (fun _ _ => rfl)) (av_cons (ev_op d_add (ev_ix d_ix (ev_var 0) ev_int (fun _ _ => rfl)) ev_int) av_nil))))))))
theorem sc_worth : FnScope N_worth ["wires", "wire"] (defScope s_worth) := ⟨rfl, rfl, rfl, by decide +kernel, rfl, by decide +kernel, by decide +kernel⟩
theorem ok_worth {f : Addr} {fd : FuncData} {dV : Value} (F : FunV K "worth" "worth" s_worth f fd dV) (T : Txt mg) : FnOk P w K mg base CX0 1 f fd ["wires", "wire"] (spD K g_worth) :=
  fn_b (k := 0) (b := b_worth) F sc_worth fun cdv A outer s H E hr => (bv_one (sv_ret (ev_op d_shl ev_int (ev_op d_sub (ev_op d_sub (ev_var 0) ev_int) (ev_var 1)))))
theorem sc_beginning : FnScope N_beginning ["wires", "place"] (defScope s_beginning) := ⟨rfl, rfl, rfl, by decide +kernel, rfl, by decide +kernel, by decide +kernel⟩
theorem ok_beginning {f : Addr} {fd : FuncData} {dV : Value} (F : FunV K "beginning" "beginning" s_beginning f fd dV) (T : Txt mg) (T_NOUGHT : TopV K mg "NOUGHT" (.tuple [.int 0, .int 0, .int 0, .int 0, .int 0])) (T_ONE : TopV K mg "ONE" (.tuple [.int 1, .int 0, .int 0, .int 0, .int 0])) : FnOk P w K mg base CX0 1 f fd ["wires", "place"] (spD K g_beginning) :=
  fn_b (k := 0) (b := b_beginning) F sc_beginning fun cdv A outer s H E hr => (bv_one (sv_ret (ev_callTy c_tuple rfl T.tuple (by decide +kernel) (av_cons (ev_comp (vars := ["p"]) (caps := [(1, "place")]) (by change BlkOk (defScope s_beginning).names N_beginning _ _ _; exact ⟨rfl, by decide +kernel, by decide +kernel, by decide +kernel, by decide +kernel⟩) rfl (iv_range1 rfl T.range (av_cons (ev_op d_shl ev_int (ev_var 0)) av_nil)) tg_one (fun _ _ _ _ => pg_name (i := 0) (show (["p", "place"] : List Str).Nodup by decide +kernel) rfl (Or.inl rfl) (.inr rfl)) (fun _ _ _ _ => (ev_ifx (tv_cmp (d_eq hr.units) (ev_var 0) (ev_var 1) (nomark _)) (ev_topV T_ONE rfl) (ev_topV T_NOUGHT rfl)))) av_nil))))
theorem sc_swung : FnScope N_swung ["state", "bit"] (defScope s_swung) := ⟨rfl, rfl, rfl, by decide +kernel, rfl, by decide +kernel, by decide +kernel⟩
theorem ok_swung {f : Addr} {fd : FuncData} {dV : Value} (F : FunV K "swung" "swung" s_swung f fd dV) (T : Txt mg) (C_halved : Cal P w K mg base "halved" 3 g_halved []) (C_plus : Cal P w K mg base "plus" 3 g_plus []) (C_against : Cal P w K mg base "against" 1 g_against []) : FnOk P w K mg base CX0 4 f fd ["state", "bit"] (spD K g_swung) :=
  fn_b (k := 3) (b := b_swung) F sc_swung fun cdv A outer s H E hr => (bv_cons (sv_own 2 sc_swung.nd av_nil) (bv_cons (sv_for PassesOwn.never rfl (iv_range1 rfl T.range (av_cons (ev_callB c_len rfl T.len (by decide +kernel) (av_cons (ev_var 0) av_nil)) av_nil)) (gv_name 3 sc_swung.nd) (bv_one (sv_if (tv_cmp (d_eq hr.units) (ev_op d_and (ev_var 3) (ev_var 1)) ev_int (nomark _)) (bv_one (sv_app 2 (ev_def0 C_halved (hr.mono (by decide)) rfl (av_cons (ev_def0 C_plus (hr.mono (by decide)) rfl (av_cons (ev_ix d_ix (ev_var 0) (ev_var 3) (fun _ _ => rfl)) (av_cons (ev_ix d_ix (ev_var 0) (ev_op d_xor (ev_var 3) (ev_var 1)) (fun _ _ => rfl)) av_nil))) av_nil)))) (bv_one (sv_app 2 (ev_def0 C_halved (hr.mono (by decide)) rfl (av_cons (ev_def0 C_plus (hr.mono (by decide)) rfl (av_cons (ev_ix d_ix (ev_var 0) (ev_op d_xor (ev_var 3) (ev_var 1)) (fun _ _ => rfl)) (av_cons (ev_def0 C_against (hr.mono (by decide)) rfl (av_cons (ev_ix d_ix (ev_var 0) (ev_var 3) (fun _ _ => rfl)) av_nil)) av_nil))) av_nil))))))) (bv_one (sv_fz 2 (sv_ret (ev_callTy c_tuple rfl T.tuple (by decide +kernel) (av_cons (ev_var 2) av_nil)))))))
theorem sc_turned_where : FnScope N_turned_where ["state", "held", "e"] (defScope s_turned_where) := ⟨rfl, rfl, rfl, by decide +kernel, rfl, by decide +kernel, by decide +kernel⟩
theorem ok_turned_where {f : Addr} {fd : FuncData} {dV : Value} (F : FunV K "turned_where" "turned_where" s_turned_where f fd dV) (T : Txt mg) (C_turned : Cal P w K mg base "turned" 1 g_turned []) : FnOk P w K mg base CX0 2 f fd ["state", "held", "e"] (spD K g_turned_where) :=
  fn_b (k := 1) (b := b_turned_where) F sc_turned_where fun cdv A outer s H E hr => (bv_one (sv_ret (ev_callTy c_tuple rfl T.tuple (by decide +kernel) (av_cons (ev_comp (vars := ["p"]) (caps := [(0, "state"), (1, "held"), (2, "e")]) (by change BlkOk (defScope s_turned_where).names N_turned_where _ _ _; exact ⟨rfl, by decide +kernel, by decide +kernel, by decide +kernel, by decide +kernel⟩) rfl (iv_range1 rfl T.range (av_cons (ev_callB c_len rfl T.len (by decide +kernel) (av_cons (ev_var 0) av_nil)) av_nil)) tg_one (fun _ _ _ _ => pg_name (i := 0) (show (["p", "state", "held", "e"] : List Str).Nodup by decide +kernel) rfl (Or.inl rfl) (.inr rfl)) (fun _ _ _ _ => (ev_ifx (tv_cmp (d_eq hr.units) (ev_op d_and (ev_var 0) (ev_var 2)) (ev_var 2) (nomark _)) (ev_def0 C_turned (hr.mono (by decide)) rfl (av_cons (ev_ix d_ix (ev_var 1) (ev_var 0) (fun _ _ => rfl)) (av_cons (ev_var 3) av_nil))) (ev_ix d_ix (ev_var 1) (ev_var 0) (fun _ _ => rfl))))) av_nil))))
theorem sc_flipped_where : FnScope N_flipped_where ["state", "held", "bit"] (defScope s_flipped_where) := ⟨rfl, rfl, rfl, by decide +kernel, rfl, by decide +kernel, by decide +kernel⟩
theorem ok_flipped_where {f : Addr} {fd : FuncData} {dV : Value} (F : FunV K "flipped_where" "flipped_where" s_flipped_where f fd dV) (T : Txt mg) : FnOk P w K mg base CX0 1 f fd ["state", "held", "bit"] (spD K g_flipped_where) :=
  fn_b (k := 0) (b := b_flipped_where) F sc_flipped_where fun cdv A outer s H E hr => (bv_one (sv_ret (ev_callTy c_tuple rfl T.tuple (by decide +kernel) (av_cons (ev_comp (vars := ["p"]) (caps := [(0, "state"), (1, "held"), (2, "bit")]) (by change BlkOk (defScope s_flipped_where).names N_flipped_where _ _ _; exact ⟨rfl, by decide +kernel, by decide +kernel, by decide +kernel, by decide +kernel⟩) rfl (iv_range1 rfl T.range (av_cons (ev_callB c_len rfl T.len (by decide +kernel) (av_cons (ev_var 0) av_nil)) av_nil)) tg_one (fun _ _ _ _ => pg_name (i := 0) (show (["p", "state", "held", "bit"] : List Str).Nodup by decide +kernel) rfl (Or.inl rfl) (.inr rfl)) (fun _ _ _ _ => (ev_ifx (tv_cmp (d_eq hr.units) (ev_op d_and (ev_var 0) (ev_var 2)) (ev_var 2) (nomark _)) (ev_ix d_ix (ev_var 1) (ev_op d_xor (ev_var 0) (ev_var 3)) (fun _ _ => rfl)) (ev_ix d_ix (ev_var 1) (ev_var 0) (fun _ _ => rfl))))) av_nil))))
theorem sc_exchanged : FnScope N_exchanged ["place", "both"] (defScope s_exchanged) := ⟨rfl, rfl, rfl, by decide +kernel, rfl, by decide +kernel, by decide +kernel⟩
theorem ok_exchanged {f : Addr} {fd : FuncData} {dV : Value} (F : FunV K "exchanged" "exchanged" s_exchanged f fd dV) (T : Txt mg) : FnOk P w K mg base CX0 1 f fd ["place", "both"] (spD K g_exchanged) :=
  fn_b (k := 0) (b := b_exchanged) F sc_exchanged fun cdv A outer s H E hr => (bv_one (sv_ret (ev_ifx (tv_cmp d_in (ev_op d_and (ev_var 0) (ev_var 1)) (ev_tup (av_cons ev_int (av_cons (ev_var 1) av_nil))) (by with_unfolding_all rfl)) (ev_var 0) (ev_op d_xor (ev_var 0) (ev_var 1)))))
theorem sc_done : FnScope N_done ["state", "row"] (defScope s_done) := ⟨rfl, rfl, rfl, by decide +kernel, rfl, by decide +kernel, by decide +kernel⟩
theorem ok_done {f : Addr} {fd : FuncData} {dV : Value} (F : FunV K "done" "done" s_done f fd dV) (T : Txt mg) (C_worth : Cal P w K mg base "worth" 1 g_worth []) (C_swung : Cal P w K mg base "swung" 4 g_swung []) (C_turned_where : Cal P w K mg base "turned_where" 2 g_turned_where []) (C_flipped_where : Cal P w K mg base "flipped_where" 1 g_flipped_where []) (C_exchanged : Cal P w K mg base "exchanged" 1 g_exchanged []) : FnOk P w K mg base CX0 5 f fd ["state", "row"] (spD K g_done) :=
  fn_b (k := 4) (b := b_done) F sc_done fun cdv A outer s H E hr => (bv_cons (sv_set 2 sc_done.nd (ev_op d_sub (ev_bits (ev_callB c_len rfl T.len (by decide +kernel) (av_cons (ev_var 0) av_nil))) ev_int)) (bv_cons (sv_set 3 sc_done.nd (ev_def0 C_worth (hr.mono (by decide)) rfl (av_cons (ev_var 2) (av_cons (ev_ix d_ix (ev_var 1) ev_int (fun _ _ => rfl)) av_nil)))) (bv_cons (sv_if (tv_cmp (d_eq hr.units) (ev_ix d_ix (ev_var 1) ev_int (fun _ _ => rfl)) ev_str (nomark _)) (bv_one (sv_ret (ev_def0 C_swung (hr.mono (by decide)) rfl (av_cons (ev_var 0) (av_cons (ev_var 3) av_nil))))) bv_nil) (bv_cons (sv_if (tv_cmp (d_eq hr.units) (ev_ix d_ix (ev_var 1) ev_int (fun _ _ => rfl)) ev_str (nomark _)) (bv_one (sv_ret (ev_def0 C_turned_where (hr.mono (by decide)) rfl (av_cons (ev_var 0) (av_cons (ev_var 3) (av_cons (ev_ix d_ix (ev_var 1) ev_int (fun _ _ => rfl)) av_nil)))))) bv_nil) (bv_cons (sv_if (tv_cmp (d_eq hr.units) (ev_ix d_ix (ev_var 1) ev_int (fun _ _ => rfl)) ev_str (nomark _)) (bv_one (sv_ret (ev_def0 C_flipped_where (hr.mono (by decide)) rfl (av_cons (ev_var 0) (av_cons ev_int (av_cons (ev_var 3) av_nil)))))) bv_nil) (bv_cons (sv_set 4 sc_done.nd (ev_def0 C_worth (hr.mono (by decide)) rfl (av_cons (ev_var 2) (av_cons (ev_ix d_ix (ev_var 1) ev_int (fun _ _ => rfl)) av_nil)))) (bv_cons (sv_if (tv_cmp (d_eq hr.units) (ev_ix d_ix (ev_var 1) ev_int (fun _ _ => rfl)) ev_str (nomark _)) (bv_one (sv_ret (ev_def0 C_flipped_where (hr.mono (by decide)) rfl (av_cons (ev_var 0) (av_cons (ev_var 3) (av_cons (ev_var 4) av_nil)))))) bv_nil) (bv_cons (sv_if (tv_cmp (d_eq hr.units) (ev_ix d_ix (ev_var 1) ev_int (fun _ _ => rfl)) ev_str (nomark _)) (bv_one (sv_ret (ev_def0 C_turned_where (hr.mono (by decide)) rfl (av_cons (ev_var 0) (av_cons (ev_op d_or (ev_var 3) (ev_var 4)) (av_cons ev_int av_nil)))))) bv_nil) (bv_one (sv_ret (ev_callTy c_tuple rfl T.tuple (by decide +kernel) (av_cons (ev_comp (vars := ["p"]) (caps := [(0, "state"), (3, "first"), (4, "second")]) (by change BlkOk (defScope s_done).names N_done _ _ _; exact ⟨rfl, by decide +kernel, by decide +kernel, by decide +kernel, by decide +kernel⟩) rfl (iv_range1 rfl T.range (av_cons (ev_callB c_len rfl T.len (by decide +kernel) (av_cons (ev_var 0) av_nil)) av_nil)) tg_one (fun _ _ _ _ => pg_name (i := 0) (show (["p", "state", "first", "second"] : List Str).Nodup by decide +kernel) rfl (Or.inl rfl) (.inr rfl)) (fun _ _ _ _ => (ev_ix d_ix (ev_var 1) (ev_def0 C_exchanged (hr.mono (by decide)) rfl (av_cons (ev_var 0) (av_cons (ev_op d_or (ev_var 2) (ev_var 3)) av_nil))) (fun _ _ => rfl)))) av_nil))))))))))))
theorem sc_all_done : FnScope N_all_done ["state", "rows"] (defScope s_all_done) := ⟨rfl, rfl, rfl, by decide +kernel, rfl, by decide +kernel, by decide +kernel⟩
theorem ok_all_done {f : Addr} {fd : FuncData} {dV : Value} (F : FunV K "all_done" "all_done" s_all_done f fd dV) (T : Txt mg) (C_done : Cal P w K mg base "done" 5 g_done []) : FnOk P w K mg base CX0 6 f fd ["state", "rows"] (spD K g_all_done) :=
  fn_b (k := 5) (b := b_all_done) F sc_all_done fun cdv A outer s H E hr => (bv_cons (sv_for PassesOwn.never rfl (iv_seq (ev_var 1)) (gv_name 2 sc_all_done.nd) (bv_one (sv_set 0 sc_all_done.nd (ev_def0 C_done (hr.mono (by decide)) rfl (av_cons (ev_var 0) (av_cons (ev_var 2) av_nil)))))) (bv_one (sv_ret (ev_var 0))))
theorem sc_all_plain : FnScope N_all_plain ["rows"] (defScope s_all_plain) := ⟨rfl, rfl, rfl, by decide +kernel, rfl, by decide +kernel, by decide +kernel⟩
theorem ok_all_plain {f : Addr} {fd : FuncData} {dV : Value} (F : FunV K "all_plain" "all_plain" s_all_plain f fd dV) (T : Txt mg) (T_PLAIN : TopV K mg "PLAIN" (.tuple [.str "swing", .str "turn", .str "flip", .str "tie", .str "sign", .str "cross"])) : FnOk P w K mg base CX0 1 f fd ["rows"] (spD K g_all_plain) :=
  fn_b (k := 0) (b := b_all_plain) F sc_all_plain fun cdv A outer s H E hr => (bv_one (sv_ret (ev_callB (c_all rfl) rfl T.all (by decide +kernel) (av_cons (ev_comp (vars := ["row"]) (caps := []) (by change BlkOk (defScope s_all_plain).names N_all_plain _ _ _; exact ⟨rfl, by decide +kernel, by decide +kernel, by decide +kernel, by decide +kernel⟩) rfl (iv_seq (ev_var 0)) tg_one (fun _ _ _ _ => pg_name (i := 0) (show (["row"] : List Str).Nodup by decide +kernel) rfl (Or.inl rfl) (.inr rfl)) (fun _ _ _ _ => (ev_cmp d_in (ev_ix d_ix (ev_var 0) ev_int (fun _ _ => rfl)) (ev_topV T_PLAIN rfl) (by with_unfolding_all rfl)))) av_nil))))
theorem sc_column : FnScope N_column ["circuit", "place"] (defScope s_column) := ⟨rfl, rfl, rfl, by decide +kernel, rfl, by decide +kernel, by decide +kernel⟩
theorem ok_column {f : Addr} {fd : FuncData} {dV : Value} (F : FunV K "column" "column" s_column f fd dV) (T : Txt mg) (C_all_done : Cal P w K mg base "all_done" 6 g_all_done []) (C_all_plain : Cal P w K mg base "all_plain" 1 g_all_plain []) (C_beginning : Cal P w K mg base "beginning" 1 g_beginning []) : FnOk P w K mg base CX0 7 f fd ["circuit", "place"] (spD K g_column) :=
  fn_b (k := 6) (b := b_column) F sc_column fun cdv A outer s H E hr => (bv_cons (sv_if (tv_not (tv_val (ev_def0 C_all_plain (hr.mono (by decide)) rfl (av_cons (ev_ix d_ix (ev_var 0) ev_int (fun _ _ => rfl)) av_nil)))) (bv_one sv_no) bv_nil) (bv_one (sv_ret (ev_def0 C_all_done (hr.mono (by decide)) rfl (av_cons (ev_def0 C_beginning (hr.mono (by decide)) rfl (av_cons (ev_ix d_ix (ev_var 0) ev_int (fun _ _ => rfl)) (av_cons (ev_var 1) av_nil))) (av_cons (ev_ix d_ix (ev_var 0) ev_int (fun _ _ => rfl)) av_nil))))))
theorem sc_is_plain : FnScope N_is_plain ["circuit"] (defScope s_is_plain) := ⟨rfl, rfl, rfl, by decide +kernel, rfl, by decide +kernel, by decide +kernel⟩
theorem ok_is_plain {f : Addr} {fd : FuncData} {dV : Value} (F : FunV K "is_plain" "is_plain" s_is_plain f fd dV) (T : Txt mg) (C_all_plain : Cal P w K mg base "all_plain" 1 g_all_plain []) : FnOk P w K mg base CX0 2 f fd ["circuit"] (spD K g_is_plain) :=
  fn_b (k := 1) (b := b_is_plain) F sc_is_plain fun cdv A outer s H E hr => (bv_one (sv_ret (ev_def0 C_all_plain (hr.mono (by decide)) rfl (av_cons (ev_ix d_ix (ev_var 0) ev_int (fun _ _ => rfl)) av_nil))))
theorem sc_refuse_apart : FnScope N_refuse_apart ["one", "other"] (defScope s_refuse_apart) := ⟨rfl, rfl, rfl, by decide +kernel, rfl, by decide +kernel, by decide +kernel⟩
theorem ok_refuse_apart {f : Addr} {fd : FuncData} {dV : Value} (F : FunV K "refuse_apart" "refuse_apart" s_refuse_apart f fd dV) (T : Txt mg) (C_is_plain : Cal P w K mg base "is_plain" 2 g_is_plain []) : FnOk P w K mg base CX0 3 f fd ["one", "other"] (spD K g_refuse_apart) :=
  fn_b (k := 2) (b := b_refuse_apart) F sc_refuse_apart fun cdv A outer s H E hr => (bv_cons (sv_if (WV.tv (wv_or (tv_not (tv_val (ev_def0 C_is_plain (hr.mono (by decide)) rfl (av_cons (ev_var 0) av_nil)))) (wv_or1 (tv_not (tv_val (ev_def0 C_is_plain (hr.mono (by decide)) rfl (av_cons (ev_var 1) av_nil))))))) (bv_one sv_no) bv_nil) (bv_one (sv_if (tv_cmp (d_ne hr.units) (ev_ix d_ix (ev_var 0) ev_int (fun _ _ => rfl)) (ev_ix d_ix (ev_var 1) ev_int (fun _ _ => rfl)) (nomark _)) (bv_one sv_no) bv_nil)))
theorem sc_columns_apart : FnScope N_columns_apart ["circuit", "apart"] (defScope s_columns_apart) := ⟨rfl, rfl, rfl, by decide +kernel, rfl, by decide +kernel, by decide +kernel⟩
theorem ok_columns_apart {f : Addr} {fd : FuncData} {dV : Value} (F : FunV K "columns_apart" "columns_apart" s_columns_apart f fd dV) (T : Txt mg) (C_all_done : Cal P w K mg base "all_done" 6 g_all_done []) : FnOk P w K mg base CX0 7 f fd ["circuit", "apart"] (spD K g_columns_apart) :=
  fn_b (k := 6) (b := b_columns_apart) F sc_columns_apart fun cdv A outer s H E hr => (bv_cons (sv_set 2 sc_columns_apart.nd (ev_callTy c_tuple rfl T.tuple (by decide +kernel) (av_cons (ev_comp (vars := ["b"]) (caps := [(1, "apart")]) (by change BlkOk (defScope s_columns_apart).names N_columns_apart _ _ _; exact ⟨rfl, by decide +kernel, by decide +kernel, by decide +kernel, by decide +kernel⟩) rfl (iv_range1 rfl T.range (av_cons (ev_op d_shl ev_int (ev_ix d_ix (ev_var 0) ev_int (fun _ _ => rfl))) av_nil)) tg_one (fun _ _ _ _ => pg_name (i := 0) (show (["b", "apart"] : List Str).Nodup by decide +kernel) rfl (Or.inl rfl) (.inr rfl)) (fun _ _ _ _ => (ev_tup (av_cons (ev_op d_shl ev_int (ev_op d_mulI (ev_var 1) (ev_var 0))) (av_cons ev_int (av_cons ev_int (av_cons ev_int (av_cons ev_int av_nil)))))))) av_nil))) (bv_one (sv_ret (ev_def0 C_all_done (hr.mono (by decide)) rfl (av_cons (ev_var 2) (av_cons (ev_ix d_ix (ev_var 0) ev_int (fun _ _ => rfl)) av_nil))))))
theorem sc_turn_to : FnScope N_turn_to ["one", "other"] (defScope s_turn_to) := ⟨rfl, rfl, rfl, by decide +kernel, rfl, by decide +kernel, by decide +kernel⟩
theorem ok_turn_to {f : Addr} {fd : FuncData} {dV : Value} (F : FunV K "turn_to" "turn_to" s_turn_to f fd dV) (T : Txt mg) (C_turned : Cal P w K mg base "turned" 1 g_turned []) : FnOk P w K mg base CX0 2 f fd ["one", "other"] (spD K g_turn_to) :=
  fn_b (k := 1) (b := b_turn_to) F sc_turn_to fun cdv A outer s H E hr => (bv_cons (sv_for PassesOwn.never rfl (iv_range1 rfl T.range (av_cons ev_int av_nil)) (gv_name 2 sc_turn_to.nd) (bv_one (sv_if (tv_cmp (d_eq hr.units) (ev_callTy c_tuple rfl T.tuple (by decide +kernel) (av_cons (ev_comp (vars := ["x"]) (caps := [(2, "e")]) (by change BlkOk (defScope s_turn_to).names N_turn_to _ _ _; exact ⟨rfl, by decide +kernel, by decide +kernel, by decide +kernel, by decide +kernel⟩) rfl (iv_seq (ev_var 0)) tg_one (fun _ _ _ _ => pg_name (i := 0) (show (["x", "e"] : List Str).Nodup by decide +kernel) rfl (Or.inl rfl) (.inr rfl)) (fun _ _ _ _ => (ev_def0 C_turned (hr.mono (by decide)) rfl (av_cons (ev_var 0) (av_cons (ev_var 1) av_nil))))) av_nil)) (ev_var 1) (nomark _)) (bv_one (sv_ret (ev_var 2))) bv_nil))) (bv_one (sv_ret ev_non)))
theorem sc_turn_apart : FnScope N_turn_apart ["one", "other"] (defScope s_turn_apart) := ⟨rfl, rfl, rfl, by decide +kernel, rfl, by decide +kernel, by decide +kernel⟩
theorem ok_turn_apart {f : Addr} {fd : FuncData} {dV : Value} (F : FunV K "turn_apart" "turn_apart" s_turn_apart f fd dV) (T : Txt mg) (C_turn_to : Cal P w K mg base "turn_to" 2 g_turn_to []) (C_columns_apart : Cal P w K mg base "columns_apart" 7 g_columns_apart []) : FnOk P w K mg base CX0 8 f fd ["one", "other"] (spD K g_turn_apart) :=
  fn_b (k := 7) (b := b_turn_apart) F sc_turn_apart fun cdv A outer s H E hr => (bv_cons (sv_set 2 sc_turn_apart.nd (ev_callB (c_maxL rfl) rfl T.max (by decide +kernel) (av_cons (ev_comp (vars := ["rows"]) (caps := []) (by change BlkOk (defScope s_turn_apart).names N_turn_apart _ _ _; exact ⟨rfl, by decide +kernel, by decide +kernel, by decide +kernel, by decide +kernel⟩) rfl (iv_seq (ev_tup (av_cons (ev_ix d_ix (ev_var 0) ev_int (fun _ _ => rfl)) (av_cons (ev_ix d_ix (ev_var 1) ev_int (fun _ _ => rfl)) av_nil)))) tg_one (fun _ _ _ _ => pg_name (i := 0) (show (["rows"] : List Str).Nodup by decide +kernel) rfl (Or.inl rfl) (.inr rfl)) (fun _ _ _ _ => (ev_callB c_len rfl T.len (by decide +kernel) (av_cons (ev_compI (vars := ["row"]) (caps := []) (BlkOk.none rfl (by decide +kernel) (by decide +kernel) (by decide +kernel)) rfl (iv_seq (ev_var 0)) tg_one (fun _ _ _ _ => pg_name (i := 0) (show (["row"] : List Str).Nodup by decide +kernel) rfl (Or.inl rfl) (.inr rfl)) (fun _ _ _ _ => (tv_cmp (d_eq hr.units) (ev_ix d_ix (ev_var 0) ev_int (fun _ _ => rfl)) ev_str (nomark _))) (fun _ _ _ _ => (ev_var 0))) av_nil)))) av_nil))) (bv_cons (sv_set 3 sc_turn_apart.nd (ev_op d_add (ev_op d_div (ev_var 2) ev_int) ev_int)) (bv_one (sv_ret (ev_def0 C_turn_to (hr.mono (by decide)) rfl (av_cons (ev_def0 C_columns_apart (hr.mono (by decide)) rfl (av_cons (ev_var 0) (av_cons (ev_var 3) av_nil))) (av_cons (ev_def0 C_columns_apart (hr.mono (by decide)) rfl (av_cons (ev_var 1) (av_cons (ev_var 3) av_nil))) av_nil)))))))
theorem sc_unlike_paper : FnScope N_unlike_paper ["one", "other"] (defScope s_unlike_paper) := ⟨rfl, rfl, rfl, by decide +kernel, rfl, by decide +kernel, by decide +kernel⟩
theorem ok_unlike_paper {f : Addr} {fd : FuncData} {dV : Value} (F : FunV K "unlike_paper" "unlike_paper" s_unlike_paper f fd dV) (T : Txt mg) (T_NOUGHT : TopV K mg "NOUGHT" (.tuple [.int 0, .int 0, .int 0, .int 0, .int 0])) (C_column : Cal P w K mg base "column" 7 g_column []) (C_times : Cal P w K mg base "times" 3 g_times []) : FnOk P w K mg base CX0 8 f fd ["one", "other"] (spD K g_unlike_paper) :=
  fn_b (k := 7) (b := b_unlike_paper) F sc_unlike_paper fun cdv A outer s H E hr => (bv_cons (sv_set 2 sc_unlike_paper.nd (ev_def0 C_column (hr.mono (by decide)) rfl (av_cons (ev_var 0) (av_cons ev_int av_nil)))) (bv_cons (sv_set 3 sc_unlike_paper.nd (ev_def0 C_column (hr.mono (by decide)) rfl (av_cons (ev_var 1) (av_cons ev_int av_nil)))) (bv_cons (sv_set 4 sc_unlike_paper.nd (ev_ix d_ix (ev_compI (vars := ["p"]) (caps := [(2, "f")]) (by change BlkOk (defScope s_unlike_paper).names N_unlike_paper _ _ _; exact ⟨rfl, by decide +kernel, by decide +kernel, by decide +kernel, by decide +kernel⟩) rfl (iv_range1 rfl T.range (av_cons (ev_callB c_len rfl T.len (by decide +kernel) (av_cons (ev_var 2) av_nil)) av_nil)) tg_one (fun _ _ _ _ => pg_name (i := 0) (show (["p", "f"] : List Str).Nodup by decide +kernel) rfl (Or.inl rfl) (.inr rfl)) (fun _ _ _ _ => (tv_cmp (d_ne hr.units) (ev_ix d_ix (ev_var 1) (ev_var 0) (fun _ _ => rfl)) (ev_topV T_NOUGHT rfl) (nomark _))) (fun _ _ _ _ => (ev_var 0))) ev_int (fun _ _ => rfl))) (bv_one (sv_for PassesOwn.never rfl (iv_range1 rfl T.range (av_cons (ev_callB c_len rfl T.len (by decide +kernel) (av_cons (ev_var 2) av_nil)) av_nil)) (gv_name 5 sc_unlike_paper.nd) (bv_cons (sv_set 6 sc_unlike_paper.nd (ev_def0 C_column (hr.mono (by decide)) rfl (av_cons (ev_var 0) (av_cons (ev_var 5) av_nil)))) (bv_cons (sv_set 7 sc_unlike_paper.nd (ev_def0 C_column (hr.mono (by decide)) rfl (av_cons (ev_var 1) (av_cons (ev_var 5) av_nil)))) (bv_one (sv_for PassesOwn.never rfl (iv_range1 rfl T.range (av_cons (ev_callB c_len rfl T.len (by decide +kernel) (av_cons (ev_var 2) av_nil)) av_nil)) (gv_name 8 sc_unlike_paper.nd) (bv_one (sv_if (tv_cmp (d_ne hr.units) (ev_def0 C_times (hr.mono (by decide)) rfl (av_cons (ev_ix d_ix (ev_var 2) (ev_var 4) (fun _ _ => rfl)) (av_cons (ev_ix d_ix (ev_var 7) (ev_var 8) (fun _ _ => rfl)) av_nil))) (ev_def0 C_times (hr.mono (by decide)) rfl (av_cons (ev_ix d_ix (ev_var 6) (ev_var 8) (fun _ _ => rfl)) (av_cons (ev_ix d_ix (ev_var 3) (ev_var 4) (fun _ _ => rfl)) av_nil))) (nomark _)) (bv_one (sv_ret (ev_tup (av_cons ev_str (av_cons ev_int (av_cons (ev_var 4) (av_cons (ev_var 5) (av_cons (ev_var 8) av_nil)))))))) bv_nil)))))))))))
theorem sc_alike_paper : FnScope N_alike_paper ["one", "other"] (defScope s_alike_paper) := ⟨rfl, rfl, rfl, by decide +kernel, rfl, by decide +kernel, by decide +kernel⟩
theorem ok_alike_paper {f : Addr} {fd : FuncData} {dV : Value} (F : FunV K "alike_paper" "alike_paper" s_alike_paper f fd dV) (T : Txt mg) (C_refuse_apart : Cal P w K mg base "refuse_apart" 3 g_refuse_apart []) (C_turn_apart : Cal P w K mg base "turn_apart" 8 g_turn_apart []) (C_unlike_paper : Cal P w K mg base "unlike_paper" 8 g_unlike_paper []) : FnOk P w K mg base CX0 9 f fd ["one", "other"] (spD K g_alike_paper) :=
  fn_b (k := 8) (b := b_alike_paper) F sc_alike_paper fun cdv A outer s H E hr => (bv_cons (sv_expr (ev_def0 C_refuse_apart (hr.mono (by decide)) rfl (av_cons (ev_var 0) (av_cons (ev_var 1) av_nil)))) (bv_cons (sv_set 2 sc_alike_paper.nd (ev_def0 C_turn_apart (hr.mono (by decide)) rfl (av_cons (ev_var 0) (av_cons (ev_var 1) av_nil)))) (bv_cons (sv_if (tv_cmp d_isnt (ev_var 2) ev_non (nomark _)) (bv_one (sv_ret (ev_tup (av_cons ev_str (av_cons (ev_var 2) av_nil))))) bv_nil) (bv_one (sv_ret (ev_def0 C_unlike_paper (hr.mono (by decide)) rfl (av_cons (ev_var 0) (av_cons (ev_var 1) av_nil))))))))
theorem sc__law_cell_at : FnScope N__law_cell_at ["script", "k"] (defScope s__law_cell_at) := ⟨rfl, rfl, rfl, by decide +kernel, rfl, by decide +kernel, by decide +kernel⟩
theorem ok__law_cell_at {f : Addr} {fd : FuncData} {dV : Value} (F : FunV K "_law_cell_at" "_law_cell_at" s__law_cell_at f fd dV) (T : Txt mg) : FnOk P w K mg base CX0 1 f fd ["script", "k"] (spD K g__law_cell_at) :=
  fn_b (k := 0) (b := b__law_cell_at) F sc__law_cell_at fun cdv A outer s H E hr => (bv_cons (sv_if (tv_cmp d_lt (ev_var 1) (ev_callB c_len rfl T.len (by decide +kernel) (av_cons (ev_var 0) av_nil)) (nomark _)) (bv_one (sv_ret (ev_ix d_ix (ev_var 0) (ev_var 1) (fun _ _ => rfl)))) bv_nil) (bv_one (sv_ret ev_int)))
theorem sc__law_row : FnScope N__law_row ["cell", "wires"] (defScope s__law_row) := ⟨rfl, rfl, rfl, by decide +kernel, rfl, by decide +kernel, by decide +kernel⟩
theorem ok__law_row {f : Addr} {fd : FuncData} {dV : Value} (F : FunV K "_law_row" "_law_row" s__law_row f fd dV) (T : Txt mg) : FnOk P w K mg base CX0 1 f fd ["cell", "wires"] (spD K g__law_row) :=
  fn_b (k := 0) (b := b__law_row) F sc__law_row fun cdv A outer s H E hr => (bv_cons (sv_set 2 sc__law_row.nd (ev_op d_mod (ev_var 0) ev_int)) (bv_cons (sv_set 3 sc__law_row.nd (ev_op d_mod (ev_op d_div (ev_var 0) ev_int) (ev_var 1))) (bv_cons (sv_if (WV.tv (wv_and (tv_cmp (d_eq hr.units) (ev_var 1) ev_int (nomark _)) (wv_and1 (tv_cmp d_gt (ev_var 2) ev_int (nomark _))))) (bv_one (sv_set 2 sc__law_row.nd (ev_op d_mod (ev_var 2) ev_int))) bv_nil) (bv_cons (sv_if (tv_cmp (d_eq hr.units) (ev_var 2) ev_int (nomark _)) (bv_one (sv_ret (ev_tup (av_cons ev_str (av_cons (ev_var 3) (av_cons (ev_op d_add ev_int (ev_op d_mod (ev_op d_div (ev_var 0) ev_int) ev_int)) av_nil)))))) bv_nil) (bv_cons (sv_if (WV.tv (wv_or (tv_cmp (d_eq hr.units) (ev_var 2) ev_int (nomark _)) (wv_or1 (tv_cmp (d_eq hr.units) (ev_var 2) ev_int (nomark _))))) (bv_one (sv_ret (ev_tup (av_cons (ev_ix d_ix (ev_lst (av_cons ev_str (av_cons ev_str (av_cons ev_str av_nil)))) (ev_var 2) (fun _ _ => rfl)) (av_cons (ev_var 3) av_nil))))) bv_nil) (bv_cons (sv_set 4 sc__law_row.nd (ev_op d_mod (ev_op d_add (ev_op d_add (ev_var 3) ev_int) (ev_op d_mod (ev_op d_div (ev_var 0) ev_int) (ev_op d_sub (ev_var 1) ev_int))) (ev_var 1))) (bv_one (sv_ret (ev_tup (av_cons (ev_ix d_ix (ev_lst (av_cons ev_str (av_cons ev_str (av_cons ev_str av_nil)))) (ev_op d_sub (ev_var 2) ev_int) (fun _ _ => rfl)) (av_cons (ev_var 4) (av_cons (ev_var 3) av_nil))))))))))))
theorem sc__law_wires : FnScope N__law_wires ["row"] (defScope s__law_wires) := ⟨rfl, rfl, rfl, by decide +kernel, rfl, by decide +kernel, by decide +kernel⟩
theorem ok__law_wires {f : Addr} {fd : FuncData} {dV : Value} (F : FunV K "_law_wires" "_law_wires" s__law_wires f fd dV) (T : Txt mg) : FnOk P w K mg base CX0 1 f fd ["row"] (spD K g__law_wires) :=
  fn_b (k := 0) (b := b__law_wires) F sc__law_wires fun cdv A outer s H E hr => (bv_cons (sv_if (tv_cmp (d_eq hr.units) (ev_ix d_ix (ev_var 0) ev_int (fun _ _ => rfl)) ev_str (nomark _)) (bv_one (sv_ret (ev_lst (av_cons (ev_ix d_ix (ev_var 0) ev_int (fun _ _ => rfl)) av_nil)))) bv_nil) (bv_one (sv_ret (ev_callTy c_list rfl T.list (by decide +kernel) (av_cons (ev_slice (ev_var 0) (ov_some ev_int) ov_none) av_nil)))))
theorem sc__law_nothing : FnScope N__law_nothing ["cell", "wires"] (defScope s__law_nothing) := ⟨rfl, rfl, rfl, by decide +kernel, rfl, by decide +kernel, by decide +kernel⟩
theorem ok__law_nothing {f : Addr} {fd : FuncData} {dV : Value} (F : FunV K "_law_nothing" "_law_nothing" s__law_nothing f fd dV) (T : Txt mg) (C__law_row : Cal P w K mg base "_law_row" 1 g__law_row []) : FnOk P w K mg base CX0 2 f fd ["cell", "wires"] (spD K g__law_nothing) :=
  fn_b (k := 1) (b := b__law_nothing) F sc__law_nothing fun cdv A outer s H E hr => (bv_cons (sv_set 2 sc__law_nothing.nd (ev_op d_mod (ev_var 0) (ev_var 1))) (bv_cons (sv_set 3 sc__law_nothing.nd (ev_op d_add ev_int (ev_op d_mod (ev_op d_div (ev_var 0) ev_int) ev_int))) (bv_cons (sv_set 4 sc__law_nothing.nd (ev_def0 C__law_row (hr.mono (by decide)) rfl (av_cons (ev_op d_div (ev_var 0) ev_int) (av_cons (ev_var 1) av_nil)))) (bv_cons (sv_set 5 sc__law_nothing.nd (ev_var 4)) (bv_cons (sv_if (tv_cmp (d_eq hr.units) (ev_ix d_ix (ev_var 4) ev_int (fun _ _ => rfl)) ev_str (nomark _)) (bv_one (sv_set 5 sc__law_nothing.nd (ev_tup (av_cons ev_str (av_cons (ev_ix d_ix (ev_var 4) ev_int (fun _ _ => rfl)) (av_cons (ev_op d_sub ev_int (ev_ix d_ix (ev_var 4) ev_int (fun _ _ => rfl))) av_nil)))))) bv_nil) (bv_cons (sv_set 6 sc__law_nothing.nd (ev_tup (av_cons ev_str (av_cons (ev_var 2) av_nil)))) (bv_cons (sv_own 7 sc__law_nothing.nd (av_cons (ev_lst (av_cons (ev_var 4) (av_cons (ev_var 5) av_nil))) (av_cons (ev_lst (av_cons (ev_var 6) (av_cons (ev_tup (av_cons ev_str (av_cons (ev_var 2) (av_cons ev_int av_nil)))) (av_cons (ev_var 6) (av_cons (ev_tup (av_cons ev_str (av_cons (ev_var 2) av_nil))) av_nil))))) (av_cons (ev_lst (av_cons (ev_tup (av_cons ev_str (av_cons (ev_var 2) (av_cons (ev_var 3) av_nil)))) (av_cons (ev_tup (av_cons ev_str (av_cons (ev_var 2) (av_cons (ev_op d_sub ev_int (ev_var 3)) av_nil)))) av_nil))) av_nil)))) (bv_cons (sv_if (tv_cmp d_gt (ev_var 1) ev_int (nomark _)) (bv_cons (sv_set 8 sc__law_nothing.nd (ev_op d_mod (ev_op d_add (ev_op d_add (ev_var 2) ev_int) (ev_op d_mod (ev_op d_div (ev_var 0) ev_int) (ev_op d_sub (ev_var 1) ev_int))) (ev_var 1))) (bv_cons (sv_app 7 (ev_lst (av_cons (ev_tup (av_cons ev_str (av_cons (ev_var 8) (av_cons (ev_var 2) av_nil)))) (av_cons (ev_tup (av_cons ev_str (av_cons (ev_var 2) (av_cons (ev_var 8) av_nil)))) (av_cons (ev_tup (av_cons ev_str (av_cons (ev_var 8) (av_cons (ev_var 2) av_nil)))) (av_cons (ev_tup (av_cons ev_str (av_cons (ev_var 2) (av_cons (ev_var 8) av_nil)))) av_nil)))))) (bv_one (sv_app 7 (ev_lst (av_cons (ev_tup (av_cons ev_str (av_cons (ev_var 8) (av_cons (ev_var 2) av_nil)))) (av_cons (ev_var 6) (av_cons (ev_tup (av_cons ev_str (av_cons (ev_var 8) (av_cons (ev_var 2) av_nil)))) (av_cons (ev_var 6) av_nil))))))))) bv_nil) (bv_one (sv_ret (ev_ixO 7 (ev_op d_mod (ev_op d_div (ev_var 0) ev_int) (ev_lenO 7 rfl T.len)) (fun _ _ => rfl))))))))))))
theorem sc__law_changed : FnScope N__law_changed ["rows", "cell", "wires", "room"] (defScope s__law_changed) := ⟨rfl, rfl, rfl, by decide +kernel, rfl, by decide +kernel, by decide +kernel⟩
theorem ok__law_changed {f : Addr} {fd : FuncData} {dV : Value} (F : FunV K "_law_changed" "_law_changed" s__law_changed f fd dV) (T : Txt mg) (C__law_nothing : Cal P w K mg base "_law_nothing" 2 g__law_nothing []) (C__law_wires : Cal P w K mg base "_law_wires" 1 g__law_wires []) : FnOk P w K mg base CX0 3 f fd ["rows", "cell", "wires", "room"] (spD K g__law_changed) :=
  fn_b (k := 2) (b := b__law_changed) F sc__law_changed fun cdv A outer s H E hr => (bv_cons (sv_set 4 sc__law_changed.nd (ev_op d_div (ev_var 1) ev_int)) (bv_cons (sv_set 5 sc__law_changed.nd (ev_op d_mod (ev_var 4) (ev_op d_add (ev_callB c_len rfl T.len (by decide +kernel) (av_cons (ev_var 0) av_nil)) ev_int))) (bv_cons (sv_if (WV.tv (wv_and (tv_cmp (d_eq hr.units) (ev_op d_mod (ev_var 1) ev_int) ev_int (nomark _)) (wv_and1 (tv_cmp d_lt (ev_op d_add (ev_var 5) ev_int) (ev_callB c_len rfl T.len (by decide +kernel) (av_cons (ev_var 0) av_nil)) (nomark _))))) (bv_cons (sv_compI 6 sc__law_changed.nd (vars := ["wire"]) (caps := [(0, "rows"), (5, "at")]) (by change BlkOk (defScope s__law_changed).names N__law_changed _ _ _; exact ⟨rfl, by decide +kernel, by decide +kernel, by decide +kernel, by decide +kernel⟩) rfl (iv_seq (ev_def0 C__law_wires (hr.mono (by decide)) rfl (av_cons (ev_ix d_ix (ev_var 0) (ev_var 5) (fun _ _ => rfl)) av_nil))) tg_one (fun _ _ _ _ => pg_name (i := 0) (show (["wire", "rows", "at"] : List Str).Nodup by decide +kernel) rfl (Or.inl rfl) (.inr rfl)) (fun _ _ _ _ => (tv_cmp d_in (ev_var 0) (ev_def0 C__law_wires (hr.mono (by decide)) rfl (av_cons (ev_ix d_ix (ev_var 1) (ev_op d_add (ev_var 2) ev_int) (fun _ _ => rfl)) av_nil)) (by with_unfolding_all rfl))) (fun _ _ _ _ => (ev_var 0))) (bv_one (sv_if (tv_cmp (d_eq hr.units) (ev_var 6) (ev_lst av_nil) (nomark _)) (bv_one (sv_ret (ev_tup (av_cons (ev_op d_add (ev_op d_add (ev_slice (ev_var 0) ov_none (ov_some (ev_var 5))) (ev_lst (av_cons (ev_ix d_ix (ev_var 0) (ev_op d_add (ev_var 5) ev_int) (fun _ _ => rfl)) (av_cons (ev_ix d_ix (ev_var 0) (ev_var 5) (fun _ _ => rfl)) av_nil)))) (ev_slice (ev_var 0) (ov_some (ev_op d_add (ev_var 5) ev_int)) ov_none)) (av_cons ev_int av_nil))))) bv_nil))) bv_nil) (bv_cons (sv_set 7 sc__law_changed.nd (ev_def0 C__law_nothing (hr.mono (by decide)) rfl (av_cons (ev_op d_div (ev_var 4) ev_int) (av_cons (ev_var 2) av_nil)))) (bv_cons (sv_set 8 sc__law_changed.nd ev_int) (bv_cons (sv_if (tv_cmp (d_eq hr.units) (ev_op d_mod (ev_var 1) ev_int) ev_int (nomark _)) (bv_cons (sv_set 9 sc__law_changed.nd (ev_op d_mod (ev_op d_div (ev_var 4) ev_int) (ev_var 2))) (bv_cons (sv_set 8 sc__law_changed.nd (ev_op d_add ev_int (ev_op d_mod (ev_op d_div (ev_var 4) ev_int) ev_int))) (bv_one (sv_set 7 sc__law_changed.nd (ev_lst (av_cons (ev_tup (av_cons ev_str (av_cons (ev_var 9) av_nil))) (av_cons (ev_tup (av_cons ev_str (av_cons (ev_var 9) (av_cons (ev_var 8) av_nil)))) (av_cons (ev_tup (av_cons ev_str (av_cons (ev_var 9) av_nil))) (av_cons (ev_tup (av_cons ev_str (av_cons (ev_var 9) (av_cons (ev_var 8) av_nil)))) av_nil))))))))) bv_nil) (bv_cons (sv_if (tv_cmp d_gt (ev_op d_add (ev_callB c_len rfl T.len (by decide +kernel) (av_cons (ev_var 0) av_nil)) (ev_callB c_len rfl T.len (by decide +kernel) (av_cons (ev_var 7) av_nil))) (ev_var 3) (nomark _)) (bv_one (sv_ret (ev_tup (av_cons (ev_var 0) (av_cons ev_int av_nil))))) bv_nil) (bv_one (sv_ret (ev_tup (av_cons (ev_op d_add (ev_op d_add (ev_slice (ev_var 0) ov_none (ov_some (ev_var 5))) (ev_var 7)) (ev_slice (ev_var 0) (ov_some (ev_var 5)) ov_none)) (av_cons (ev_var 8) av_nil))))))))))))
theorem sc__law_told : FnScope N__law_told ["paper", "e"] (defScope s__law_told) := ⟨rfl, rfl, rfl, by decide +kernel, rfl, by decide +kernel, by decide +kernel⟩
theorem ok__law_told {f : Addr} {fd : FuncData} {dV : Value} (F : FunV K "_law_told" "_law_told" s__law_told f fd dV) (T : Txt mg) : FnOk P w K mg base CX0 1 f fd ["paper", "e"] (spD K g__law_told) :=
  fn_b (k := 0) (b := b__law_told) F sc__law_told fun cdv A outer s H E hr => (bv_cons (sv_if (WV.tv (wv_or (tv_not (tv_val (ev_isi (T := "tuple") rfl T.isinstance rfl T.tuple (by decide +kernel) (by decide) (by decide) (ev_var 0)))) (wv_or (tv_cmp (d_ne hr.units) (ev_callB c_len rfl T.len (by decide +kernel) (av_cons (ev_var 0) av_nil)) ev_int (nomark _)) (wv_or1 (tv_val (ev_isi (T := "bool") rfl T.isinstance rfl T.bool (by decide +kernel) (by decide) (by decide) (ev_ix d_ix (ev_var 0) ev_int (fun _ _ => rfl)))))))) (bv_one (sv_ret ev_bl)) bv_nil) (bv_one (sv_ret (ev_cmp (d_eq hr.units) (ev_var 0) (ev_tup (av_cons ev_str (av_cons (ev_op d_mod (ev_var 1) ev_int) av_nil))) (nomark _)))))
theorem sc_law : FnScope N_law ["script"] (defScope s_law) := ⟨rfl, rfl, rfl, by decide +kernel, rfl, by decide +kernel, by decide +kernel⟩
theorem ok_law {f : Addr} {fd : FuncData} {dV : Value} (F : FunV K "law" "law" s_law f fd dV) (T : Txt mg) (C__law_cell_at : Cal P w K mg base "_law_cell_at" 1 g__law_cell_at []) (C__law_row : Cal P w K mg base "_law_row" 1 g__law_row []) (C__law_changed : Cal P w K mg base "_law_changed" 3 g__law_changed []) (C__law_told : Cal P w K mg base "_law_told" 1 g__law_told []) (C_alike_paper : Cal P w K mg base "alike_paper" 9 g_alike_paper []) : FnOk P w K mg base CX0 10 f fd ["script"] (spD K g_law) :=
  fn_b (k := 9) (b := b_law) F sc_law fun cdv A outer s H E hr => (bv_cons (sv_set 1 sc_law.nd (ev_def0 C__law_cell_at (hr.mono (by decide)) rfl (av_cons (ev_var 0) (av_cons ev_int av_nil)))) (bv_cons (sv_set 2 sc_law.nd (ev_op d_add ev_int (ev_op d_mod (ev_var 1) ev_int))) (bv_cons (sv_if (tv_cmp (d_eq hr.units) (ev_op d_mod (ev_op d_div (ev_var 1) ev_int) ev_int) ev_int (nomark _)) (bv_one (sv_set 2 sc_law.nd ev_int)) bv_nil) (bv_cons (sv_set 3 sc_law.nd (ev_ix d_ix (ev_lst (av_cons ev_int (av_cons ev_int (av_cons ev_int (av_cons ev_int av_nil))))) (ev_op d_sub (ev_var 2) ev_int) (fun _ _ => rfl))) (bv_cons (sv_set 4 sc_law.nd (ev_op d_mod (ev_op d_div (ev_var 1) ev_int) (ev_ix d_ix (ev_lst (av_cons ev_int (av_cons ev_int (av_cons ev_int (av_cons ev_int av_nil))))) (ev_op d_sub (ev_var 2) ev_int) (fun _ _ => rfl)))) (bv_cons (sv_comp 5 sc_law.nd (vars := ["cell"]) (caps := [(2, "wires")]) (by change BlkOk (defScope s_law).names N_law _ _ _; exact ⟨rfl, by decide +kernel, by decide +kernel, by decide +kernel, by decide +kernel⟩) rfl (iv_seq (ev_slice (ev_var 0) (ov_some ev_int) (ov_some (ev_op d_add ev_int (ev_var 4))))) tg_one (fun _ _ _ _ => pg_name (i := 0) (show (["cell", "wires"] : List Str).Nodup by decide +kernel) rfl (Or.inl rfl) (.inr rfl)) (fun _ _ _ _ => (ev_def0 C__law_row (hr.mono (by decide)) rfl (av_cons (ev_var 0) (av_cons (ev_var 1) av_nil))))) (bv_cons (sv_set 6 sc_law.nd (ev_callTy c_list rfl T.list (by decide +kernel) (av_cons (ev_var 5) av_nil))) (bv_cons (sv_set 7 sc_law.nd ev_int) (bv_cons (sv_for PassesOwn.never rfl (iv_seq (ev_slice (ev_var 0) (ov_some (ev_op d_add ev_int (ev_var 4))) ov_none)) (gv_name 8 sc_law.nd) (bv_cons (sv_asg (ev_def0 C__law_changed (hr.mono (by decide)) rfl (av_cons (ev_var 6) (av_cons (ev_var 8) (av_cons (ev_var 2) (av_cons (ev_var 3) av_nil))))) (gv_tup rfl (gvs_cons (gv_name 6 sc_law.nd) (gvs_cons (gv_name 9 sc_law.nd) gvs_nil)))) (bv_one (sv_set 7 sc_law.nd (ev_op d_add (ev_var 7) (ev_var 9)))))) (bv_cons (sv_set 10 sc_law.nd (ev_tup (av_cons (ev_var 2) (av_cons (ev_callTy c_tuple rfl T.tuple (by decide +kernel) (av_cons (ev_var 5) av_nil)) av_nil)))) (bv_cons (sv_set 11 sc_law.nd (ev_tup (av_cons (ev_var 2) (av_cons (ev_callTy c_tuple rfl T.tuple (by decide +kernel) (av_cons (ev_var 6) av_nil)) av_nil)))) (bv_one (sv_ret (ev_and (ev_def0 C__law_told (hr.mono (by decide)) rfl (av_cons (ev_def0 C_alike_paper (hr.mono (by decide)) rfl (av_cons (ev_var 10) (av_cons (ev_var 11) av_nil))) (av_cons (ev_var 7) av_nil))) (ev_one (ev_def0 C__law_told (hr.mono (by decide)) rfl (av_cons (ev_def0 C_alike_paper (hr.mono (by decide)) rfl (av_cons (ev_var 11) (av_cons (ev_var 10) av_nil))) (av_cons (ev_un d_neg (ev_var 7)) av_nil))))))))))))))))))
end

theorem all_mk {l : PySem.W.OpenLaw} {w : World} {K : PySem.W.Frag} {h : Heap} {mg : Str → Option Value} {fa f0 f1 f2 f3 f4 f5 f6 f7 f8 f9 f10 f11 f12 f13 f14 f15 f16 f17 f18 f19 f20 f21 f22 f23 f24 f25 f26 f27 f28 f29 f30 f31 f32 t2 t10 f_NOUGHT f_ONE f_PLAIN : Addr} {od0 an0 od1 an1 od2 an2 od3 an3 od4 an4 od5 an5 od6 an6 od7 an7 od8 an8 od9 an9 od10 an10 od11 an11 od12 an12 od13 an13 od14 an14 od15 an15 od16 an16 od17 an17 od18 an18 od19 an19 od20 an20 od21 an21 od22 an22 od23 an23 od24 an24 od25 an25 od26 an26 od27 an27 od28 an28 od29 an29 od30 an30 od31 an31 od32 an32 td2 td10 td_NOUGHT td_ONE td_PLAIN : Option Addr} {sl0 sl1 sl2 sl3 sl4 sl5 sl6 sl7 sl8 sl9 sl10 sl11 sl12 sl13 sl14 sl15 sl16 sl17 sl18 sl19 sl20 sl21 sl22 sl23 sl24 sl25 sl26 sl27 sl28 sl29 sl30 sl31 sl32 ts2 ts10 ts_NOUGHT ts_ONE ts_PLAIN : Array (Option Value)} {oc0 kV0 dc0 pm0 cd0 ct0 oc1 kV1 dc1 pm1 cd1 ct1 oc2 kV2 dc2 pm2 cd2 ct2 oc3 kV3 dc3 pm3 cd3 ct3 oc4 kV4 dc4 pm4 cd4 ct4 oc5 kV5 dc5 pm5 cd5 ct5 oc6 kV6 dc6 pm6 cd6 ct6 oc7 kV7 dc7 pm7 cd7 ct7 oc8 kV8 dc8 pm8 cd8 ct8 oc9 kV9 dc9 pm9 cd9 ct9 oc10 kV10 dc10 pm10 cd10 ct10 oc11 kV11 dc11 pm11 cd11 ct11 oc12 kV12 dc12 pm12 cd12 ct12 oc13 kV13 dc13 pm13 cd13 ct13 oc14 kV14 dc14 pm14 cd14 ct14 oc15 kV15 dc15 pm15 cd15 ct15 oc16 kV16 dc16 pm16 cd16 ct16 oc17 kV17 dc17 pm17 cd17 ct17 oc18 kV18 dc18 pm18 cd18 ct18 oc19 kV19 dc19 pm19 cd19 ct19 oc20 kV20 dc20 pm20 cd20 ct20 oc21 kV21 dc21 pm21 cd21 ct21 oc22 kV22 dc22 pm22 cd22 ct22 oc23 kV23 dc23 pm23 cd23 ct23 oc24 kV24 dc24 pm24 cd24 ct24 oc25 kV25 dc25 pm25 cd25 ct25 oc26 kV26 dc26 pm26 cd26 ct26 oc27 kV27 dc27 pm27 cd27 ct27 oc28 kV28 dc28 pm28 cd28 ct28 oc29 kV29 dc29 pm29 cd29 ct29 oc30 kV30 dc30 pm30 cd30 ct30 oc31 kV31 dc31 pm31 cd31 ct31 oc32 kV32 dc32 pm32 cd32 ct32 tc2 tc10 : Value} {tn2 tn10 tn_NOUGHT tn_ONE tn_PLAIN : Nat} {tk2_0 tk10_0 tk_NOUGHT_0 tk_NOUGHT_1 tk_NOUGHT_2 tk_NOUGHT_3 tk_NOUGHT_4 tk_ONE_0 tk_ONE_1 tk_ONE_2 tk_ONE_3 tk_ONE_4 tk_PLAIN_0 tk_PLAIN_1 tk_PLAIN_2 tk_PLAIN_3 tk_PLAIN_4 tk_PLAIN_5 : Tok} (X : K.In h) (G : h.Ns mainGlobals mg) (hfa : mg "law" = some (.ref fa))
    (a0 : PySem.W.nsIn K mainGlobals "twos_shared" = some (some (.ref f0))) (l0 : K.lookup f0 = some ⟨oc0, od0, .func (PySem.W.fnOf "twos_shared" "twos_shared" (defArgs s_twos_shared) (defBody s_twos_shared) (defScope s_twos_shared) .none kV0 dc0 pm0 an0 cd0 ct0), sl0⟩) (c0 : PySem.W.codeIn K cd0 "twos_shared" = true) (k0 : PySem.W.keepIn K (.ref f0) = true)
    (a1 : PySem.W.nsIn K mainGlobals "by_root" = some (some (.ref f1))) (l1 : K.lookup f1 = some ⟨oc1, od1, .func (PySem.W.fnOf "by_root" "by_root" (defArgs s_by_root) (defBody s_by_root) (defScope s_by_root) .none kV1 dc1 pm1 an1 cd1 ct1), sl1⟩) (c1 : PySem.W.codeIn K cd1 "by_root" = true) (k1 : PySem.W.keepIn K (.ref f1) = true)
    (a2 : PySem.W.nsIn K mainGlobals "number" = some (some (.ref f2))) (l2 : K.lookup f2 = some ⟨oc2, od2, .func (PySem.W.fnOf "number" "number" (defArgs s_number) (defBody s_number) (defScope s_number) (.ref t2) kV2 dc2 pm2 an2 cd2 ct2), sl2⟩) (c2 : PySem.W.codeIn K cd2 "number" = true) (k2 : PySem.W.keepIn K (.ref f2) = true)
    (d2 : K.lookup t2 = some ⟨tc2, td2, .seq #[.int 0 tk2_0] tn2, ts2⟩)
    (a3 : PySem.W.nsIn K mainGlobals "parts_over" = some (some (.ref f3))) (l3 : K.lookup f3 = some ⟨oc3, od3, .func (PySem.W.fnOf "parts_over" "parts_over" (defArgs s_parts_over) (defBody s_parts_over) (defScope s_parts_over) .none kV3 dc3 pm3 an3 cd3 ct3), sl3⟩) (c3 : PySem.W.codeIn K cd3 "parts_over" = true) (k3 : PySem.W.keepIn K (.ref f3) = true)
    (a4 : PySem.W.nsIn K mainGlobals "plus" = some (some (.ref f4))) (l4 : K.lookup f4 = some ⟨oc4, od4, .func (PySem.W.fnOf "plus" "plus" (defArgs s_plus) (defBody s_plus) (defScope s_plus) .none kV4 dc4 pm4 an4 cd4 ct4), sl4⟩) (c4 : PySem.W.codeIn K cd4 "plus" = true) (k4 : PySem.W.keepIn K (.ref f4) = true)
    (a5 : PySem.W.nsIn K mainGlobals "times" = some (some (.ref f5))) (l5 : K.lookup f5 = some ⟨oc5, od5, .func (PySem.W.fnOf "times" "times" (defArgs s_times) (defBody s_times) (defScope s_times) .none kV5 dc5 pm5 an5 cd5 ct5), sl5⟩) (c5 : PySem.W.codeIn K cd5 "times" = true) (k5 : PySem.W.keepIn K (.ref f5) = true)
    (a6 : PySem.W.nsIn K mainGlobals "against" = some (some (.ref f6))) (l6 : K.lookup f6 = some ⟨oc6, od6, .func (PySem.W.fnOf "against" "against" (defArgs s_against) (defBody s_against) (defScope s_against) .none kV6 dc6 pm6 an6 cd6 ct6), sl6⟩) (c6 : PySem.W.codeIn K cd6 "against" = true) (k6 : PySem.W.keepIn K (.ref f6) = true)
    (a7 : PySem.W.nsIn K mainGlobals "turned" = some (some (.ref f7))) (l7 : K.lookup f7 = some ⟨oc7, od7, .func (PySem.W.fnOf "turned" "turned" (defArgs s_turned) (defBody s_turned) (defScope s_turned) .none kV7 dc7 pm7 an7 cd7 ct7), sl7⟩) (c7 : PySem.W.codeIn K cd7 "turned" = true) (k7 : PySem.W.keepIn K (.ref f7) = true)
    (a8 : PySem.W.nsIn K mainGlobals "halved" = some (some (.ref f8))) (l8 : K.lookup f8 = some ⟨oc8, od8, .func (PySem.W.fnOf "halved" "halved" (defArgs s_halved) (defBody s_halved) (defScope s_halved) .none kV8 dc8 pm8 an8 cd8 ct8), sl8⟩) (c8 : PySem.W.codeIn K cd8 "halved" = true) (k8 : PySem.W.keepIn K (.ref f8) = true)
    (a9 : PySem.W.nsIn K mainGlobals "worth" = some (some (.ref f9))) (l9 : K.lookup f9 = some ⟨oc9, od9, .func (PySem.W.fnOf "worth" "worth" (defArgs s_worth) (defBody s_worth) (defScope s_worth) .none kV9 dc9 pm9 an9 cd9 ct9), sl9⟩) (c9 : PySem.W.codeIn K cd9 "worth" = true) (k9 : PySem.W.keepIn K (.ref f9) = true)
    (a10 : PySem.W.nsIn K mainGlobals "beginning" = some (some (.ref f10))) (l10 : K.lookup f10 = some ⟨oc10, od10, .func (PySem.W.fnOf "beginning" "beginning" (defArgs s_beginning) (defBody s_beginning) (defScope s_beginning) (.ref t10) kV10 dc10 pm10 an10 cd10 ct10), sl10⟩) (c10 : PySem.W.codeIn K cd10 "beginning" = true) (k10 : PySem.W.keepIn K (.ref f10) = true)
    (d10 : K.lookup t10 = some ⟨tc10, td10, .seq #[.int 0 tk10_0] tn10, ts10⟩)
    (a11 : PySem.W.nsIn K mainGlobals "swung" = some (some (.ref f11))) (l11 : K.lookup f11 = some ⟨oc11, od11, .func (PySem.W.fnOf "swung" "swung" (defArgs s_swung) (defBody s_swung) (defScope s_swung) .none kV11 dc11 pm11 an11 cd11 ct11), sl11⟩) (c11 : PySem.W.codeIn K cd11 "swung" = true) (k11 : PySem.W.keepIn K (.ref f11) = true)
    (a12 : PySem.W.nsIn K mainGlobals "turned_where" = some (some (.ref f12))) (l12 : K.lookup f12 = some ⟨oc12, od12, .func (PySem.W.fnOf "turned_where" "turned_where" (defArgs s_turned_where) (defBody s_turned_where) (defScope s_turned_where) .none kV12 dc12 pm12 an12 cd12 ct12), sl12⟩) (c12 : PySem.W.codeIn K cd12 "turned_where" = true) (k12 : PySem.W.keepIn K (.ref f12) = true)
    (a13 : PySem.W.nsIn K mainGlobals "flipped_where" = some (some (.ref f13))) (l13 : K.lookup f13 = some ⟨oc13, od13, .func (PySem.W.fnOf "flipped_where" "flipped_where" (defArgs s_flipped_where) (defBody s_flipped_where) (defScope s_flipped_where) .none kV13 dc13 pm13 an13 cd13 ct13), sl13⟩) (c13 : PySem.W.codeIn K cd13 "flipped_where" = true) (k13 : PySem.W.keepIn K (.ref f13) = true)
    (a14 : PySem.W.nsIn K mainGlobals "exchanged" = some (some (.ref f14))) (l14 : K.lookup f14 = some ⟨oc14, od14, .func (PySem.W.fnOf "exchanged" "exchanged" (defArgs s_exchanged) (defBody s_exchanged) (defScope s_exchanged) .none kV14 dc14 pm14 an14 cd14 ct14), sl14⟩) (c14 : PySem.W.codeIn K cd14 "exchanged" = true) (k14 : PySem.W.keepIn K (.ref f14) = true)
    (a15 : PySem.W.nsIn K mainGlobals "done" = some (some (.ref f15))) (l15 : K.lookup f15 = some ⟨oc15, od15, .func (PySem.W.fnOf "done" "done" (defArgs s_done) (defBody s_done) (defScope s_done) .none kV15 dc15 pm15 an15 cd15 ct15), sl15⟩) (c15 : PySem.W.codeIn K cd15 "done" = true) (k15 : PySem.W.keepIn K (.ref f15) = true)
    (a16 : PySem.W.nsIn K mainGlobals "all_done" = some (some (.ref f16))) (l16 : K.lookup f16 = some ⟨oc16, od16, .func (PySem.W.fnOf "all_done" "all_done" (defArgs s_all_done) (defBody s_all_done) (defScope s_all_done) .none kV16 dc16 pm16 an16 cd16 ct16), sl16⟩) (c16 : PySem.W.codeIn K cd16 "all_done" = true) (k16 : PySem.W.keepIn K (.ref f16) = true)
    (a17 : PySem.W.nsIn K mainGlobals "all_plain" = some (some (.ref f17))) (l17 : K.lookup f17 = some ⟨oc17, od17, .func (PySem.W.fnOf "all_plain" "all_plain" (defArgs s_all_plain) (defBody s_all_plain) (defScope s_all_plain) .none kV17 dc17 pm17 an17 cd17 ct17), sl17⟩) (c17 : PySem.W.codeIn K cd17 "all_plain" = true) (k17 : PySem.W.keepIn K (.ref f17) = true)
    (a18 : PySem.W.nsIn K mainGlobals "column" = some (some (.ref f18))) (l18 : K.lookup f18 = some ⟨oc18, od18, .func (PySem.W.fnOf "column" "column" (defArgs s_column) (defBody s_column) (defScope s_column) .none kV18 dc18 pm18 an18 cd18 ct18), sl18⟩) (c18 : PySem.W.codeIn K cd18 "column" = true) (k18 : PySem.W.keepIn K (.ref f18) = true)
    (a19 : PySem.W.nsIn K mainGlobals "is_plain" = some (some (.ref f19))) (l19 : K.lookup f19 = some ⟨oc19, od19, .func (PySem.W.fnOf "is_plain" "is_plain" (defArgs s_is_plain) (defBody s_is_plain) (defScope s_is_plain) .none kV19 dc19 pm19 an19 cd19 ct19), sl19⟩) (c19 : PySem.W.codeIn K cd19 "is_plain" = true) (k19 : PySem.W.keepIn K (.ref f19) = true)
    (a20 : PySem.W.nsIn K mainGlobals "refuse_apart" = some (some (.ref f20))) (l20 : K.lookup f20 = some ⟨oc20, od20, .func (PySem.W.fnOf "refuse_apart" "refuse_apart" (defArgs s_refuse_apart) (defBody s_refuse_apart) (defScope s_refuse_apart) .none kV20 dc20 pm20 an20 cd20 ct20), sl20⟩) (c20 : PySem.W.codeIn K cd20 "refuse_apart" = true) (k20 : PySem.W.keepIn K (.ref f20) = true)
    (a21 : PySem.W.nsIn K mainGlobals "columns_apart" = some (some (.ref f21))) (l21 : K.lookup f21 = some ⟨oc21, od21, .func (PySem.W.fnOf "columns_apart" "columns_apart" (defArgs s_columns_apart) (defBody s_columns_apart) (defScope s_columns_apart) .none kV21 dc21 pm21 an21 cd21 ct21), sl21⟩) (c21 : PySem.W.codeIn K cd21 "columns_apart" = true) (k21 : PySem.W.keepIn K (.ref f21) = true)
    (a22 : PySem.W.nsIn K mainGlobals "turn_to" = some (some (.ref f22))) (l22 : K.lookup f22 = some ⟨oc22, od22, .func (PySem.W.fnOf "turn_to" "turn_to" (defArgs s_turn_to) (defBody s_turn_to) (defScope s_turn_to) .none kV22 dc22 pm22 an22 cd22 ct22), sl22⟩) (c22 : PySem.W.codeIn K cd22 "turn_to" = true) (k22 : PySem.W.keepIn K (.ref f22) = true)
    (a23 : PySem.W.nsIn K mainGlobals "turn_apart" = some (some (.ref f23))) (l23 : K.lookup f23 = some ⟨oc23, od23, .func (PySem.W.fnOf "turn_apart" "turn_apart" (defArgs s_turn_apart) (defBody s_turn_apart) (defScope s_turn_apart) .none kV23 dc23 pm23 an23 cd23 ct23), sl23⟩) (c23 : PySem.W.codeIn K cd23 "turn_apart" = true) (k23 : PySem.W.keepIn K (.ref f23) = true)
    (a24 : PySem.W.nsIn K mainGlobals "unlike_paper" = some (some (.ref f24))) (l24 : K.lookup f24 = some ⟨oc24, od24, .func (PySem.W.fnOf "unlike_paper" "unlike_paper" (defArgs s_unlike_paper) (defBody s_unlike_paper) (defScope s_unlike_paper) .none kV24 dc24 pm24 an24 cd24 ct24), sl24⟩) (c24 : PySem.W.codeIn K cd24 "unlike_paper" = true) (k24 : PySem.W.keepIn K (.ref f24) = true)
    (a25 : PySem.W.nsIn K mainGlobals "alike_paper" = some (some (.ref f25))) (l25 : K.lookup f25 = some ⟨oc25, od25, .func (PySem.W.fnOf "alike_paper" "alike_paper" (defArgs s_alike_paper) (defBody s_alike_paper) (defScope s_alike_paper) .none kV25 dc25 pm25 an25 cd25 ct25), sl25⟩) (c25 : PySem.W.codeIn K cd25 "alike_paper" = true) (k25 : PySem.W.keepIn K (.ref f25) = true)
    (a26 : PySem.W.nsIn K mainGlobals "_law_cell_at" = some (some (.ref f26))) (l26 : K.lookup f26 = some ⟨oc26, od26, .func (PySem.W.fnOf "_law_cell_at" "_law_cell_at" (defArgs s__law_cell_at) (defBody s__law_cell_at) (defScope s__law_cell_at) .none kV26 dc26 pm26 an26 cd26 ct26), sl26⟩) (c26 : PySem.W.codeIn K cd26 "_law_cell_at" = true) (k26 : PySem.W.keepIn K (.ref f26) = true)
    (a27 : PySem.W.nsIn K mainGlobals "_law_row" = some (some (.ref f27))) (l27 : K.lookup f27 = some ⟨oc27, od27, .func (PySem.W.fnOf "_law_row" "_law_row" (defArgs s__law_row) (defBody s__law_row) (defScope s__law_row) .none kV27 dc27 pm27 an27 cd27 ct27), sl27⟩) (c27 : PySem.W.codeIn K cd27 "_law_row" = true) (k27 : PySem.W.keepIn K (.ref f27) = true)
    (a28 : PySem.W.nsIn K mainGlobals "_law_wires" = some (some (.ref f28))) (l28 : K.lookup f28 = some ⟨oc28, od28, .func (PySem.W.fnOf "_law_wires" "_law_wires" (defArgs s__law_wires) (defBody s__law_wires) (defScope s__law_wires) .none kV28 dc28 pm28 an28 cd28 ct28), sl28⟩) (c28 : PySem.W.codeIn K cd28 "_law_wires" = true) (k28 : PySem.W.keepIn K (.ref f28) = true)
    (a29 : PySem.W.nsIn K mainGlobals "_law_nothing" = some (some (.ref f29))) (l29 : K.lookup f29 = some ⟨oc29, od29, .func (PySem.W.fnOf "_law_nothing" "_law_nothing" (defArgs s__law_nothing) (defBody s__law_nothing) (defScope s__law_nothing) .none kV29 dc29 pm29 an29 cd29 ct29), sl29⟩) (c29 : PySem.W.codeIn K cd29 "_law_nothing" = true) (k29 : PySem.W.keepIn K (.ref f29) = true)
    (a30 : PySem.W.nsIn K mainGlobals "_law_changed" = some (some (.ref f30))) (l30 : K.lookup f30 = some ⟨oc30, od30, .func (PySem.W.fnOf "_law_changed" "_law_changed" (defArgs s__law_changed) (defBody s__law_changed) (defScope s__law_changed) .none kV30 dc30 pm30 an30 cd30 ct30), sl30⟩) (c30 : PySem.W.codeIn K cd30 "_law_changed" = true) (k30 : PySem.W.keepIn K (.ref f30) = true)
    (a31 : PySem.W.nsIn K mainGlobals "_law_told" = some (some (.ref f31))) (l31 : K.lookup f31 = some ⟨oc31, od31, .func (PySem.W.fnOf "_law_told" "_law_told" (defArgs s__law_told) (defBody s__law_told) (defScope s__law_told) .none kV31 dc31 pm31 an31 cd31 ct31), sl31⟩) (c31 : PySem.W.codeIn K cd31 "_law_told" = true) (k31 : PySem.W.keepIn K (.ref f31) = true)
    (a32 : PySem.W.nsIn K mainGlobals "law" = some (some (.ref f32))) (l32 : K.lookup f32 = some ⟨oc32, od32, .func (PySem.W.fnOf "law" "law" (defArgs s_law) (defBody s_law) (defScope s_law) .none kV32 dc32 pm32 an32 cd32 ct32), sl32⟩) (c32 : PySem.W.codeIn K cd32 "law" = true) (k32 : PySem.W.keepIn K (.ref f32) = true)
    (z_min : PySem.W.nsIn K mainGlobals "min" = some none)
    (z_max : PySem.W.nsIn K mainGlobals "max" = some none)
    (z_tuple : PySem.W.nsIn K mainGlobals "tuple" = some none)
    (z_range : PySem.W.nsIn K mainGlobals "range" = some none)
    (z_len : PySem.W.nsIn K mainGlobals "len" = some none)
    (z_all : PySem.W.nsIn K mainGlobals "all" = some none)
    (z_list : PySem.W.nsIn K mainGlobals "list" = some none)
    (z_isinstance : PySem.W.nsIn K mainGlobals "isinstance" = some none)
    (z_bool : PySem.W.nsIn K mainGlobals "bool" = some none)
    (a_NOUGHT : PySem.W.nsIn K mainGlobals "NOUGHT" = some (some (.ref f_NOUGHT))) (d_NOUGHT : K.lookup f_NOUGHT = some ⟨.type "tuple", td_NOUGHT, .seq #[.int 0 tk_NOUGHT_0, .int 0 tk_NOUGHT_1, .int 0 tk_NOUGHT_2, .int 0 tk_NOUGHT_3, .int 0 tk_NOUGHT_4] tn_NOUGHT, ts_NOUGHT⟩)
    (a_ONE : PySem.W.nsIn K mainGlobals "ONE" = some (some (.ref f_ONE))) (d_ONE : K.lookup f_ONE = some ⟨.type "tuple", td_ONE, .seq #[.int 1 tk_ONE_0, .int 0 tk_ONE_1, .int 0 tk_ONE_2, .int 0 tk_ONE_3, .int 0 tk_ONE_4] tn_ONE, ts_ONE⟩)
    (a_PLAIN : PySem.W.nsIn K mainGlobals "PLAIN" = some (some (.ref f_PLAIN))) (d_PLAIN : K.lookup f_PLAIN = some ⟨.type "tuple", td_PLAIN, .seq #[.str "swing" tk_PLAIN_0, .str "turn" tk_PLAIN_1, .str "flip" tk_PLAIN_2, .str "tie" tk_PLAIN_3, .str "sign" tk_PLAIN_4, .str "cross" tk_PLAIN_5] tn_PLAIN, ts_PLAIN⟩)
    : ∃ fd : FuncData, (∀ (s : Shared) (v : Value), BindsTo s fd ⟨[v], []⟩ [("script", v)]) ∧ ∀ base : Heap, K.In base → base.Ns mainGlobals mg → FnOk l.prog w K mg base CX0 10 fa fd ["script"] (spLaw K) := by
  have e := hfa.symm.trans (PySem.W.mg_of X G a32)
  cases e
  have T : Txt mg := ⟨PySem.W.mg_none_of X G z_min, PySem.W.mg_none_of X G z_max, PySem.W.mg_none_of X G z_tuple, PySem.W.mg_none_of X G z_range, PySem.W.mg_none_of X G z_len, PySem.W.mg_none_of X G z_all, PySem.W.mg_none_of X G z_list, PySem.W.mg_none_of X G z_isinstance, PySem.W.mg_none_of X G z_bool⟩
  have T_NOUGHT : TopV K mg "NOUGHT" (.tuple [.int 0, .int 0, .int 0, .int 0, .int 0]) := TopV.tup (xs := [.int 0, .int 0, .int 0, .int 0, .int 0]) (PySem.W.mg_of X G a_NOUGHT) d_NOUGHT (by simp [sizeLine]) (.cons ⟨_, rfl⟩ (.cons ⟨_, rfl⟩ (.cons ⟨_, rfl⟩ (.cons ⟨_, rfl⟩ (.cons ⟨_, rfl⟩ (.nil)))))) fun _ => .cons (.int _) (.cons (.int _) (.cons (.int _) (.cons (.int _) (.cons (.int _) (.nil)))))
  have T_ONE : TopV K mg "ONE" (.tuple [.int 1, .int 0, .int 0, .int 0, .int 0]) := TopV.tup (xs := [.int 1, .int 0, .int 0, .int 0, .int 0]) (PySem.W.mg_of X G a_ONE) d_ONE (by simp [sizeLine]) (.cons ⟨_, rfl⟩ (.cons ⟨_, rfl⟩ (.cons ⟨_, rfl⟩ (.cons ⟨_, rfl⟩ (.cons ⟨_, rfl⟩ (.nil)))))) fun _ => .cons (.int _) (.cons (.int _) (.cons (.int _) (.cons (.int _) (.cons (.int _) (.nil)))))
  have T_PLAIN : TopV K mg "PLAIN" (.tuple [.str "swing", .str "turn", .str "flip", .str "tie", .str "sign", .str "cross"]) := TopV.tup (xs := [.str "swing", .str "turn", .str "flip", .str "tie", .str "sign", .str "cross"]) (PySem.W.mg_of X G a_PLAIN) d_PLAIN (by simp [sizeLine]) (.cons ⟨_, rfl⟩ (.cons ⟨_, rfl⟩ (.cons ⟨_, rfl⟩ (.cons ⟨_, rfl⟩ (.cons ⟨_, rfl⟩ (.cons ⟨_, rfl⟩ (.nil))))))) fun _ => .cons (.str _) (.cons (.str _) (.cons (.str _) (.cons (.str _) (.cons (.str _) (.cons (.str _) (.nil))))))
  have F0 := funV_mk (st := s_twos_shared) l0 c0 k0
  have F1 := funV_mk (st := s_by_root) l1 c1 k1
  have F2 := funV_mk (st := s_number) l2 c2 k2
  have F3 := funV_mk (st := s_parts_over) l3 c3 k3
  have F4 := funV_mk (st := s_plus) l4 c4 k4
  have F5 := funV_mk (st := s_times) l5 c5 k5
  have F6 := funV_mk (st := s_against) l6 c6 k6
  have F7 := funV_mk (st := s_turned) l7 c7 k7
  have F8 := funV_mk (st := s_halved) l8 c8 k8
  have F9 := funV_mk (st := s_worth) l9 c9 k9
  have F10 := funV_mk (st := s_beginning) l10 c10 k10
  have F11 := funV_mk (st := s_swung) l11 c11 k11
  have F12 := funV_mk (st := s_turned_where) l12 c12 k12
  have F13 := funV_mk (st := s_flipped_where) l13 c13 k13
  have F14 := funV_mk (st := s_exchanged) l14 c14 k14
  have F15 := funV_mk (st := s_done) l15 c15 k15
  have F16 := funV_mk (st := s_all_done) l16 c16 k16
  have F17 := funV_mk (st := s_all_plain) l17 c17 k17
  have F18 := funV_mk (st := s_column) l18 c18 k18
  have F19 := funV_mk (st := s_is_plain) l19 c19 k19
  have F20 := funV_mk (st := s_refuse_apart) l20 c20 k20
  have F21 := funV_mk (st := s_columns_apart) l21 c21 k21
  have F22 := funV_mk (st := s_turn_to) l22 c22 k22
  have F23 := funV_mk (st := s_turn_apart) l23 c23 k23
  have F24 := funV_mk (st := s_unlike_paper) l24 c24 k24
  have F25 := funV_mk (st := s_alike_paper) l25 c25 k25
  have F26 := funV_mk (st := s__law_cell_at) l26 c26 k26
  have F27 := funV_mk (st := s__law_row) l27 c27 k27
  have F28 := funV_mk (st := s__law_wires) l28 c28 k28
  have F29 := funV_mk (st := s__law_nothing) l29 c29 k29
  have F30 := funV_mk (st := s__law_changed) l30 c30 k30
  have F31 := funV_mk (st := s__law_told) l31 c31 k31
  have F32 := funV_mk (st := s_law) l32 c32 k32
  refine ⟨PySem.W.fnOf "law" "law" (defArgs s_law) (defBody s_law) (defScope s_law) .none kV32 dc32 pm32 an32 cd32 ct32, fun s v => .of_eq rfl, fun base _ _ => ?_⟩
  have O0 : FnOk l.prog w K mg base CX0 1 _ _ _ (spD K g_twos_shared) := ok_twos_shared F0 T
  have C_twos_shared : Cal l.prog w K mg base "twos_shared" 1 g_twos_shared [] := Cal.mk0 O0 (PySem.W.mg_of X G a0) k0 (F0.binds (ps := ["joined", "most"]) fun _ _ _ _ _ _ us hl => by obtain ⟨_, _, rfl⟩ := len2 hl; exact rfl)
  have O1 : FnOk l.prog w K mg base CX0 1 _ _ _ (spD K g_by_root) := ok_by_root F1 T
  have C_by_root : Cal l.prog w K mg base "by_root" 1 g_by_root [] := Cal.mk0 O1 (PySem.W.mg_of X G a1) k1 (F1.binds (ps := ["a", "b", "c", "d"]) fun _ _ _ _ _ _ us hl => by obtain ⟨_, _, _, _, rfl⟩ := len4 hl; exact rfl)
  have O2 : FnOk l.prog w K mg base CX0 2 _ _ _ (spD K g_number) := ok_number F2 T C_twos_shared C_by_root
  have C_number : Cal l.prog w K mg base "number" 2 g_number [] := ⟨⟨_, _, _, [], [], O2, PySem.W.mg_of X G a2, k2, F2.bindsD d2 rfl (ps := ["a", "b", "c", "d", "k"]) 5 rfl (fun _ _ _ _ _ _ us hl => by obtain ⟨_, _, _, _, _, rfl⟩ := len5 hl; exact ⟨_, rfl, rfl⟩), .nil, fun _ => .nil⟩⟩
  have O3 : FnOk l.prog w K mg base CX0 2 _ _ _ (spD K g_parts_over) := ok_parts_over F3 T C_by_root
  have C_parts_over : Cal l.prog w K mg base "parts_over" 2 g_parts_over [] := Cal.mk0 O3 (PySem.W.mg_of X G a3) k3 (F3.binds (ps := ["x", "k"]) fun _ _ _ _ _ _ us hl => by obtain ⟨_, _, rfl⟩ := len2 hl; exact rfl)
  have O4 : FnOk l.prog w K mg base CX0 3 _ _ _ (spD K g_plus) := ok_plus F4 T C_parts_over C_number
  have C_plus : Cal l.prog w K mg base "plus" 3 g_plus [] := Cal.mk0 O4 (PySem.W.mg_of X G a4) k4 (F4.binds (ps := ["x", "y"]) fun _ _ _ _ _ _ us hl => by obtain ⟨_, _, rfl⟩ := len2 hl; exact rfl)
  have O5 : FnOk l.prog w K mg base CX0 3 _ _ _ (spD K g_times) := ok_times F5 T C_number
  have C_times : Cal l.prog w K mg base "times" 3 g_times [] := Cal.mk0 O5 (PySem.W.mg_of X G a5) k5 (F5.binds (ps := ["x", "y"]) fun _ _ _ _ _ _ us hl => by obtain ⟨_, _, rfl⟩ := len2 hl; exact rfl)
  have O6 : FnOk l.prog w K mg base CX0 1 _ _ _ (spD K g_against) := ok_against F6 T
  have C_against : Cal l.prog w K mg base "against" 1 g_against [] := Cal.mk0 O6 (PySem.W.mg_of X G a6) k6 (F6.binds (ps := ["x"]) fun _ _ _ _ _ _ us hl => by obtain ⟨_, rfl⟩ := len1 hl; exact rfl)
  have O7 : FnOk l.prog w K mg base CX0 1 _ _ _ (spD K g_turned) := ok_turned F7 T
  have C_turned : Cal l.prog w K mg base "turned" 1 g_turned [] := Cal.mk0 O7 (PySem.W.mg_of X G a7) k7 (F7.binds (ps := ["x", "e"]) fun _ _ _ _ _ _ us hl => by obtain ⟨_, _, rfl⟩ := len2 hl; exact rfl)
  have O8 : FnOk l.prog w K mg base CX0 3 _ _ _ (spD K g_halved) := ok_halved F8 T C_number
  have C_halved : Cal l.prog w K mg base "halved" 3 g_halved [] := Cal.mk0 O8 (PySem.W.mg_of X G a8) k8 (F8.binds (ps := ["x"]) fun _ _ _ _ _ _ us hl => by obtain ⟨_, rfl⟩ := len1 hl; exact rfl)
  have O9 : FnOk l.prog w K mg base CX0 1 _ _ _ (spD K g_worth) := ok_worth F9 T
  have C_worth : Cal l.prog w K mg base "worth" 1 g_worth [] := Cal.mk0 O9 (PySem.W.mg_of X G a9) k9 (F9.binds (ps := ["wires", "wire"]) fun _ _ _ _ _ _ us hl => by obtain ⟨_, _, rfl⟩ := len2 hl; exact rfl)
  have O10 : FnOk l.prog w K mg base CX0 1 _ _ _ (spD K g_beginning) := ok_beginning F10 T T_NOUGHT T_ONE
  have C_beginning : Cal l.prog w K mg base "beginning" 1 g_beginning [] := ⟨⟨_, _, _, [], [], O10, PySem.W.mg_of X G a10, k10, F10.bindsD d10 rfl (ps := ["wires", "place"]) 2 rfl (fun _ _ _ _ _ _ us hl => by obtain ⟨_, _, rfl⟩ := len2 hl; exact ⟨_, rfl, rfl⟩), .nil, fun _ => .nil⟩⟩
  have O11 : FnOk l.prog w K mg base CX0 4 _ _ _ (spD K g_swung) := ok_swung F11 T C_halved C_plus C_against
  have C_swung : Cal l.prog w K mg base "swung" 4 g_swung [] := Cal.mk0 O11 (PySem.W.mg_of X G a11) k11 (F11.binds (ps := ["state", "bit"]) fun _ _ _ _ _ _ us hl => by obtain ⟨_, _, rfl⟩ := len2 hl; exact rfl)
  have O12 : FnOk l.prog w K mg base CX0 2 _ _ _ (spD K g_turned_where) := ok_turned_where F12 T C_turned
  have C_turned_where : Cal l.prog w K mg base "turned_where" 2 g_turned_where [] := Cal.mk0 O12 (PySem.W.mg_of X G a12) k12 (F12.binds (ps := ["state", "held", "e"]) fun _ _ _ _ _ _ us hl => by obtain ⟨_, _, _, rfl⟩ := len3 hl; exact rfl)
  have O13 : FnOk l.prog w K mg base CX0 1 _ _ _ (spD K g_flipped_where) := ok_flipped_where F13 T
  have C_flipped_where : Cal l.prog w K mg base "flipped_where" 1 g_flipped_where [] := Cal.mk0 O13 (PySem.W.mg_of X G a13) k13 (F13.binds (ps := ["state", "held", "bit"]) fun _ _ _ _ _ _ us hl => by obtain ⟨_, _, _, rfl⟩ := len3 hl; exact rfl)
  have O14 : FnOk l.prog w K mg base CX0 1 _ _ _ (spD K g_exchanged) := ok_exchanged F14 T
  have C_exchanged : Cal l.prog w K mg base "exchanged" 1 g_exchanged [] := Cal.mk0 O14 (PySem.W.mg_of X G a14) k14 (F14.binds (ps := ["place", "both"]) fun _ _ _ _ _ _ us hl => by obtain ⟨_, _, rfl⟩ := len2 hl; exact rfl)
  have O15 : FnOk l.prog w K mg base CX0 5 _ _ _ (spD K g_done) := ok_done F15 T C_worth C_swung C_turned_where C_flipped_where C_exchanged
  have C_done : Cal l.prog w K mg base "done" 5 g_done [] := Cal.mk0 O15 (PySem.W.mg_of X G a15) k15 (F15.binds (ps := ["state", "row"]) fun _ _ _ _ _ _ us hl => by obtain ⟨_, _, rfl⟩ := len2 hl; exact rfl)
  have O16 : FnOk l.prog w K mg base CX0 6 _ _ _ (spD K g_all_done) := ok_all_done F16 T C_done
  have C_all_done : Cal l.prog w K mg base "all_done" 6 g_all_done [] := Cal.mk0 O16 (PySem.W.mg_of X G a16) k16 (F16.binds (ps := ["state", "rows"]) fun _ _ _ _ _ _ us hl => by obtain ⟨_, _, rfl⟩ := len2 hl; exact rfl)
  have O17 : FnOk l.prog w K mg base CX0 1 _ _ _ (spD K g_all_plain) := ok_all_plain F17 T T_PLAIN
  have C_all_plain : Cal l.prog w K mg base "all_plain" 1 g_all_plain [] := Cal.mk0 O17 (PySem.W.mg_of X G a17) k17 (F17.binds (ps := ["rows"]) fun _ _ _ _ _ _ us hl => by obtain ⟨_, rfl⟩ := len1 hl; exact rfl)
  have O18 : FnOk l.prog w K mg base CX0 7 _ _ _ (spD K g_column) := ok_column F18 T C_all_done C_all_plain C_beginning
  have C_column : Cal l.prog w K mg base "column" 7 g_column [] := Cal.mk0 O18 (PySem.W.mg_of X G a18) k18 (F18.binds (ps := ["circuit", "place"]) fun _ _ _ _ _ _ us hl => by obtain ⟨_, _, rfl⟩ := len2 hl; exact rfl)
  have O19 : FnOk l.prog w K mg base CX0 2 _ _ _ (spD K g_is_plain) := ok_is_plain F19 T C_all_plain
  have C_is_plain : Cal l.prog w K mg base "is_plain" 2 g_is_plain [] := Cal.mk0 O19 (PySem.W.mg_of X G a19) k19 (F19.binds (ps := ["circuit"]) fun _ _ _ _ _ _ us hl => by obtain ⟨_, rfl⟩ := len1 hl; exact rfl)
  have O20 : FnOk l.prog w K mg base CX0 3 _ _ _ (spD K g_refuse_apart) := ok_refuse_apart F20 T C_is_plain
  have C_refuse_apart : Cal l.prog w K mg base "refuse_apart" 3 g_refuse_apart [] := Cal.mk0 O20 (PySem.W.mg_of X G a20) k20 (F20.binds (ps := ["one", "other"]) fun _ _ _ _ _ _ us hl => by obtain ⟨_, _, rfl⟩ := len2 hl; exact rfl)
  have O21 : FnOk l.prog w K mg base CX0 7 _ _ _ (spD K g_columns_apart) := ok_columns_apart F21 T C_all_done
  have C_columns_apart : Cal l.prog w K mg base "columns_apart" 7 g_columns_apart [] := Cal.mk0 O21 (PySem.W.mg_of X G a21) k21 (F21.binds (ps := ["circuit", "apart"]) fun _ _ _ _ _ _ us hl => by obtain ⟨_, _, rfl⟩ := len2 hl; exact rfl)
  have O22 : FnOk l.prog w K mg base CX0 2 _ _ _ (spD K g_turn_to) := ok_turn_to F22 T C_turned
  have C_turn_to : Cal l.prog w K mg base "turn_to" 2 g_turn_to [] := Cal.mk0 O22 (PySem.W.mg_of X G a22) k22 (F22.binds (ps := ["one", "other"]) fun _ _ _ _ _ _ us hl => by obtain ⟨_, _, rfl⟩ := len2 hl; exact rfl)
  have O23 : FnOk l.prog w K mg base CX0 8 _ _ _ (spD K g_turn_apart) := ok_turn_apart F23 T C_turn_to C_columns_apart
  have C_turn_apart : Cal l.prog w K mg base "turn_apart" 8 g_turn_apart [] := Cal.mk0 O23 (PySem.W.mg_of X G a23) k23 (F23.binds (ps := ["one", "other"]) fun _ _ _ _ _ _ us hl => by obtain ⟨_, _, rfl⟩ := len2 hl; exact rfl)
  have O24 : FnOk l.prog w K mg base CX0 8 _ _ _ (spD K g_unlike_paper) := ok_unlike_paper F24 T T_NOUGHT C_column C_times
  have C_unlike_paper : Cal l.prog w K mg base "unlike_paper" 8 g_unlike_paper [] := Cal.mk0 O24 (PySem.W.mg_of X G a24) k24 (F24.binds (ps := ["one", "other"]) fun _ _ _ _ _ _ us hl => by obtain ⟨_, _, rfl⟩ := len2 hl; exact rfl)
  have O25 : FnOk l.prog w K mg base CX0 9 _ _ _ (spD K g_alike_paper) := ok_alike_paper F25 T C_refuse_apart C_turn_apart C_unlike_paper
  have C_alike_paper : Cal l.prog w K mg base "alike_paper" 9 g_alike_paper [] := Cal.mk0 O25 (PySem.W.mg_of X G a25) k25 (F25.binds (ps := ["one", "other"]) fun _ _ _ _ _ _ us hl => by obtain ⟨_, _, rfl⟩ := len2 hl; exact rfl)
  have O26 : FnOk l.prog w K mg base CX0 1 _ _ _ (spD K g__law_cell_at) := ok__law_cell_at F26 T
  have C__law_cell_at : Cal l.prog w K mg base "_law_cell_at" 1 g__law_cell_at [] := Cal.mk0 O26 (PySem.W.mg_of X G a26) k26 (F26.binds (ps := ["script", "k"]) fun _ _ _ _ _ _ us hl => by obtain ⟨_, _, rfl⟩ := len2 hl; exact rfl)
  have O27 : FnOk l.prog w K mg base CX0 1 _ _ _ (spD K g__law_row) := ok__law_row F27 T
  have C__law_row : Cal l.prog w K mg base "_law_row" 1 g__law_row [] := Cal.mk0 O27 (PySem.W.mg_of X G a27) k27 (F27.binds (ps := ["cell", "wires"]) fun _ _ _ _ _ _ us hl => by obtain ⟨_, _, rfl⟩ := len2 hl; exact rfl)
  have O28 : FnOk l.prog w K mg base CX0 1 _ _ _ (spD K g__law_wires) := ok__law_wires F28 T
  have C__law_wires : Cal l.prog w K mg base "_law_wires" 1 g__law_wires [] := Cal.mk0 O28 (PySem.W.mg_of X G a28) k28 (F28.binds (ps := ["row"]) fun _ _ _ _ _ _ us hl => by obtain ⟨_, rfl⟩ := len1 hl; exact rfl)
  have O29 : FnOk l.prog w K mg base CX0 2 _ _ _ (spD K g__law_nothing) := ok__law_nothing F29 T C__law_row
  have C__law_nothing : Cal l.prog w K mg base "_law_nothing" 2 g__law_nothing [] := Cal.mk0 O29 (PySem.W.mg_of X G a29) k29 (F29.binds (ps := ["cell", "wires"]) fun _ _ _ _ _ _ us hl => by obtain ⟨_, _, rfl⟩ := len2 hl; exact rfl)
  have O30 : FnOk l.prog w K mg base CX0 3 _ _ _ (spD K g__law_changed) := ok__law_changed F30 T C__law_nothing C__law_wires
  have C__law_changed : Cal l.prog w K mg base "_law_changed" 3 g__law_changed [] := Cal.mk0 O30 (PySem.W.mg_of X G a30) k30 (F30.binds (ps := ["rows", "cell", "wires", "room"]) fun _ _ _ _ _ _ us hl => by obtain ⟨_, _, _, _, rfl⟩ := len4 hl; exact rfl)
  have O31 : FnOk l.prog w K mg base CX0 1 _ _ _ (spD K g__law_told) := ok__law_told F31 T
  have C__law_told : Cal l.prog w K mg base "_law_told" 1 g__law_told [] := Cal.mk0 O31 (PySem.W.mg_of X G a31) k31 (F31.binds (ps := ["paper", "e"]) fun _ _ _ _ _ _ us hl => by obtain ⟨_, _, rfl⟩ := len2 hl; exact rfl)
  have O32 : FnOk l.prog w K mg base CX0 10 _ _ _ (spD K g_law) := ok_law F32 T C__law_cell_at C__law_row C__law_changed C__law_told C_alike_paper
  exact law_v O32 fun ns hl => law_true ns hl

end GN
open PySem PySem.W PyProof.Rows
set_option maxRecDepth 100000 in
set_option maxHeartbeats 0 in
theorem PySem.Challenge.cw_wavewires_k57_alike_by_moves_holds : PySem.Challenge.rw_wavewires_k57_alike_by_moves.Holds := by
  w_on; o_law; k_head; (case hw => w_witness2)
  k_fill
  refine VL.walkV (k := 10) (l := PySem.Challenge.rw_wavewires_k57_alike_by_moves) rfl ⟨rfl, by decide, by decide⟩ rfl (fun w h Y => PySem.W.kIn_of Y) ?F
  case F =>
    intro w mg fa h KX G hmg
    refine' GN.all_mk KX G hmg ?a0 ?l0 ?c0 ?k0 ?a1 ?l1 ?c1 ?k1 ?a2 ?l2 ?c2 ?k2 ?d2 ?a3 ?l3 ?c3 ?k3 ?a4 ?l4 ?c4 ?k4 ?a5 ?l5 ?c5 ?k5 ?a6 ?l6 ?c6 ?k6 ?a7 ?l7 ?c7 ?k7 ?a8 ?l8 ?c8 ?k8 ?a9 ?l9 ?c9 ?k9 ?a10 ?l10 ?c10 ?k10 ?d10 ?a11 ?l11 ?c11 ?k11 ?a12 ?l12 ?c12 ?k12 ?a13 ?l13 ?c13 ?k13 ?a14 ?l14 ?c14 ?k14 ?a15 ?l15 ?c15 ?k15 ?a16 ?l16 ?c16 ?k16 ?a17 ?l17 ?c17 ?k17 ?a18 ?l18 ?c18 ?k18 ?a19 ?l19 ?c19 ?k19 ?a20 ?l20 ?c20 ?k20 ?a21 ?l21 ?c21 ?k21 ?a22 ?l22 ?c22 ?k22 ?a23 ?l23 ?c23 ?k23 ?a24 ?l24 ?c24 ?k24 ?a25 ?l25 ?c25 ?k25 ?a26 ?l26 ?c26 ?k26 ?a27 ?l27 ?c27 ?k27 ?a28 ?l28 ?c28 ?k28 ?a29 ?l29 ?c29 ?k29 ?a30 ?l30 ?c30 ?k30 ?a31 ?l31 ?c31 ?k31 ?a32 ?l32 ?c32 ?k32 ?z_min ?z_max ?z_tuple ?z_range ?z_len ?z_all ?z_list ?z_isinstance ?z_bool ?a_NOUGHT ?d_NOUGHT ?a_ONE ?d_ONE ?a_PLAIN ?d_PLAIN
    (case a0 => k_is)
    (case l0 => k_is)
    (case c0 => k_is)
    (case k0 => k_is)
    (case a1 => k_is)
    (case l1 => k_is)
    (case c1 => k_is)
    (case k1 => k_is)
    (case a2 => k_is)
    (case l2 => k_is)
    (case c2 => k_is)
    (case k2 => k_is)
    (case d2 => k_is)
    (case a3 => k_is)
    (case l3 => k_is)
    (case c3 => k_is)
    (case k3 => k_is)
    (case a4 => k_is)
    (case l4 => k_is)
    (case c4 => k_is)
    (case k4 => k_is)
    (case a5 => k_is)
    (case l5 => k_is)
    (case c5 => k_is)
    (case k5 => k_is)
    (case a6 => k_is)
    (case l6 => k_is)
    (case c6 => k_is)
    (case k6 => k_is)
    (case a7 => k_is)
    (case l7 => k_is)
    (case c7 => k_is)
    (case k7 => k_is)
    (case a8 => k_is)
    (case l8 => k_is)
    (case c8 => k_is)
    (case k8 => k_is)
    (case a9 => k_is)
    (case l9 => k_is)
    (case c9 => k_is)
    (case k9 => k_is)
    (case a10 => k_is)
    (case l10 => k_is)
    (case c10 => k_is)
    (case k10 => k_is)
    (case d10 => k_is)
    (case a11 => k_is)
    (case l11 => k_is)
    (case c11 => k_is)
    (case k11 => k_is)
    (case a12 => k_is)
    (case l12 => k_is)
    (case c12 => k_is)
    (case k12 => k_is)
    (case a13 => k_is)
    (case l13 => k_is)
    (case c13 => k_is)
    (case k13 => k_is)
    (case a14 => k_is)
    (case l14 => k_is)
    (case c14 => k_is)
    (case k14 => k_is)
    (case a15 => k_is)
    (case l15 => k_is)
    (case c15 => k_is)
    (case k15 => k_is)
    (case a16 => k_is)
    (case l16 => k_is)
    (case c16 => k_is)
    (case k16 => k_is)
    (case a17 => k_is)
    (case l17 => k_is)
    (case c17 => k_is)
    (case k17 => k_is)
    (case a18 => k_is)
    (case l18 => k_is)
    (case c18 => k_is)
    (case k18 => k_is)
    (case a19 => k_is)
    (case l19 => k_is)
    (case c19 => k_is)
    (case k19 => k_is)
    (case a20 => k_is)
    (case l20 => k_is)
    (case c20 => k_is)
    (case k20 => k_is)
    (case a21 => k_is)
    (case l21 => k_is)
    (case c21 => k_is)
    (case k21 => k_is)
    (case a22 => k_is)
    (case l22 => k_is)
    (case c22 => k_is)
    (case k22 => k_is)
    (case a23 => k_is)
    (case l23 => k_is)
    (case c23 => k_is)
    (case k23 => k_is)
    (case a24 => k_is)
    (case l24 => k_is)
    (case c24 => k_is)
    (case k24 => k_is)
    (case a25 => k_is)
    (case l25 => k_is)
    (case c25 => k_is)
    (case k25 => k_is)
    (case a26 => k_is)
    (case l26 => k_is)
    (case c26 => k_is)
    (case k26 => k_is)
    (case a27 => k_is)
    (case l27 => k_is)
    (case c27 => k_is)
    (case k27 => k_is)
    (case a28 => k_is)
    (case l28 => k_is)
    (case c28 => k_is)
    (case k28 => k_is)
    (case a29 => k_is)
    (case l29 => k_is)
    (case c29 => k_is)
    (case k29 => k_is)
    (case a30 => k_is)
    (case l30 => k_is)
    (case c30 => k_is)
    (case k30 => k_is)
    (case a31 => k_is)
    (case l31 => k_is)
    (case c31 => k_is)
    (case k31 => k_is)
    (case a32 => k_is)
    (case l32 => k_is)
    (case c32 => k_is)
    (case k32 => k_is)
    (case z_min => k_is)
    (case z_max => k_is)
    (case z_tuple => k_is)
    (case z_range => k_is)
    (case z_len => k_is)
    (case z_all => k_is)
    (case z_list => k_is)
    (case z_isinstance => k_is)
    (case z_bool => k_is)
    (case a_NOUGHT => k_is)
    (case d_NOUGHT => k_is)
    (case a_ONE => k_is)
    (case d_ONE => k_is)
    (case a_PLAIN => k_is)
    (case d_PLAIN => k_is)
