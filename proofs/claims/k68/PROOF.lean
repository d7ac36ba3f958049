import PyProof.Rows.All
import Wide.All
import OpenK.AllK
import Wide.FinOn
import Lean
import PyProof.EqAt
import PyProof.EqKinds
import PyProof.TupleCall
import PySem.Challenge.RW_wavewires_k68_looks_put_off
set_option Elab.async false
set_option linter.all false
set_option maxRecDepth 100000
/-! THE HAND LAYER, for ints, bools, texts, own classes, LISTS and tuples (index, slices, in, append, pop ..), calls, loops. Paste it whole ahead of your own text; what your proof does not reach may be deleted. -/
namespace L2
open PySem PySem.Spec PyProof.Rows

/-- a key: an int or a str -/
abbrev Key := Sum Int Str
def keyIs : Key → Value → Bool
  | .inl k, v => Value.isInt k v
  | .inr x, v => Value.isStrOf x v
def keyH (w : World) : Key → Int
  | .inl k => hashInt k
  | .inr x => hashStr w x
theorem keyIs_shape : ∀ {k : Key} {v : Value}, keyIs k v = true → (∃ i t, k = Sum.inl i ∧ v = Value.int i t) ∨ (∃ x t, k = Sum.inr x ∧ v = Value.str x t)
  | .inl i, v, h => by
    obtain ⟨t, e⟩ := Value.isInt_shape (k := i) (v := v) h
    exact .inl ⟨i, t, rfl, e⟩
  | .inr x, v, h => by
    obtain ⟨t, e⟩ := Value.isStrOf_shape (x := x) (v := v) h
    exact .inr ⟨x, t, rfl, e⟩
theorem keyIs_int (i : Int) (t : Tok) : keyIs (.inl i) (.int i t) = true := by simp [keyIs, Value.isInt]
theorem keyIs_str (x : Str) (t : Tok) : keyIs (.inr x) (.str x t) = true := by simp [keyIs, Value.isStrOf]
theorem key_ll (a b : Int) : decide ((Sum.inl a : Key) = Sum.inl b) = (a == b) := by
  by_cases e : a = b
  · subst e; simp
  · have h : ¬ (Sum.inl a : Key) = Sum.inl b := fun q => e (Sum.inl.inj q)
    rw [decide_eq_false h]
    exact (beq_eq_false_iff_ne.mpr e).symm
theorem key_rr (a b : Str) : decide ((Sum.inr a : Key) = Sum.inr b) = decide (a = b) := by
  by_cases e : a = b
  · subst e; simp
  · have h : ¬ (Sum.inr a : Key) = Sum.inr b := fun q => e (Sum.inr.inj q)
    rw [decide_eq_false h, decide_eq_false e]
theorem key_lr (a : Int) (b : Str) : decide ((Sum.inl a : Key) = Sum.inr b) = false := decide_eq_false (fun q => nomatch q)
theorem key_rl (a : Str) (b : Int) : decide ((Sum.inr a : Key) = Sum.inl b) = false := decide_eq_false (fun q => nomatch q)

def mixKind (prog : Program) (w : World) : PySem.KeyKind prog w Key where
  is := keyIs
  hash := keyH w
  inj := fun v a b ha hb => by
    rcases keyIs_shape ha with ⟨i, t, rfl, rfl⟩ | ⟨x, t, rfl, rfl⟩
    · rcases keyIs_shape hb with ⟨j, u, rfl, e⟩ | ⟨y, u, rfl, e⟩
      · injection e with e1 _; rw [e1]
      · exact nomatch e
    · rcases keyIs_shape hb with ⟨j, u, rfl, e⟩ | ⟨y, u, rfl, e⟩
      · exact nomatch e
      · injection e with e1 _; rw [e1]
  byValue := fun k v h => by
    rcases keyIs_shape h with ⟨i, t, rfl, rfl⟩ | ⟨x, t, rfl, rfl⟩ <;> rfl
  pyHash := fun hv h => by
    rcases keyIs_shape hv with ⟨i, t, rfl, rfl⟩ | ⟨x, t, rfl, rfl⟩
    · exact wpAny_pyHash_int h
    · exact wpAny_pyHash_str h
  eqBool := fun hu hv h => by
    rcases keyIs_shape hu with ⟨i, t, rfl, rfl⟩ | ⟨x, t, rfl, rfl⟩
    · rcases keyIs_shape hv with ⟨j, u, rfl, rfl⟩ | ⟨y, u, rfl, rfl⟩
      · rw [key_ll] at h; exact wpAny_eqBool_int h
      · rw [key_lr] at h; exact SeqAt.EqAt.int_str i t y u _ _ _ _ h
    · rcases keyIs_shape hv with ⟨j, u, rfl, rfl⟩ | ⟨y, u, rfl, rfl⟩
      · rw [key_rl] at h; exact SeqAt.EqAt.str_int x t j u _ _ _ _ h
      · rw [key_rr] at h; exact wpAny_eqBool_str h
  «strs» := fun k x t v h => by
    rcases keyIs_shape h with ⟨i, u, rfl, e⟩ | ⟨y, u, rfl, e⟩
    · exact nomatch e
    · injection e with e1 _
      subst e1
      cases v <;> rfl

theorem mixKind_is (prog : Program) (w : World) (k : Key) (v : Value) : (mixKind prog w).is k v = keyIs k v := rfl
theorem mixKind_int (prog : Program) (w : World) (i : Int) (t : Tok) : (mixKind prog w).is (.inl i) (.int i t) = true := keyIs_int i t
theorem mixKind_str (prog : Program) (w : World) (x : Str) (t : Tok) : (mixKind prog w).is (.inr x) (.str x t) = true := keyIs_str x t
end L2

namespace L2
open PySem PySem.Spec PyProof.Rows

/-- a value, without the heap -/
inductive V where
  | non | bl (b : Bool) | int (i : Int) | str (x : Str) | byt (b : Array UInt8) | flt (b : UInt64) | ref (a : Addr) | ty (n : String)
  deriving DecidableEq

def RelV : V → Value → Prop
  | .non, u => u = Value.none
  | .bl b, u => u = Value.bool b
  | .int i, u => ∃ t, u = Value.int i t
  | .str x, u => ∃ t, u = Value.str x t
  | .byt b, u => ∃ t, u = Value.bytes b t
  | .flt b, u => ∃ t, u = Value.float b t
  | .ref a, u => u = Value.ref a
  | .ty n, u => u = Value.type n

abbrev Vals : List V → List Value → Prop := Paired RelV
theorem Vals.length {xs : List V} {us : List Value} (r : Vals xs us) : xs.length = us.length := Paired.length r
theorem Vals.get : ∀ {xs : List V} {us : List Value} {i : Nat} {x : V}, Vals xs us → xs[i]? = some x → ∃ u, us[i]? = some u ∧ RelV x u
  | _, _, _, _, .nil, e => by simp at e
  | _, _, 0, _, .cons r _, e => by simp at e; subst e; exact ⟨_, rfl, r⟩
  | _, _, i + 1, x, .cons _ t, e => by
    obtain ⟨u, h1, h2⟩ := Vals.get (i := i) (x := x) t (by simpa using e)
    exact ⟨u, by simpa using h1, h2⟩
theorem Vals.set {x : V} {u : Value} (r : RelV x u) : ∀ {xs : List V} {us : List Value} (i : Nat), Vals xs us → Vals (xs.set i x) (us.set i u)
  | _, _, _, .nil => .nil
  | _, _, 0, .cons _ t => .cons r t
  | _, _, i + 1, .cons q t => .cons q (Vals.set r i t)
theorem Vals.append : ∀ {xs ys : List V} {us ws : List Value}, Vals xs us → Vals ys ws → Vals (xs ++ ys) (us ++ ws)
  | _, _, _, _, .nil, s => s
  | _, _, _, _, .cons r t, s => .cons r (Vals.append t s)
theorem Vals.take : ∀ {xs : List V} {us : List Value} (n : Nat), Vals xs us → Vals (xs.take n) (us.take n)
  | _, _, 0, _ => .nil
  | _, _, _ + 1, .nil => .nil
  | _, _, n + 1, .cons r t => .cons r (Vals.take n t)
theorem Vals.drop : ∀ {xs : List V} {us : List Value} (n : Nat), Vals xs us → Vals (xs.drop n) (us.drop n)
  | _, _, 0, r => r
  | _, _, _ + 1, .nil => .nil
  | _, _, n + 1, .cons _ t => Vals.drop n t
theorem Vals.none_of : ∀ {xs : List V} {us : List Value} {i : Nat}, Vals xs us → xs[i]? = none → us[i]? = none := fun {xs us i} r e => by
  have h1 := r.length
  have h2 : xs.length ≤ i := List.getElem?_eq_none_iff.mp e
  exact List.getElem?_eq_none_iff.mpr (by omega)

def RelO : Option V → Option Value → Prop
  | some v, some u => RelV v u
  | none, none => True
  | _, _ => False
def KV {κ : Type} : List (κ × V) → List (κ × Value) → Prop := Paired fun (p : κ × V) (q : κ × Value) => p.1 = q.1 ∧ RelV p.2 q.2

/-- a key of a dict (00_mix): an int or a text -/
def kV : Key → V
  | .inl i => .int i
  | .inr x => .str x

/-- what stands at a tracked address -/
inductive HO where
  /-- a list -/
  | lst (xs : List V)
  /-- a tuple (never changes) -/
  | tup (xs : List V)
  /-- a dict whose keys are ints and texts; one whose keys are tuples of ints and texts (the empty one is both) -/
  | dK (kvs : List (Key × V)) | dT (kvs : List (List Key × V))
  /-- a set of ints: its members, its size -/
  | set (S : Int → Bool) (n : Nat)
  /-- an instance of the class at C, its dict at dx, its attributes -/
  | ins (C dx : Addr) (fs : List (Str × V))
  /-- the dict of the instance at x -/
  | own (x : Addr)
  /-- the dict of an exception -/
  | xd (fs : List (Str × V))
  /-- a bound method, f of x -/
  | met (f x : Addr)
  /-- a range object lo, lo + 1, .. below hi -/
  | rng (lo hi : Int)
  /-- a thing that is known to the object (the script; a dict while a loop walks it): read, never written while it is so -/
  | frz (o : Obj) (u : HO)
  /-- a code object's table -/
  | tbl (ps : Array Value)
  /-- any other thing, by what is true of its one object (a def of one's own: SetO a S n := HO.ext fun h => ..) -/
  | ext (φ : Heap → Prop)

abbrev Hp := Addr → Option HO
def upd (H : Hp) (a : Addr) (o : HO) : Hp := fun b => if b = a then some o else H b
theorem upd_same {H : Hp} {a : Addr} {o : HO} : upd H a o a = some o := by unfold upd; rw [if_pos rfl]
theorem upd_ne {H : Hp} {a b : Addr} {o : HO} (h : b ≠ a) : upd H a o b = H b := by unfold upd; rw [if_neg h]
theorem upd_upd {H : Hp} {a : Addr} {o u : HO} : upd (upd H a o) a u = upd H a u := by
  funext b; unfold upd; split <;> rfl
/-- two objects of different content stand apart -/
theorem ne_of {H : Hp} {a b : Addr} {o u : HO} (h : H a = some o) (h' : H b = some u) (d : o ≠ u) : a ≠ b := by
  intro e; subst e; rw [h] at h'; exact d (Option.some.inj h')
theorem ne_of_none {H : Hp} {a b : Addr} {o : HO} (h : H a = some o) (h' : H b = none) : a ≠ b := by
  intro e; subst e; rw [h] at h'; cases h'

section
variable (P : Program) (w : World)
def ObjOk (H : Hp) (h : Heap) (a : Addr) : HO → Prop
  | .lst xs => xs.length ≤ sizeLine ∧ ∃ (its : List Value) (n : Nat), Vals xs its ∧ h.get? a = some { cls := .type "list", data := .seq its.toArray n }
  | .tup xs => xs.length ≤ sizeLine ∧ ∃ its : List Value, Vals xs its ∧ IsTup h a its.toArray
  | .dK kvs => kvs.length ≤ sizeLine ∧ (a == sysModules) = false ∧ ∃ vs, KV kvs vs ∧ h.DictOf (mixKind P w) a vs
  | .dT kvs => kvs.length ≤ sizeLine ∧ (a == sysModules) = false ∧ ∃ xs : List (List Key × Addr × Value),
      Paired (fun (p : List Key × V) (q : List Key × Addr × Value) => p.1 = q.1 ∧ H q.2.1 = some (.tup (p.1.map kV)) ∧ RelV p.2 q.2.2) kvs xs ∧
      ∃ o es ep, h.get? a = some o ∧ o.ExactDict ∧ o.data = .dict es ep ∧ es.toList = xs.map (entryOfKey (tupleKind (mixKind P w))) ∧ (xs.map (·.1)).Nodup
  | .set S n => h.SetOf (intKind P w) a S n
  | .ins C dx fs => H dx = some (.own a) ∧ fs.length ≤ 1000 ∧ dx ≠ a ∧ h.get? a = some (PySem.W.instObj C dx) ∧
      ∃ mA, h.Ns1 dx mA ∧ (∀ f, RelO (fs.lookup f) (mA f)) ∧ PySem.Within mA (fs.map (·.1))
  | .own _ => ∃ o, h.get? a = some o
  | .xd fs => ∃ mA, h.Ns1 a mA ∧ ∀ f, RelO (fs.lookup f) (mA f)
  | .rng lo hi => ∃ t u v, h.get? a = some { cls := .type "range", data := .fields #[.int lo t, .int hi u, .int 1 v] }
  | .frz o u => h.get? a = some o ∧ ObjOk H h a u
  | .tbl ps => h.get? a = some { cls := .none, data := .fields ps }
  | .met f x => h.get? a = some (PySem.W.methodObj (.ref f) (.ref x))
  | .ext φ => φ h ∧ (∃ o, h.get? a = some o) ∧ ∀ h1 h2 : Heap, φ h1 → (∀ o, h1.get? a = some o → h2.get? a = some o) → φ h2
/-- the abstract heap is held -/
def HOk (H : Hp) (h : Heap) : Prop := ∀ a o, H a = some o → ObjOk P w H h a o
end

section
variable {P : Program} {w : World} {H H' : Hp} {h h' : Heap} {a : Addr} {o : HO}
theorem ObjOk.lt (x : ObjOk P w H h a o) : a < h.objs.size := by
  cases o with
  | lst xs => obtain ⟨_, _, _, _, e⟩ := x; exact Heap.lt_size e
  | tup xs => obtain ⟨_, _, _, p⟩ := x; exact p.lt
  | dK kvs => obtain ⟨_, _, _, _, o, _, _, e, _⟩ := x; exact Heap.lt_size e
  | dT kvs => obtain ⟨_, _, _, _, o, _, _, e, _⟩ := x; exact Heap.lt_size e
  | set S n => obtain ⟨o, _, _, _, e, _⟩ := x; exact Heap.lt_size e
  | ins C dx fs => obtain ⟨_, _, _, e, _⟩ := x; exact Heap.lt_size e
  | own y => obtain ⟨_, e⟩ := x; exact Heap.lt_size e
  | xd fs => obtain ⟨_, ⟨_, _, _, e, _⟩, _⟩ := x; exact Heap.lt_size e
  | rng lo hi => obtain ⟨_, _, _, e⟩ := x; exact Heap.lt_size e
  | frz ob u => obtain ⟨e, _⟩ := x; exact Heap.lt_size e
  | tbl ps => exact Heap.lt_size (show h.get? a = some _ from x)
  | met f y => exact Heap.lt_size (show h.get? a = some _ from x)
  | ext φ => obtain ⟨_, ⟨_, e⟩, _⟩ := x; exact Heap.lt_size e
theorem Paired.mapP {α β : Type} {F G : α → β → Prop} : ∀ {l₁ : List α} {l₂ : List β}, Paired F l₁ l₂ → (∀ a b, F a b → G a b) → Paired G l₁ l₂
  | _, _, .nil, _ => .nil
  | _, _, .cons r t, f => .cons (f _ _ r) (Paired.mapP t f)
theorem Paired.imp' {α β : Type} {F G : α → β → Prop} (f : ∀ a b, F a b → G a b) {l₁ : List α} {l₂ : List β} (r : Paired F l₁ l₂) : Paired G l₁ l₂ := Paired.mapP r f
/-- what an object's description leans on: its own object, its own dict, the tuples -/
theorem ObjOk.stay (x : ObjOk P w H h a o) (k : ∀ b u, (b = a ∨ H b = some (.own a)) → h.get? b = some u → h'.get? b = some u)
    (ho : ∀ b, H b = some (.own a) → H' b = some (.own a)) (ht : ∀ b xs, H b = some (.tup xs) → H' b = some (.tup xs)) : ObjOk P w H' h' a o := by
  induction o with
  | lst xs => obtain ⟨z, its, n, r, e⟩ := x; exact ⟨z, its, n, r, k _ _ (.inl rfl) e⟩
  | tup xs => obtain ⟨z, its, r, ob, e, c⟩ := x; exact ⟨z, its, r, ob, k _ _ (.inl rfl) e, c⟩
  | dK kvs => obtain ⟨z, y, vs, r, ob, es, ep, e, c⟩ := x; exact ⟨z, y, vs, r, ob, es, ep, k _ _ (.inl rfl) e, c⟩
  | dT kvs =>
    obtain ⟨z, y, xs, r, ob, es, ep, e, c⟩ := x
    exact ⟨z, y, xs, Paired.mapP r fun p q z => ⟨z.1, ht _ _ z.2.1, z.2.2⟩, ob, es, ep, k _ _ (.inl rfl) e, c⟩
  | set S n => obtain ⟨ob, es, ep, t, e, c⟩ := x; exact ⟨ob, es, ep, t, k _ _ (.inl rfl) e, c⟩
  | ins C dx fs =>
    obtain ⟨d, z, ne, e, mA, ⟨od, es, ep, e2, c⟩, r⟩ := x
    exact ⟨ho _ d, z, ne, k _ _ (.inl rfl) e, mA, ⟨od, es, ep, k _ _ (.inr d) e2, c⟩, r⟩
  | own y => obtain ⟨ob, e⟩ := x; exact ⟨ob, k _ _ (.inl rfl) e⟩
  | xd fs => obtain ⟨mA, ⟨od, es, ep, e, c⟩, r⟩ := x; exact ⟨mA, ⟨od, es, ep, k _ _ (.inl rfl) e, c⟩, r⟩
  | rng lo hi => obtain ⟨t, u, v, e⟩ := x; exact ⟨t, u, v, k _ _ (.inl rfl) e⟩
  | frz ob u ih => obtain ⟨e, q⟩ := x; exact ⟨k _ _ (.inl rfl) e, ih q⟩
  | tbl ps =>
    have e : h.get? a = some { cls := .none, data := .fields ps } := x
    show h'.get? a = some { cls := .none, data := .fields ps }
    exact k a _ (.inl rfl) e
  | met f y =>
    have e : h.get? a = some (PySem.W.methodObj (.ref f) (.ref y)) := x
    show h'.get? a = some (PySem.W.methodObj (.ref f) (.ref y))
    exact k a _ (.inl rfl) e
  | ext φ => obtain ⟨p, ⟨o, e⟩, st⟩ := x; exact ⟨st _ _ p fun o q => k _ _ (.inl rfl) q, ⟨o, k _ _ (.inl rfl) e⟩, st⟩
theorem HOk.lt (x : HOk P w H h) (e : H a = some o) : a < h.objs.size := (x a o e).lt
theorem HOk.fresh (x : HOk P w H h) (e : h.objs.size ≤ a) : H a = none := by
  cases q : H a with
  | none => rfl
  | some u => exact absurd (Nat.lt_of_lt_of_le (x.lt q) e) (Nat.lt_irrefl _)
/-- every object of the heap is kept -/
theorem HOk.kept (x : HOk P w H h) (k : ∀ b u, h.get? b = some u → h'.get? b = some u) : HOk P w H h' := fun a o e =>
  (x a o e).stay (fun b u _ q => k b u q) (fun _ q => q) fun _ _ q => q
/-- a new object is laid and tracked -/
theorem HOk.laid (x : HOk P w H h) (k : ∀ b u, h.get? b = some u → h'.get? b = some u) (hp : h.objs.size ≤ a) (new : ObjOk P w (upd H a o) h' a o) : HOk P w (upd H a o) h' := fun b u e => by
  have hn := x.fresh hp
  by_cases hb : b = a
  · subst hb; rw [upd_same] at e; cases e; exact new
  · rw [upd_ne hb] at e
    exact (x b u e).stay (fun c v _ q => k c v q) (fun c q => by rw [upd_ne (ne_of_none q hn)]; exact q) fun c xs q => by rw [upd_ne (ne_of_none q hn)]; exact q
end

/-- what may be read as u: it is u, or a known u -/
def Rd (H : Hp) (a : Addr) (u : HO) : Prop := H a = some u ∨ ∃ o, H a = some (.frz o u)
theorem Rd.of {H : Hp} {a : Addr} {u : HO} (h : H a = some u) : Rd H a u := .inl h
theorem Rd.ok {P : Program} {w : World} {H : Hp} {h : Heap} {a : Addr} {u : HO} (r : Rd H a u) (x : HOk P w H h) : ObjOk P w H h a u := by
  rcases r with r | ⟨o, r⟩
  · exact x a u r
  · obtain ⟨_, q⟩ := x a _ r
    exact q
/-- what may be written -/
def Mut : Option HO → Prop
  | some (.lst _) => True
  | some (.dK _) => True
  | some (.dT _) => True
  | some (.set _ _) => True
  | some (.ins _ _ _) => True
  | some (.ext _) => True
  | _ => False
section
variable {P : Program} {w : World} {H : Hp} {h h' : Heap} {x e : Addr} {o' : HO}
/-- the object at e is changed: x itself, or the dict of the instance x -/
theorem HOk.write (ok : HOk P w H h) (mu : Mut (H x)) (he : e = x ∨ H e = some (.own x)) (k : ∀ b u, b ≠ e → h.get? b = some u → h'.get? b = some u) (heo : ∃ u, h'.get? e = some u)
    (new : ObjOk P w (upd H x o') h' x o') : HOk P w (upd H x o') h' := fun b u q => by
  have nown : ∀ c y, H c = some (.own y) → c ≠ x := fun c y r z => by subst z; rw [r] at mu; exact mu
  have ntup : ∀ c xs, H c = some (.tup xs) → c ≠ x := fun c xs r z => by subst z; rw [r] at mu; exact mu
  by_cases hb : b = x
  · subst hb; rw [upd_same] at q; cases q; exact new
  · rw [upd_ne hb] at q
    by_cases hbe : b = e
    · have q' : H b = some (.own x) := by
        rcases he with z | z
        · exact absurd (hbe.trans z) hb
        · rw [hbe]; exact z
      rw [q] at q'; cases q'
      obtain ⟨v, hv⟩ := heo
      exact ⟨v, by rw [hbe]; exact hv⟩
    · refine (ok b u q).stay (fun c v hc r => k c v ?_ r) (fun c r => by rw [upd_ne (nown c b r)]; exact r) fun c xs r => by rw [upd_ne (ntup c xs r)]; exact r
      rcases hc with rfl | hc
      · exact hbe
      · rintro rfl
        rcases he with z | z
        · exact nown c b hc z
        · rw [hc] at z; cases z; exact hb rfl
end

/-! ### kept unless tracked; of the frames at fs (the callers') the slots may change (an exception that passes writes there); of the records at ex (iterators) nothing is said -/
structure Un (fs ex : List Addr) (H H' : Hp) (h h' : Heap) : Prop where
  keep : ∀ b o, h.get? b = some o → H b = none → b ∉ fs → b ∉ ex → h'.get? b = some o
  slot : ∀ b o, h.get? b = some o → H b = none → b ∈ fs → b ∉ ex → ∃ sl, h'.get? b = some { o with slots := sl }
  free : ∀ b o, h.get? b = some o → H b = none → b ∉ ex → H' b = none
  there : ∀ b o, h.get? b = some o → b ∉ ex → ∃ o', h'.get? b = some o'
  tups : ∀ b xs, H b = some (.tup xs) → H' b = some (.tup xs)
  frzs : ∀ b o u, H b = some (.frz o u) → H' b = some (.frz o u)
  tbls : ∀ b ps, H b = some (.tbl ps) → ∃ more, H' b = some (.tbl (ps ++ more))
section
variable {fs fs' ex ex' : List Addr} {H H1 H2 : Hp} {h h1 h2 h' : Heap} {a x e : Addr} {o : HO}
theorem Un.any (u : Un fs ex H H1 h h1) {b : Addr} {ob : Obj} (q : h.get? b = some ob) (n : H b = none) (hx : b ∉ ex) : ∃ sl, h1.get? b = some { ob with slots := sl } := by
  by_cases hb : b ∈ fs
  · exact u.slot b ob q n hb hx
  · exact ⟨ob.slots, u.keep b ob q n hb hx⟩
theorem Un.trans (a : Un fs ex H H1 h h1) (b : Un fs ex H1 H2 h1 h2) : Un fs ex H H2 h h2 where
  keep := fun c ob q n hc hx => b.keep c ob (a.keep c ob q n hc hx) (a.free c ob q n hx) hc hx
  slot := fun c ob q n hc hx => by
    obtain ⟨sl, e1⟩ := a.slot c ob q n hc hx
    obtain ⟨sl', e2⟩ := b.slot c _ e1 (a.free c ob q n hx) hc hx
    exact ⟨sl', e2⟩
  free := fun c ob q n hx => by
    obtain ⟨o', e1⟩ := a.there c ob q hx
    exact b.free c o' e1 (a.free c ob q n hx) hx
  there := fun c ob q hx => by
    obtain ⟨o', e1⟩ := a.there c ob q hx
    exact b.there c o' e1 hx
  tups := fun c xs q => b.tups c xs (a.tups c xs q)
  frzs := fun c ob xs q => b.frzs c ob xs (a.frzs c ob xs q)
  tbls := fun c ps q => by
    obtain ⟨m1, e1⟩ := a.tbls c ps q
    obtain ⟨m2, e2⟩ := b.tbls c _ e1
    exact ⟨m1 ++ m2, by rw [e2, Array.append_assoc]⟩
theorem Un.kept (k : ∀ b u, h.get? b = some u → h'.get? b = some u) : Un fs ex H H h h' :=
  ⟨fun b ob q _ _ _ => k b ob q, fun b ob q _ _ _ => ⟨ob.slots, k b ob q⟩, fun _ _ _ n _ => n, fun b ob q _ => ⟨ob, k b ob q⟩, fun _ _ q => q, fun _ _ _ q => q, fun _ ps q => ⟨#[], by rw [q]; simp⟩⟩
theorem Un.refl : Un fs ex H H h h := Un.kept fun _ _ q => q
theorem Un.laid (k : ∀ b u, h.get? b = some u → h'.get? b = some u) (hp : h.objs.size ≤ a) (hn : H a = none) : Un fs ex H (upd H a o) h h' where
  keep := fun b u q _ _ _ => k b u q
  slot := fun b u q _ _ _ => ⟨u.slots, k b u q⟩
  free := fun b u q n _ => by rw [upd_ne (Nat.ne_of_lt (Nat.lt_of_lt_of_le (Heap.lt_size q) hp))]; exact n
  there := fun b u q _ => ⟨u, k b u q⟩
  tups := fun b xs q => by rw [upd_ne (ne_of_none q hn)]; exact q
  frzs := fun b u xs q => by rw [upd_ne (ne_of_none q hn)]; exact q
  tbls := fun b ps q => ⟨#[], by rw [upd_ne (ne_of_none q hn), q]; simp⟩
theorem Un.write (mu : Mut (H x)) (he : e = x ∨ H e = some (.own x)) (k : ∀ b u, b ≠ e → h.get? b = some u → h'.get? b = some u) (heo : ∃ u, h'.get? e = some u) : Un fs ex H (upd H x o) h h' := by
  have hx : ∀ b, H b = none → b ≠ x := fun b n z => by subst z; rw [n] at mu; exact mu
  have hb : ∀ b, H b = none → b ≠ e := fun b n z => by
    subst z
    rcases he with r | r
    · exact hx b n r
    · rw [n] at r; cases r
  have hm : ∀ b u, H b = some u → ¬ Mut (some u) → b ≠ x := fun b u q nm z => by subst z; rw [q] at mu; exact nm mu
  refine ⟨fun b u q n _ _ => k b u (hb b n) q, fun b u q n _ _ => ⟨u.slots, k b u (hb b n) q⟩, fun b u q n _ => by rw [upd_ne (hx b n)]; exact n, fun b u q _ => ?_,
    fun b xs q => by rw [upd_ne (hm b _ q fun z => z)]; exact q, fun b u xs q => by rw [upd_ne (hm b _ q fun z => z)]; exact q, fun b ps q => ⟨#[], by rw [upd_ne (hm b _ q fun z => z), q]; simp⟩⟩
  by_cases hbe : b = e
  · subst hbe; exact heo
  · exact ⟨u, k b u hbe q⟩
theorem Un.mono (u : Un fs ex H H1 h h1) (hs : ∀ b ∈ fs, b ∈ fs') (hx : ∀ b ∈ ex, b ∈ ex') : Un fs' ex' H H1 h h1 :=
  ⟨fun b ob q n hb he => u.keep b ob q n (fun z => hb (hs b z)) fun z => he (hx b z), fun _ _ q n _ he => u.any q n fun z => he (hx _ z), fun b ob q n he => u.free b ob q n fun z => he (hx b z), fun b ob q he => u.there b ob q fun z => he (hx b z), u.tups, u.frzs, u.tbls⟩
end

/-! ### the heap without what is tracked -/
def trk (h : Heap) (H : Hp) : List Addr := (List.range h.objs.size).filter fun a => (H a).isSome
def hidT (h : Heap) (H : Hp) : Heap := PySem.W.hideAll h (trk h H)
theorem hidT_size (h : Heap) (H : Hp) : (hidT h H).objs.size = h.objs.size := PySem.W.hideAll_size _ _
theorem hidT_get {h : Heap} {H : Hp} {b : Addr} {o : Obj} (e : h.get? b = some o) (n : H b = none) : (hidT h H).get? b = some o :=
  PySem.W.hideAll_get _ e fun hm => by
    have q : (H b).isSome = true := (List.mem_filter.mp hm).2
    rw [n] at q; simp at q
theorem of_hidT {h : Heap} {H : Hp} {b : Addr} {o : Obj} (e : (hidT h H).get? b = some o) : h.get? b = some o ∧ H b = none := by
  have e' : h.get? b = some o := PySem.W.of_hideAll (trk h H) e
  refine ⟨e', ?_⟩
  cases q : H b with
  | none => rfl
  | some x =>
    have hm : b ∈ trk h H := List.mem_filter.mpr ⟨List.mem_range.mpr (Heap.lt_size e'), by simp [q]⟩
    have z : (hidT h H).get? b = none := PySem.W.hideAll_none (trk h H) hm
    rw [z] at e; cases e

/-! ### OpenK's ledger, filled with every new object but one -/
def allNews (g h : Heap) (L : Addr) : List (Addr × Obj) := (List.range h.objs.size).filterMap fun a => if a = L ∨ (g.get? a).isSome = true then none else (h.get? a).map fun o => (a, o)
theorem mem_allNews {g h : Heap} {L a : Addr} {o : Obj} (h1 : a ≠ L) (h2 : g.get? a = none) (h3 : h.get? a = some o) : (a, o) ∈ allNews g h L :=
  List.mem_filterMap.mpr ⟨a, List.mem_range.mpr (Heap.lt_size h3), by simp [h1, h2, h3]⟩
theorem of_mem_allNews {g h : Heap} {L : Addr} {p : Addr × Obj} (hp : p ∈ allNews g h L) : p.1 ≠ L ∧ g.get? p.1 = none ∧ h.get? p.1 = some p.2 := by
  obtain ⟨b, _, e⟩ := List.mem_filterMap.mp hp
  split at e
  · cases e
  · rename_i hn
    cases q : h.get? b with
    | none => rw [q] at e; simp at e
    | some u =>
      rw [q] at e
      simp only [Option.map_some, Option.some.injEq] at e
      subst e
      refine ⟨fun z => hn (.inl z), ?_, q⟩
      show g.get? b = none
      cases r : g.get? b with
      | none => rfl
      | some v => exact (hn (.inr (by simp [r]))).elim
def rest (g h : Heap) (L d : Addr) : List (Addr × Obj) := (allNews g h L).filter fun p => decide (p.1 ≠ d)
theorem rest_ne {g h : Heap} {L d : Addr} : ∀ p ∈ rest g h L d, p.1 ≠ d := fun p hp => of_decide_eq_true (List.mem_filter.mp hp).2
theorem mem_rest {g h : Heap} {L d a : Addr} {o : Obj} (h1 : a ≠ L) (h2 : g.get? a = none) (h3 : h.get? a = some o) (h4 : a ≠ d) : (a, o) ∈ rest g h L d :=
  List.mem_filter.mpr ⟨mem_allNews h1 h2 h3, decide_eq_true h4⟩
theorem news_all {g h : Heap} {L : Addr} : News g L h (allNews g h L) := fun p hp => let ⟨a, b, c⟩ := of_mem_allNews hp; ⟨c, a, b⟩
theorem news_at {g h : Heap} {L d : Addr} {o : Obj} (h1 : d ≠ L) (h2 : g.get? d = none) (h3 : h.get? d = some o) : News g L h ((d, o) :: rest g h L d) := fun p hp => by
  rcases List.mem_cons.mp hp with rfl | hp
  · exact ⟨h3, h1, h2⟩
  · exact news_all p (List.mem_filter.mp hp).1
/-- behind a rule that changed d alone: all else but the frame is kept -/
theorem kept_of_news {g h h' : Heap} {L d : Addr} {m : Str → Option Value} (k : ∀ b o, g.get? b = some o → h.get? b = some o) (F : Fr g L h' m) (N : News g L h' (rest g h L d)) :
    ∀ b o, b ≠ L → b ≠ d → h.get? b = some o → h'.get? b = some o := fun b o h1 h2 e => by
  cases q : g.get? b with
  | some u =>
    have := k b u q
    rw [e] at this; cases this
    exact F.keep b _ q
  | none => exact (N (b, o) (mem_rest h1 q e h2)).1
end L2

namespace L2
open PySem PySem.Spec PyProof.Rows

/-- the module's facts, over the base: the heap at the law's entry without what is tracked there -/
structure Mod (K : PySem.W.Frag) (mg : Str → Option Value) (base : Heap) : Prop where
  kin : K.In base
  glob : base.Ns mainGlobals mg
  blt : ∃ mb, base.Ns builtinsNs mb ∧ ∀ x : Str, x ≠ "__name__" → mb x = bootBuiltins x
  nolimit : base.NoLimit

/-- the context: a def's body (or a comprehension's block) running. base: fixed through the whole law; s₀, H₀: the entry; outer: the frames whose slots others may change (a def's callers); stack: all frames that run;
   ex: iterators that were made ahead of the entry and are walked here (a comprehension's); fn: the names whose cells were made at the entry (a def: all; a comprehension's block: its own); calm: not within an except suite; pn: pins that every state bears; xe: what is wanted of an exception that leaves the code -/
structure Cx where
  prog : Program
  w : World
  K : PySem.W.Frag
  mg : Str → Option Value
  base : Heap
  A : Around
  N : List Str
  s₀ : Shared
  H₀ : Hp
  env : Env
  outer : List Env
  stack : List Env
  ex : List Addr
  fn : Str → Bool
  calm : Bool
  pn : List (Addr × Obj)
  xe : Value → Shared → Prop
/-- the callers' frames -/
def frs (l : List Env) : List Addr := l.filterMap (·.frame)
abbrev Cx.fs (X : Cx) : List Addr := frs X.outer

def Vis (sc : Scope) (x : Str) : Prop := sc.names.lookup x = some .local ∨ sc.names.lookup x = some .cell ∨ sc.names.lookup x = some .free
def Loc (sc : Scope) (x : Str) : Prop := sc.names.lookup x = some .local ∨ sc.names.lookup x = some .cell
def Look (env : Env) (h : Heap) (m : Str → Option Value) (x : Str) (u : Value) : Prop :=
  (env.kindOf x = some .local ∧ m x = some u) ∨ ((env.kindOf x = some .cell ∨ env.kindOf x = some .free) ∧ ∃ c, env.cells.lookup x = some c ∧ h.IsCell c (some u))

structure Cx.Ok (X : Cx) : Prop where
  mod : Mod X.K X.mg X.base
  kind : X.env.scope.kind = .function
  glob : X.env.globals = mainGlobals
  blt : X.env.builtins = builtinsNs
  above : X.s₀.heap.objs.size ≤ X.env.locals
  inj : ∀ x y c, X.env.cells.lookup x = some c → X.env.cells.lookup y = some c → x = y
  has : ∀ x, (X.env.kindOf x = some .cell ∨ X.env.kindOf x = some .free) → ∃ c, X.env.cells.lookup x = some c
  cab : ∀ x c, X.fn x = true → X.env.cells.lookup x = some c → X.s₀.heap.objs.size ≤ c
  hd : X.calm = true → X.A.handled = none
  frames : X.A.frames = some X.stack
  stk : X.stack = X.outer ∨ (X.stack = X.env :: X.outer ∧ X.env.frame = some X.env.locals)
  exf : ∀ b ∈ X.ex, b ≠ X.env.locals ∧ ∀ x c, X.env.cells.lookup x = some c → c ≠ b
  bs : ∀ b o, X.base.get? b = some o → X.s₀.heap.get? b = some o ∧ X.H₀ b = none
  bsz : X.base.objs.size ≤ X.s₀.heap.objs.size
  noex : ∀ b o, X.base.get? b = some o → b ∉ X.ex
  exfs : ∀ b ∈ X.ex, b ∉ X.fs
  funs : X.s₀.heap.FunFrames X.base X.outer
  frf : ∀ b ∈ X.fs, X.H₀ b = none

structure Inv (X : Cx) (pins : List (Addr × Obj)) (σ : List (Option V)) (H : Hp) (s : Shared) : Prop where
  ok : X.Ok
  os : s.os = X.s₀.os
  bare : AllBare s.gens
  base : Un X.fs X.ex X.H₀ H X.s₀.heap s.heap
  loc : ∃ m, s.heap.Ns X.env.locals m ∧ ∀ (i : Nat) (x : Str) (v : V), X.N[i]? = some x → σ[i]? = some (some v) → Vis X.env.scope x → ∃ u, RelV v u ∧ Look X.env s.heap m x u
  cell : ∀ x c, X.env.cells.lookup x = some c → ∃ v, s.heap.IsCell c v
  free : H X.env.locals = none
  freeC : ∀ x c, X.env.cells.lookup x = some c → H c = none
  pin : ∀ p ∈ X.pn ++ pins, s.heap.get? p.1 = some p.2 ∧ H p.1 = none ∧ p.1 ≠ X.env.locals ∧ p.1 ∉ X.fs ∧ ∀ v, p.2.data ≠ .cell v
  hok : HOk X.prog X.w H s.heap
  len : σ.length = X.N.length

section
variable {X : Cx} {pins : List (Addr × Obj)} {σ : List (Option V)} {H H' : Hp} {s : Shared} {h' : Heap}

theorem Cx.Ok.nofr (ok : X.Ok) {b : Addr} {o : Obj} (e : X.base.get? b = some o) : b ∉ X.fs := fun hb => by
  have := (ok.funs.mem hb).1
  rw [e] at this; cases this
theorem Inv.bs (I : Inv X pins σ H s) : ∀ b o, X.base.get? b = some o → s.heap.get? b = some o ∧ H b = none := fun b o e =>
  ⟨I.base.keep b o (I.ok.bs b o e).1 (I.ok.bs b o e).2 (I.ok.nofr e) (I.ok.noex b o e), I.base.free b o (I.ok.bs b o e).1 (I.ok.bs b o e).2 (I.ok.noex b o e)⟩
theorem Inv.bk (I : Inv X pins σ H s) : ∀ b o, X.base.get? b = some o → s.heap.get? b = some o := fun b o e => (I.bs b o e).1
theorem Inv.mod (I : Inv X pins σ H s) : Mod X.K X.mg X.base := I.ok.mod
theorem Inv.kIn (I : Inv X pins σ H s) : X.K.In s.heap := I.ok.mod.kin.keeps I.bk
theorem Inv.nolimit (I : Inv X pins σ H s) : s.heap.NoLimit := I.ok.mod.nolimit.keeps I.bk
/-- the frame over the base: for OpenK's rules (K.In X.base is I.mod.kin) -/
theorem Inv.fr (I : Inv X pins σ H s) : ∃ m, Fr X.base X.env.locals s.heap m :=
  let ⟨m, hn, _⟩ := I.loc
  ⟨m, hn, I.bk, Nat.le_trans I.ok.bsz I.ok.above⟩
theorem Inv.lt (I : Inv X pins σ H s) : X.env.locals < s.heap.objs.size := let ⟨_, hn, _⟩ := I.loc; hn.lt
theorem Inv.sz (I : Inv X pins σ H s) : X.s₀.heap.objs.size ≤ s.heap.objs.size := Nat.le_trans I.ok.above (Nat.le_of_lt I.lt)
theorem Inv.nofs (I : Inv X pins σ H s) {a : Addr} (h : s.heap.objs.size ≤ a) : a ∉ X.fs := fun hb => by
  obtain ⟨_, o, ho, _⟩ := I.ok.funs.mem hb
  exact absurd (Nat.lt_of_lt_of_le (Heap.lt_size ho) (Nat.le_trans I.sz h)) (Nat.lt_irrefl _)
theorem Inv.cne (I : Inv X pins σ H s) : ∀ x c, X.env.cells.lookup x = some c → c ≠ X.env.locals := fun x c e z => by
  obtain ⟨v, o, ho, hd⟩ := I.cell x c e
  obtain ⟨m, ⟨o', es, ep, ho', hd', _⟩, _⟩ := I.loc
  rw [z, ho'] at ho; cases ho; rw [hd'] at hd; cases hd
theorem Inv.funs (I : Inv X pins σ H s) : s.heap.FunFrames X.base X.outer := by
  have all : ∀ (l : List Env), (∀ b ∈ frs l, b ∈ X.fs) → X.s₀.heap.FunFrames X.base l → s.heap.FunFrames X.base l := by
    intro l
    induction l with
    | nil => intro _ _; trivial
    | cons env r ih =>
      intro hs hl
      obtain ⟨hk, ⟨L, o, hf, hn, ho, hd⟩, hr⟩ := hl
      have hL : L ∈ X.fs := hs L (by unfold frs; rw [List.filterMap_cons, hf]; exact List.mem_cons_self)
      obtain ⟨sl, e⟩ := I.base.slot L o ho (I.ok.frf L hL) hL fun z => I.ok.exfs L z hL
      exact ⟨hk, ⟨L, _, hf, hn, e, hd⟩, ih (fun b hb => hs b (by unfold frs; rw [List.filterMap_cons, hf]; exact List.mem_cons_of_mem _ hb)) hr⟩
  exact all X.outer (fun _ hb => hb) I.ok.funs

/-- the frames that run, for a call -/
theorem Inv.stack (I : Inv X pins σ H s) : s.heap.FunFrames X.base X.stack := by
  rcases I.ok.stk with e | ⟨e, hf⟩
  · rw [e]; exact I.funs
  · rw [e]
    obtain ⟨m, hn, _⟩ := I.loc
    refine .cons (by rw [I.ok.kind]; decide) hf hn ?_ I.funs
    exact Heap.get?_none_of_le (Nat.le_trans I.ok.bsz I.ok.above)
theorem Inv.stkSub (I : Inv X pins σ H s) : ∀ b ∈ frs X.stack, b ∈ X.env.locals :: X.fs := fun b hb => by
  rcases I.ok.stk with e | ⟨e, hf⟩
  · rw [e] at hb; exact List.mem_cons_of_mem _ hb
  · rw [e] at hb
    unfold frs at hb
    rw [List.filterMap_cons, hf] at hb
    exact hb
theorem Inv.stkFree (I : Inv X pins σ H s) : ∀ b ∈ frs X.stack, H b = none := fun b hb => by
  rcases List.mem_cons.mp (I.stkSub b hb) with e | hb
  · rw [e]; exact I.free
  · obtain ⟨_, o, ho, _⟩ := I.ok.funs.mem hb
    exact I.base.free b o ho (I.ok.frf b hb) fun z => I.ok.exfs b z hb

/-- THE STEP: the untracked objects but the frame and the records at ch are kept (the callers' frames up to slots), the frame's map is kept, the new abstract heap is held -/
theorem Inv.step {g' : Array GenState} {t' : Nat} {d' : Drawn} {ch : List Addr} (I : Inv X pins σ H s)
    (hch : ∀ b ∈ ch, (b ∈ X.ex ∨ X.s₀.heap.objs.size ≤ b) ∧ b ≠ X.env.locals ∧ (∀ x c, X.env.cells.lookup x = some c → c ≠ b) ∧ ∀ p ∈ X.pn ++ pins, p.1 ≠ b)
    (keep : ∀ b o, b ≠ X.env.locals → b ∉ X.fs → b ∉ ch → s.heap.get? b = some o → H b = none → h'.get? b = some o)
    (slot : ∀ b o, b ≠ X.env.locals → b ∈ X.fs → b ∉ ch → s.heap.get? b = some o → H b = none → ∃ sl, h'.get? b = some { o with slots := sl }) (free : ∀ b o, b ∉ ch → s.heap.get? b = some o → H b = none → H' b = none)
    (there : ∀ b o, b ∉ ch → s.heap.get? b = some o → ∃ o', h'.get? b = some o')
    (tups : ∀ b xs, H b = some (.tup xs) → H' b = some (.tup xs)) (frzs : ∀ b o u, H b = some (.frz o u) → H' b = some (.frz o u)) (tbls : ∀ b ps, H b = some (.tbl ps) → ∃ more, H' b = some (.tbl (ps ++ more)))
    (ns : ∀ m, s.heap.Ns X.env.locals m → h'.Ns X.env.locals m) (hok : HOk X.prog X.w H' h') (hg : AllBare g') :
    Inv X pins σ H' { s with heap := h', gens := g', drawn := d', toks := t' } := by
  have neL : ∀ b o, X.s₀.heap.get? b = some o → b ≠ X.env.locals := fun b o e => Nat.ne_of_lt (Nat.lt_of_lt_of_le (Heap.lt_size e) I.ok.above)
  have neC : ∀ b o, X.s₀.heap.get? b = some o → b ∉ X.ex → b ∉ ch := fun b o e hx hb => by
    rcases (hch b hb).1 with z | z
    · exact hx z
    · exact absurd (Nat.lt_of_lt_of_le (Heap.lt_size e) z) (Nat.lt_irrefl _)
  have cellK : ∀ x c, X.env.cells.lookup x = some c → ∀ v, s.heap.IsCell c v → h'.IsCell c v := fun x c e v ⟨o, ho, hd⟩ => by
    have nch : c ∉ ch := fun z => (hch c z).2.2.1 x c e rfl
    by_cases hc : c ∈ X.fs
    · obtain ⟨sl, q⟩ := slot c o (I.cne x c e) hc nch ho (I.freeC x c e)
      exact ⟨_, q, hd⟩
    · exact ⟨o, keep c o (I.cne x c e) hc nch ho (I.freeC x c e), hd⟩
  refine ⟨I.ok, I.os, hg, ⟨fun b o e n hb hx => ?_, fun b o e n hb hx => ?_, fun b o e n hx => ?_, fun b o e hx => ?_, fun b xs e => tups b xs (I.base.tups b xs e), fun b o xs e => frzs b o xs (I.base.frzs b o xs e), fun b ps e => ?_⟩, ?_, fun x c e => ?_, ?_, fun x c e => ?_, fun p hp => ?_, hok, I.len⟩
  · exact keep b o (neL b o e) hb (neC b o e hx) (I.base.keep b o e n hb hx) (I.base.free b o e n hx)
  · obtain ⟨sl, e1⟩ := I.base.slot b o e n hb hx
    obtain ⟨sl', e2⟩ := slot b _ (neL b o e) hb (neC b o e hx) e1 (I.base.free b o e n hx)
    exact ⟨sl', e2⟩
  · obtain ⟨o', e1⟩ := I.base.there b o e hx
    exact free b o' (neC b o e hx) e1 (I.base.free b o e n hx)
  · obtain ⟨o', e1⟩ := I.base.there b o e hx
    exact there b o' (neC b o e hx) e1
  · obtain ⟨m1, e1⟩ := I.base.tbls b ps e
    obtain ⟨m2, e2⟩ := tbls b _ e1
    exact ⟨m1 ++ m2, by rw [e2, Array.append_assoc]⟩
  · obtain ⟨m, hn, hl⟩ := I.loc
    refine ⟨m, ns m hn, fun i x v e1 e2 e3 => ?_⟩
    obtain ⟨u, r, l⟩ := hl i x v e1 e2 e3
    refine ⟨u, r, ?_⟩
    rcases l with l | ⟨k, c, e, z⟩
    · exact .inl l
    · exact .inr ⟨k, c, e, cellK x c e _ z⟩
  · obtain ⟨v, z⟩ := I.cell x c e
    exact ⟨v, cellK x c e v z⟩
  · obtain ⟨m, ⟨o, _, _, ho, _⟩, _⟩ := I.loc
    exact free _ o (fun z => (hch _ z).2.1 rfl) ho I.free
  · obtain ⟨v, o, ho, hd⟩ := I.cell x c e
    exact free c o (fun z => (hch c z).2.2.1 x c e rfl) ho (I.freeC x c e)
  · obtain ⟨e, n, ne, nf, d⟩ := I.pin p hp
    have nch : p.1 ∉ ch := fun z => (hch p.1 z).2.2.2 p hp rfl
    exact ⟨keep p.1 p.2 ne nf nch e n, free p.1 p.2 nch e n, ne, nf, d⟩
/-- .. where the frame's own object is kept too -/
theorem Inv.un {t' : Nat} (I : Inv X pins σ H s) (u : Un X.fs [] H H' s.heap h') (hok : HOk X.prog X.w H' h') : Inv X pins σ H' { s with heap := h', toks := t' } := by
  obtain ⟨m, ⟨o, es, ep, ho, r⟩, _⟩ := id I.loc
  obtain ⟨sl, hL⟩ := u.any ho I.free (by simp)
  exact I.step (g' := s.gens) (d' := s.drawn) (ch := []) (fun _ z => nomatch z) (fun b o _ hb _ e n => u.keep b o e n hb (by simp)) (fun b o _ hb _ e n => u.slot b o e n hb (by simp)) (fun b o _ e n => u.free b o e n (by simp)) (fun b o _ e => u.there b o e (by simp)) u.tups u.frzs u.tbls (fun m' hm => by
    obtain ⟨o', es', ep', ho', r'⟩ := hm
    rw [ho] at ho'; cases ho'
    exact ⟨_, es', ep', hL, r'⟩) hok I.bare
/-- behind a call (or a comprehension's block): the slots of this frame may have changed too, the records at ch may have turned -/
theorem Inv.call {g' : Array GenState} {t' : Nat} {d' : Drawn} {ch : List Addr} (I : Inv X pins σ H s) (u : Un (frs X.stack) ch H H' s.heap h') (hok : HOk X.prog X.w H' h') (hg : AllBare g')
    (hch : ∀ b ∈ ch, (b ∈ X.ex ∨ X.s₀.heap.objs.size ≤ b) ∧ b ≠ X.env.locals ∧ (∀ x c, X.env.cells.lookup x = some c → c ≠ b) ∧ ∀ p ∈ X.pn ++ pins, p.1 ≠ b) :
    Inv X pins σ H' { s with heap := h', gens := g', drawn := d', toks := t' } := by
  obtain ⟨m, ⟨o, es, ep, ho, r⟩, _⟩ := id I.loc
  obtain ⟨sl, hL⟩ := u.any ho I.free fun z => (hch _ z).2.1 rfl
  exact I.step (ch := ch) hch (fun b o hL hb hc e n => u.keep b o e n (fun z => (List.mem_cons.mp (I.stkSub b z)).elim hL hb) hc) (fun b o _ _ hc e n => u.any e n hc) (fun b o hc e n => u.free b o e n hc) (fun b o hc e => u.there b o e hc) u.tups u.frzs u.tbls (fun m' hm => by
    obtain ⟨o', es', ep', ho', r'⟩ := hm
    rw [ho] at ho'; cases ho'
    exact ⟨_, es', ep', hL, r'⟩) hok hg
/-- an untracked record of ours (an iterator) has turned -/
theorem Inv.turned {t' : Nat} {it : Addr} (I : Inv X pins σ H s) (k : ∀ b o, b ≠ it → s.heap.get? b = some o → h'.get? b = some o) (hn : H it = none) (hL : it ≠ X.env.locals)
    (h1 : it ∈ X.ex ∨ X.s₀.heap.objs.size ≤ it) (h2 : ∀ x c, X.env.cells.lookup x = some c → c ≠ it) (h3 : ∀ p ∈ X.pn ++ pins, p.1 ≠ it) : Inv X pins σ H { s with heap := h', toks := t' } := by
  have nit : ∀ b u, H b = some u → b ≠ it := fun b u e z => by rw [z, hn] at e; cases e
  refine I.step (g' := s.gens) (d' := s.drawn) (ch := [it]) (fun b hb => ?_) (fun b o _ _ hc e _ => k b o (fun z => hc (by simp [z])) e) (fun b o _ _ hc e _ => ⟨o.slots, k b o (fun z => hc (by simp [z])) e⟩) (fun _ _ _ _ n => n)
    (fun b o hc e => ⟨o, k b o (fun z => hc (by simp [z])) e⟩) (fun _ _ e => e) (fun _ _ _ e => e) (fun b ps e => ⟨#[], by rw [e]; simp⟩) (fun m hm => ?_) (fun b u e => ?_) I.bare
  · have e : b = it := by simpa using hb
    subst e
    exact ⟨h1, hL, h2, h3⟩
  · obtain ⟨o, es, ep, ho, r⟩ := hm
    exact ⟨o, es, ep, k _ o (Ne.symm hL) ho, r⟩
  · refine (I.hok b u e).stay (fun c v hc q => k c v ?_ q) (fun _ q => q) fun _ _ q => q
    rcases hc with z | z
    · rw [z]; exact nit b u e
    · exact nit c _ z
theorem Inv.tok (I : Inv X pins σ H s) (t : Nat) : Inv X pins σ H { s with toks := t } := I.un (h' := s.heap) (t' := t) Un.refl I.hok
/-- all objects kept -/
theorem Inv.kept {t' : Nat} (I : Inv X pins σ H s) (k : ∀ b u, s.heap.get? b = some u → h'.get? b = some u) : Inv X pins σ H { s with heap := h', toks := t' } := I.un (Un.kept k) (I.hok.kept k)
/-- a new object laid and tracked -/
theorem Inv.laid {a : Addr} {o : HO} {t' : Nat} (I : Inv X pins σ H s) (k : ∀ b u, s.heap.get? b = some u → h'.get? b = some u) (hp : s.heap.objs.size ≤ a) (new : ObjOk X.prog X.w (upd H a o) h' a o) :
    Inv X pins σ (upd H a o) { s with heap := h', toks := t' } := I.un (Un.laid k hp (I.hok.fresh hp)) (I.hok.laid k hp new)
/-- an object written -/
theorem Inv.write {x e : Addr} {o : HO} {t' : Nat} (I : Inv X pins σ H s) (mu : Mut (H x)) (he : e = x ∨ H e = some (.own x)) (k : ∀ b u, b ≠ e → s.heap.get? b = some u → h'.get? b = some u) (heo : ∃ u, h'.get? e = some u)
    (new : ObjOk X.prog X.w (upd H x o) h' x o) : Inv X pins σ (upd H x o) { s with heap := h', toks := t' } := I.un (Un.write mu he k heo) (I.hok.write mu he k heo new)
/-- forgetting slots, pins -/
theorem Inv.weak {σ' : List (Option V)} (I : Inv X pins σ H s) (hl : σ'.length = σ.length) (w : ∀ (i : Nat) v, σ'[i]? = some (some v) → σ[i]? = some (some v)) : Inv X pins σ' H s :=
  ⟨I.ok, I.os, I.bare, I.base, let ⟨m, hn, hl'⟩ := I.loc; ⟨m, hn, fun i x v e1 e2 e3 => hl' i x v e1 (w i v e2) e3⟩, I.cell, I.free, I.freeC, I.pin, I.hok, hl.trans I.len⟩
theorem Inv.pins_of {pins' : List (Addr × Obj)} (I : Inv X pins σ H s) (h : ∀ p ∈ pins', s.heap.get? p.1 = some p.2 ∧ H p.1 = none ∧ p.1 ≠ X.env.locals ∧ p.1 ∉ X.fs ∧ ∀ v, p.2.data ≠ .cell v) : Inv X pins' σ H s :=
  ⟨I.ok, I.os, I.bare, I.base, I.loc, I.cell, I.free, I.freeC, fun p hp => (List.mem_append.mp hp).elim (fun z => I.pin p (List.mem_append_left _ z)) (h p), I.hok, I.len⟩

theorem nodup_ix {N : List Str} (hN : N.Nodup) {i j : Nat} {x : Str} (a : N[i]? = some x) (b : N[j]? = some x) : i = j := by
  obtain ⟨h1, e1⟩ := List.getElem?_eq_some_iff.mp a
  obtain ⟨h2, e2⟩ := List.getElem?_eq_some_iff.mp b
  exact (List.getElem_inj hN).mp (e1.trans e2.symm)

/-- a name is stored; what changed -/
theorem store_ok2 {M : Model} {A : Around} {E : Value → Shared → Prop} {i : Nat} {x : Str} {v : V} {u : Value} {Q : Unit → Shared → Prop} (I : Inv X pins σ H s) (hN : X.N.Nodup) (hi : X.N[i]? = some x) (hx : Loc X.env.scope x) (r : RelV v u)
    (h : ∀ s', Inv X pins (σ.set i (some v)) H s' → (∃ a, Heap.SameBut a s.heap s'.heap ∧ (a = X.env.locals ∨ X.env.cells.lookup x = some a)) → Q () s') (hf : X.fn x = true ∨ X.env.scope.names.lookup x = some .local := by first | exact .inl rfl | exact .inr rfl | assumption) : wpAny M A (storeName X.env x u) Q E s := by
  obtain ⟨m, hn, hl⟩ := id I.loc
  have hcls : (X.env.scope.kind == .class || (X.env.scope.kind == .module && X.env.locals != X.env.globals)) = false := by rw [I.ok.kind]; rfl
  have hiσ : i < σ.length := by rw [I.len]; exact (List.getElem?_eq_some_iff.mp hi).1
  have cne := I.cne
  have tracked : ∀ {a : Addr} {h' : Heap}, (∃ o, s.heap.get? a = some o ∧ H a = none) → Heap.SameBut a s.heap h' → HOk X.prog X.w H h' := fun {a h'} ha hs b ob e => by
    obtain ⟨_, _, hfree⟩ := ha
    refine (I.hok b ob e).stay (fun c w' hc q => (hs.2 c ?_).trans q) (fun _ q => q) fun _ _ q => q
    rintro rfl
    rcases hc with rfl | hc
    · rw [hfree] at e; cases e
    · rw [hfree] at hc; cases hc
  rcases hx with hk | hk
  · refine wpAny_storeName_local hk hn (fun h' hn' hs => ?_) hcls
    obtain ⟨oL, _, _, hoL, _⟩ := id hn
    refine h _ ⟨I.ok, I.os, I.bare, ⟨fun b o e n hb hx => ?_, fun b o e n hb hx => ?_, I.base.free, fun b o e hx => ?_, I.base.tups, I.base.frzs, I.base.tbls⟩, ⟨_, hn', fun j y v' e1 e2 e3 => ?_⟩, fun y c e => ?_, I.free, I.freeC, fun p hp => ?_, tracked ⟨oL, hoL, I.free⟩ hs, by simpa using I.len⟩ ⟨_, hs, .inl rfl⟩
    · exact (hs.2 b (Nat.ne_of_lt (Nat.lt_of_lt_of_le (Heap.lt_size e) I.ok.above))).trans (I.base.keep b o e n hb hx)
    · obtain ⟨sl, e1⟩ := I.base.slot b o e n hb hx
      exact ⟨sl, (hs.2 b (Nat.ne_of_lt (Nat.lt_of_lt_of_le (Heap.lt_size e) I.ok.above))).trans e1⟩
    · obtain ⟨o', e1⟩ := I.base.there b o e hx
      exact ⟨o', (hs.2 b (Nat.ne_of_lt (Nat.lt_of_lt_of_le (Heap.lt_size e) I.ok.above))).trans e1⟩
    · by_cases hj : j = i
      · subst hj
        rw [hi] at e1; cases e1
        rw [List.getElem?_set_self hiσ] at e2
        cases e2
        exact ⟨u, r, .inl ⟨hk, by simp⟩⟩
      · rw [List.getElem?_set_ne (Ne.symm hj)] at e2
        obtain ⟨u', r', q⟩ := hl j y v' e1 e2 e3
        refine ⟨u', r', ?_⟩
        rcases q with ⟨k, e⟩ | ⟨k, c, e, z⟩
        · refine .inl ⟨k, ?_⟩
          have : y ≠ x := fun e => hj (nodup_ix hN e1 (e ▸ hi))
          simp [this, e]
        · exact .inr ⟨k, c, e, z.sameBut hs (cne y c e)⟩
    · obtain ⟨w', z⟩ := I.cell y c e
      exact ⟨w', z.sameBut hs (cne y c e)⟩
    · obtain ⟨e, n, ne, nf, d⟩ := I.pin p hp
      exact ⟨(hs.2 p.1 ne).trans e, n, ne, nf, d⟩
  · have hfn : X.fn x = true := by
      rcases hf with z | z
      · exact z
      · rw [z] at hk; cases hk
    obtain ⟨c, hc⟩ := I.ok.has x (.inl hk)
    obtain ⟨w', z⟩ := I.cell x c hc
    refine wpAny_storeName_cell I.ok.kind hk hc z (fun h' hc' hs => ?_)
    obtain ⟨oc, hoc, hocd⟩ := id z
    refine h { s with heap := h' } ⟨I.ok, I.os, I.bare, ⟨fun b o e n hb hx => ?_, fun b o e n hb hx => ?_, I.base.free, fun b o e hx => ?_, I.base.tups, I.base.frzs, I.base.tbls⟩, ⟨m, hn.sameBut hs (Ne.symm (cne x c hc)), fun j y v' e1 e2 e3 => ?_⟩, fun y c' e => ?_, I.free, I.freeC, fun p hp => ?_, tracked ⟨oc, hoc, I.freeC x c hc⟩ hs, by simpa using I.len⟩ ⟨c, hs, .inr hc⟩
    · exact (hs.2 b (Nat.ne_of_lt (Nat.lt_of_lt_of_le (Heap.lt_size e) (I.ok.cab x c hfn hc)))).trans (I.base.keep b o e n hb hx)
    · obtain ⟨sl, e1⟩ := I.base.slot b o e n hb hx
      exact ⟨sl, (hs.2 b (Nat.ne_of_lt (Nat.lt_of_lt_of_le (Heap.lt_size e) (I.ok.cab x c hfn hc)))).trans e1⟩
    · obtain ⟨o', e1⟩ := I.base.there b o e hx
      exact ⟨o', (hs.2 b (Nat.ne_of_lt (Nat.lt_of_lt_of_le (Heap.lt_size e) (I.ok.cab x c hfn hc)))).trans e1⟩
    · by_cases hj : j = i
      · subst hj
        rw [hi] at e1; cases e1
        rw [List.getElem?_set_self hiσ] at e2
        cases e2
        exact ⟨u, r, .inr ⟨.inl hk, c, hc, hc'⟩⟩
      · rw [List.getElem?_set_ne (Ne.symm hj)] at e2
        obtain ⟨u', r', q⟩ := hl j y v' e1 e2 e3
        refine ⟨u', r', ?_⟩
        rcases q with q | ⟨k, c', e, z'⟩
        · exact .inl q
        · refine .inr ⟨k, c', e, z'.sameBut hs ?_⟩
          rintro rfl
          exact hj (nodup_ix hN e1 (I.ok.inj _ _ _ e hc ▸ hi))
    · by_cases hcc : c' = c
      · subst hcc; exact ⟨_, hc'⟩
      · obtain ⟨w2, z2⟩ := I.cell y c' e
        exact ⟨w2, z2.sameBut hs hcc⟩
    · obtain ⟨e, n, ne, nf, d⟩ := I.pin p hp
      refine ⟨(hs.2 p.1 ?_).trans e, n, ne, nf, d⟩
      intro q
      rw [q, hoc] at e
      have q' : oc = p.2 := Option.some.inj e
      exact d w' (by rw [← q']; exact hocd)
theorem store_ok {M : Model} {A : Around} {E : Value → Shared → Prop} {i : Nat} {x : Str} {v : V} {u : Value} {Q : Unit → Shared → Prop} (I : Inv X pins σ H s) (hN : X.N.Nodup) (hi : X.N[i]? = some x) (hx : Loc X.env.scope x) (r : RelV v u)
    (h : ∀ s', Inv X pins (σ.set i (some v)) H s' → Q () s') (hf : X.fn x = true ∨ X.env.scope.names.lookup x = some .local := by first | exact .inl rfl | exact .inr rfl | assumption) : wpAny M A (storeName X.env x u) Q E s :=
  store_ok2 I hN hi hx r (fun s' I' _ => h s' I') hf
/-- behind a call or a block, the state as it is -/
theorem Inv.call' {s' : Shared} {ch : List Addr} (I : Inv X pins σ H s) (ho : s'.os = s.os) (u : Un (frs X.stack) ch H H' s.heap s'.heap) (hok : HOk X.prog X.w H' s'.heap) (hg : AllBare s'.gens)
    (hch : ∀ b ∈ ch, (b ∈ X.ex ∨ X.s₀.heap.objs.size ≤ b) ∧ b ≠ X.env.locals ∧ (∀ x c, X.env.cells.lookup x = some c → c ≠ b) ∧ ∀ p ∈ X.pn ++ pins, p.1 ≠ b) : Inv X pins σ H' s' := by
  obtain ⟨h', g', d', t', o'⟩ := s'
  have e : o' = s.os := ho
  subst e
  exact I.call (g' := g') (t' := t') (d' := d') u hok hg hch
end

/-! ### the judgements -/
/-- an exception: its class, its own dict's address (where it has one), the abstract heap behind it -/
abbrev XK := Value → Option Addr → Hp → Prop
abbrev St := List (Option V)
abbrev VK := V → Hp → Prop
/-- an expression's reading; a test's; an argument list's -/
abbrev TE := St → Hp → VK → Prop
abbrev TT := St → Hp → (Bool → Hp → Prop) → Prop
abbrev TA := St → Hp → (List V → Hp → Prop) → Prop
/-- what is wanted behind a statement -/
structure Ends where
  nx : St → Hp → Prop
  rt : VK
  bk : St → Hp → Prop := fun _ _ => False
  ct : St → Hp → Prop := fun _ _ => False
abbrev TS := Ends → St → Hp → Prop

def EP (X : Cx) (pins : List (Addr × Obj)) (σ : St) (Q : VK) (u : Value) (s' : Shared) : Prop := ∃ v H', Inv X pins σ H' s' ∧ RelV v u ∧ Q v H'
def TP (X : Cx) (pins : List (Addr × Obj)) (σ : St) (Q : Bool → Hp → Prop) (b : Bool) (s' : Shared) : Prop := ∃ H', Inv X pins σ H' s' ∧ Q b H'
def AP (X : Cx) (pins : List (Addr × Obj)) (σ : St) (Q : List V → Hp → Prop) (us : List Value) (s' : Shared) : Prop := ∃ vs H', Inv X pins σ H' s' ∧ Vals vs us ∧ Q vs H'
def SP (X : Cx) (pins : List (Addr × Obj)) (D : Ends) (f : Flow) (s' : Shared) : Prop :=
  match f with
  | .next => ∃ σ' H', Inv X pins σ' H' s' ∧ D.nx σ' H'
  | .brk => ∃ σ' H', Inv X pins σ' H' s' ∧ D.bk σ' H'
  | .cont => ∃ σ' H', Inv X pins σ' H' s' ∧ D.ct σ' H'
  | .ret u => ∃ v σ' H', Inv X pins σ' H' s' ∧ RelV v u ∧ D.rt v H'

def PE (X : Cx) (e : Expr) (t : TE) : Prop :=
  ∀ (pins : List (Addr × Obj)) (s : Shared) (σ : St) (H : Hp) (Q : VK), Inv X pins σ H s → t σ H Q → wpAny (model X.prog X.w) X.A (eval e X.env) (EP X pins σ Q) X.xe s
def PT (X : Cx) (e : Expr) (t : TT) : Prop :=
  ∀ (pins : List (Addr × Obj)) (s : Shared) (σ : St) (H : Hp) (Q : Bool → Hp → Prop), Inv X pins σ H s → t σ H Q → wpAny (model X.prog X.w) X.A (isTrue e X.env (eval e X.env)) (TP X pins σ Q) X.xe s
/-- a test whatever its 'whole' is (and, or) -/
def PW (X : Cx) (e : Expr) (t : TT) : Prop :=
  ∀ (whole : Sem Value) (pins : List (Addr × Obj)) (s : Shared) (σ : St) (H : Hp) (Q : Bool → Hp → Prop), Inv X pins σ H s → t σ H Q → wpAny (model X.prog X.w) X.A (isTrue e X.env whole) (TP X pins σ Q) X.xe s
theorem PW.pt {X : Cx} {e : Expr} {t : TT} (h : PW X e t) : PT X e t := h _
/-- an argument list (no star), from the left -/
def PA (X : Cx) (es : List Expr) (t : TA) : Prop :=
  ∀ (pos : Pos) (pins : List (Addr × Obj)) (s : Shared) (σ : St) (H : Hp) (Q : List V → Hp → Prop), Inv X pins σ H s → t σ H Q → wpAny (model X.prog X.w) X.A (spliced (backTo pos (starEach es X.env))) (AP X pins σ Q) X.xe s
def PS (X : Cx) (st : Stmt) (t : TS) : Prop :=
  ∀ (pins : List (Addr × Obj)) (s : Shared) (σ : St) (H : Hp) (D : Ends), Inv X pins σ H s → t D σ H → wpAny (model X.prog X.w) X.A (exec st X.env) (SP X pins D) X.xe s
def PSs (X : Cx) (st : List Stmt) (t : TS) : Prop :=
  ∀ (pins : List (Addr × Obj)) (s : Shared) (σ : St) (H : Hp) (D : Ends), Inv X pins σ H s → t D σ H → wpAny (model X.prog X.w) X.A (execs st X.env) (SP X pins D) X.xe s
/-- weaken the end -/
theorem thn {α : Type} {t : Sem α} {Q Q' : α → Shared → Prop} {M : Model} {A : Around} {E : Value → Shared → Prop} {s : Shared} (h : wpAny M A t Q E s) (hQ : ∀ a s, Q a s → Q' a s) : wpAny M A t Q' E s := wpAny_mono h hQ fun _ _ x => x
end L2

namespace L2
open PySem PySem.Spec PyProof.Rows
section
variable {X : Cx}

/-- two expressions in a row -/
theorem bin {a b : Expr} {ta tb : TE} (ha : PE X a ta) (hb : PE X b tb) {pins : List (Addr × Obj)} {s : Shared} {σ : St} {H : Hp} {R : V → V → Hp → Prop} (I : Inv X pins σ H s) (h : ta σ H fun x H1 => tb σ H1 fun y H2 => R x y H2)
    {α : Type} {Q : α → Shared → Prop} {f : Value → Value → Sem α}
    (hf : ∀ v u s2 x y H2, Inv X pins σ H2 s2 → RelV x v → RelV y u → R x y H2 → wpAny (model X.prog X.w) X.A (f v u) Q X.xe s2) :
    wpAny (model X.prog X.w) X.A (eval a X.env) (fun v s₁ => wpAny (model X.prog X.w) X.A (eval b X.env) (fun u s₂ => wpAny (model X.prog X.w) X.A (f v u) Q X.xe s₂) X.xe s₁) X.xe s := by
  refine thn (ha pins s σ H _ I h) fun v s1 ⟨x, H1, I1, r1, q1⟩ => ?_
  refine thn (hb pins s1 σ H1 _ I1 q1) fun u s2 ⟨y, H2, I2, r2, q2⟩ => ?_
  exact hf v u s2 x y H2 I2 r1 r2 q2

/-! ### names and constants -/
def tVar (i : Nat) : TE := fun σ H Q => ∃ v, σ[i]? = some (some v) ∧ Q v H
def tC (v : V) : TE := fun _ H Q => Q v H
theorem pe_var {i : Nat} {x : Str} {pos : Pos} (hN : X.N[i]? = some x) (hv : Vis X.env.scope x) (hd : (x == ("__debug__" : Str)) = false := by decide) (hcd : (x == ("__classdict__" : Str)) = false := by decide) : PE X (.Name x pos) (tVar i) := by
  intro pins s σ H Q I h
  obtain ⟨v, e, h⟩ := h
  obtain ⟨m, hn, hl⟩ := I.loc
  obtain ⟨u, r, l⟩ := hl i x v hN e hv
  have fin : EP X pins σ Q u s := ⟨v, H, I, r, h⟩
  rcases l with ⟨hk, hm⟩ | ⟨hk, c, hc, hcell⟩
  · exact wpAny_Name (wpAny_loadName_local I.ok.kind hk hn hm fin) hd
  · rcases hk with hk | hk
    · exact wpAny_Name (wpAny_loadName_cell I.ok.kind hk hc hcell fin) hd
    · exact wpAny_Name (wpAny_loadName_free I.ok.kind hk hc hcell fin hcd) hd
theorem pe_int {i j pos} : PE X (.Constant (.int i) j pos) (tC (.int i)) := fun _ _ _ H _ I h => wpAny_Constant_int ⟨.int i, H, I.tok _, ⟨_, rfl⟩, h⟩
theorem pe_bl {b j pos} : PE X (.Constant (.bool b) j pos) (tC (.bl b)) := fun _ _ _ H _ I h => Constant_bool ⟨.bl b, H, I, rfl, h⟩
theorem pe_non {j pos} : PE X (.Constant .none j pos) (tC .non) := fun _ _ _ H _ I h => Constant_none ⟨.non, H, I, rfl, h⟩
theorem pe_str {x j pos} : PE X (.Constant (.str x) j pos) (tC (.str x)) := fun _ _ _ H _ I h => Calls.Constant_str ⟨.str x, H, I.tok _, ⟨_, rfl⟩, h⟩

/-- a global name of the def -/
def Gl (X : Cx) (x : Str) : Prop := X.env.kindOf x = some .globalImplicit
theorem ld_glob {E : Value → Shared → Prop} {pins : List (Addr × Obj)} {s : Shared} {σ : St} {H : Hp} {x : Str} {u : Value} {pos : Pos} {Q : Value → Shared → Prop} (I : Inv X pins σ H s) (hg : Gl X x) (hm : X.mg x = some u) (h : Q u s)
    (hd : (x == ("__debug__" : Str)) = false := by decide) : wpAny (model X.prog X.w) X.A (eval (.Name x pos) X.env) Q E s :=
  Calls.Name_function_global I.ok.kind hg (Calls.loadGlobal_global (by rw [I.ok.glob]; exact I.mod.glob.keeps I.bk) hm h) hd
theorem ld_blt {E : Value → Shared → Prop} {pins : List (Addr × Obj)} {s : Shared} {σ : St} {H : Hp} {x : Str} {u : Value} {pos : Pos} {Q : Value → Shared → Prop} (I : Inv X pins σ H s) (hg : Gl X x) (hm : X.mg x = none) (hv : bootBuiltins x = some u) (h : Q u s)
    (hn : x ≠ "__name__" := by decide) (hd : (x == ("__debug__" : Str)) = false := by decide) : wpAny (model X.prog X.w) X.A (eval (.Name x pos) X.env) Q E s := by
  obtain ⟨mb, h1, h2⟩ := I.mod.blt
  exact Calls.Name_function_global I.ok.kind hg (Calls.loadGlobal_builtin (by rw [I.ok.glob]; exact I.mod.glob.keeps I.bk) hm (by rw [I.ok.blt]; exact h1.keeps I.bk) ((h2 x hn).trans hv) h) hd
/-- a module's constant, a class, a function, as a value -/
theorem pe_glob {x : Str} {v : V} {u : Value} {pos : Pos} (hg : Gl X x) (hm : X.mg x = some u) (r : RelV v u) (hd : (x == ("__debug__" : Str)) = false := by decide) : PE X (.Name x pos) (tC v) :=
  fun _ _ _ H _ I h => ld_glob I hg hm ⟨v, H, I, r, h⟩ hd
theorem pe_bltn {x : Str} {v : V} {u : Value} {pos : Pos} (hg : Gl X x) (hm : X.mg x = none) (hv : bootBuiltins x = some u) (r : RelV v u) (hn : x ≠ "__name__" := by decide) (hd : (x == ("__debug__" : Str)) = false := by decide) : PE X (.Name x pos) (tC v) :=
  fun _ _ _ H _ I h => ld_blt I hg hm hv ⟨v, H, I, r, h⟩ hn hd

/-! ### arithmetic -/
/-- two ints -/
def t2I (ta tb : TE) (k : Int → Int → Hp → Prop) : St → Hp → Prop := fun σ H => ta σ H fun x H1 => tb σ H1 fun y H2 => ∃ i j, x = .int i ∧ y = .int j ∧ k i j H2
def tAdd (ta tb : TE) : TE := fun σ H Q => t2I ta tb (fun i j H2 => Q (.int (i + j)) H2) σ H
def tSub (ta tb : TE) : TE := fun σ H Q => t2I ta tb (fun i j H2 => Q (.int (i - j)) H2) σ H
/-- the left factor below 2^64 -/
def tMul (ta tb : TE) : TE := fun σ H Q => t2I ta tb (fun i j H2 => (-(2 ^ 64) < i ∧ i < 2 ^ 64) ∧ Q (.int (i * j)) H2) σ H
variable {a b : Expr} {ta tb : TE} {pos : Pos}
theorem pe_add (ha : PE X a ta) (hb : PE X b tb) : PE X (.BinOp a .Add b pos) (tAdd ta tb) := by
  intro pins s σ H Q I h
  refine wpAny_BinOp (bin ha hb I h fun v u s2 x y H2 I2 rx ry q => ?_)
  obtain ⟨i, j, rfl, rfl, q⟩ := q
  obtain ⟨t, rfl⟩ := rx
  obtain ⟨t', rfl⟩ := ry
  exact add_int ⟨.int _, H2, I2.tok _, ⟨_, rfl⟩, q⟩
theorem pe_sub (ha : PE X a ta) (hb : PE X b tb) : PE X (.BinOp a .Sub b pos) (tSub ta tb) := by
  intro pins s σ H Q I h
  refine wpAny_BinOp (bin ha hb I h fun v u s2 x y H2 I2 rx ry q => ?_)
  obtain ⟨i, j, rfl, rfl, q⟩ := q
  obtain ⟨t, rfl⟩ := rx
  obtain ⟨t', rfl⟩ := ry
  exact sub_int ⟨.int _, H2, I2.tok _, ⟨_, rfl⟩, q⟩
theorem pe_mul (ha : PE X a ta) (hb : PE X b tb) : PE X (.BinOp a .Mult b pos) (tMul ta tb) := by
  intro pins s σ H Q I h
  refine wpAny_BinOp (bin ha hb I h fun v u s2 x y H2 I2 rx ry q => ?_)
  obtain ⟨i, j, rfl, rfl, ⟨q1, q2⟩, q⟩ := q
  obtain ⟨t, rfl⟩ := rx
  obtain ⟨t', rfl⟩ := ry
  exact mul_int ⟨.int _, H2, I2.tok _, ⟨_, rfl⟩, q⟩ (.of_left (intBits_le_64 q1 q2))

/-! ### comparisons -/
def PC (X : Cx) (op : CmpOp) (a b : Expr) (t : TE) : Prop :=
  ∀ (pins : List (Addr × Obj)) (s : Shared) (σ : St) (H : Hp) (Q : VK), Inv X pins σ H s → t σ H Q →
    wpAny (model X.prog X.w) X.A (eval a X.env) (fun v s₁ => wpAny (model X.prog X.w) X.A (eval b X.env) (fun u s₂ => wpAny (model X.prog X.w) X.A (compareOp op v u) (EP X pins σ Q) X.xe s₂) X.xe s₁) X.xe s
theorem nobehind (b : Expr) {op : CmpOp} (h : op ≠ .In) (h2 : op ≠ .NotIn) : behindInMarks op b = false := by
  have e1 : (op == CmpOp.In) = false := by cases op <;> first | rfl | exact absurd rfl h
  have e2 : (op == CmpOp.NotIn) = false := by cases op <;> first | rfl | exact absurd rfl h2
  cases b <;> simp [behindInMarks, e1, e2]
def tCmp (p : Int → Int → Bool) (ta tb : TE) : TE := fun σ H Q => t2I ta tb (fun i j H2 => Q (.bl (p i j)) H2) σ H
abbrev tLt : TE → TE → TE := tCmp fun i j => decide (i < j)
abbrev tLe : TE → TE → TE := tCmp fun i j => decide (i ≤ j)
abbrev tGt : TE → TE → TE := tCmp fun i j => decide (j < i)
abbrev tGe : TE → TE → TE := tCmp fun i j => decide (j ≤ i)
abbrev tEqI : TE → TE → TE := tCmp fun i j => decide (i = j)
abbrev tNeI : TE → TE → TE := tCmp fun i j => !decide (i = j)
/-- a comparison of two ints, by its rule -/
theorem pc_int {op : CmpOp} {p : Int → Int → Bool} (ha : PE X a ta) (hb : PE X b tb)
    (rule : ∀ (i j : Int) (t u : Tok) (Q : Value → Shared → Prop) (s : Shared), Q (.bool (p i j)) s → wpAny (model X.prog X.w) X.A (compareOp op (.int i t) (.int j u)) Q X.xe s) : PC X op a b (tCmp p ta tb) := by
  intro pins s σ H Q I h
  refine bin ha hb I h fun v u s2 x y H2 I2 rx ry q => ?_
  obtain ⟨i, j, rfl, rfl, q⟩ := q
  obtain ⟨t, rfl⟩ := rx
  obtain ⟨t', rfl⟩ := ry
  exact rule i j t t' _ s2 ⟨.bl _, H2, I2, rfl, q⟩
theorem pc_lt (ha : PE X a ta) (hb : PE X b tb) : PC X .Lt a b (tLt ta tb) := pc_int ha hb fun _ _ _ _ _ _ h => lt_int h
theorem pc_le (ha : PE X a ta) (hb : PE X b tb) : PC X .LtE a b (tLe ta tb) := pc_int ha hb fun _ _ _ _ _ _ h => le_int h
theorem pc_gt (ha : PE X a ta) (hb : PE X b tb) : PC X .Gt a b (tGt ta tb) := pc_int ha hb fun _ _ _ _ _ _ h => gt_int h
theorem pc_ge (ha : PE X a ta) (hb : PE X b tb) : PC X .GtE a b (tGe ta tb) := pc_int ha hb fun _ _ _ _ _ _ h => ge_int h
theorem pc_eqI (ha : PE X a ta) (hb : PE X b tb) : PC X .Eq a b (tEqI ta tb) := pc_int ha hb fun _ _ _ _ _ _ h => eq_int (by rw [Bool.beq_eq_decide_eq]; exact h)
theorem pc_neI (ha : PE X a ta) (hb : PE X b tb) : PC X .NotEq a b (tNeI ta tb) := pc_int ha hb fun _ _ _ _ _ _ h => ne_int (by rw [bne, Bool.beq_eq_decide_eq]; exact h)
/-- is None -/
def tIsN (ta : TE) : TE := fun σ H Q => ta σ H fun x H1 => Q (.bl (decide (x = .non))) H1
def tNotN (ta : TE) : TE := fun σ H Q => ta σ H fun x H1 => Q (.bl (!decide (x = .non))) H1
theorem RelV.none_iff {x : V} {v : Value} (r : RelV x v) : (v == Value.none) = decide (x = .non) := by
  cases x with
  | non => cases r; rfl
  | bl _ => cases r; rfl
  | int _ => obtain ⟨t, rfl⟩ := r; rfl
  | str _ => obtain ⟨t, rfl⟩ := r; rfl
  | byt _ => obtain ⟨t, rfl⟩ := r; rfl
  | flt _ => obtain ⟨t, rfl⟩ := r; rfl
  | ref _ => cases r; rfl
  | ty _ => cases r; rfl
theorem pc_isN {j pos'} (ha : PE X a ta) : PC X .Is a (.Constant .none j pos') (tIsN ta) := by
  intro pins s σ H Q I h
  refine thn (ha pins s σ H _ I h) fun v s1 ⟨x, H1, I1, r1, q1⟩ => ?_
  exact Constant_none (is_none_gen ⟨.bl _, H1, I1, by rw [r1.none_iff]; rfl, q1⟩)
theorem pc_notN {j pos'} (ha : PE X a ta) : PC X .IsNot a (.Constant .none j pos') (tNotN ta) := by
  intro pins s σ H Q I h
  refine thn (ha pins s σ H _ I h) fun v s1 ⟨x, H1, I1, r1, q1⟩ => ?_
  exact Constant_none (isnot_none_gen ⟨.bl _, H1, I1, by rw [r1.none_iff]; rfl, q1⟩)
/-- a comparison as a value, as a test -/
def tB (t : TE) : TT := fun σ H Q => t σ H fun x H1 => ∃ c, x = .bl c ∧ Q c H1
theorem pe_cmp {op : CmpOp} {t : TE} (h : PC X op a b t) (h1 : behindInMarks op b = false := by first | exact nobehind _ (by decide) (by decide) | rfl) : PE X (.Compare a [op] [b] pos) t := fun pins s σ H Q I hw => wpAny_Compare1 (h pins s σ H Q I hw) h1
theorem pt_cmp {op : CmpOp} {t : TE} (h : PC X op a b t) (h1 : behindInMarks op b = false := by first | exact nobehind _ (by decide) (by decide) | rfl) : PT X (.Compare a [op] [b] pos) (tB t) := by
  intro pins s σ H Q I hw
  refine wpAny_isTrue_Compare1 (thn (h pins s σ H _ I hw) fun v s1 h1 => thn h1 fun u s2 h2 => thn h2 fun c s3 ⟨x, H1, I1, r1, q1⟩ => ?_) h1
  obtain ⟨d, rfl, q⟩ := q1
  cases r1
  exact wpAny_truthy_bool ⟨H1, I1, q⟩
/-- an expression whose value is a bool, as a test -/
theorem pt_val {e : Expr} {t : TE} (h : PE X e t) (he : ∀ whole, isTrue e X.env whole = (do let v ← whole; standAt e.pos; holding [v] (truthy v)) := by intro _; rfl) : PT X e (tB t) := by
  intro pins s σ H Q I hw
  refine isTrue_plain (thn (h pins s σ H _ I hw) fun v s1 ⟨x, H1, I1, r1, q1⟩ => ?_) (he _)
  obtain ⟨d, rfl, q⟩ := q1
  cases r1
  exact wpAny_truthy_bool ⟨H1, I1, q⟩

/-! ### and, or, not -/
variable {tA tB' : TT} {rest : List Expr}
def tAnd (t u : TT) : TT := fun σ H Q => t σ H fun c H1 => if c = true then u σ H1 Q else Q false H1
def tOr (t u : TT) : TT := fun σ H Q => t σ H fun c H1 => if c = true then Q true H1 else u σ H1 Q
def tNot (t : TT) : TT := fun σ H Q => t σ H fun c H1 => Q (!c) H1
theorem pw_and1 (ha : PT X a tA) : PW X (.BoolOp .And [a] pos) tA := by
  intro wh pins s σ H Q I h
  refine isTrue_and (thn (ha pins s σ H Q I h) fun c s1 e => ?_)
  cases c with
  | true => exact isTrue_and_nil e
  | false => exact e
theorem pw_or1 (ha : PT X a tA) : PW X (.BoolOp .Or [a] pos) tA := by
  intro wh pins s σ H Q I h
  refine isTrue_or (thn (ha pins s σ H Q I h) fun c s1 e => ?_)
  cases c with
  | false => exact isTrue_or_nil e
  | true => exact e
theorem pw_and (ha : PT X a tA) (hb : PW X (.BoolOp .And (b :: rest) pos) tB') : PW X (.BoolOp .And (a :: b :: rest) pos) (tAnd tA tB') := by
  intro wh pins s σ H Q I h
  refine isTrue_and (thn (ha pins s σ H _ I h) fun c s1 ⟨H1, I1, q1⟩ => ?_)
  cases c with
  | true => exact hb wh pins s1 σ H1 Q I1 q1
  | false => exact ⟨H1, I1, q1⟩
theorem pw_or (ha : PT X a tA) (hb : PW X (.BoolOp .Or (b :: rest) pos) tB') : PW X (.BoolOp .Or (a :: b :: rest) pos) (tOr tA tB') := by
  intro wh pins s σ H Q I h
  refine isTrue_or (thn (ha pins s σ H _ I h) fun c s1 ⟨H1, I1, q1⟩ => ?_)
  cases c with
  | true => exact ⟨H1, I1, q1⟩
  | false => exact hb wh pins s1 σ H1 Q I1 q1
theorem pt_not (ha : PT X a tA) : PT X (.UnaryOp .Not a pos) (tNot tA) := by
  intro pins s σ H Q I h
  exact isTrue_not (ha pins s σ H (fun c H1 => Q (!c) H1) I h)
/-- .. as values (bools) -/
def tAndV (ta tb : TE) : TE := fun σ H Q => ta σ H fun x H1 => ∃ c, x = .bl c ∧ if c = true then tb σ H1 Q else Q (.bl false) H1
def tOrV (ta tb : TE) : TE := fun σ H Q => ta σ H fun x H1 => ∃ c, x = .bl c ∧ if c = true then Q (.bl true) H1 else tb σ H1 Q
def tNotV (ta : TE) : TE := fun σ H Q => ta σ H fun x H1 => ∃ c, x = .bl c ∧ Q (.bl (!c)) H1
theorem pe_one {op} {t : TE} (h : PE X a t) : PE X (.BoolOp op [a] pos) t := fun pins s σ H Q I hw => BoolOp_one (h pins s σ H Q I hw)
theorem pe_and (ha : PE X a ta) (hb : PE X (.BoolOp .And (b :: rest) pos) tb) : PE X (.BoolOp .And (a :: b :: rest) pos) (tAndV ta tb) := by
  intro pins s σ H Q I h
  refine BoolOp_and (thn (ha pins s σ H _ I h) fun v s1 ⟨x, H1, I1, r1, q1⟩ => ?_)
  obtain ⟨c, rfl, q1⟩ := q1
  cases r1
  refine wpAny_truthy_bool ?_
  cases c with
  | true => exact hb pins s1 σ H1 Q I1 q1
  | false => exact ⟨.bl false, H1, I1, rfl, q1⟩
theorem pe_or (ha : PE X a ta) (hb : PE X (.BoolOp .Or (b :: rest) pos) tb) : PE X (.BoolOp .Or (a :: b :: rest) pos) (tOrV ta tb) := by
  intro pins s σ H Q I h
  refine BoolOp_or (thn (ha pins s σ H _ I h) fun v s1 ⟨x, H1, I1, r1, q1⟩ => ?_)
  obtain ⟨c, rfl, q1⟩ := q1
  cases r1
  refine wpAny_truthy_bool ?_
  cases c with
  | false => exact hb pins s1 σ H1 Q I1 q1
  | true => exact ⟨.bl true, H1, I1, rfl, q1⟩
theorem pe_not (ha : PE X a ta) : PE X (.UnaryOp .Not a pos) (tNotV ta) := by
  intro pins s σ H Q I h
  refine UnaryOp_ (thn (ha pins s σ H _ I h) fun v s1 ⟨x, H1, I1, r1, q1⟩ => ?_)
  obtain ⟨c, rfl, q1⟩ := q1
  cases r1
  exact not_of (wpAny_truthy_bool ⟨.bl (!c), H1, I1, rfl, q1⟩)
/-- a if t else b -/
def tIf (t : TT) (ta tb : TE) : TE := fun σ H Q => t σ H fun c H1 => if c = true then ta σ H1 Q else tb σ H1 Q
theorem pe_ifExp {c : Expr} (hc : PT X c tA) (ha : PE X a ta) (hb : PE X b tb) : PE X (.IfExp c a b pos) (tIf tA ta tb) := by
  intro pins s σ H Q I h
  refine wpAny_IfExp (thn (hc pins s σ H _ I h) fun d s1 ⟨H1, I1, q1⟩ => ?_)
  cases d with
  | true => exact ha pins s1 σ H1 Q I1 q1
  | false => exact hb pins s1 σ H1 Q I1 q1
end
end L2

namespace L2
open PySem PySem.Spec PyProof.Rows

/-! ### a list, a tuple that is read: tracked, frozen, or an object of the module -/
def SqL (K : PySem.W.Frag) (H : Hp) (a : Addr) (xs : List V) : Prop :=
  Rd H a (.lst xs) ∨
    ∃ (o : Obj) (its : Array Value) (n : Nat), K.lookup a = some o ∧ o.cls = .type "list" ∧ o.dict = none ∧ o.data = .seq its n ∧ its.size ≤ sizeLine ∧ Vals xs its.toList
def SqT (K : PySem.W.Frag) (H : Hp) (a : Addr) (xs : List V) : Prop :=
  Rd H a (.tup xs) ∨
    ∃ (o : Obj) (its : Array Value) (n : Nat), K.lookup a = some o ∧ o.cls = .type "tuple" ∧ o.data = .seq its n ∧ its.size ≤ sizeLine ∧ Vals xs its.toList
def absV : Value → Option V
  | .none => some .non
  | .bool b => some (.bl b)
  | .int i _ => some (.int i)
  | .str x _ => some (.str x)
  | .bytes b _ => some (.byt b)
  | .float b _ => some (.flt b)
  | .ref a => some (.ref a)
  | .type n => some (.ty n)
  | _ => none
theorem RelV.abs {x : V} {u : Value} (r : RelV x u) : absV u = some x := by
  cases x with
  | non => cases r; rfl
  | bl _ => cases r; rfl
  | int _ => obtain ⟨t, rfl⟩ := r; rfl
  | str _ => obtain ⟨t, rfl⟩ := r; rfl
  | byt _ => obtain ⟨t, rfl⟩ := r; rfl
  | flt _ => obtain ⟨t, rfl⟩ := r; rfl
  | ref _ => cases r; rfl
  | ty _ => cases r; rfl
theorem RelV.inj {x y : V} {u : Value} (r : RelV x u) (q : RelV y u) : x = y := Option.some.inj (r.abs.symm.trans q.abs)
theorem Vals.inj : ∀ {xs ys : List V} {us : List Value}, Vals xs us → Vals ys us → xs = ys
  | _, _, _, .nil, .nil => rfl
  | _, _, _, .cons r t, .cons r' t' => by rw [r.inj r', Vals.inj t t']
section
variable {X : Cx} {pins : List (Addr × Obj)} {σ : St} {H : Hp} {s : Shared} {a : Addr} {xs ys : List V}
theorem SqL.of {K : PySem.W.Frag} (h : H a = some (.lst xs)) : SqL K H a xs := .inl (.inl h)
theorem SqT.of {K : PySem.W.Frag} (h : H a = some (.tup xs)) : SqT K H a xs := .inl (.inl h)
theorem Inv.list (I : Inv X pins σ H s) (h : SqL X.K H a xs) : ∃ its : List Value, Vals xs its ∧ PlainL s.heap a its.toArray ∧ xs.length ≤ sizeLine := by
  rcases h with h | ⟨o, its, n, hk, hc, hd, hs, hz, r⟩
  · obtain ⟨z, its, n, r, e⟩ := h.ok I.hok
    exact ⟨its, r, ⟨_, n, e, rfl, rfl, rfl⟩, z⟩
  · refine ⟨its.toList, r, ⟨o, n, I.kIn a o hk, hc, hd, by simpa using hs⟩, ?_⟩
    have e := r.length
    simp only [Array.length_toList] at e
    omega
theorem Inv.tuple (I : Inv X pins σ H s) (h : SqT X.K H a xs) : ∃ its : List Value, Vals xs its ∧ IsTup s.heap a its.toArray ∧ xs.length ≤ sizeLine := by
  rcases h with h | ⟨o, its, n, hk, hc, hs, hz, r⟩
  · obtain ⟨z, its, r, p⟩ := h.ok I.hok
    exact ⟨its, r, p, z⟩
  · refine ⟨its.toList, r, ⟨o, I.kIn a o hk, hc, n, by simpa using hs⟩, ?_⟩
    have e := r.length
    simp only [Array.length_toList] at e
    omega
theorem Inv.list_inj (I : Inv X pins σ H s) (h : SqL X.K H a xs) (h' : SqL X.K H a ys) : xs = ys := by
  obtain ⟨its, r, ⟨o, n, e, _, _, d⟩, _⟩ := I.list h
  obtain ⟨its', r', ⟨o', n', e', _, _, d'⟩, _⟩ := I.list h'
  rw [e] at e'; cases e'
  rw [d] at d'
  injection d' with d1 _
  have : its = its' := by simpa using congrArg Array.toList d1
  subst this
  exact r.inj r'
theorem Inv.tuple_inj (I : Inv X pins σ H s) (h : SqT X.K H a xs) (h' : SqT X.K H a ys) : xs = ys := by
  obtain ⟨its, r, ⟨o, e, _, n, d⟩, _⟩ := I.tuple h
  obtain ⟨its', r', ⟨o', e', _, n', d'⟩, _⟩ := I.tuple h'
  rw [e] at e'; cases e'
  rw [d] at d'
  injection d' with d1 _
  have : its = its' := by simpa using congrArg Array.toList d1
  subst this
  exact r.inj r'
end

/-! ### another wish about exceptions -/
abbrev Cx.wish (X : Cx) (E : Value → Shared → Prop) : Cx := { X with xe := E }
/-- no exception leaves -/
abbrev Cx.nox (X : Cx) : Cx := X.wish fun _ _ => False
theorem Cx.Ok.wish {X : Cx} (ok : X.Ok) (E : Value → Shared → Prop) : (X.wish E).Ok :=
  ⟨ok.mod, ok.kind, ok.glob, ok.blt, ok.above, ok.inj, ok.has, ok.cab, ok.hd, ok.frames, ok.stk, ok.exf, ok.bs, ok.bsz, ok.noex, ok.exfs, ok.funs, ok.frf⟩
theorem Cx.Ok.unwish {X : Cx} {E : Value → Shared → Prop} (ok : (X.wish E).Ok) : X.Ok :=
  ⟨ok.mod, ok.kind, ok.glob, ok.blt, ok.above, ok.inj, ok.has, ok.cab, ok.hd, ok.frames, ok.stk, ok.exf, ok.bs, ok.bsz, ok.noex, ok.exfs, ok.funs, ok.frf⟩
section
variable {X : Cx} {pins : List (Addr × Obj)} {σ : St} {H : Hp} {s : Shared} {E : Value → Shared → Prop}
theorem Inv.wish (I : Inv X pins σ H s) (E : Value → Shared → Prop) : Inv (X.wish E) pins σ H s := ⟨I.ok.wish E, I.os, I.bare, I.base, I.loc, I.cell, I.free, I.freeC, I.pin, I.hok, I.len⟩
theorem Inv.unwish (I : Inv (X.wish E) pins σ H s) : Inv X pins σ H s := ⟨I.ok.unwish, I.os, I.bare, I.base, I.loc, I.cell, I.free, I.freeC, I.pin, I.hok, I.len⟩
theorem SP.unwish {D : Ends} {f : Flow} {s' : Shared} (h : SP (X.wish E) pins D f s') : SP X pins D f s' := by
  cases f with
  | next => obtain ⟨σ', H', I, q⟩ := h; exact ⟨σ', H', I.unwish, q⟩
  | brk => obtain ⟨σ', H', I, q⟩ := h; exact ⟨σ', H', I.unwish, q⟩
  | cont => obtain ⟨σ', H', I, q⟩ := h; exact ⟨σ', H', I.unwish, q⟩
  | ret u => obtain ⟨v, σ', H', I, r, q⟩ := h; exact ⟨v, σ', H', I.unwish, r, q⟩
theorem PE.nox {e : Expr} {t : TE} (h : PE X.nox e t) : PE X e t := fun pins s σ H Q I hw =>
  wpAny_mono (h pins s σ H Q (I.wish _) hw) (fun _ _ ⟨v, H', I', r, q⟩ => ⟨v, H', I'.unwish, r, q⟩) fun _ _ z => False.elim z
theorem PT.nox {e : Expr} {t : TT} (h : PT X.nox e t) : PT X e t := fun pins s σ H Q I hw =>
  wpAny_mono (h pins s σ H Q (I.wish _) hw) (fun _ _ ⟨H', I', q⟩ => ⟨H', I'.unwish, q⟩) fun _ _ z => False.elim z
theorem PSs.nox {st : List Stmt} {t : TS} (h : PSs X.nox st t) : PSs X st t := fun pins s σ H D I hw =>
  wpAny_mono (h pins s σ H D (I.wish _) hw) (fun _ _ q => q.unwish) fun _ _ z => False.elim z
end

/-! ### blocks and small statements -/
section
variable {X : Cx} {st : Stmt} {rest : List Stmt} {t u : TS} {e : Expr} {te : TE} {pos : Pos}
def tNext : TS := fun D σ H => D.nx σ H
def tSeq (t u : TS) : TS := fun D σ H => t { D with nx := u D } σ H
theorem pss_nil : PSs X [] tNext := fun _ _ σ H _ I h => wpAny_execs_nil ⟨σ, H, I, h⟩
theorem pss_cons (h1 : PS X st t) (h2 : PSs X rest u) : PSs X (st :: rest) (tSeq t u) := by
  intro pins s σ H D I h
  refine wpAny_execs_cons (thn (h1 pins s σ H { D with nx := u D } I h) fun f s1 q => ?_)
  cases f with
  | next =>
    obtain ⟨σ', H', I', q⟩ := q
    exact h2 pins s1 σ' H' D I' q
  | ret v => exact q
  | brk => exact q
  | cont => exact q
theorem pss_one (h1 : PS X st t) : PSs X [st] t := by
  intro pins s σ H D I h
  refine wpAny_execs_cons (thn (h1 pins s σ H D I h) fun f s1 q => ?_)
  cases f with
  | next => exact wpAny_execs_nil q
  | ret v => exact q
  | brk => exact q
  | cont => exact q
def tBreak : TS := fun D σ H => D.bk σ H
def tCont : TS := fun D σ H => D.ct σ H
theorem ps_pass : PS X (.Pass pos) tNext := fun _ _ σ H _ I h => wpAny_Pass ⟨σ, H, I, h⟩
theorem ps_break : PS X (.Break pos) tBreak := fun _ _ σ H _ I h => wpAny_Break ⟨σ, H, I, h⟩
theorem ps_continue : PS X (.Continue pos) tCont := fun _ _ σ H _ I h => wpAny_Continue ⟨σ, H, I, h⟩
/-- in a def's body nothing is shown -/
theorem Inv.quiet {pins : List (Addr × Obj)} {σ : St} {H : Hp} {s : Shared} (I : Inv X pins σ H s) : interactive X.env = false := by simp [interactive, I.ok.kind]
/-- a docstring -/
theorem ps_doc {x j pos pos'} : PS X (.Expr (.Constant (.str x) j pos) pos') tNext := fun _ s σ H _ I h => wpAny_Expr (Calls.Constant_str (show SP X _ _ .next { s with toks := s.toks + 1 } from ⟨σ, H, I.tok _, h⟩)) I.quiet
/-- an expression whose value is dropped -/
def tDrop (te : TE) : TS := fun D σ H => te σ H fun _ H1 => D.nx σ H1
theorem ps_expr (he : PE X e te) (hs : swapsWith e none pos.line X.env = pure false := by rfl) : PS X (.Expr e pos) (tDrop te) := by
  intro pins s σ H D I h
  exact wpAny_Expr_any (thn (he pins s σ H _ I h) fun v s1 ⟨x, H1, I1, r1, q1⟩ => ⟨σ, H1, I1, q1⟩) I.quiet hs
def tRet (te : TE) : TS := fun D σ H => te σ H D.rt
theorem ps_ret (he : PE X e te) : PS X (.Return (some e) pos) (tRet te) := by
  intro pins s σ H D I h
  exact wpAny_Return_some (thn (he pins s σ H _ I h) fun v s1 ⟨x, H1, I1, r1, q1⟩ => ⟨x, σ, H1, I1, r1, q1⟩)
def tRetN : TS := fun D _ H => D.rt .non H
theorem ps_retN : PS X (.Return none pos) tRetN := fun _ _ σ H _ I h => wpAny_Return_none ⟨.non, σ, H, I, rfl, h⟩
def tIfS (c : TT) (t u : TS) : TS := fun D σ H => c σ H fun b H1 => if b = true then t D σ H1 else u D σ H1
theorem ps_if {c : Expr} {a b : List Stmt} {tc : TT} (hc : PT X c tc) (ha : PSs X a t) (hb : PSs X b u) : PS X (.If c a b pos) (tIfS tc t u) := by
  intro pins s σ H D I h
  refine wpAny_If (thn (hc pins s σ H _ I h) fun d s1 ⟨H1, I1, q1⟩ => ?_)
  cases d with
  | true => exact ha pins s1 σ H1 D I1 q1
  | false => exact hb pins s1 σ H1 D I1 q1
/-- code that the proof never comes to -/
def tNever : TS := fun _ _ _ => False
theorem ps_never : PS X st tNever := fun _ _ _ _ _ _ h => h.elim
theorem pss_never {sts : List Stmt} : PSs X sts tNever := fun _ _ _ _ _ _ h => h.elim
end

/-! ### targets -/
abbrev TG := V → St → Hp → (St → Hp → Prop) → Prop
abbrev TGs := List V → St → Hp → (St → Hp → Prop) → Prop
def PG (X : Cx) (target : Expr) (t : TG) : Prop :=
  ∀ (pins : List (Addr × Obj)) (s : Shared) (σ : St) (H : Hp) (v : V) (u : Value) (Q : St → Hp → Prop), Inv X pins σ H s → RelV v u → t v σ H Q →
    wpAny (model X.prog X.w) X.A (assign target X.env u) (fun _ s' => ∃ σ' H', Inv X pins σ' H' s' ∧ Q σ' H') X.xe s
/-- several targets, one after another -/
def PGs (X : Cx) (ts : List Expr) (t : TGs) : Prop :=
  ∀ (pins : List (Addr × Obj)) (s : Shared) (σ : St) (H : Hp) (vs : List V) (us : List Value) (Q : St → Hp → Prop), Inv X pins σ H s → Vals vs us → t vs σ H Q →
    wpAny (model X.prog X.w) X.A (assignInOrder ((assignEach ts X.env).map (·.2)) us) (fun _ s' => ∃ σ' H', Inv X pins σ' H' s' ∧ Q σ' H') X.xe s
/-- o[i] = v, by values -/
abbrev TSet := V → V → V → Hp → (Hp → Prop) → Prop
def PSet (X : Cx) (t : TSet) : Prop :=
  ∀ (pins : List (Addr × Obj)) (s : Shared) (σ : St) (H : Hp) (o i v : V) (ov iv u : Value) (Q : Hp → Prop), Inv X pins σ H s → RelV o ov → RelV i iv → RelV v u → t o i v H Q →
    wpAny (model X.prog X.w) X.A (setItem ov iv u) (fun _ s' => ∃ H', Inv X pins σ H' s' ∧ Q H') X.xe s
/-- a op= b, by values -/
abbrev TIp := V → V → Hp → VK → Prop
def PIp (X : Cx) (op : Operator) (t : TIp) : Prop :=
  ∀ (pins : List (Addr × Obj)) (s : Shared) (σ : St) (H : Hp) (x y : V) (v u : Value) (Q : VK), Inv X pins σ H s → RelV x v → RelV y u → t x y H Q →
    wpAny (model X.prog X.w) X.A (inplaceOp op v u) (EP X pins σ Q) X.xe s
section
variable {X : Cx} {pos : Pos}
def gName (i : Nat) : TG := fun v σ H Q => Q (σ.set i (some v)) H
theorem pg_name {i : Nat} {x : Str} (hN : X.N.Nodup) (hi : X.N[i]? = some x) (hx : Loc X.env.scope x) (hf : X.fn x = true ∨ X.env.scope.names.lookup x = some .local := by first | exact .inl rfl | exact .inr rfl | assumption) : PG X (.Name x pos) (gName i) := by
  intro pins s σ H v u Q I r h
  exact wpAny_assign_Name (store_ok I hN hi hx r (fun s' I' => ⟨_, H, I', h⟩) hf)
def gNil : TGs := fun vs σ H Q => vs = [] ∧ Q σ H
def gCons (t : TG) (u : TGs) : TGs := fun vs σ H Q => ∃ v r, vs = v :: r ∧ t v σ H fun σ' H' => u r σ' H' Q
theorem pgs_nil : PGs X [] gNil := by
  intro pins s σ H vs us Q I r h
  obtain ⟨e, h⟩ := h
  subst e
  cases r
  exact assignInOrder_nil ⟨σ, H, I, h⟩
theorem pgs_cons {e : Expr} {es : List Expr} {t : TG} {u : TGs} (h1 : PG X e t) (h2 : PGs X es u)
    (hs : (assignEach (e :: es) X.env).map (·.2) = assign e X.env :: (assignEach es X.env).map (·.2) := by rfl) : PGs X (e :: es) (gCons t u) := by
  intro pins s σ H vs us Q I r h
  obtain ⟨v, vr, e1, h⟩ := h
  subst e1
  cases r with
  | cons r rr =>
    rw [hs]
    refine assignInOrder_cons (thn (h1 pins s σ H _ _ _ I r h) fun _ s1 ⟨σ1, H1, I1, q1⟩ => ?_)
    exact h2 pins s1 σ1 H1 _ _ Q I1 rr q1
/-- (a, b, ..) = a tuple of that length -/
def gTup (K : PySem.W.Frag) (n : Nat) (t : TGs) : TG := fun v σ H Q => ∃ a xs, v = .ref a ∧ SqT K H a xs ∧ xs.length = n ∧ t xs σ H Q
theorem pg_tup {es : List Expr} {k : Nat} {t : TGs} {n : Nat} (hc : X.calm = true) (h : PGs X es t)
    (hn : (assignEach es X.env).length = n := by rfl) (hst : (assignEach es X.env).findIdx? (·.1) = none := by rfl) : PG X (.Tuple es k pos) (gTup X.K n t) := by
  intro pins s σ H v u Q I r hw
  obtain ⟨a, xs, e1, hq, hl, hw⟩ := hw
  subst e1
  cases r
  obtain ⟨its, rv, ht, hz⟩ := I.tuple hq
  refine assign_Tuple_tuple (I.ok.hd hc) ht (by simp [hn, ← hl, rv.length]) hst fun h' hx => ?_
  have I1 : Inv X pins σ H { s with heap := h' } := I.kept (t' := s.toks) fun b o e => hx b o (Nat.ne_of_lt (Heap.lt_size e)) e
  exact h pins _ σ H xs _ Q I1 (by simpa using rv) hw
/-- o[i] = .. -/
def gSub (to ti : TE) (t : TSet) : TG := fun v σ H Q => to σ H fun o H1 => ti σ H1 fun i H2 => t o i v H2 fun H3 => Q σ H3
theorem pg_sub {o i : Expr} {to ti : TE} {t : TSet} (ho : PE X o to) (hi : PE X i ti) (hs : PSet X t)
    (ha : ∀ v, assign (.Subscript o i pos) X.env v = (do
      let ov ← holding [v] (eval o X.env)
      let iv ← holding [v, ov] (eval i X.env)
      standAt pos
      holding [v, ov, iv] (setItem ov iv v)
      release [v, ov, iv] []) := by intro _; rfl) : PG X (.Subscript o i pos) (gSub to ti t) := by
  intro pins s σ H v u Q I r h
  rw [ha]
  refine wpAny_bind (wpAny_holding (thn (ho pins s σ H _ I h) fun ov s1 ⟨x, H1, I1, r1, q1⟩ => ?_))
  refine wpAny_bind (wpAny_holding (thn (hi pins s1 σ H1 _ I1 q1) fun iv s2 ⟨y, H2, I2, r2, q2⟩ => ?_))
  refine wpAny_bind (wpAny_standAt (wpAny_bind (wpAny_holding (thn (hs pins s2 σ H2 x y v ov iv u _ I2 r1 r2 r q2) fun _ s3 ⟨H3, I3, q3⟩ => ?_))))
  exact wpAny_release ⟨σ, H3, I3, q3⟩
/-- target = value -/
def tAsg (te : TE) (g : TG) : TS := fun D σ H => te σ H fun x H1 => g x σ H1 D.nx
theorem ps_asg {tg e : Expr} {te : TE} {g : TG} (he : PE X e te) (hg : PG X tg g) (hs : swapsWithSole [tg] e pos.line X.env = pure false := by rfl) (hw : swappedStores [tg] e X.env = pure none := by rfl)
    (h1 : (assignEach [tg] X.env).map (·.2) = [assign tg X.env] := by rfl) : PS X (.Assign [tg] e pos) (tAsg te g) := by
  intro pins s σ H D I h
  refine wpAny_Assign_stores (thn (he pins s σ H _ I h) fun v s1 ⟨x, H1, I1, r1, q1⟩ => ?_) hs hw
  rw [h1]
  exact thn (hg pins s1 σ H1 x v _ I1 r1 q1) fun _ s2 q => q
/-- name = value -/
theorem ps_set {i : Nat} {x : Str} {e : Expr} {te : TE} {pos' : Pos} (hN : X.N.Nodup) (hi : X.N[i]? = some x) (hx : Loc X.env.scope x) (he : PE X e te) (hs : swapsWith e (some (.Name x pos')) pos.line X.env = pure false := by rfl) (hf : X.fn x = true ∨ X.env.scope.names.lookup x = some .local := by first | exact .inl rfl | exact .inr rfl | assumption) :
    PS X (.Assign [.Name x pos'] e pos) (tAsg te (gName i)) := by
  intro pins s σ H D I h
  refine wpAny_Assign_Name (thn (he pins s σ H _ I h) fun v s1 ⟨y, H1, I1, r1, q1⟩ => ?_) hs
  exact store_ok I1 hN hi hx r1 (fun s2 I2 => ⟨_, H1, I2, q1⟩) hf
/-- a, b = x, y with plain local names: stored from the right; the pair itself is not tracked (the opening rows as in PyProof/Rows/TupAssign.lean:23) -/
def tPar (i j : Nat) (ta : TA) : TS := fun D σ H => ta σ H fun vs H1 => ∃ v w, vs = [v, w] ∧ D.nx ((σ.set i (some v)).set j (some w)) H1
theorem ps_par {i j : Nat} {x y : Str} {a b : Expr} {ta : TA} {px py pt : Pos} {kt k2 pt2} (hc : X.calm = true) (hN : X.N.Nodup) (hi : X.N[i]? = some x) (hj : X.N[j]? = some y) (hij : i ≠ j)
    (hx : X.env.scope.names.lookup x = some .local) (hy : X.env.scope.names.lookup y = some .local) (ha : PA X [a, b] ta)
    (hw : swappedStores [.Tuple [.Name x px, .Name y py] kt pt] (.Tuple [a, b] k2 pt2) X.env = pure (some [x, y]))
    (hs : swapsWithSole [.Tuple [.Name x px, .Name y py] kt pt] (.Tuple [a, b] k2 pt2) pos.line X.env = pure false := by rfl) :
    PS X (.Assign [.Tuple [.Name x px, .Name y py] kt pt] (.Tuple [a, b] k2 pt2) pos) (tPar i j ta) := by
  intro pins s σ H D I h
  rw [exec_Assign_arm]
  refine wpAny_bind (wpAny_standAt ?_)
  rw [hs]
  refine wpAny_bind (wpAny_pure ?_)
  rw [if_neg (by decide)]
  refine wpAny_bind (Tuple_ (thn (ha _ pins s σ H _ I h) fun us s1 ⟨vs, H1, I1, r1, q1⟩ => ?_))
  obtain ⟨v, w, e1, q1⟩ := q1
  subst e1
  obtain ⟨u1, u2, rfl, rv, rw'⟩ : ∃ u1 u2, us = [u1, u2] ∧ RelV v u1 ∧ RelV w u2 := by
    cases r1 with
    | cons p q =>
      cases q with
      | cons p' q' =>
        cases q'
        exact ⟨_, _, rfl, p, p'⟩
  refine wpAny_newObj_type ?_ (by show 2 ≤ sizeLine; decide)
  have I2 : Inv X pins σ H1 { s1 with heap := s1.heap.push { cls := .type "tuple", data := .seq [u1, u2].toArray } } := I1.kept (t' := s1.toks) fun b o e => Heap.get?_push_of_some _ e
  rw [hw]
  refine wpAny_bind (wpAny_pure ?_)
  show wpAny (model X.prog X.w) X.A (do rule "assign.swapped-stores"; let items ← unpackItems (.ref s1.heap.objs.size) 2 none; assignInOrder [fun v => bindName X.env y v, fun v => bindName X.env x v] items.reverse; pure Flow.next) _ _ _
  refine wpAny_bind (wpAny_rule (wpAny_bind (unpackItems_tuple (items := #[u1, u2]) (I.ok.hd hc) (IsTup.new s1.heap _) fun h' hx' => ?_)))
  have I3 := I2.kept (h' := h') (t' := s1.toks) fun b o e => hx' b o (Nat.ne_of_lt (Heap.lt_size e)) e
  show wpAny _ _ (assignInOrder [fun v => bindName X.env y v, fun v => bindName X.env x v] [u2, u1] >>= fun _ => pure Flow.next) _ _ _
  refine wpAny_bind (assignInOrder_cons (wpAny_bindName (store_ok I3 hN hj (.inl hy) rw' (fun s2 I4 => ?_) (.inr hy))))
  refine assignInOrder_cons (wpAny_bindName (store_ok I4 hN hi (.inl hx) rv (fun s3 I5 => assignInOrder_nil (wpAny_pure ?_)) (.inr hx)))
  rw [List.set_comm _ _ (Ne.symm hij)] at I5
  exact ⟨_, H1, I5, q1⟩
/-- name op= e -/
def tAug (i : Nat) (te : TE) (ti : TIp) : TS := fun D σ H => ∃ x, σ[i]? = some (some x) ∧ te σ H fun y H1 => ti x y H1 fun z H2 => D.nx (σ.set i (some z)) H2
theorem ps_aug {i : Nat} {x : Str} {e : Expr} {te : TE} {op : Operator} {ti : TIp} {pos' : Pos} (hN : X.N.Nodup) (hi : X.N[i]? = some x) (hx : Loc X.env.scope x) (he : PE X e te) (ho : PIp X op ti) (hf : X.fn x = true ∨ X.env.scope.names.lookup x = some .local := by first | exact .inl rfl | exact .inr rfl | assumption) :
    PS X (.AugAssign (.Name x pos') op e pos) (tAug i te ti) := by
  intro pins s σ H D I h
  obtain ⟨v, e1, h⟩ := h
  obtain ⟨m, hn, hl⟩ := I.loc
  have vis : Vis X.env.scope x := by rcases hx with k | k; exact .inl k; exact .inr (.inl k)
  obtain ⟨u, r, l⟩ := hl i x v hi e1 vis
  refine wpAny_AugAssign_Name ?_
  have go : wpAny (model X.prog X.w) X.A (eval e X.env) (fun w s₂ => wpAny (model X.prog X.w) X.A (inplaceOp op u w) (fun r s₃ => wpAny (model X.prog X.w) X.A (storeName X.env x r) (fun _ => SP X pins D .next) X.xe s₃) X.xe s₂) X.xe s := by
    refine thn (he pins s σ H _ I h) fun w s1 ⟨y, H1, I1, r1, q1⟩ => ?_
    refine thn (ho pins s1 σ H1 v y u w _ I1 r r1 q1) fun z s2 ⟨zv, H2, I2, r2, q2⟩ => ?_
    exact store_ok I2 hN hi hx r2 (fun s3 I3 => ⟨_, H2, I3, q2⟩) hf
  rcases l with ⟨hk, hm⟩ | ⟨hk, c, hc, hcell⟩
  · exact wpAny_loadName_local I.ok.kind hk hn hm go
  · rcases hk with hk | hk
    · exact wpAny_loadName_cell I.ok.kind hk hc hcell go
    · rcases hx with k | k
      · have : X.env.scope.names.lookup x = some .free := hk
        rw [k] at this; cases this
      · have : X.env.scope.names.lookup x = some .free := hk
        rw [k] at this; cases this
/-- o[i] op= e -/
def tAugS (to ti te : TE) (tget : V → V → Hp → VK → Prop) (tip : TIp) (tset : TSet) : TS := fun D σ H => to σ H fun o H1 => ti σ H1 fun i H2 => tget o i H2 fun x H3 => te σ H3 fun y H4 => tip x y H4 fun z H5 => tset o i z H5 fun H6 => D.nx σ H6
/-- o[i], by values -/
def PGet (X : Cx) (t : V → V → Hp → VK → Prop) : Prop :=
  ∀ (pins : List (Addr × Obj)) (s : Shared) (σ : St) (H : Hp) (o i : V) (ov iv : Value) (Q : VK), Inv X pins σ H s → RelV o ov → RelV i iv → t o i H Q →
    wpAny (model X.prog X.w) X.A (getItem ov iv) (EP X pins σ Q) X.xe s
theorem ps_augS {o i e : Expr} {to ti te : TE} {tget : V → V → Hp → VK → Prop} {tip : TIp} {tset : TSet} {op : Operator} {tpos : Pos} (ho : PE X o to) (hi : PE X i ti) (hg : PGet X tget) (he : PE X e te) (hp : PIp X op tip) (hs : PSet X tset)
    (ha : ∀ ov iv new, augStore i ov iv new = (do holding [new, ov, iv] (setItem ov iv new); release [new, ov, iv] []; pure .next) := by intros; rfl) : PS X (.AugAssign (.Subscript o i tpos) op e pos) (tAugS to ti te tget tip tset) := by
  intro pins s σ H D I h
  refine wpAny_AugAssign_SubscriptAny (thn (ho pins s σ H _ I h) fun ov s1 ⟨x1, H1, I1, r1, q1⟩ => ?_) ha
  refine thn (hi pins s1 σ H1 _ I1 q1) fun iv s2 ⟨x2, H2, I2, r2, q2⟩ => ?_
  refine thn (hg pins s2 σ H2 x1 x2 ov iv _ I2 r1 r2 q2) fun old s3 ⟨x3, H3, I3, r3, q3⟩ => ?_
  refine thn (he pins s3 σ H3 _ I3 q3) fun v s4 ⟨x4, H4, I4, r4, q4⟩ => ?_
  refine thn (hp pins s4 σ H4 x3 x4 old v _ I4 r3 r4 q4) fun new s5 ⟨x5, H5, I5, r5, q5⟩ => ?_
  exact thn (hs pins s5 σ H5 x1 x2 x5 ov iv new _ I5 r1 r2 r5 q5) fun _ s6 ⟨H6, I6, q6⟩ => ⟨σ, H6, I6, q6⟩
/-- ints -/
def ipI (f : Int → Int → Int) : TIp := fun x y H Q => ∃ i j, x = .int i ∧ y = .int j ∧ Q (.int (f i j)) H
theorem ip_add : PIp X .Add (ipI fun i j => i + j) := by
  intro pins s σ H x y v u Q I r1 r2 h
  obtain ⟨i, j, e1, e2, q⟩ := h
  subst e1; subst e2
  obtain ⟨t, rfl⟩ := r1
  obtain ⟨t', rfl⟩ := r2
  exact iadd_int ⟨.int _, H, I.tok _, ⟨_, rfl⟩, q⟩
theorem ip_sub : PIp X .Sub (ipI fun i j => i - j) := by
  intro pins s σ H x y v u Q I r1 r2 h
  obtain ⟨i, j, e1, e2, q⟩ := h
  subst e1; subst e2
  obtain ⟨t, rfl⟩ := r1
  obtain ⟨t', rfl⟩ := r2
  exact isub_int ⟨.int _, H, I.tok _, ⟨_, rfl⟩, q⟩
end

/-! ### while -/
section
variable {X : Cx} {pos : Pos}
/-- the invariant W with its measure -/
def tWhile (c : TT) (tb : TS) : TS := fun D σ H => ∃ W : Nat → St → Hp → Prop, (∃ m, W m σ H) ∧ ∀ m σ H, W m σ H →
  c σ H fun b H1 => if b = true then ∃ N : St → Hp → Prop, (∀ σ' H', N σ' H' → ∃ m', m' < m ∧ W m' σ' H') ∧ tb { D with nx := N, ct := N, bk := D.nx } σ H1 else D.nx σ H1
theorem ps_while {c : Expr} {body : List Stmt} {tc : TT} {tb : TS} (hp : PassesOwn (model X.prog X.w) X.A X.env X.xe) (hc : PT X c tc) (hb : PSs X body tb) : PS X (.While c body [] pos) (tWhile tc tb) := by
  intro pins s σ H D I h
  obtain ⟨W, ⟨m0, w0⟩, turn⟩ := h
  refine wpAny_While (codeAny_whileLoop (fun n s' => ∃ σ' H', Inv X pins σ' H' s' ∧ W n σ' H') ?_ m0 ⟨σ, H, I, w0⟩)
  rintro n s1 ⟨σ1, H1, I1, w1⟩
  refine wpAny_passesOwn hp (thn (hc pins s1 σ1 H1 _ I1 (turn n σ1 H1 w1)) fun b s2 ⟨H2, I2, q2⟩ => ?_)
  cases b with
  | true =>
    obtain ⟨N, hN, q2⟩ := q2
    rw [if_pos rfl]
    refine wpAny_passesOwn hp (thn (hb pins s2 σ1 H2 _ I2 q2) fun f s3 q3 => ?_)
    cases f with
    | next =>
      obtain ⟨σ3, H3, I3, n3⟩ := q3
      obtain ⟨m', hm, w3⟩ := hN σ3 H3 n3
      exact ⟨m', hm, σ3, H3, I3, w3⟩
    | cont =>
      obtain ⟨σ3, H3, I3, n3⟩ := q3
      obtain ⟨m', hm, w3⟩ := hN σ3 H3 n3
      exact ⟨m', hm, σ3, H3, I3, w3⟩
    | brk => exact q3
    | ret v => exact q3
  | false =>
    rw [if_neg Bool.false_ne_true]
    exact wpAny_execs_nil ⟨σ1, H2, I2, q2⟩
end

/-! ### what a loop or a comprehension walks -/
/-- at turn i: it yields x (the heap may grow), or it stops -/
structure It where
  go : Nat → Hp → Prop
  yld : Nat → Hp → V → Hp → Prop
  stop : Nat → Hp → Prop
/-- the iterator's own objects may turn: they are not the frame's, not pinned, younger than the entry (or a comprehension's own) -/
def FpOk (X : Cx) (pins : List (Addr × Obj)) (H : Hp) (b : Addr) : Prop :=
  H b = none ∧ b ≠ X.env.locals ∧ b ∉ X.fs ∧ (b ∈ X.ex ∨ X.s₀.heap.objs.size ≤ b) ∧ (∀ x c, X.env.cells.lookup x = some c → c ≠ b) ∧ ∀ p ∈ X.pn ++ pins, p.1 ≠ b
theorem Inv.fpOk {X : Cx} {pins : List (Addr × Obj)} {σ : St} {H H' : Hp} {s : Shared} {b : Addr} (I : Inv X pins σ H s) (hb : s.heap.objs.size ≤ b) (hn : H' b = none) : FpOk X pins H' b := by
  refine ⟨hn, Nat.ne_of_gt (Nat.lt_of_lt_of_le I.lt hb), I.nofs hb, .inr (Nat.le_trans I.sz hb), fun x c e z => ?_, fun p hp z => ?_⟩
  · obtain ⟨v, q⟩ := I.cell x c e
    exact absurd (Nat.lt_of_lt_of_le q.lt (by rw [z]; exact hb)) (Nat.lt_irrefl _)
  · exact absurd (Nat.lt_of_lt_of_le (Heap.lt_size (I.pin p hp).1) (by rw [z]; exact hb)) (Nat.lt_irrefl _)
structure Turn (P : Program) (w : World) (K : PySem.W.Frag) (tg : Expr) (J : It) (fp : List Addr) (it : Addr) (tn : Nat → Heap → Prop) : Prop where
  mem : it ∈ fp
  obj : ∀ i h, tn i h → ∀ b ∈ fp, ∃ o, h.get? b = some o ∧ ∀ v, o.data ≠ .cell v
  keep : ∀ i h h', tn i h → (∀ b ∈ fp, ∀ o, h.get? b = some o → h'.get? b = some o) → tn i h'
  item : ∀ (X : Cx), X.prog = P → X.w = w → X.K = K → X.calm = true → ∀ (i : Nat) (pins : List (Addr × Obj)) (s : Shared) (σ : St) (H : Hp) (E : Value → Shared → Prop), Inv X pins σ H s → (∀ b ∈ fp, FpOk X pins H b) → tn i s.heap → J.go i H →
    wpAny (model P w) X.A (pyNext (.ref it)) (fun r s1 => ∃ u, r = some u ∧
      wpAny (model P w) X.A (letOwnedTupleGo tg (.ref it) u) (fun _ s2 => ∃ x H', Inv X pins σ H' s2 ∧ RelV x u ∧ J.yld i H x H' ∧ tn (i + 1) s2.heap ∧ ∀ b ∈ fp, H' b = none) E s1) E s
  done : ∀ (X : Cx), X.prog = P → X.w = w → X.K = K → X.calm = true → ∀ (i : Nat) (pins : List (Addr × Obj)) (s : Shared) (σ : St) (H : Hp) (E : Value → Shared → Prop), Inv X pins σ H s → (∀ b ∈ fp, FpOk X pins H b) → tn i s.heap → J.stop i H →
    wpAny (model P w) X.A (pyNext (.ref it)) (fun r s1 => r = none ∧ Inv X pins σ H s1) E s
  self : ∀ (A : Around) (i : Nat) (s : Shared) (Q : Value → Shared → Prop) (E : Value → Shared → Prop), tn i s.heap → Q (.ref it) s → wpAny (model P w) A (pyIter (.ref it)) Q E s
abbrev TI := St → Hp → (It → Hp → Prop) → Prop
/-- an iterator has come -/
def PIE (X : Cx) (pins : List (Addr × Obj)) (σ : St) (tg : Expr) (R : It → Hp → Prop) (itv : Value) (s2 : Shared) : Prop :=
  ∃ (it : Addr) (fp : List Addr) (tn : Nat → Heap → Prop) (J : It) (H' : Hp), itv = .ref it ∧ Inv X pins σ H' s2 ∧ Turn X.prog X.w X.K tg J fp it tn ∧ tn 0 s2.heap ∧ (∀ b ∈ fp, FpOk X pins H' b) ∧ R J H'
def PI (X : Cx) (tg iter : Expr) (wi : TI) : Prop :=
  ∀ (pins : List (Addr × Obj)) (s : Shared) (σ : St) (H : Hp) (R : It → Hp → Prop), Inv X pins σ H s → wi σ H R →
    wpAny (model X.prog X.w) X.A (eval iter X.env) (fun v s1 => wpAny (model X.prog X.w) X.A (pyIter v) (PIE X pins σ tg R) X.xe s1) X.xe s

/-- the step ahead of the store is nothing for an iterator that keeps no tuple -/
theorem go_of {M : Model} {A : Around} {E : Value → Shared → Prop} {s : Shared} {tg : Expr} {it : Addr} {u : Value} {o : Obj} {n : String} {vs : Array Value} {Q : Unit → Shared → Prop} (ho : s.heap.get? it = some o) (hc : o.cls = .type n) (hd : o.data = .fields vs)
    (hn : ["enumerate", "zip", "dict_itemiterator", "dict_reverseitemiterator", "odict_iterator", "itertools.zip_longest", "itertools.pairwise"].contains n = false) (hQ : Q () s) : wpAny M A (letOwnedTupleGo tg (.ref it) u) Q E s := by
  unfold letOwnedTupleGo
  cases tg <;> first
    | exact wpAny_pure hQ
    | (cases u <;> first
        | exact wpAny_pure hQ
        | (refine wpAny_bind (wpAny_load ho ?_)
           rw [hc, hd]
           show wpAny M A (if (["enumerate", "zip", "dict_itemiterator", "dict_reverseitemiterator", "odict_iterator", "itertools.zip_longest", "itertools.pairwise"].contains n && vs[0]? == some (rawInt _)) = true then _ else _) Q E s
           rw [if_neg (by intro h; rw [hn, Bool.false_and] at h; cases h)]
           exact wpAny_pure hQ))

/-- the list at a, as it stands at each turn (a loop may append to it) -/
def Itl (K : PySem.W.Frag) (a : Addr) : It :=
  ⟨fun i H => ∃ xs x, SqL K H a xs ∧ xs[i]? = some x, fun i H x H' => H' = H ∧ ∀ xs, SqL K H a xs → xs[i]? = some x, fun i H => ∃ xs, SqL K H a xs ∧ xs.length ≤ i⟩
def Itt (K : PySem.W.Frag) (a : Addr) : It :=
  ⟨fun i H => ∃ xs x, SqT K H a xs ∧ xs[i]? = some x, fun i H x H' => H' = H ∧ ∀ xs, SqT K H a xs → xs[i]? = some x, fun i H => ∃ xs, SqT K H a xs ∧ xs.length ≤ i⟩
/-- lo, lo + 1, .. (n of them) -/
def Itr (lo : Int) (n : Nat) : It := ⟨fun i _ => i < n, fun i H x H' => H' = H ∧ x = .int (lo + i), fun i _ => n ≤ i⟩
theorem turn_list {P : Program} {w : World} {K : PySem.W.Frag} {tg : Expr} (a it : Addr) : Turn P w K tg (Itl K a) [it] it (fun i h => h.IsListIter it a i) where
  mem := by simp
  obj := fun i h st b hb => by
    have e : b = it := by simpa using hb
    subst e
    obtain ⟨o, e, c, d⟩ := st
    exact ⟨o, e, fun v z => by rw [d] at z; cases z⟩
  keep := fun i h h' st k => st.at fun o e => k it (by simp) o e
  item := by
    intro X hP hw hK hc i pins s σ H E I hf st hg
    subst hP hw hK
    obtain ⟨xs, x, hq, hx⟩ := hg
    obtain ⟨its, rv, p, hz⟩ := I.list hq
    obtain ⟨u, hu, ru⟩ := rv.get hx
    obtain ⟨f0, f1, f2, f3, f4, f5⟩ := hf it (by simp)
    refine wpAny_pyNext_list_item st p.isList (x := u) (by simpa using hu) fun h' st' sb => ?_
    have I1 : Inv X pins σ H { s with heap := h' } := I.turned (t' := s.toks) (fun b o hb e => (sb.2 b hb).trans e) f0 f1 f3 f4 f5
    obtain ⟨o, e, c, d⟩ := id st'
    exact ⟨u, rfl, go_of (s := { s with heap := h' }) e c d (by decide) ⟨x, H, I1, ru, ⟨rfl, fun ys hy => by rw [I.list_inj hy hq]; exact hx⟩, st', fun b hb => (hf b hb).1⟩⟩
  done := by
    intro X hP hw hK hc i pins s σ H E I hf st hg
    subst hP hw hK
    obtain ⟨xs, hq, hx⟩ := hg
    obtain ⟨its, rv, p, hz⟩ := I.list hq
    obtain ⟨f0, f1, f2, f3, f4, f5⟩ := hf it (by simp)
    have hl := rv.length
    exact wpAny_pyNext_list_end (I.ok.hd hc) st p.isList (by simp; omega) fun h' eb => ⟨rfl, I.turned (t' := s.toks) (fun b o hb e => eb b o hb e) f0 f1 f3 f4 f5⟩
  self := fun _ _ _ _ _ st h => wpAny_pyIter_listiter st h
theorem turn_tuple {P : Program} {w : World} {K : PySem.W.Frag} {tg : Expr} (a it : Addr) : Turn P w K tg (Itt K a) [it] it (fun i h => h.IsTupleIter it a i) where
  mem := by simp
  obj := fun i h st b hb => by
    have e : b = it := by simpa using hb
    subst e
    obtain ⟨o, e, c, d⟩ := st
    exact ⟨o, e, fun v z => by rw [d] at z; cases z⟩
  keep := fun i h h' st k => st.at fun o e => k it (by simp) o e
  item := by
    intro X hP hw hK hc i pins s σ H E I hf st hg
    subst hP hw hK
    obtain ⟨xs, x, hq, hx⟩ := hg
    obtain ⟨its, rv, p, hz⟩ := I.tuple hq
    obtain ⟨u, hu, ru⟩ := rv.get hx
    obtain ⟨f0, f1, f2, f3, f4, f5⟩ := hf it (by simp)
    refine wpAny_pyNext_tuple_item st (show s.heap.IsTuple a its.toArray from p) (x := u) (by simpa using hu) fun h' st' sb => ?_
    have I1 : Inv X pins σ H { s with heap := h' } := I.turned (t' := s.toks) (fun b o hb e => (sb.2 b hb).trans e) f0 f1 f3 f4 f5
    obtain ⟨o, e, c, d⟩ := id st'
    exact ⟨u, rfl, go_of (s := { s with heap := h' }) e c d (by decide) ⟨x, H, I1, ru, ⟨rfl, fun ys hy => by rw [I.tuple_inj hy hq]; exact hx⟩, st', fun b hb => (hf b hb).1⟩⟩
  done := by
    intro X hP hw hK hc i pins s σ H E I hf st hg
    subst hP hw hK
    obtain ⟨xs, hq, hx⟩ := hg
    obtain ⟨its, rv, p, hz⟩ := I.tuple hq
    obtain ⟨f0, f1, f2, f3, f4, f5⟩ := hf it (by simp)
    have hl := rv.length
    exact wpAny_pyNext_tuple_end (I.ok.hd hc) st (show s.heap.IsTuple a its.toArray from p) (by simp; omega) fun h' eb => ⟨rfl, I.turned (t' := s.toks) (fun b o hb e => eb b o hb e) f0 f1 f3 f4 f5⟩
  self := fun _ _ _ _ _ st h => wpAny_pyIter_tupleiter st h
theorem turn_range {P : Program} {w : World} {K : PySem.W.Frag} {tg : Expr} (it : Addr) (lo : Int) (n : Nat) : Turn P w K tg (Itr lo n) [it] it (fun i h => IsRangeIter h it (lo + (i : Nat) * 1) ((n : Int) - (i : Nat)) 1) where
  mem := by simp
  obj := fun i h st b hb => by
    have e : b = it := by simpa using hb
    subst e
    exact ⟨_, st, fun v z => by
      have z' : Data.fields _ = Data.cell v := z
      cases z'⟩
  keep := fun i h h' st k => k it (by simp) _ st
  item := by
    intro X hP hw hK hc i pins s σ H E I hf st hg
    subst hP hw hK
    obtain ⟨f0, f1, f2, f3, f4, f5⟩ := hf it (by simp)
    have W := Walks.range (prog := X.prog) (w := X.w) (I.ok.hd hc) it lo 1 n
    refine W.item i s _ _ hg st fun v h' tk hv st' kk => ?_
    obtain ⟨t, rfl⟩ := hv
    have I1 : Inv X pins σ H { s with heap := h', toks := tk } := I.turned (fun b o hb e => kk b o (by simpa using hb) e) f0 f1 f3 f4 f5
    refine ⟨_, rfl, go_of (s := { s with heap := h', toks := tk }) (n := "range_iterator") st' rfl rfl (by decide) ⟨.int (lo + i), H, I1, ⟨t, ?_⟩, ⟨rfl, rfl⟩, st', fun b hb => (hf b hb).1⟩⟩
    rw [Int.mul_one]
  done := by
    intro X hP hw hK hc i pins s σ H E I hf st hg
    subst hP hw hK
    obtain ⟨f0, f1, f2, f3, f4, f5⟩ := hf it (by simp)
    exact wpAny_pyNext_range_end (I.ok.hd hc) st (by have : n ≤ i := hg; omega) fun h' eb => ⟨rfl, I.turned (t' := s.toks) (fun b o hb e => eb b o hb e) f0 f1 f3 f4 f5⟩
  self := fun _ _ _ _ _ st h => wpAny_pyIter_rangeiter st h
end L2

namespace L2
open PySem PySem.Spec PyProof.Rows
section
variable {X : Cx} {tg : Expr}
def iList (K : PySem.W.Frag) (tl : TE) : TI := fun σ H R => tl σ H fun x H1 => ∃ a, x = .ref a ∧ (∃ xs, SqL K H1 a xs) ∧ R (Itl K a) H1
def iTup (K : PySem.W.Frag) (tl : TE) : TI := fun σ H R => tl σ H fun x H1 => ∃ a, x = .ref a ∧ (∃ xs, SqT K H1 a xs) ∧ R (Itt K a) H1
theorem pi_list {l : Expr} {tl : TE} (hl : PE X l tl) : PI X tg l (iList X.K tl) := by
  intro pins s σ H R I h
  refine thn (hl pins s σ H _ I h) fun v s1 ⟨x, H1, I1, r1, q1⟩ => ?_
  obtain ⟨a, e, ⟨xs, hq⟩, q⟩ := q1
  subst e
  cases r1
  obtain ⟨its, rv, p, hz⟩ := I1.list hq
  refine wpAny_pyIter_list p.isList ?_
  refine ⟨s1.heap.objs.size, [s1.heap.objs.size], _, _, H1, rfl, I1.kept (t' := s1.toks) fun b o e => Heap.get?_push_of_some _ e, turn_list a _, ⟨_, Heap.get?_push_size _ rfl, rfl, rfl⟩, fun b hb => ?_, q⟩
  have e : b = s1.heap.objs.size := by simpa using hb
  subst e
  exact I1.fpOk (Nat.le_refl _) (I1.hok.fresh (Nat.le_refl _))
theorem pi_tup {l : Expr} {tl : TE} (hl : PE X l tl) : PI X tg l (iTup X.K tl) := by
  intro pins s σ H R I h
  refine thn (hl pins s σ H _ I h) fun v s1 ⟨x, H1, I1, r1, q1⟩ => ?_
  obtain ⟨a, e, ⟨xs, hq⟩, q⟩ := q1
  subst e
  cases r1
  obtain ⟨its, rv, p, hz⟩ := I1.tuple hq
  refine wpAny_pyIter_tuple (show s1.heap.IsTuple a its.toArray from p) ?_
  refine ⟨s1.heap.objs.size, [s1.heap.objs.size], _, _, H1, rfl, I1.kept (t' := s1.toks) fun b o e => Heap.get?_push_of_some _ e, turn_tuple a _, ⟨_, Heap.get?_push_size _ rfl, rfl, rfl⟩, fun b hb => ?_, q⟩
  have e : b = s1.heap.objs.size := by simpa using hb
  subst e
  exact I1.fpOk (Nat.le_refl _) (I1.hok.fresh (Nat.le_refl _))
/-- a range object just made, walked -/
theorem range_it {pins : List (Addr × Obj)} {σ : St} {H : Hp} {s : Shared} {R : It → Hp → Prop} {E : Value → Shared → Prop} {lo hi : Int} {t u v : Tok} {tk : Nat} (I : Inv X pins σ H s) (h1 : -(2 ^ 62) ≤ lo) (h2 : lo < 2 ^ 62) (h3 : -(2 ^ 62) ≤ hi) (h4 : hi < 2 ^ 62)
    (q : R (Itr lo (hi - lo).toNat) H) : wpAny (model X.prog X.w) X.A (pyIter (.ref s.heap.objs.size)) (PIE X pins σ tg R) E { s with heap := s.heap.push { cls := .type "range", data := .fields #[.int lo t, .int hi u, .int 1 v] }, toks := tk } := by
  refine wpAny_pyIter_range (IsRange.new ..) (small_one h1 h2 h3 h4) ?_
  have I1 : Inv X pins σ H { s with heap := s.heap.push { cls := .type "range", data := .fields #[.int lo t, .int hi u, .int 1 v] }, toks := tk } := I.kept fun b o e => Heap.get?_push_of_some _ e
  refine ⟨(s.heap.push { cls := .type "range", data := .fields #[.int lo t, .int hi u, .int 1 v] }).objs.size, [(s.heap.push { cls := .type "range", data := .fields #[.int lo t, .int hi u, .int 1 v] }).objs.size], _, _, H, rfl,
    I1.kept (t' := tk) fun b o e => Heap.get?_push_of_some _ e, turn_range _ lo (hi - lo).toNat, ?_, fun b hb => ?_, q⟩
  · have e1 : lo + ((0 : Nat) : Int) * 1 = lo := by simp
    have e2 : (((hi - lo).toNat : Nat) : Int) - ((0 : Nat) : Int) = Builtin.Range.rangeSize lo hi 1 := by rw [rangeSize_one]; split <;> omega
    show IsRangeIter _ _ (lo + ((0 : Nat) : Int) * 1) ((((hi - lo).toNat : Nat) : Int) - ((0 : Nat) : Int)) 1
    rw [e1, e2]
    exact Heap.get?_push_size _ rfl
  · have e : b = (s.heap.push { cls := .type "range", data := .fields #[.int lo t, .int hi u, .int 1 v] }).objs.size := by simpa using hb
    subst e
    exact I1.fpOk (Nat.le_refl _) (I1.hok.fresh (Nat.le_refl _))
def iRng1 (ta : TA) : TI := fun σ H R => ta σ H fun vs H1 => ∃ j : Int, vs = [.int j] ∧ -(2 ^ 62) ≤ j ∧ j < 2 ^ 62 ∧ R (Itr 0 j.toNat) H1
def iRng2 (ta : TA) : TI := fun σ H R => ta σ H fun vs H1 => ∃ i j : Int, vs = [.int i, .int j] ∧ (-(2 ^ 62) ≤ i ∧ i < 2 ^ 62 ∧ -(2 ^ 62) ≤ j ∧ j < 2 ^ 62) ∧ R (Itr i (j - i).toNat) H1
theorem pi_range1 {a : Expr} {ta : TA} {p pos : Pos} (hg : Gl X "range") (hm : X.mg "range" = none) (ha : PA X [a] ta) (hs : starEach [a] X.env = [(false, eval a X.env)] := by rfl) : PI X tg (.Call (.Name "range" p) [a] [] pos) (iRng1 ta) := by
  intro pins s σ H R I h
  refine Call_ (ld_blt I hg hm boot_range (PyProof.Rows.callWith_type1 (thn (ha pos pins s σ H _ I h) fun us s1 ⟨vs, H1, I1, r1, q1⟩ => ?_) hs rfl))
  obtain ⟨j, e, q1, q2, q⟩ := q1
  subst e
  cases r1 with
  | cons r rr =>
    cases rr
    obtain ⟨t, rfl⟩ := r
    exact call_range_1 (range_it I1 (by omega) (by omega) q1 q2 (by simpa using q))
theorem pi_range2 {a b : Expr} {ta : TA} {p pos : Pos} (hg : Gl X "range") (hm : X.mg "range" = none) (ha : PA X [a, b] ta) (hs : starEach [a, b] X.env = [(false, eval a X.env), (false, eval b X.env)] := by rfl) (hs2 : starEach [b] X.env = [(false, eval b X.env)] := by rfl) :
    PI X tg (.Call (.Name "range" p) [a, b] [] pos) (iRng2 ta) := by
  intro pins s σ H R I h
  refine Call_ (ld_blt I hg hm boot_range (PyProof.Rows.callWith_type1 (thn (ha pos pins s σ H _ I h) fun us s1 ⟨vs, H1, I1, r1, q1⟩ => ?_) (by rw [hs, hs2]) (by rw [hs2]; rfl)))
  obtain ⟨i, j, e, ⟨q1, q2, q3, q4⟩, q⟩ := q1
  subst e
  cases r1 with
  | cons r rr =>
    cases rr with
    | cons r' rr =>
      cases rr
      obtain ⟨t, rfl⟩ := r
      obtain ⟨t', rfl⟩ := r'
      exact call_range_2 (range_it I1 q1 q2 q3 q4 q)

/-! ### for -/
/-- W: the invariant by the turn and a measure; N: what the body is to reach -/
def tFor (wi : TI) (g : TG) (tb : TS) : TS := fun D σ H => wi σ H fun J H1 => ∃ W : Nat → Nat → St → Hp → Prop, (∃ m, W 0 m σ H1) ∧ ∀ i m σ H, W i m σ H →
  (J.stop i H ∧ D.nx σ H) ∨ (J.go i H ∧ ∃ N : St → Hp → Prop, (∀ σ' H', N σ' H' → ∃ m', m' < m ∧ W (i + 1) m' σ' H') ∧ ∀ x H', J.yld i H x H' → g x σ H' fun σ2 H2 => tb { D with nx := N, ct := N, bk := D.nx } σ2 H2)
/-- the records at fp as they stand -/
def pinsAt (fp : List Addr) (h : Heap) : List (Addr × Obj) := fp.filterMap fun b => (h.get? b).map fun o => (b, o)
theorem mem_pinsAt {fp : List Addr} {h : Heap} {b : Addr} {o : Obj} (hb : b ∈ fp) (e : h.get? b = some o) : (b, o) ∈ pinsAt fp h := List.mem_filterMap.mpr ⟨b, hb, by rw [e]; rfl⟩
theorem of_pinsAt {fp : List Addr} {h : Heap} {p : Addr × Obj} (hp : p ∈ pinsAt fp h) : p.1 ∈ fp ∧ h.get? p.1 = some p.2 := by
  obtain ⟨b, hb, e⟩ := List.mem_filterMap.mp hp
  cases q : h.get? b with
  | none => rw [q] at e; cases e
  | some o =>
    rw [q] at e
    have e' : (b, o) = p := Option.some.inj e
    subst e'
    exact ⟨hb, q⟩
theorem Inv.pinned {pins : List (Addr × Obj)} {σ : St} {H : Hp} {s : Shared} {fp : List Addr} (I : Inv X pins σ H s) (hf : ∀ b ∈ fp, FpOk X pins H b) (ho : ∀ b ∈ fp, ∃ o, s.heap.get? b = some o ∧ ∀ v, o.data ≠ .cell v) : Inv X (pins ++ pinsAt fp s.heap) σ H s :=
  I.pins_of fun p hp => (List.mem_append.mp hp).elim (fun z => I.pin p (List.mem_append_right _ z)) fun z => by
    obtain ⟨hb, e⟩ := of_pinsAt z
    obtain ⟨f0, f1, f2, _⟩ := hf p.1 hb
    obtain ⟨o, e', d⟩ := ho p.1 hb
    rw [e] at e'; cases e'
    exact ⟨e, f0, f1, f2, d⟩
theorem Inv.unpinned {pins pl : List (Addr × Obj)} {σ : St} {H : Hp} {s : Shared} (I : Inv X (pins ++ pl) σ H s) : Inv X pins σ H s := I.pins_of fun p hp => I.pin p (List.mem_append_right _ (List.mem_append_left _ hp))
theorem ps_for {iter : Expr} {body : List Stmt} {wi : TI} {g : TG} {tb : TS} {pos : Pos} (hp : PassesOwn (model X.prog X.w) X.A X.env X.xe) (hc : X.calm = true) (hi : PI X tg iter wi) (hg : PG X tg g) (hb : PSs X body tb)
    (hs : ∀ x, foldedSetIterable iter X.env x = pure x := by intro _; rfl) : PS X (.For tg iter body [] pos) (tFor wi g tb) := by
  intro pins s σ H D I h
  refine wpAny_For (thn (hi pins s σ H _ I h) fun v s1 h1 => thn h1 fun itv s2 h2 => ?_) hs
  obtain ⟨it, fp, tn, J, H2, e, I2, T, st2, f2, W, ⟨m0, w0⟩, turn⟩ := h2
  subst e
  -- what stays true of the iterator's objects through the loop
  have stat : ∀ {H' : Hp}, (∀ b ∈ fp, H' b = none) → ∀ b ∈ fp, FpOk X pins H' b := fun hn b hb => ⟨hn b hb, (f2 b hb).2⟩
  refine codeAny_forLoop_any (fun n s' => ∃ i σ' H', Inv X pins σ' H' s' ∧ tn i s'.heap ∧ (∀ b ∈ fp, H' b = none) ∧ W i n σ' H') ?_ m0 ⟨0, σ, H2, I2, st2, fun b hb => (f2 b hb).1, w0⟩
  rintro n s3 ⟨i, σ3, H3, I3, st3, fr3, w3⟩
  rcases turn i n σ3 H3 w3 with ⟨stop, qn⟩ | ⟨go, N, hN, step⟩
  · refine wpAny_passesOwn hp (thn (T.done X rfl rfl rfl hc i pins s3 σ3 H3 X.xe I3 (stat fr3) st3 stop) fun r s4 ⟨hr, I4⟩ => ?_)
    subst hr
    exact wpAny_execs_nil ⟨σ3, H3, I4, qn⟩
  · refine wpAny_passesOwn hp (thn (T.item X rfl rfl rfl hc i pins s3 σ3 H3 X.xe I3 (stat fr3) st3 go) fun r s4 ⟨u, hr, h4⟩ => ?_)
    subst hr
    refine wpAny_passesOwn hp (thn h4 fun _ s5 ⟨x, H5, I5, r5, y5, st5, fr5⟩ => ?_)
    have I5' := I5.pinned (stat fr5) (T.obj _ _ st5)
    refine wpAny_passesOwn hp (thn (hg _ s5 σ3 H5 x u _ I5' r5 (step x H5 y5)) fun _ s6 ⟨σ6, H6, I6, q6⟩ => ?_)
    refine wpAny_passesOwn hp (thn (hb _ s6 σ6 H6 _ I6 q6) fun f s7 q7 => ?_)
    have again : ∀ {σ7 : St} {H7 : Hp}, Inv X (pins ++ pinsAt fp s5.heap) σ7 H7 s7 → N σ7 H7 → ∃ m, m < n ∧ ∃ i σ' H', Inv X pins σ' H' s7 ∧ tn i s7.heap ∧ (∀ b ∈ fp, H' b = none) ∧ W i m σ' H' := fun {σ7 H7} I7 n7 => by
      obtain ⟨m', hm, w7⟩ := hN σ7 H7 n7
      refine ⟨m', hm, i + 1, σ7, H7, I7.unpinned, T.keep _ _ _ st5 fun b hb o e => (I7.pin (b, o) (List.mem_append_right _ (List.mem_append_right _ (mem_pinsAt hb e)))).1, fun b hb => ?_, w7⟩
      obtain ⟨o, e, d⟩ := T.obj _ _ st5 b hb
      exact (I7.pin (b, o) (List.mem_append_right _ (List.mem_append_right _ (mem_pinsAt hb e)))).2.1
    cases f with
    | next => obtain ⟨σ7, H7, I7, n7⟩ := q7; exact again I7 n7
    | cont => obtain ⟨σ7, H7, I7, n7⟩ := q7; exact again I7 n7
    | brk => obtain ⟨σ7, H7, I7, q7⟩ := q7; exact ⟨σ7, H7, I7.unpinned, q7⟩
    | ret v => obtain ⟨x7, σ7, H7, I7, r7, q7⟩ := q7; exact ⟨x7, σ7, H7, I7.unpinned, r7, q7⟩
end

/-! ### the forms one uses -/
/-- over a list that the body leaves as it is -/
theorem for_list {K : PySem.W.Frag} {a : Addr} {xs : List V} {g : TG} {tb : TS} {D : Ends} {σ : St} {H : Hp} (Pv : Nat → St → Hp → Prop) (h0 : Pv 0 σ H) (hl : ∀ i σ H, i ≤ xs.length → Pv i σ H → SqL K H a xs)
    (hs : ∀ i x σ H, xs[i]? = some x → Pv i σ H → g x σ H fun σ2 H2 => tb { D with nx := Pv (i + 1), ct := Pv (i + 1), bk := D.nx } σ2 H2) (hd : ∀ σ H, Pv xs.length σ H → D.nx σ H) :
    ∃ W : Nat → Nat → St → Hp → Prop, (∃ m, W 0 m σ H) ∧ ∀ i m σ H, W i m σ H →
      ((Itl K a).stop i H ∧ D.nx σ H) ∨ ((Itl K a).go i H ∧ ∃ N : St → Hp → Prop, (∀ σ' H', N σ' H' → ∃ m', m' < m ∧ W (i + 1) m' σ' H') ∧ ∀ x H', (Itl K a).yld i H x H' → g x σ H' fun σ2 H2 => tb { D with nx := N, ct := N, bk := D.nx } σ2 H2) := by
  refine ⟨fun i m σ H => m = xs.length - i ∧ i ≤ xs.length ∧ Pv i σ H, ⟨xs.length, by simp, Nat.zero_le _, h0⟩, ?_⟩
  rintro i m σ H ⟨rfl, hi, p⟩
  have q := hl i σ H hi p
  by_cases hlt : i < xs.length
  · refine .inr ⟨⟨xs, xs[i], q, by simp [hlt]⟩, Pv (i + 1), fun σ' H' p' => ⟨xs.length - (i + 1), by omega, rfl, hlt, p'⟩, fun x H' y => ?_⟩
    obtain ⟨e, y⟩ := y
    subst e
    exact hs i x σ _ (y xs q) p
  · have e : i = xs.length := by omega
    subst e
    exact .inl ⟨⟨xs, q, Nat.le_refl _⟩, hd σ H p⟩
theorem for_tup {K : PySem.W.Frag} {a : Addr} {xs : List V} {g : TG} {tb : TS} {D : Ends} {σ : St} {H : Hp} (Pv : Nat → St → Hp → Prop) (h0 : Pv 0 σ H) (hl : ∀ i σ H, i ≤ xs.length → Pv i σ H → SqT K H a xs)
    (hs : ∀ i x σ H, xs[i]? = some x → Pv i σ H → g x σ H fun σ2 H2 => tb { D with nx := Pv (i + 1), ct := Pv (i + 1), bk := D.nx } σ2 H2) (hd : ∀ σ H, Pv xs.length σ H → D.nx σ H) :
    ∃ W : Nat → Nat → St → Hp → Prop, (∃ m, W 0 m σ H) ∧ ∀ i m σ H, W i m σ H →
      ((Itt K a).stop i H ∧ D.nx σ H) ∨ ((Itt K a).go i H ∧ ∃ N : St → Hp → Prop, (∀ σ' H', N σ' H' → ∃ m', m' < m ∧ W (i + 1) m' σ' H') ∧ ∀ x H', (Itt K a).yld i H x H' → g x σ H' fun σ2 H2 => tb { D with nx := N, ct := N, bk := D.nx } σ2 H2) := by
  refine ⟨fun i m σ H => m = xs.length - i ∧ i ≤ xs.length ∧ Pv i σ H, ⟨xs.length, by simp, Nat.zero_le _, h0⟩, ?_⟩
  rintro i m σ H ⟨rfl, hi, p⟩
  have q := hl i σ H hi p
  by_cases hlt : i < xs.length
  · refine .inr ⟨⟨xs, xs[i], q, by simp [hlt]⟩, Pv (i + 1), fun σ' H' p' => ⟨xs.length - (i + 1), by omega, rfl, hlt, p'⟩, fun x H' y => ?_⟩
    obtain ⟨e, y⟩ := y
    subst e
    exact hs i x σ _ (y xs q) p
  · have e : i = xs.length := by omega
    subst e
    exact .inl ⟨⟨xs, q, Nat.le_refl _⟩, hd σ H p⟩
theorem for_range {lo : Int} {n : Nat} {g : TG} {tb : TS} {D : Ends} {σ : St} {H : Hp} (Pv : Nat → St → Hp → Prop) (h0 : Pv 0 σ H)
    (hs : ∀ i σ H, i < n → Pv i σ H → g (.int (lo + i)) σ H fun σ2 H2 => tb { D with nx := Pv (i + 1), ct := Pv (i + 1), bk := D.nx } σ2 H2) (hd : ∀ σ H, Pv n σ H → D.nx σ H) :
    ∃ W : Nat → Nat → St → Hp → Prop, (∃ m, W 0 m σ H) ∧ ∀ i m σ H, W i m σ H →
      ((Itr lo n).stop i H ∧ D.nx σ H) ∨ ((Itr lo n).go i H ∧ ∃ N : St → Hp → Prop, (∀ σ' H', N σ' H' → ∃ m', m' < m ∧ W (i + 1) m' σ' H') ∧ ∀ x H', (Itr lo n).yld i H x H' → g x σ H' fun σ2 H2 => tb { D with nx := N, ct := N, bk := D.nx } σ2 H2) := by
  refine ⟨fun i m σ H => m = n - i ∧ i ≤ n ∧ Pv i σ H, ⟨n, by simp, Nat.zero_le _, h0⟩, ?_⟩
  rintro i m σ H ⟨rfl, hi, p⟩
  by_cases hlt : i < n
  · refine .inr ⟨hlt, Pv (i + 1), fun σ' H' p' => ⟨n - (i + 1), by omega, rfl, hlt, p'⟩, fun x H' y => ?_⟩
    obtain ⟨e, y⟩ := y
    subst e y
    exact hs i σ _ hlt p
  · have e : i = n := by omega
    subst e
    exact .inl ⟨Nat.le_refl _, hd σ H p⟩
/-- while, by a word and a measure of the state -/
theorem while_by {c : TT} {tb : TS} {D : Ends} {σ : St} {H : Hp} (Pv : St → Hp → Prop) (μ : St → Hp → Nat) (h0 : Pv σ H)
    (hs : ∀ σ H, Pv σ H → c σ H fun b H1 => if b = true then tb { D with nx := fun σ' H' => Pv σ' H' ∧ μ σ' H' < μ σ H, ct := fun σ' H' => Pv σ' H' ∧ μ σ' H' < μ σ H, bk := D.nx } σ H1 else D.nx σ H1)
    (mono : ∀ σ H Q Q', (∀ b H1, Q b H1 → Q' b H1) → c σ H Q → c σ H Q') : tWhile c tb D σ H := by
  refine ⟨fun m σ H => m = μ σ H ∧ Pv σ H, ⟨_, rfl, h0⟩, ?_⟩
  rintro m σ H ⟨rfl, p⟩
  refine mono σ H _ _ (fun b H1 q => ?_) (hs σ H p)
  cases b with
  | true => exact ⟨_, fun σ' H' ⟨p', l⟩ => ⟨_, l, rfl, p'⟩, q⟩
  | false => exact q
end L2

namespace L2
open PySem PySem.Spec PyProof.Rows

abbrev R2 := V → V → Hp → VK → Prop
/-- a two-place operation on values: f is binaryOp op, inplaceOp op or compareOp op -/
def OpR (X : Cx) (f : Value → Value → Sem Value) (r : R2) : Prop :=
  ∀ (pins : List (Addr × Obj)) (s : Shared) (σ : St) (H : Hp) (x y : V) (v u : Value) (Q : VK), Inv X pins σ H s → RelV x v → RelV y u → r x y H Q →
    wpAny (model X.prog X.w) X.A (f v u) (EP X pins σ Q) X.xe s
/-- a one-place operation -/
def UnR (X : Cx) (f : Value → Sem Value) (r : V → Hp → VK → Prop) : Prop :=
  ∀ (pins : List (Addr × Obj)) (s : Shared) (σ : St) (H : Hp) (x : V) (v : Value) (Q : VK), Inv X pins σ H s → RelV x v → r x H Q →
    wpAny (model X.prog X.w) X.A (f v) (EP X pins σ Q) X.xe s
/-- a call of a value that is known (a builtin, a type) with values -/
def CallR (X : Cx) (f : Value) (r : List V → Hp → VK → Prop) : Prop :=
  ∀ (pins : List (Addr × Obj)) (s : Shared) (σ : St) (H : Hp) (xs : List V) (us : List Value) (Q : VK), Inv X pins σ H s → Vals xs us → r xs H Q →
    wpAny (model X.prog X.w) X.A (call f us) (EP X pins σ Q) X.xe s
/-- a value's truth -/
def TruR (X : Cx) (r : V → Hp → (Bool → Hp → Prop) → Prop) : Prop :=
  ∀ (pins : List (Addr × Obj)) (s : Shared) (σ : St) (H : Hp) (x : V) (v : Value) (Q : Bool → Hp → Prop), Inv X pins σ H s → RelV x v → r x H Q →
    wpAny (model X.prog X.w) X.A (truthy v) (TP X pins σ Q) X.xe s

def tOp (r : R2) (ta tb : TE) : TE := fun σ H Q => ta σ H fun x H1 => tb σ H1 fun y H2 => r x y H2 Q
def tUn (r : V → Hp → VK → Prop) (ta : TE) : TE := fun σ H Q => ta σ H fun x H1 => r x H1 Q
/-- ints in, under C, and a value out -/
def rI (C : Int → Int → Prop) (g : Int → Int → V) : R2 := fun x y H Q => ∃ i j, x = .int i ∧ y = .int j ∧ C i j ∧ Q (g i j) H
def rI0 (g : Int → Int → V) : R2 := fun x y H Q => ∃ i j, x = .int i ∧ y = .int j ∧ Q (g i j) H
def rU (g : Int → V) : V → Hp → VK → Prop := fun x H Q => ∃ i, x = .int i ∧ Q (g i) H

section
variable {X : Cx} {a b c : Expr} {ta tb tc : TE} {pos : Pos}

theorem binT (ha : PE X a ta) (hb : PE X b tb) {pins : List (Addr × Obj)} {s : Shared} {σ : St} {H : Hp} {R : V → V → Hp → Prop} (I : Inv X pins σ H s)
    (h : ta σ H fun x H1 => tb σ H1 fun y H2 => R x y H2) {Q : Value → Shared → Prop} {f : Value → Value → Sem Value}
    (hf : ∀ v u s2 x y H2, Inv X pins σ H2 s2 → RelV x v → RelV y u → R x y H2 → wpAny (model X.prog X.w) X.A (f v u) Q X.xe s2) :
    wpAny (model X.prog X.w) X.A (eval a X.env) (fun v s₁ => wpAny (model X.prog X.w) X.A (eval b X.env) (fun u s₂ => wpAny (model X.prog X.w) X.A (f v u) Q X.xe s₂) X.xe s₁) X.xe s := by
  refine thn (ha pins s σ H _ I h) fun v s1 ⟨x, H1, I1, r1, q1⟩ => ?_
  refine thn (hb pins s1 σ H1 _ I1 q1) fun u s2 ⟨y, H2, I2, r2, q2⟩ => ?_
  exact hf v u s2 x y H2 I2 r1 r2 q2

theorem pe_op {op : Operator} {r : R2} (ho : OpR X (binaryOp op) r) (ha : PE X a ta) (hb : PE X b tb) : PE X (.BinOp a op b pos) (tOp r ta tb) := by
  intro pins s σ H Q I h
  exact wpAny_BinOp (binT ha hb I h fun v u s2 x y H2 I2 rx ry q => ho pins s2 σ H2 x y v u Q I2 rx ry q)
theorem pe_un {op : UnaryOp} {r : V → Hp → VK → Prop} (ho : UnR X (unaryOp op) r) (ha : PE X a ta) : PE X (.UnaryOp op a pos) (tUn r ta) := by
  intro pins s σ H Q I h
  exact UnaryOp_ (thn (ha pins s σ H _ I h) fun v s1 ⟨x, H1, I1, r1, q1⟩ => ho pins s1 σ H1 x v Q I1 r1 q1)
/-- a op= e at a name: the name's slot i -/
theorem augR {op : Operator} {r : R2} (ho : OpR X (inplaceOp op) r) {pins : List (Addr × Obj)} {s : Shared} {σ : St} {H : Hp} {x y : V} {v u : Value} {Q : VK} (I : Inv X pins σ H s)
    (rx : RelV x v) (ry : RelV y u) (q : r x y H Q) : wpAny (model X.prog X.w) X.A (inplaceOp op v u) (EP X pins σ Q) X.xe s := ho pins s σ H x y v u Q I rx ry q

/-! ### ints -/
theorem opI {f : Value → Value → Sem Value} {C : Int → Int → Prop} {g : Int → Int → Int}
    (rule : ∀ (i j : Int) (t u : Tok) (s : Shared) (Q : Value → Shared → Prop) (E : Value → Shared → Prop), C i j → Q (.int (g i j) s.toks) { s with toks := s.toks + 1 } → wpAny (model X.prog X.w) X.A (f (.int i t) (.int j u)) Q E s) :
    OpR X f (rI C fun i j => .int (g i j)) := by
  intro pins s σ H x y v u Q I rx ry h
  obtain ⟨i, j, rfl, rfl, hc, q⟩ := h
  obtain ⟨t, rfl⟩ := rx
  obtain ⟨t', rfl⟩ := ry
  exact rule i j t t' s _ _ hc ⟨.int (g i j), H, I.tok _, ⟨_, rfl⟩, q⟩
theorem opI0 {f : Value → Value → Sem Value} {g : Int → Int → Int}
    (rule : ∀ (i j : Int) (t u : Tok) (s : Shared) (Q : Value → Shared → Prop) (E : Value → Shared → Prop), Q (.int (g i j) s.toks) { s with toks := s.toks + 1 } → wpAny (model X.prog X.w) X.A (f (.int i t) (.int j u)) Q E s) :
    OpR X f (rI0 fun i j => .int (g i j)) := by
  intro pins s σ H x y v u Q I rx ry h
  obtain ⟨i, j, rfl, rfl, q⟩ := h
  obtain ⟨t, rfl⟩ := rx
  obtain ⟨t', rfl⟩ := ry
  exact rule i j t t' s _ _ ⟨.int (g i j), H, I.tok _, ⟨_, rfl⟩, q⟩
theorem opB0 {f : Value → Value → Sem Value} {g : Int → Int → Bool}
    (rule : ∀ (i j : Int) (t u : Tok) (s : Shared) (Q : Value → Shared → Prop) (E : Value → Shared → Prop), Q (.bool (g i j)) s → wpAny (model X.prog X.w) X.A (f (.int i t) (.int j u)) Q E s) :
    OpR X f (rI0 fun i j => .bl (g i j)) := by
  intro pins s σ H x y v u Q I rx ry h
  obtain ⟨i, j, rfl, rfl, q⟩ := h
  obtain ⟨t, rfl⟩ := rx
  obtain ⟨t', rfl⟩ := ry
  exact rule i j t t' s _ _ ⟨.bl (g i j), H, I, rfl, q⟩

def CDiv (i j : Int) : Prop := 0 < j ∧ j < 1073741824
def CDivN (i j : Int) : Prop := j ≠ 0 ∧ j.natAbs < 1073741824
def CPow (i j : Int) : Prop := 0 ≤ j ∧ j ≤ 1000000 ∧ i.natAbs < 2 ^ 64
def CMul (i j : Int) : Prop := (-(2 ^ 64) < i ∧ i < 2 ^ 64) ∨ (-(2 ^ 64) < j ∧ j < 2 ^ 64)
theorem CMul.ok {i j : Int} (h : CMul i j) : IntMulOk i j := by
  rcases h with ⟨h1, h2⟩ | ⟨h1, h2⟩
  · exact .of_left (intBits_le_64 h1 h2)
  · exact .of_right (intBits_le_64 h1 h2)
theorem two_pow_nn (k : Nat) : (0 : Int) ≤ 2 ^ k := by
  rw [two_pow_cast]
  exact Int.natCast_nonneg _

theorem op_add : OpR X (binaryOp .Add) (rI0 fun i j => .int (i + j)) := opI0 fun _ _ _ _ _ _ _ q => add_int q
theorem op_sub : OpR X (binaryOp .Sub) (rI0 fun i j => .int (i - j)) := opI0 fun _ _ _ _ _ _ _ q => sub_int q
theorem op_mul : OpR X (binaryOp .Mult) (rI CMul fun i j => .int (i * j)) := opI fun _ _ _ _ _ _ _ hc q => mul_int q hc.ok
/-- // by a positive divisor -/
theorem op_fdiv : OpR X (binaryOp .FloorDiv) (rI CDiv fun i j => .int (i / j)) := opI fun i j _ _ _ _ _ hc q => by
  have h1 : (0 : Int) < j := hc.1
  have h2 : j < 1073741824 := hc.2
  exact floordiv_int (by omega) (by rw [Int.fdiv_eq_ediv_of_nonneg i (by omega)]; exact q) (.inl (PyProof.noPylong_small (by omega)))
theorem op_fdivN : OpR X (binaryOp .FloorDiv) (rI CDivN fun i j => .int (i.fdiv j)) := opI fun _ _ _ _ _ _ _ hc q => floordiv_int hc.1 q (.inl (PyProof.noPylong_small hc.2))
/-- % by a positive divisor of any size -/
theorem op_mod : OpR X (binaryOp .Mod) (rI (fun _ j => 0 < j) fun i j => .int (i % j)) := opI fun i j _ _ _ _ _ hc q => by
  have h1 : (0 : Int) < j := hc
  exact mod_int' (by omega) (by rw [Int.fmod_eq_emod_of_nonneg i (by omega)]; exact q)
theorem op_modN : OpR X (binaryOp .Mod) (rI (fun _ j => j ≠ 0) fun i j => .int (i.fmod j)) := opI fun _ _ _ _ _ _ _ hc q => mod_int' hc q
theorem op_pow : OpR X (binaryOp .Pow) (rI CPow fun i j => .int (i ^ j.toNat)) := opI fun _ _ _ _ _ _ _ hc q => pow_int_small hc.1 hc.2.1 hc.2.2 q
theorem op_shl : OpR X (binaryOp .LShift) (rI CPow fun i j => .int (i * 2 ^ j.toNat)) := opI fun _ _ _ _ _ _ _ hc q => lshift_int_small hc.1 hc.2.1 hc.2.2 q
theorem op_shr : OpR X (binaryOp .RShift) (rI (fun _ j => 0 ≤ j) fun i j => .int (i / 2 ^ j.toNat)) := opI fun i j _ _ _ _ _ hc q =>
  rshift_int hc (by rw [Int.fdiv_eq_ediv_of_nonneg i (two_pow_nn _)]; exact q)
theorem op_and : OpR X (binaryOp .BitAnd) (rI0 fun i j => .int (Builtin.bitAnd i j)) := opI0 fun _ _ _ _ _ _ _ q => and_int q
theorem op_or : OpR X (binaryOp .BitOr) (rI0 fun i j => .int (Builtin.bitOr i j)) := opI0 fun _ _ _ _ _ _ _ q => or_int q
theorem op_xor : OpR X (binaryOp .BitXor) (rI0 fun i j => .int (Builtin.bitXor i j)) := opI0 fun _ _ _ _ _ _ _ q => xor_int q

theorem iop_add : OpR X (inplaceOp .Add) (rI0 fun i j => .int (i + j)) := opI0 fun _ _ _ _ _ _ _ q => iadd_int q
theorem iop_sub : OpR X (inplaceOp .Sub) (rI0 fun i j => .int (i - j)) := opI0 fun _ _ _ _ _ _ _ q => isub_int q
theorem iop_mul : OpR X (inplaceOp .Mult) (rI CMul fun i j => .int (i * j)) := opI fun _ _ _ _ _ _ _ hc q => imul_int q hc.ok
theorem iop_fdiv : OpR X (inplaceOp .FloorDiv) (rI CDiv fun i j => .int (i / j)) := opI fun i j _ _ _ _ _ hc q => by
  have h1 : (0 : Int) < j := hc.1
  have h2 : j < 1073741824 := hc.2
  exact ifloordiv_int (by omega) (by rw [Int.fdiv_eq_ediv_of_nonneg i (by omega)]; exact q) (.inl (PyProof.noPylong_small (by omega)))
theorem iop_mod : OpR X (inplaceOp .Mod) (rI (fun _ j => 0 < j) fun i j => .int (i % j)) := opI fun i j _ _ _ _ _ hc q => by
  have h1 : (0 : Int) < j := hc
  exact imod_int (by omega) (by rw [Int.fmod_eq_emod_of_nonneg i (by omega)]; exact q)
theorem iop_shl : OpR X (inplaceOp .LShift) (rI CPow fun i j => .int (i * 2 ^ j.toNat)) := opI fun _ _ _ _ _ _ _ hc q => ilshift_int_small hc.1 hc.2.1 hc.2.2 q
theorem iop_shr : OpR X (inplaceOp .RShift) (rI (fun _ j => 0 ≤ j) fun i j => .int (i / 2 ^ j.toNat)) := opI fun i j _ _ _ _ _ hc q =>
  irshift_int hc (by rw [Int.fdiv_eq_ediv_of_nonneg i (two_pow_nn _)]; exact q)
theorem iop_and : OpR X (inplaceOp .BitAnd) (rI0 fun i j => .int (Builtin.bitAnd i j)) := opI0 fun _ _ _ _ _ _ _ q => iand_int q
theorem iop_or : OpR X (inplaceOp .BitOr) (rI0 fun i j => .int (Builtin.bitOr i j)) := opI0 fun _ _ _ _ _ _ _ q => ior_int q
theorem iop_xor : OpR X (inplaceOp .BitXor) (rI0 fun i j => .int (Builtin.bitXor i j)) := opI0 fun _ _ _ _ _ _ _ q => ixor_int q

theorem unI {f : Value → Sem Value} {g : Int → Int}
    (rule : ∀ (i : Int) (t : Tok) (s : Shared) (Q : Value → Shared → Prop) (E : Value → Shared → Prop), Q (.int (g i) s.toks) { s with toks := s.toks + 1 } → wpAny (model X.prog X.w) X.A (f (.int i t)) Q E s) :
    UnR X f (rU fun i => .int (g i)) := by
  intro pins s σ H x v Q I rx h
  obtain ⟨i, rfl, q⟩ := h
  obtain ⟨t, rfl⟩ := rx
  exact rule i t s _ _ ⟨.int (g i), H, I.tok _, ⟨_, rfl⟩, q⟩
theorem un_neg : UnR X (unaryOp .USub) (rU fun i => .int (-i)) := unI fun _ _ _ _ _ q => neg_int q
theorem un_inv : UnR X (unaryOp .Invert) (rU fun i => .int (Builtin.bitNot i)) := unI fun _ _ _ _ _ q => invert_int q

/-! ### bools among ints: n += (a < b) -/
theorem op_add_ib : OpR X (binaryOp .Add) (fun x y H Q => ∃ i k, x = .int i ∧ y = .bl k ∧ Q (.int (i + b2i k)) H) := by
  intro pins s σ H x y v u Q I rx ry h
  obtain ⟨i, k, rfl, rfl, q⟩ := h
  obtain ⟨t, rfl⟩ := rx
  cases ry
  exact add_int_bool ⟨.int (i + b2i k), H, I.tok _, ⟨_, rfl⟩, q⟩
end

/-! ### comparisons -/
/-- the scalars that == tells apart as data does -/
def scal : V → V → Bool
  | .non, .non => true | .non, .int _ => true | .int _, .non => true | .non, .bl _ => true | .bl _, .non => true | .non, .str _ => true | .str _, .non => true
  | .int _, .int _ => true | .bl _, .bl _ => true | .str _, .str _ => true | .byt _, .byt _ => true
  | .int _, .str _ => true | .str _, .int _ => true | .bl _, .str _ => true | .str _, .bl _ => true
  | _, _ => false
def rEq : R2 := fun x y H Q => scal x y = true ∧ Q (.bl (decide (x = y))) H
def rNe : R2 := fun x y H Q => scal x y = true ∧ Q (.bl (!decide (x = y))) H

theorem dec_int {i j : Int} : decide (V.int i = V.int j) = (i == j) := by
  rw [Bool.eq_iff_iff]
  simp
theorem dec_bl {i j : Bool} : decide (V.bl i = V.bl j) = (i == j) := by
  rw [Bool.eq_iff_iff]
  simp
theorem dec_str {i j : Str} : decide (V.str i = V.str j) = (i == j) := by
  rw [Bool.eq_iff_iff]
  simp
theorem dec_byt {i j : Array UInt8} : decide (V.byt i = V.byt j) = (i.toList == j.toList) := by
  rw [Bool.eq_iff_iff]
  cases i
  cases j
  simp

section
variable {X : Cx} {a b c : Expr} {ta tb tc : TE} {pos : Pos}
theorem fin_bl {pins : List (Addr × Obj)} {σ : St} {H : Hp} {s : Shared} {Q : VK} {k k' : Bool} (I : Inv X pins σ H s) (q : Q (.bl k) H) (e : k = k') : EP X pins σ Q (.bool k') s := by
  subst e
  exact ⟨.bl k, H, I, rfl, q⟩
theorem op_eq : OpR X (compareOp .Eq) rEq := by
  intro pins s σ H x y v u Q I rx ry h
  obtain ⟨hs, q⟩ := h
  cases x with
  | non =>
    cases rx
    cases y with
    | non => cases ry; exact PySem.EqNone.eq_none_none (fin_bl I q (by simp))
    | bl j => cases ry; exact PySem.EqNone.eq_none_bool (fin_bl I q (by simp))
    | int j => obtain ⟨t', rfl⟩ := ry; exact PySem.EqNone.eq_none_int (fin_bl I q (by simp))
    | str j => obtain ⟨t', rfl⟩ := ry; exact PySem.EqNone.eq_none_str (fin_bl I q (by simp))
    | _ => exact absurd (show false = true from hs) Bool.false_ne_true
  | bl i =>
    cases rx
    cases y with
    | non => cases ry; exact PySem.EqNone.eq_bool_none (fin_bl I q (by simp))
    | bl j => cases ry; exact eq_bool (fin_bl I q dec_bl)
    | str j => obtain ⟨t', rfl⟩ := ry; exact PySem.EqMixed.eq_bool_str (fin_bl I q (by simp))
    | _ => exact absurd (show false = true from hs) Bool.false_ne_true
  | int i =>
    obtain ⟨t, rfl⟩ := rx
    cases y with
    | non => cases ry; exact PySem.EqNone.eq_int_none (fin_bl I q (by simp))
    | int j => obtain ⟨t', rfl⟩ := ry; exact eq_int (fin_bl I q dec_int)
    | str j => obtain ⟨t', rfl⟩ := ry; exact PySem.EqMixed.eq_int_str (fin_bl I q (by simp))
    | _ => exact absurd (show false = true from hs) Bool.false_ne_true
  | str i =>
    obtain ⟨t, rfl⟩ := rx
    cases y with
    | non => cases ry; exact PySem.EqNone.eq_str_none (fin_bl I q (by simp))
    | bl j => cases ry; exact PySem.EqMixed.eq_str_bool (fin_bl I q (by simp))
    | int j => obtain ⟨t', rfl⟩ := ry; exact PySem.EqMixed.eq_str_int (fin_bl I q (by simp))
    | str j => obtain ⟨t', rfl⟩ := ry; exact eq_str (fin_bl I q dec_str)
    | _ => exact absurd (show false = true from hs) Bool.false_ne_true
  | byt i =>
    obtain ⟨t, rfl⟩ := rx
    cases y with
    | byt j => obtain ⟨t', rfl⟩ := ry; exact PySem.W.eq_bytes (fin_bl I q dec_byt)
    | _ => exact absurd (show false = true from hs) Bool.false_ne_true
  | _ => cases y <;> exact absurd (show false = true from hs) Bool.false_ne_true
theorem op_ne : OpR X (compareOp .NotEq) rNe := by
  intro pins s σ H x y v u Q I rx ry h
  obtain ⟨hs, q⟩ := h
  cases x with
  | non =>
    cases rx
    cases y with
    | non => cases ry; exact PySem.EqNone.ne_none_none (fin_bl I q (by simp))
    | bl j => cases ry; exact PySem.EqNone.ne_none_bool (fin_bl I q (by simp))
    | int j => obtain ⟨t', rfl⟩ := ry; exact PySem.EqNone.ne_none_int (fin_bl I q (by simp))
    | str j => obtain ⟨t', rfl⟩ := ry; exact PySem.EqNone.ne_none_str (fin_bl I q (by simp))
    | _ => exact absurd (show false = true from hs) Bool.false_ne_true
  | bl i =>
    cases rx
    cases y with
    | non => cases ry; exact PySem.EqNone.ne_bool_none (fin_bl I q (by simp))
    | bl j => cases ry; exact ne_bool (fin_bl I q (congrArg not dec_bl))
    | str j => obtain ⟨t', rfl⟩ := ry; exact PySem.EqMixed.ne_bool_str (fin_bl I q (by simp))
    | _ => exact absurd (show false = true from hs) Bool.false_ne_true
  | int i =>
    obtain ⟨t, rfl⟩ := rx
    cases y with
    | non => cases ry; exact PySem.EqNone.ne_int_none (fin_bl I q (by simp))
    | int j => obtain ⟨t', rfl⟩ := ry; exact ne_int (fin_bl I q (congrArg not dec_int))
    | str j => obtain ⟨t', rfl⟩ := ry; exact PySem.EqMixed.ne_int_str (fin_bl I q (by simp))
    | _ => exact absurd (show false = true from hs) Bool.false_ne_true
  | str i =>
    obtain ⟨t, rfl⟩ := rx
    cases y with
    | non => cases ry; exact PySem.EqNone.ne_str_none (fin_bl I q (by simp))
    | bl j => cases ry; exact PySem.EqMixed.ne_str_bool (fin_bl I q (by simp))
    | int j => obtain ⟨t', rfl⟩ := ry; exact PySem.EqMixed.ne_str_int (fin_bl I q (by simp))
    | str j => obtain ⟨t', rfl⟩ := ry; exact ne_str (fin_bl I q (congrArg not dec_str))
    | _ => exact absurd (show false = true from hs) Bool.false_ne_true
  | byt i =>
    obtain ⟨t, rfl⟩ := rx
    cases y with
    | byt j => obtain ⟨t', rfl⟩ := ry; exact PySem.W.ne_bytes (fin_bl I q (congrArg not dec_byt))
    | _ => exact absurd (show false = true from hs) Bool.false_ne_true
  | _ => cases y <;> exact absurd (show false = true from hs) Bool.false_ne_true

theorem op_lt : OpR X (compareOp .Lt) (rI0 fun i j => .bl (decide (i < j))) := opB0 fun _ _ _ _ _ _ _ q => lt_int q
theorem op_le : OpR X (compareOp .LtE) (rI0 fun i j => .bl (decide (i ≤ j))) := opB0 fun _ _ _ _ _ _ _ q => le_int q
theorem op_gt : OpR X (compareOp .Gt) (rI0 fun i j => .bl (decide (j < i))) := opB0 fun _ _ _ _ _ _ _ q => gt_int q
theorem op_ge : OpR X (compareOp .GtE) (rI0 fun i j => .bl (decide (j ≤ i))) := opB0 fun _ _ _ _ _ _ _ q => ge_int q
theorem op_lt_str : OpR X (compareOp .Lt) (fun x y H Q => ∃ i j, x = .str i ∧ y = .str j ∧ Q (.bl (decide (i.cps.toList < j.cps.toList))) H) := by
  intro pins s σ H x y v u Q I rx ry h
  obtain ⟨i, j, rfl, rfl, q⟩ := h
  obtain ⟨t, rfl⟩ := rx
  obtain ⟨t', rfl⟩ := ry
  exact lt_str (fin_bl I q rfl)
/-- the one string within the other -/
theorem op_in_str : OpR X (compareOp .In) (fun x y H Q => ∃ i j, x = .str i ∧ y = .str j ∧ Q (.bl (!(Builtin.Str.occurrences j i 0 j.length 1).isEmpty)) H) := by
  intro pins s σ H x y v u Q I rx ry h
  obtain ⟨i, j, rfl, rfl, q⟩ := h
  obtain ⟨t, rfl⟩ := rx
  obtain ⟨t', rfl⟩ := ry
  exact in_str (fin_bl I q rfl)

/-- is None, is not None: the right side a value none -/
theorem op_isN : OpR X (compareOp .Is) (fun x y H Q => y = .non ∧ Q (.bl (decide (x = .non))) H) := by
  intro pins s σ H x y v u Q I rx ry h
  obtain ⟨rfl, q⟩ := h
  cases ry
  refine is_none_gen (fin_bl I q ?_)
  cases x <;> first
    | (cases rx; rfl)
    | (obtain ⟨t, rfl⟩ := rx; rfl)
theorem op_notN : OpR X (compareOp .IsNot) (fun x y H Q => y = .non ∧ Q (.bl (!decide (x = .non))) H) := by
  intro pins s σ H x y v u Q I rx ry h
  obtain ⟨rfl, q⟩ := h
  cases ry
  refine isnot_none_gen (fin_bl I q ?_)
  cases x <;> first
    | (cases rx; rfl)
    | (obtain ⟨t, rfl⟩ := rx; rfl)

theorem op_notin_str : OpR X (compareOp .NotIn) (fun x y H Q => ∃ i j, x = .str i ∧ y = .str j ∧ Q (.bl (!(!(Builtin.Str.occurrences j i 0 j.length 1).isEmpty))) H) := by
  intro pins s σ H x y v u Q I rx ry h
  obtain ⟨i, j, rfl, rfl, q⟩ := h
  obtain ⟨t, rfl⟩ := rx
  obtain ⟨t', rfl⟩ := ry
  exact notIn_str (fin_bl I q rfl)
/-- is, is not of two objects that are tracked lists or instances -/
def isObj : HO → Bool
  | .lst _ => true
  | .ins _ _ _ => true
  | _ => false
theorem obj_there {pins : List (Addr × Obj)} {s : Shared} {σ : St} {H : Hp} {a : Addr} {o : HO} (I : Inv X pins σ H s) (h : H a = some o) (p : isObj o = true) : ∃ ob, s.heap.get? a = some ob ∧ ob.cls ≠ .type "tuple" := by
  cases o with
  | lst xs =>
    obtain ⟨_, its, n, _, e⟩ : xs.length ≤ sizeLine ∧ ∃ (its : List Value) (n : Nat), Vals xs its ∧ s.heap.get? a = some { cls := .type "list", data := .seq its.toArray n } := I.hok a _ h
    exact ⟨_, e, (by show Value.type "list" ≠ .type "tuple"; decide +kernel)⟩
  | ins C dx fs =>
    have x := I.hok a _ h
    obtain ⟨_, _, _, e, _⟩ := x
    exact ⟨_, e, (by show Value.ref C ≠ .type "tuple"; exact fun z => by cases z)⟩
  | _ => exact absurd (show false = true from p) Bool.false_ne_true
theorem op_is_ref : OpR X (compareOp .Is) (fun x y H Q => ∃ a b oa ob, x = .ref a ∧ y = .ref b ∧ H a = some oa ∧ isObj oa = true ∧ H b = some ob ∧ isObj ob = true ∧ Q (.bl (decide (a = b))) H) := by
  intro pins s σ H x y v u Q I rx ry h
  obtain ⟨a, b, oa, ob, rfl, rfl, ha, pa, hb, pb, q⟩ := h
  cases rx
  cases ry
  obtain ⟨o1, e1, n1⟩ := obj_there I ha pa
  obtain ⟨o2, e2, _⟩ := obj_there I hb pb
  by_cases z : a = b
  · subst z
    exact wpAny_is_ref_self (fin_bl I q (by simp))
  · exact wpAny_is_ref_other z e1 e2 n1 (fin_bl I q (by simp [z]))
theorem op_isnot_ref : OpR X (compareOp .IsNot) (fun x y H Q => ∃ a b oa ob, x = .ref a ∧ y = .ref b ∧ H a = some oa ∧ isObj oa = true ∧ H b = some ob ∧ isObj ob = true ∧ Q (.bl (!decide (a = b))) H) := by
  intro pins s σ H x y v u Q I rx ry h
  obtain ⟨a, b, oa, ob, rfl, rfl, ha, pa, hb, pb, q⟩ := h
  cases rx
  cases ry
  obtain ⟨o1, e1, n1⟩ := obj_there I ha pa
  obtain ⟨o2, e2, _⟩ := obj_there I hb pb
  by_cases z : a = b
  · subst z
    exact wpAny_isNot_ref_self (fin_bl I q (by simp))
  · exact wpAny_isNot_ref_other z e1 e2 n1 (fin_bl I q (by simp [z]))

/-- two rules for one operation: by cases -/
theorem OpR.or {f : Value → Value → Sem Value} {r r' : R2} (h : OpR X f r) (h' : OpR X f r') : OpR X f (fun x y H Q => r x y H Q ∨ r' x y H Q) := by
  intro pins s σ H x y v u Q I rx ry q
  rcases q with q | q
  · exact h pins s σ H x y v u Q I rx ry q
  · exact h' pins s σ H x y v u Q I rx ry q

theorem nomark (b : Expr) {op : CmpOp} (h : op ≠ .In := by decide) (h2 : op ≠ .NotIn := by decide) : behindInMarks op b = false := by
  have e1 : (op == CmpOp.In) = false := by cases op <;> first | rfl | exact absurd rfl h
  have e2 : (op == CmpOp.NotIn) = false := by cases op <;> first | rfl | exact absurd rfl h2
  cases b <;> simp [behindInMarks, e1, e2]
/-- a comparison as a value; hm: nomark b, or (for in, not in) by with_unfolding_all rfl -/
theorem pe_cmpR {op : CmpOp} {r : R2} (ho : OpR X (compareOp op) r) (ha : PE X a ta) (hb : PE X b tb) (hm : behindInMarks op b = false) : PE X (.Compare a [op] [b] pos) (tOp r ta tb) := by
  intro pins s σ H Q I h
  exact wpAny_Compare1 (binT ha hb I h fun v u s2 x y H2 I2 rx ry q => ho pins s2 σ H2 x y v u Q I2 rx ry q) hm
/-- a reading of a value as a test -/
def tTest (t : TE) : TT := fun σ H Q => t σ H fun x H' => ∃ k, x = .bl k ∧ Q k H'
theorem pt_cmpR {op : CmpOp} {r : R2} (ho : OpR X (compareOp op) r) (ha : PE X a ta) (hb : PE X b tb) (hm : behindInMarks op b = false) : PT X (.Compare a [op] [b] pos) (tTest (tOp r ta tb)) := by
  intro pins s σ H Q I h
  refine wpAny_isTrue_Compare1 (thn (ha pins s σ H _ I h) fun v s1 ⟨x, H1, I1, r1, q1⟩ => thn (hb pins s1 σ H1 _ I1 q1) fun u s2 ⟨y, H2, I2, r2, q2⟩ =>
    thn (ho pins s2 σ H2 x y v u _ I2 r1 r2 q2) fun c s3 ⟨z, H3, I3, r3, k, e, q3⟩ => ?_) hm
  subst e
  cases r3
  exact wpAny_truthy_bool ⟨H3, I3, q3⟩
/-- a op1 b op2 c -/
def tChain (r r' : R2) (ta tb tc : TE) : TE := fun σ H Q => ta σ H fun x H1 => tb σ H1 fun y H2 => r x y H2 fun z H3 => ∃ k, z = .bl k ∧
  (if k = true then tc σ H3 fun w' H4 => r' y w' H4 Q else Q (.bl false) H3)
theorem pe_chain {op op' : CmpOp} {r r' : R2} (ho : OpR X (compareOp op) r) (ho' : OpR X (compareOp op') r') (ha : PE X a ta) (hb : PE X b tb) (hc : PE X c tc)
    (hm : lastMarks [op, op'] [b, c] = false := by with_unfolding_all rfl) : PE X (.Compare a [op, op'] [b, c] pos) (tChain r r' ta tb tc) := by
  intro pins s σ H Q I h
  refine Compare_chain (thn (ha pins s σ H _ I h) fun v s1 ⟨x, H1, I1, r1, q1⟩ => chain_link (thn (hb pins s1 σ H1 _ I1 q1) fun u s2 ⟨y, H2, I2, r2, q2⟩ =>
    thn (ho pins s2 σ H2 x y v u _ I2 r1 r2 q2) fun d s3 ⟨z, H3, I3, r3, k, e, q3⟩ => ?_)) hm
  subst e
  cases r3
  refine wpAny_truthy_bool ?_
  cases k with
  | false => exact ite_ff ⟨.bl false, H3, I3, rfl, q3⟩
  | true => exact ite_tt (chain_last (thn (hc pins s3 σ H3 _ I3 q3) fun w' s4 ⟨z', H4, I4, r4, q4⟩ => ho' pins s4 σ H4 y z' u w' Q I4 r2 r4 q4))
theorem pt_chain {op op' : CmpOp} {r r' : R2} (ho : OpR X (compareOp op) r) (ho' : OpR X (compareOp op') r') (ha : PE X a ta) (hb : PE X b tb) (hc : PE X c tc)
    (hm : lastMarks [op, op'] [b, c] = false := by with_unfolding_all rfl) : PT X (.Compare a [op, op'] [b, c] pos) (tTest (tChain r r' ta tb tc)) := by
  intro pins s σ H Q I h
  refine isTrue_chain (thn (ha pins s σ H _ I h) fun v s1 ⟨x, H1, I1, r1, q1⟩ => test_link (thn (hb pins s1 σ H1 _ I1 q1) fun u s2 ⟨y, H2, I2, r2, q2⟩ =>
    thn (ho pins s2 σ H2 x y v u _ I2 r1 r2 q2) fun d s3 ⟨z, H3, I3, r3, k, e, q3⟩ => ?_)) hm
  subst e
  cases r3
  refine wpAny_truthy_bool ?_
  cases k with
  | false =>
    obtain ⟨k', e', q'⟩ := q3
    cases e'
    exact ite_ff ⟨H3, I3, q'⟩
  | true =>
    refine ite_tt (test_last (thn (hc pins s3 σ H3 _ I3 q3) fun w' s4 ⟨z', H4, I4, r4, q4⟩ => thn (ho' pins s4 σ H4 y z' u w' _ I4 r2 r4 q4) fun d' s5 ⟨z2, H5, I5, r5, k2, e2, q5⟩ => ?_))
    subst e2
    cases r5
    exact wpAny_truthy_bool ⟨H5, I5, q5⟩

/-! ### truth -/
/-- a value's truth by the abstract heap -/
def TruV (K : PySem.W.Frag) (x : V) (H : Hp) (k : Bool) : Prop :=
  match x with
  | .non => k = false
  | .bl b => k = b
  | .int i => k = (i != 0)
  | .str y => y.length ≤ sizeLine ∧ k = ((y.length : Int) != 0)
  | .byt y => y.size ≤ sizeLine ∧ k = ((y.size : Int) != 0)
  | .ref p => (∃ xs, SqL K H p xs ∧ k = !xs.isEmpty) ∨ (∃ xs, SqT K H p xs ∧ k = !xs.isEmpty) ∨ ∃ kvs, H p = some (.dK kvs) ∧ k = !kvs.isEmpty
  | _ => False
theorem isEmpty_kv {κ : Type} {kvs : List (κ × V)} {vs : List (κ × Value)} (r : KV kvs vs) : (!vs.isEmpty) = !kvs.isEmpty := by
  cases r <;> rfl
theorem isEmpty_of {xs : List V} {its : List Value} (r : Vals xs its) : (!its.toArray.isEmpty) = !xs.isEmpty := by
  cases r <;> simp
theorem line63 : (sizeLine : Nat) < 2 ^ 63 := by rw [sizeLine_eq]; decide
theorem tru_ok : TruR X (fun x H Q => ∃ k, TruV X.K x H k ∧ Q k H) := by
  intro pins s σ H x v Q I rx h
  obtain ⟨k, e, q⟩ := h
  have hl := line63
  have hs : sizeLine = 16777216 := sizeLine_eq
  cases x with
  | non =>
    cases rx
    have e' : k = false := e
    subst e'
    exact truthy_none ⟨H, I, q⟩
  | bl b =>
    cases rx
    have e' : k = b := e
    subst e'
    exact wpAny_truthy_bool ⟨H, I, q⟩
  | int i =>
    obtain ⟨t, rfl⟩ := rx
    have e' : k = (i != 0) := e
    subst e'
    exact PySem.P.truthy_int ⟨H, I, q⟩
  | str y =>
    obtain ⟨t, rfl⟩ := rx
    obtain ⟨hy, e'⟩ : y.length ≤ sizeLine ∧ k = ((y.length : Int) != 0) := e
    subst e'
    exact PySem.P.truthy_str (by omega) ⟨H, I.tok _, q⟩
  | byt y =>
    obtain ⟨t, rfl⟩ := rx
    obtain ⟨hy, e'⟩ : y.size ≤ sizeLine ∧ k = ((y.size : Int) != 0) := e
    subst e'
    exact PySem.W.truthy_bytes (by omega) ⟨H, I.tok _, q⟩
  | ref p =>
    cases rx
    have e' : (∃ xs, SqL X.K H p xs ∧ k = !xs.isEmpty) ∨ (∃ xs, SqT X.K H p xs ∧ k = !xs.isEmpty) ∨ ∃ kvs, H p = some (.dK kvs) ∧ k = !kvs.isEmpty := e
    rcases e' with ⟨xs, hx, e'⟩ | ⟨xs, hx, e'⟩ | ⟨kvs, hx, e'⟩
    · subst e'
      obtain ⟨its, r, pl, hz⟩ := I.list hx
      have hlen := r.length
      exact wpAny_truthy_list pl.isList (by simp only [List.size_toArray]; omega) ⟨H, I.tok _, by rw [isEmpty_of r]; exact q⟩
    · subst e'
      obtain ⟨its, r, pl, hz⟩ := I.tuple hx
      have hlen := r.length
      exact truthy_tuple pl (by simp only [List.size_toArray]; omega) ⟨H, I.tok _, by rw [isEmpty_of r]; exact q⟩
    · subst e'
      obtain ⟨hz, hS, vs, r, m⟩ : kvs.length ≤ sizeLine ∧ (p == sysModules) = false ∧ ∃ vs, KV kvs vs ∧ s.heap.DictOf (mixKind X.prog X.w) p vs := I.hok p _ hx
      have hlen : kvs.length = vs.length := Paired.length r
      exact wpAny_truthy_dict hS m (by omega) ⟨H, I.tok _, by rw [isEmpty_kv r]; exact q⟩
  | _ => exact (show False from e).elim
/-- any expression whose test is its value's truth (a name, a call, a subscript, a field ..: he by fun _ => rfl) -/
theorem pt_truth (ha : PE X a ta) (he : ∀ whole, isTrue a X.env whole = (do let v ← whole; standAt a.pos; holding [v] (truthy v))) :
    PT X a (fun σ H Q => ta σ H fun x H' => ∃ k, TruV X.K x H' k ∧ Q k H') := by
  intro pins s σ H Q I h
  exact isTrue_plain (thn (ha pins s σ H _ I h) fun v s1 ⟨x, H1, I1, r1, q1⟩ => tru_ok pins s1 σ H1 x v Q I1 r1 q1) (he _)

/-! ### strs and bytes -/
theorem pe_byt {x : List UInt8} {k : Nat} : PE X (.Constant (.bytes x) k pos) (fun _ H Q => Q (.byt x.toArray) H) := fun _ _ _ H _ I h => PySem.W.Constant_bytes ⟨.byt x.toArray, H, I.tok _, ⟨_, rfl⟩, h⟩
theorem op_add_str : OpR X (binaryOp .Add) (fun x y H Q => ∃ i j, x = .str i ∧ y = .str j ∧ i.length + j.length ≤ sizeLine ∧ Q (.str (i ++ j)) H) := by
  intro pins s σ H x y v u Q I rx ry h
  obtain ⟨i, j, rfl, rfl, hz, q⟩ := h
  obtain ⟨t, rfl⟩ := rx
  obtain ⟨t', rfl⟩ := ry
  exact add_str (fun t' tk => ⟨.str (i ++ j), H, I.tok _, ⟨_, rfl⟩, q⟩) hz
theorem iop_add_str : OpR X (inplaceOp .Add) (fun x y H Q => ∃ i j, x = .str i ∧ y = .str j ∧ i.length + j.length ≤ sizeLine ∧ Q (.str (i ++ j)) H) := by
  intro pins s σ H x y v u Q I rx ry h
  obtain ⟨i, j, rfl, rfl, hz, q⟩ := h
  obtain ⟨t, rfl⟩ := rx
  obtain ⟨t', rfl⟩ := ry
  exact iadd_str (fun t' tk => ⟨.str (i ++ j), H, I.tok _, ⟨_, rfl⟩, q⟩) hz
theorem op_add_byt : OpR X (binaryOp .Add) (fun x y H Q => ∃ i j, x = .byt i ∧ y = .byt j ∧ i.size + j.size ≤ 16777216 ∧ Q (.byt (i ++ j)) H) := by
  intro pins s σ H x y v u Q I rx ry h
  obtain ⟨i, j, rfl, rfl, hz, q⟩ := h
  obtain ⟨t, rfl⟩ := rx
  obtain ⟨t', rfl⟩ := ry
  exact PySem.W.KBy.add_bytes hz (fun t' tk => ⟨.byt (i ++ j), H, I.tok _, ⟨_, rfl⟩, q⟩)

def PlainIxT (b : Expr) : Prop := ∀ o i, subscripted b false o i = operate [o, i] (getItem o i)
/-- s[i], 0 ≤ i < len -/
theorem pe_item_str (ha : PE X a ta) (hb : PE X b tb) (hs : PlainIxT b) :
    PE X (.Subscript a b pos) (tOp (fun x y H Q => ∃ z i c, x = .str z ∧ y = .int i ∧ 0 ≤ i ∧ i < 2 ^ 63 ∧ i < z.length ∧ z.cps[i.toNat]? = some c ∧ Q (.str ⟨#[c]⟩) H) ta tb) := by
  intro pins s σ H Q I h
  refine Subscript_ (binT ha hb I h fun v u s2 x y H2 I2 rx ry q => ?_)
  obtain ⟨z, i, c, rfl, rfl, h0, h63, h1, hc, q⟩ := q
  obtain ⟨t, rfl⟩ := rx
  obtain ⟨t', rfl⟩ := ry
  have e : seqIndex? i z.length = some i.toNat := PySem.StrLaws.seqIndex_nonneg h0 h1
  exact tail_any (typeIs_str s2 z t) slot_str_getitem.lookup (getItem_str (c := c) (by
    have e1 : decide (i < -(2 ^ 63 : Int)) = false := decide_eq_false (by omega)
    have e2 : decide (i ≥ 2 ^ 63) = false := decide_eq_false (by omega)
    rw [e1, e2] <;> rfl) (by rw [e]; exact hc) ⟨.str ⟨#[c]⟩, H2, I2.tok _, ⟨_, rfl⟩, q⟩) (hs _ _)
/-- b[i], 0 ≤ i < len -/
theorem pe_item_byt (ha : PE X a ta) (hb : PE X b tb) (hs : PlainIxT b) :
    PE X (.Subscript a b pos) (tOp (fun x y H Q => ∃ (z : List UInt8) (i : Int), x = .byt z.toArray ∧ y = .int i ∧ z.length ≤ sizeLine ∧ 0 ≤ i ∧ i < z.length ∧ Q (.int ((z.getD i.toNat 0).toNat : Nat)) H) ta tb) := by
  intro pins s σ H Q I h
  refine Subscript_ (binT ha hb I h fun v u s2 x y H2 I2 rx ry q => ?_)
  obtain ⟨z, i, rfl, rfl, hz, h0, h1, q⟩ := q
  obtain ⟨t, rfl⟩ := rx
  obtain ⟨t', rfl⟩ := ry
  have hl : sizeLine = 16777216 := sizeLine_eq
  exact tail_any (PySem.W.typeIs_bytes s2 z.toArray t) PySem.W.FB.slot_bytes_getitem.lookup (PySem.W.getItem_bytes (by omega) h0 h1 ⟨.int ((z.getD i.toNat 0).toNat : Nat), H2, I2.tok _, ⟨_, rfl⟩, q⟩) (hs _ _)

/-! ### scalar builtins, by CallR -/
theorem vals1 {x : V} {us : List Value} (r : Vals [x] us) : ∃ u, us = [u] ∧ RelV x u := by
  cases r with
  | cons r1 r2 => cases r2; exact ⟨_, rfl, r1⟩
theorem vals2 {x y : V} {us : List Value} (r : Vals [x, y] us) : ∃ u w', us = [u, w'] ∧ RelV x u ∧ RelV y w' := by
  cases r with
  | cons r1 r2 =>
    cases r2 with
    | cons r3 r4 => cases r4; exact ⟨_, _, rfl, r1, r3⟩
theorem call_abs : CallR X (.builtin "abs") (fun xs H Q => ∃ i, xs = [.int i] ∧ Q (.int (if i < 0 then -i else i)) H) := by
  intro pins s σ H xs us Q I r h
  obtain ⟨i, rfl, q⟩ := h
  obtain ⟨u, rfl, t, rfl⟩ := vals1 r
  exact call_abs_int fun u tk => ⟨.int (if i < 0 then -i else i), H, I.tok _, ⟨_, rfl⟩, q⟩
theorem call_max2 (hc : X.calm = true) : CallR X (.builtin "max") (fun xs H Q => ∃ i j, xs = [.int i, .int j] ∧ Q (.int (if j > i then j else i)) H) := by
  intro pins s σ H xs us Q I r h
  obtain ⟨i, j, rfl, q⟩ := h
  obtain ⟨u, w', rfl, ⟨t, rfl⟩, ⟨t', rfl⟩⟩ := vals2 r
  refine max_two_ints (I.ok.hd hc) fun h' tk k => ⟨_, H, I.kept k, ?_, q⟩
  by_cases hj : j > i
  · rw [if_pos hj, if_pos hj]; exact ⟨_, rfl⟩
  · rw [if_neg hj, if_neg hj]; exact ⟨_, rfl⟩
theorem call_min2 (hc : X.calm = true) : CallR X (.builtin "min") (fun xs H Q => ∃ i j, xs = [.int i, .int j] ∧ Q (.int (if j < i then j else i)) H) := by
  intro pins s σ H xs us Q I r h
  obtain ⟨i, j, rfl, q⟩ := h
  obtain ⟨u, w', rfl, ⟨t, rfl⟩, ⟨t', rfl⟩⟩ := vals2 r
  refine min_two_ints (I.ok.hd hc) fun h' tk k => ⟨_, H, I.kept k, ?_, q⟩
  by_cases hj : j < i
  · rw [if_pos hj, if_pos hj]; exact ⟨_, rfl⟩
  · rw [if_neg hj, if_neg hj]; exact ⟨_, rfl⟩
theorem call_int1 : CallR X (.type "int") (fun xs H Q => (∃ i, xs = [.int i] ∧ Q (.int i) H) ∨ ∃ k, xs = [.bl k] ∧ Q (.int (if k then 1 else 0)) H) := by
  intro pins s σ H xs us Q I r h
  rcases h with ⟨i, rfl, q⟩ | ⟨k, rfl, q⟩
  · obtain ⟨u, rfl, t, rfl⟩ := vals1 r
    exact call_int_int ⟨.int i, H, I, ⟨_, rfl⟩, q⟩
  · obtain ⟨u, rfl, r1⟩ := vals1 r
    cases r1
    exact call_int_bool ⟨.int (if k then 1 else 0), H, I.tok _, ⟨_, rfl⟩, q⟩
theorem call_bool1 : CallR X (.type "bool") (fun xs H Q => (∃ i, xs = [.int i] ∧ Q (.bl (i != 0)) H) ∨ ∃ k, xs = [.bl k] ∧ Q (.bl k) H) := by
  intro pins s σ H xs us Q I r h
  rcases h with ⟨i, rfl, q⟩ | ⟨k, rfl, q⟩
  · obtain ⟨u, rfl, t, rfl⟩ := vals1 r
    exact call_bool_int ⟨.bl (i != 0), H, I, rfl, q⟩
  · obtain ⟨u, rfl, r1⟩ := vals1 r
    cases r1
    exact call_bool_bool ⟨.bl k, H, I, rfl, q⟩
theorem call_str_int : CallR X (.type "str") (fun xs H Q => ∃ i, xs = [.int i] ∧ i.natAbs.log2 < 1920 ∧ Q (.str (toString i)) H) := by
  intro pins s σ H xs us Q I r h
  obtain ⟨i, rfl, hz, q⟩ := h
  obtain ⟨u, rfl, t, rfl⟩ := vals1 r
  exact PySem.P.str_of_int hz ⟨.str _, H, I.tok _, ⟨_, rfl⟩, q⟩
theorem call_ord : CallR X (.builtin "ord") (fun xs H Q => ∃ x, xs = [.str x] ∧ x.length = 1 ∧ Q (.int (x.cps.getD 0 0 : Nat)) H) := by
  intro pins s σ H xs us Q I r h
  obtain ⟨x, rfl, hz, q⟩ := h
  obtain ⟨u, rfl, t, rfl⟩ := vals1 r
  exact ord_of_one hz ⟨.int _, H, I.tok _, ⟨_, rfl⟩, q⟩
theorem call_chr : CallR X (.builtin "chr") (fun xs H Q => ∃ i, xs = [.int i] ∧ 0 ≤ i ∧ i ≤ 1114111 ∧ Q (.str ⟨#[i.toNat]⟩) H) := by
  intro pins s σ H xs us Q I r h
  obtain ⟨i, rfl, h0, h1, q⟩ := h
  obtain ⟨u, rfl, t, rfl⟩ := vals1 r
  exact chr_of_range h0 h1 ⟨.str _, H, I.tok _, ⟨_, rfl⟩, q⟩
/-- len of a str, a bytes, a list, a tuple -/
def LenV (K : PySem.W.Frag) (x : V) (H : Hp) (n : Nat) : Prop :=
  match x with
  | .str y => y.length ≤ sizeLine ∧ n = y.length
  | .byt y => y.size ≤ sizeLine ∧ n = y.size
  | .ref p => (∃ xs, SqL K H p xs ∧ n = xs.length) ∨ ∃ xs, SqT K H p xs ∧ n = xs.length
  | _ => False
theorem call_len : CallR X (.builtin "len") (fun xs H Q => ∃ x n, xs = [x] ∧ LenV X.K x H n ∧ Q (.int n) H) := by
  intro pins s σ H xs us Q I r h
  obtain ⟨x, n, rfl, e, q⟩ := h
  obtain ⟨u, rfl, rx⟩ := vals1 r
  have hl := line63
  have hs : sizeLine = 16777216 := sizeLine_eq
  cases x with
  | str y =>
    obtain ⟨t, rfl⟩ := rx
    obtain ⟨hy, e'⟩ : y.length ≤ sizeLine ∧ n = y.length := e
    subst e'
    exact len_str (by omega) ⟨.int _, H, I.tok _, ⟨_, rfl⟩, q⟩
  | byt y =>
    obtain ⟨t, rfl⟩ := rx
    obtain ⟨hy, e'⟩ : y.size ≤ sizeLine ∧ n = y.size := e
    subst e'
    exact PySem.W.len_bytes (by omega) ⟨.int _, H, I.tok _, ⟨_, rfl⟩, q⟩
  | ref p =>
    cases rx
    have e' : (∃ xs, SqL X.K H p xs ∧ n = xs.length) ∨ ∃ xs, SqT X.K H p xs ∧ n = xs.length := e
    rcases e' with ⟨xs, hx, e'⟩ | ⟨xs, hx, e'⟩
    · subst e'
      obtain ⟨its, r', pl, hz⟩ := I.list hx
      have hlen := r'.length
      exact Calls.call_len_list pl.isList (by simp only [List.size_toArray]; omega) ⟨.int xs.length, H, I.tok _, ⟨_, by simp only [List.size_toArray]; rw [hlen]⟩, q⟩
    · subst e'
      obtain ⟨its, r', pl, hz⟩ := I.tuple hx
      have hlen := r'.length
      exact len_tuple pl (by simp only [List.size_toArray]; omega) ⟨.int xs.length, H, I.tok _, ⟨_, by simp only [List.size_toArray]; rw [hlen]⟩, q⟩
  | _ => exact (show False from e).elim
/-- divmod: a new tuple -/
theorem call_divmod : CallR X (.builtin "divmod") (fun xs H Q => ∃ i j, xs = [.int i, .int j] ∧ CDiv i j ∧ ∀ p, H p = none → Q (.ref p) (upd H p (.tup [.int (i / j), .int (i % j)]))) := by
  intro pins s σ H xs us Q I r h
  obtain ⟨i, j, rfl, ⟨h1, h2⟩, q⟩ := h
  obtain ⟨u, w', rfl, ⟨t, rfl⟩, ⟨t', rfl⟩⟩ := vals2 r
  refine divmod_int (by omega) ?_ (.inl (PyProof.noPylong_small (by omega)))
  rw [Int.fdiv_eq_ediv_of_nonneg i (by omega), Int.fmod_eq_emod_of_nonneg i (by omega)]
  have hn : H s.heap.objs.size = none := I.hok.fresh (Nat.le_refl _)
  refine ⟨.ref s.heap.objs.size, _, ?_, rfl, q _ hn⟩
  refine I.laid (fun b o e => Heap.get?_push_of_some _ e) (Nat.le_refl _) ⟨by simp only [List.length_cons, List.length_nil]; rw [sizeLine_eq]; decide, [.int (i / j) s.toks, .int (i % j) (s.toks + 1)], .cons ⟨_, rfl⟩ (.cons ⟨_, rfl⟩ .nil), ?_⟩
  exact ⟨_, Heap.get?_push_size s.heap rfl, rfl, 0, rfl⟩
end
end L2

namespace L2
open PySem PySem.Spec PyProof.Rows

/-! ### an instance, its attributes a map -/
structure ObjM (h : Heap) (x dx C : Addr) (mA : Str → Option Value) : Prop where
  obj : h.get? x = some (PySem.W.instObj C dx)
  ns : h.Ns1 dx mA
  ne : dx ≠ x

theorem lookIn_ns {h : Heap} {dx : Addr} {mA : Str → Option Value} (n : h.Ns1 dx mA) : ∃ od, h.get? dx = some od ∧ ∀ name, PySem.W.lookIn name od = some (mA name) := by
  obtain ⟨o, es, ep, ho, hd, hk, _, hm⟩ := n
  refine ⟨o, ho, fun name => ?_⟩
  have e := hm name
  unfold nsFind findBy at e
  rw [← Array.find?_toList] at e
  unfold PySem.W.lookIn
  rw [hd]
  dsimp only
  split
  · rename_i y q
    rw [q] at e
    exact congrArg some e
  · rename_i q
    rw [q] at e
    have a : es.toList.any (·.refKey) = false := by
      rw [List.any_eq_false]
      intro y hy
      obtain ⟨z, t, hkey⟩ := hk y (Array.mem_toList_iff.mp hy)
      simp [DictEntry.refKey, hkey]
    have a' : ¬ es.toList.any (·.refKey) = true := by rw [a]; exact Bool.false_ne_true
    rw [if_neg a']
    exact congrArg some e

theorem ObjM.look {h : Heap} {x dx C : Addr} {mA : Str → Option Value} (I : ObjM h x dx C mA) : ∃ od, PySem.W.InstAt h x (PySem.W.instObj C dx) C (some od) ∧ ∀ name, PySem.W.lookIn name od = some (mA name) :=
  let ⟨od, ho, hl⟩ := lookIn_ns I.ns
  ⟨od, ⟨I.obj, rfl, rfl, ho⟩, hl⟩

section
variable {prog : Program} {w : World} {A : Around} {E : Value → Shared → Prop} {s : Shared} {K : PySem.W.Frag} {x dx C f : Addr} {mA : Str → Option Value} {name : Str} {v : Value}

theorem get_map {expr : Bool} {Q : Value → Shared → Prop} (X : K.In s.heap) (I : ObjM s.heap x dx C mA) (hg : PySem.W.plainGet K C name = true) (hh : PySem.W.hasDictIn K C = true)
    (ha : PySem.W.findIn K (.ref C) name = some none) (hv : mA name = some v) (hv' : PySem.W.handedIn v = true) (h : Q v { s with toks := s.toks + 1 }) :
    wpAny (model prog w) A (getAttr (.ref x) name expr) Q E s := by
  obtain ⟨od, J, hl⟩ := I.look
  exact PySem.W.get_value X J (PySem.W.plainGet_of hg).1 (PySem.W.findObj_own hh ha rfl (by rw [hl, hv])) hv' h

theorem get_const {expr : Bool} {a : Value} {Q : Value → Shared → Prop} (X : K.In s.heap) (I : ObjM s.heap x dx C mA) (hg : PySem.W.plainGet K C name = true) (hh : PySem.W.hasDictIn K C = true)
    (ha : PySem.W.findIn K (.ref C) name = some (some a)) (hn : PySem.W.specialIn K a "__get__" = some none) (hc : PySem.W.copiedNames.contains name = false) (hv : mA name = none) (hv' : PySem.W.handedIn a = true)
    (h : Q a { s with toks := s.toks + 1 }) : wpAny (model prog w) A (getAttr (.ref x) name expr) Q E s := by
  obtain ⟨od, J, hl⟩ := I.look
  exact PySem.W.get_value X J (PySem.W.plainGet_of hg).1 (PySem.W.findObj_cls hh ha hn hv' hc (by rw [hl, hv])) hv' h

theorem get_meth {pl : Sem Bool} {Q : Value × List Value → Shared → Prop} (X : K.In s.heap) (I : ObjM s.heap x dx C mA) (hg : PySem.W.plainGet K C name = true)
    (hf : PySem.W.findIn K (.ref C) name = some (some (.ref f))) (ht : PySem.W.isFn K (.ref f) = true) (hv : mA name = none) (h : Q (.ref f, [.ref x]) s) :
    wpAny (model prog w) A (getMethod (.ref x) name pl) Q E s := by
  obtain ⟨od, J, hl⟩ := I.look
  exact PySem.W.method_fn X J (PySem.W.plainGet_of hg).1 (PySem.W.plainGet_of hg).2 hf (beq_iff_eq.mp ht) (by show (PySem.W.lookIn name od).map (·.isSome) = some false; rw [hl, hv]; rfl) h

theorem set_map {ns : List Str} {Q : Unit → Shared → Prop} (X : K.In s.heap) (I : ObjM s.heap x dx C mA)
    (hs : PySem.W.findIn K (.ref C) "__setattr__" = some (some (.builtin "object.__setattr__"))) (hp : PySem.W.plainOver K C = true) (ht : PySem.W.takerIn K C name = some none) (hh : PySem.W.hasDictIn K C = true)
    (hw : PySem.Within mA ns) (hsz : ns.length ≤ sizeLine)
    (h : ∀ h', ObjM h' x dx C (fun y => if y = name then some v else mA y) → Heap.SameBut dx s.heap h' → Q () { s with heap := h', toks := s.toks + 2 }) :
    wpAny (model prog w) A (setAttr (.ref x) name v) Q E s := by
  obtain ⟨od, J, hl⟩ := I.look
  refine PySem.W.set_plain X J hs (PySem.W.osa_open (s := { s with toks := s.toks + 1 }) (r := none) X J hp ht fun b => ?_)
  obtain ⟨cd, hc, hd'⟩ := PySem.W.any_some hh
  have hx : s.heap.get? x = some ⟨.ref C, some dx, .plain, #[]⟩ := I.obj
  refine wpAny_bind (wpAny_pure (wpAny_bind (wpAny_bind (wpAny_loadPart hx (wpAny_bind (PySem.W.Looks.here (s := { s with toks := s.toks + 1 }) (PySem.W.looks_clsIn X hc) ?_))))))
  rw [hd']
  refine wpAny_pure (a := some dx) (wpAny_bind (wpAny_pure (wpAny_bind ?_)))
  refine wpAny_nsSet1 (s := { s with toks := s.toks + 1 }) I.ns fun h' hn2 hs2 => ?_
  obtain ⟨oD, esD, epD, hoD, hdD, hcD⟩ := hn2.count (PySem.Within.cons name v hw)
  refine wpAny_bind (wpAny_lookBehind hoD (by rw [hdD]; exact pastItsLine_dict (Nat.le_trans hcD (by rw [List.length_cons]; omega))) ?_)
  exact wpAny_pure (h _ ⟨(hs2.2 _ (Ne.symm I.ne)).trans I.obj, hn2, I.ne⟩ hs2)

/-- C(..): the dict at the heap's end, the instance behind it; then its __init__ -/
theorem make_map {R : Result → Shared → Prop} {vs : List Value} {kw : List (Str × Value)} (X : K.In s.heap) (hm : PySem.W.makesIn K C = true)
    (hi : PySem.W.findIn K (.ref C) "__init__" = some (some (.ref f))) (hf : PySem.W.typeIn K (.ref f) = some (.type "function"))
    (h : codeAny (model prog w) (A.under (.builtin "type.__call__" ⟨.ref C :: vs, kw⟩)) (.call (.ref f) ⟨.ref (s.heap.objs.size + 1) :: vs, kw⟩) (PySem.W.InitBack (s.heap.objs.size + 1) R)
      { s with heap := (s.heap.push PySem.W.emptyDict).push (PySem.W.instObj C s.heap.objs.size) }) :
    codeAny (model prog w) A (.call (.ref C) ⟨vs, kw⟩) R s := by
  obtain ⟨hh, g, d, t, os⟩ := s
  exact PySem.W.make_core (PySem.W.makes_of X hm) (PySem.W.looks_findIn X hi) (fun self => PySem.W.bind_fn X self hf) (.inl rfl) h
/-- C() where there is no __init__ but object's -/
theorem make_map0 {R : Result → Shared → Prop} (X : K.In s.heap) (hm : PySem.W.makesIn K C = true)
    (hi : PySem.W.findIn K (.ref C) "__init__" = some (some (.builtin "object.__init__")))
    (hb : ∀ self, PySem.W.Looks (model prog w) s.heap (bindSpecial (.builtin "object.__init__") self) (.builtin "object.__init__", [self]))
    (h : codeAny (model prog w) (A.under (.builtin "type.__call__" ⟨[.ref C], []⟩)) (.call (.builtin "object.__init__") ⟨[.ref (s.heap.objs.size + 1)], []⟩) (PySem.W.InitBack (s.heap.objs.size + 1) R)
      { s with heap := (s.heap.push PySem.W.emptyDict).push (PySem.W.instObj C s.heap.objs.size) }) :
    codeAny (model prog w) A (.call (.ref C) ⟨[], []⟩) R s := by
  obtain ⟨hh, g, d, t, os⟩ := s
  exact PySem.W.make_core (PySem.W.makes_of X hm) (PySem.W.looks_findIn X hi) hb (.inr ⟨rfl, rfl⟩) h
end

/-! ### the attributes as a list of pairs -/
def putF (f : Str) (v : V) : List (Str × V) → List (Str × V)
  | [] => [(f, v)]
  | (g, x) :: r => if g = f then (g, v) :: r else (g, x) :: putF f v r
theorem lookup_putF (f g : Str) (v : V) : ∀ fs : List (Str × V), (putF f v fs).lookup g = if g = f then some v else fs.lookup g
  | [] => by
    show List.lookup g [(f, v)] = _
    by_cases h : g = f
    · have hb : (g == f) = true := beq_iff_eq.mpr h
      simp only [List.lookup, hb, if_pos h]
    · have hb : (g == f) = false := beq_eq_false_iff_ne.mpr h
      simp only [List.lookup, hb, if_neg h]
  | (k, x) :: r => by
    have ih := lookup_putF f g v r
    rw [show putF f v ((k, x) :: r) = (if k = f then (k, v) :: r else (k, x) :: putF f v r) from rfl]
    by_cases hk : k = f
    · rw [if_pos hk]
      by_cases h : g = k
      · have hb : (g == k) = true := beq_iff_eq.mpr h
        simp only [List.lookup, hb, if_pos (h.trans hk)]
      · have hb : (g == k) = false := beq_eq_false_iff_ne.mpr h
        simp only [List.lookup, hb, if_neg (fun e : g = f => h (e.trans hk.symm))]
    · rw [if_neg hk]
      by_cases h : g = k
      · have hb : (g == k) = true := beq_iff_eq.mpr h
        simp only [List.lookup, hb, if_neg (fun e : g = f => hk (h.symm.trans e))]
      · have hb : (g == k) = false := beq_eq_false_iff_ne.mpr h
        simp only [List.lookup, hb]
        exact ih
theorem keys_putF (f : Str) (v : V) : ∀ fs : List (Str × V), f ∈ (putF f v fs).map (·.1) ∧ ∀ g, g ∈ fs.map (·.1) → g ∈ (putF f v fs).map (·.1)
  | [] => ⟨by simp [putF], fun g h => by simp at h⟩
  | (k, x) :: r => by
    obtain ⟨i1, i2⟩ := keys_putF f v r
    rw [show putF f v ((k, x) :: r) = (if k = f then (k, v) :: r else (k, x) :: putF f v r) from rfl]
    by_cases hk : k = f
    · rw [if_pos hk]
      subst hk
      exact ⟨by simp, fun g h => by simpa using h⟩
    · rw [if_neg hk]
      refine ⟨?_, fun g h => ?_⟩
      · rw [List.map_cons]
        exact List.mem_cons_of_mem _ i1
      · rw [List.map_cons] at h ⊢
        rcases List.mem_cons.mp h with e | e
        · exact List.mem_cons.mpr (.inl e)
        · exact List.mem_cons_of_mem _ (i2 g e)
theorem length_putF (f : Str) (v : V) : ∀ fs : List (Str × V), (putF f v fs).length ≤ fs.length + 1
  | [] => by simp [putF]
  | (k, x) :: r => by
    have ih := length_putF f v r
    rw [show putF f v ((k, x) :: r) = (if k = f then (k, v) :: r else (k, x) :: putF f v r) from rfl]
    by_cases hk : k = f
    · rw [if_pos hk, List.length_cons, List.length_cons]; omega
    · rw [if_neg hk, List.length_cons, List.length_cons]; omega

theorem RelO.some_of {v : V} {o : Option Value} (r : RelO (some v) o) : ∃ u, o = some u ∧ RelV v u := by
  cases o with
  | none => exact (show False from r).elim
  | some u => exact ⟨u, rfl, r⟩
theorem RelO.none_of {o : Option Value} (r : RelO none o) : o = none := by
  cases o with
  | none => rfl
  | some u => exact (show False from r).elim
theorem handed_of {v : V} {u : Value} (r : RelV v u) : PySem.W.handedIn u = true := by
  cases v with
  | non => cases (show u = Value.none from r); rfl
  | bl b => cases (show u = Value.bool b from r); rfl
  | int i => obtain ⟨t, e⟩ := (show ∃ t, u = Value.int i t from r); cases e; rfl
  | str x => obtain ⟨t, e⟩ := (show ∃ t, u = Value.str x t from r); cases e; rfl
  | byt b => obtain ⟨t, e⟩ := (show ∃ t, u = Value.bytes b t from r); cases e; rfl
  | flt b => obtain ⟨t, e⟩ := (show ∃ t, u = Value.float b t from r); cases e; rfl
  | ref a => cases (show u = Value.ref a from r); rfl
  | ty n => cases (show u = Value.type n from r); rfl

section
variable {P : Program} {w : World} {H H' : Hp} {h h' : Heap} {a C dx : Addr} {fs fs' : List (Str × V)}
theorem ins_get (hok : HOk P w H h) (e : H a = some (.ins C dx fs)) : ∃ mA, ObjM h a dx C mA ∧ (∀ f, RelO (fs.lookup f) (mA f)) ∧ PySem.Within mA (fs.map (·.1)) ∧ fs.length ≤ 1000 ∧ H dx = some (.own a) := by
  obtain ⟨d, z, ne, ob, mA, n, r, q⟩ := (show ObjOk P w H h a (.ins C dx fs) from hok a _ e)
  exact ⟨mA, ⟨ob, n, ne⟩, r, q, z, d⟩
end

/-! ### what of the text a class must have -/
structure Cls (K : PySem.W.Frag) (C : Addr) : Prop where
  pg : PySem.W.plainGet K C Str.empty = true
  hd : PySem.W.hasDictIn K C = true
  po : PySem.W.plainOver K C = true
  sa : PySem.W.findIn K (.ref C) "__setattr__" = some (some (.builtin "object.__setattr__"))
theorem Cls.get {K : PySem.W.Frag} {C : Addr} (c : Cls K C) (f : Str) : PySem.W.plainGet K C f = true := c.pg
/-- no class of it has the name -/
def NoAttr (K : PySem.W.Frag) (C : Addr) (f : Str) : Prop := PySem.W.findIn K (.ref C) f = some none
theorem NoAttr.taker {K : PySem.W.Frag} {C : Addr} {f : Str} (n : NoAttr K C f) : PySem.W.takerIn K C f = some none := by
  unfold PySem.W.takerIn
  rw [show PySem.W.findIn K (.ref C) f = some none from n]
  rfl
/-- a constant of the class -/
structure Con (K : PySem.W.Frag) (C : Addr) (f : Str) (v : V) (u : Value) : Prop where
  at_ : PySem.W.findIn K (.ref C) f = some (some u)
  rel : RelV v u
  get : PySem.W.specialIn K u "__get__" = some none
  cp : PySem.W.copiedNames.contains f = false
/-- a method: a plain def of the class or of one above it -/
structure Meth (K : PySem.W.Frag) (C : Addr) (m : Str) (f : Addr) : Prop where
  at_ : PySem.W.findIn K (.ref C) m = some (some (.ref f))
  fn : PySem.W.isFn K (.ref f) = true
  kp : PySem.W.keepIn K (.ref f) = true

section
variable {X : Cx} {pins : List (Addr × Obj)} {σ : St} {H : Hp} {s : Shared} {a C dx : Addr} {fs : List (Str × V)} {f : Str} {v : V} {A : Around} {E : Value → Shared → Prop}

theorem getattr_ok {b : Bool} {Q : Value → Shared → Prop} (I : Inv X pins σ H s) (e : H a = some (.ins C dx fs)) (c : Cls X.K C) (n : NoAttr X.K C f) (l : fs.lookup f = some v)
    (h : ∀ u s', Inv X pins σ H s' → RelV v u → Q u s') : wpAny (model X.prog X.w) A (getAttr (.ref a) f b) Q E s := by
  obtain ⟨mA, O, r, _, _, _⟩ := ins_get I.hok e
  obtain ⟨u, hu, ru⟩ := RelO.some_of (v := v) (o := mA f) (by rw [← l]; exact r f)
  exact get_map I.kIn O (c.get f) c.hd n hu (handed_of ru) (h u _ (I.tok _) ru)

theorem getcon_ok {b : Bool} {u : Value} {Q : Value → Shared → Prop} (I : Inv X pins σ H s) (e : H a = some (.ins C dx fs)) (c : Cls X.K C) (k : Con X.K C f v u) (l : fs.lookup f = none)
    (h : ∀ s', Inv X pins σ H s' → Q u s') : wpAny (model X.prog X.w) A (getAttr (.ref a) f b) Q E s := by
  obtain ⟨mA, O, r, _, _, _⟩ := ins_get I.hok e
  have hn : mA f = none := RelO.none_of (by rw [← l]; exact r f)
  exact get_const I.kIn O (c.get f) c.hd k.at_ k.get k.cp hn (handed_of k.rel) (h _ (I.tok _))

theorem getmeth_ok {m : Str} {g : Addr} {pl : Sem Bool} {Q : Value × List Value → Shared → Prop} (I : Inv X pins σ H s) (e : H a = some (.ins C dx fs)) (c : Cls X.K C) (k : Meth X.K C m g) (l : fs.lookup m = none)
    (h : Q (.ref g, [.ref a]) s) : wpAny (model X.prog X.w) A (getMethod (.ref a) m pl) Q E s := by
  obtain ⟨mA, O, r, _, _, _⟩ := ins_get I.hok e
  have hn : mA m = none := RelO.none_of (by rw [← l]; exact r m)
  exact get_meth I.kIn O (c.get m) k.at_ k.fn hn h

theorem setattr_ok {y : V} {u : Value} {Q : Unit → Shared → Prop} (I : Inv X pins σ H s) (e : H a = some (.ins C dx fs)) (c : Cls X.K C) (n : NoAttr X.K C f) (hl : fs.length < 1000) (ry : RelV y u)
    (h : ∀ s', Inv X pins σ (upd H a (.ins C dx (putF f y fs))) s' → Q () s') : wpAny (model X.prog X.w) A (setAttr (.ref a) f u) Q E s := by
  obtain ⟨mA, O, r, wi, _, ho⟩ := ins_get I.hok e
  have hz : (fs.map (·.1)).length ≤ sizeLine := by rw [List.length_map, sizeLine_eq]; omega
  refine set_map I.kIn O c.sa c.po n.taker c.hd wi hz fun h' O' sb => h _ ?_
  have hd : ∃ o, h'.get? dx = some o := let ⟨o, _, _, e', _⟩ := O'.ns; ⟨o, e'⟩
  refine I.write (x := a) (e := dx) (by rw [e]; exact True.intro) (.inr ho) (fun b q hb z => (sb.2 b hb).trans z) hd ?_
  refine ⟨by rw [upd_ne O.ne]; exact ho, ?_, O.ne, O'.obj, _, O'.ns, fun g => ?_, fun g hg => ?_⟩
  · have := length_putF f y fs; omega
  · show RelO ((putF f y fs).lookup g) (if g = f then some u else mA g)
    rw [lookup_putF]
    by_cases q : g = f
    · rw [if_pos q, if_pos q]; exact ry
    · rw [if_neg q, if_neg q]; exact r g
  · by_cases q : g = f
    · rw [q]; exact (keys_putF f y fs).1
    · refine (keys_putF f y fs).2 g (wi g fun z => hg ?_)
      show (if g = f then some u else mA g) = none
      rw [if_neg q]; exact z

/-- a new instance, tracked, without attributes -/
theorem Inv.made (I : Inv X pins σ H s) : Inv X pins σ (upd (upd H s.heap.objs.size (.own (s.heap.objs.size + 1))) (s.heap.objs.size + 1) (.ins C s.heap.objs.size []))
    { s with heap := (s.heap.push PySem.W.emptyDict).push (PySem.W.instObj C s.heap.objs.size) } := by
  have e1 : (s.heap.push PySem.W.emptyDict).get? s.heap.objs.size = some PySem.W.emptyDict := Heap.get?_push_size s.heap rfl
  have e2 : ((s.heap.push PySem.W.emptyDict).push (PySem.W.instObj C s.heap.objs.size)).get? (s.heap.objs.size + 1) = some (PySem.W.instObj C s.heap.objs.size) := by
    have := Heap.get?_push_size (s.heap.push PySem.W.emptyDict) (o := PySem.W.instObj C s.heap.objs.size) rfl
    rwa [Heap.size_push] at this
  have e3 : (s.heap.push PySem.W.emptyDict).Ns s.heap.objs.size (fun _ => none) := ⟨PySem.W.emptyDict, #[], _, e1, rfl, (fun e he => absurd he (by simp)), fun _ => rfl⟩
  have I1 := I.laid (a := s.heap.objs.size) (o := .own (s.heap.objs.size + 1)) (h' := s.heap.push PySem.W.emptyDict) (t' := s.toks) (fun b u q => Heap.get?_push_of_some _ q) (Nat.le_refl _) ⟨_, e1⟩
  refine I1.laid (a := s.heap.objs.size + 1) (o := .ins C s.heap.objs.size []) (t' := s.toks) (fun b u q => Heap.get?_push_of_some _ q) (Nat.le_of_eq (Heap.size_push _ _)) ?_
  have ne : s.heap.objs.size ≠ s.heap.objs.size + 1 := Nat.ne_of_lt (Nat.lt_succ_self _)
  refine ⟨by rw [upd_ne ne, upd_same], Nat.zero_le _, ne, e2, fun _ => none, (Heap.Ns1.of_empty e3).at fun o q => Heap.get?_push_of_some _ q, fun _ => True.intro, fun y hy => absurd rfl hy⟩

/-- e.f where nothing but the object is asked: through attributeBase (super) and the last hold -/
theorem attr_of {prog : Program} {w : World} {env : Env} {e : Expr} {f : Str} {pos : Pos} {s : Shared} {Q : Value → Shared → Prop} (hb : attributeBase e f env (eval e env) = eval e env)
    (h : wpAny (model prog w) A (eval e env) (fun o s₁ => wpAny (model prog w) A (getAttr o f true) Q E s₁) E s) : wpAny (model prog w) A (eval (.Attribute e f pos) env) Q E s :=
  Attribute_any_ h (by rw [arm_eval_Attribute, hb])
end

/-! ### readings and rules -/
/-- e.f, an attribute of the instance -/
def tFld (K : PySem.W.Frag) (ta : TE) (f : Str) : TE := fun σ H Q => ta σ H fun x H1 => ∃ a C dx fs v, x = .ref a ∧ H1 a = some (.ins C dx fs) ∧ Cls K C ∧ NoAttr K C f ∧ fs.lookup f = some v ∧ Q v H1
/-- e.f, a constant of the class -/
def tCon (K : PySem.W.Frag) (ta : TE) (f : Str) : TE := fun σ H Q => ta σ H fun x H1 => ∃ a C dx fs v u, x = .ref a ∧ H1 a = some (.ins C dx fs) ∧ Cls K C ∧ Con K C f v u ∧ fs.lookup f = none ∧ Q v H1
/-- e.f = value -/
def sFld (K : PySem.W.Frag) (ta tv : TE) (f : Str) : TS := fun D σ H => tv σ H fun y H1 => ta σ H1 fun x H2 => ∃ a C dx fs, x = .ref a ∧ H2 a = some (.ins C dx fs) ∧ Cls K C ∧ NoAttr K C f ∧ fs.length < 1000 ∧
  D.nx σ (upd H2 a (.ins C dx (putF f y fs)))
/-- an augmented operator on two values -/
def InOp (X : Cx) (op : Operator) (rd : V → V → Hp → VK → Prop) : Prop :=
  ∀ (pins : List (Addr × Obj)) (s : Shared) (σ : St) (H : Hp) (x y : V) (u v : Value) (Q : VK), Inv X pins σ H s → RelV x u → RelV y v → rd x y H Q → wpAny (model X.prog X.w) X.A (inplaceOp op u v) (EP X pins σ Q) X.xe s
/-- e.f op= value -/
def sFldAug (K : PySem.W.Frag) (ta tv : TE) (rd : V → V → Hp → VK → Prop) (f : Str) : TS := fun D σ H => ta σ H fun x H1 => ∃ a C dx fs v, x = .ref a ∧ H1 a = some (.ins C dx fs) ∧ Cls K C ∧ NoAttr K C f ∧ fs.lookup f = some v ∧
  tv σ H1 fun y H2 => rd v y H2 fun z H3 => ∃ dx' fs', H3 a = some (.ins C dx' fs') ∧ fs'.length < 1000 ∧ D.nx σ (upd H3 a (.ins C dx' (putF f z fs')))

section
variable {X : Cx} {o e value : Expr} {f : Str} {pos pos' tpos : Pos} {ta tv : TE}
theorem pe_fld (he : PE X e ta) (hb : attributeBase e f X.env (eval e X.env) = eval e X.env) : PE X (.Attribute e f pos) (tFld X.K ta f) := by
  intro pins s σ H Q I h
  refine attr_of hb (thn (he pins s σ H _ I h) fun u s1 ⟨x, H1, I1, rx, a, C, dx, fs, v, ex, ea, c, n, l, q⟩ => ?_)
  subst ex
  obtain rfl : u = Value.ref a := rx
  exact getattr_ok I1 ea c n l fun u' s2 I2 ru => ⟨v, H1, I2, ru, q⟩
theorem pe_con (he : PE X e ta) (hb : attributeBase e f X.env (eval e X.env) = eval e X.env) : PE X (.Attribute e f pos) (tCon X.K ta f) := by
  intro pins s σ H Q I h
  refine attr_of hb (thn (he pins s σ H _ I h) fun u s1 ⟨x, H1, I1, rx, a, C, dx, fs, v, u0, ex, ea, c, k, l, q⟩ => ?_)
  subst ex
  obtain rfl : u = Value.ref a := rx
  exact getcon_ok I1 ea c k l fun s2 I2 => ⟨v, H1, I2, k.rel, q⟩
theorem ps_fld (ha : PE X o ta) (hv : PE X value tv) (hs : swapsWith value (some (.Attribute o f pos')) pos.line X.env = pure false) : PS X (.Assign [.Attribute o f pos'] value pos) (sFld X.K ta tv f) := by
  intro pins s σ H D I h
  refine plainObj_wpAny_Assign_Attribute (thn (hv pins s σ H _ I h) fun u s1 ⟨y, H1, I1, ry, q⟩ => thn (ha pins s1 σ H1 _ I1 q) fun ov s2 ⟨x, H2, I2, rx, a, C, dx, fs, ex, ea, c, n, l, q2⟩ => ?_) hs
  subst ex
  obtain rfl : ov = Value.ref a := rx
  exact setattr_ok I2 ea c n l ry fun s3 I3 => ⟨σ, _, I3, q2⟩
theorem ps_fldaug {op : Operator} {rd : V → V → Hp → VK → Prop} (ha : PE X o ta) (hv : PE X value tv) (hop : InOp X op rd) : PS X (.AugAssign (.Attribute o f tpos) op value pos) (sFldAug X.K ta tv rd f) := by
  intro pins s σ H D I h
  refine wpAny_AugAssign_AttributeAny (thn (ha pins s σ H _ I h) fun ov s1 ⟨x, H1, I1, rx, a, C, dx, fs, v, ex, ea, c, n, l, q⟩ => ?_)
  subst ex
  obtain rfl : ov = Value.ref a := rx
  refine getattr_ok I1 ea c n l fun u s2 I2 ru => thn (hv pins s2 σ H1 _ I2 q) fun w3 s3 ⟨y, H2, I3, ry, q3⟩ => thn (hop pins s3 σ H2 v y u w3 _ I3 ru ry q3) fun w4 s4 ⟨z, H3, I4, rz, dx', fs', ea', l', q4⟩ => ?_
  exact setattr_ok I4 ea' c n l' rz fun s5 I5 => ⟨σ, _, I5, q4⟩
def rAdd : V → V → Hp → VK → Prop := fun x y H Q => ∃ i j, x = .int i ∧ y = .int j ∧ Q (.int (i + j)) H
def rSub : V → V → Hp → VK → Prop := fun x y H Q => ∃ i j, x = .int i ∧ y = .int j ∧ Q (.int (i - j)) H
theorem in_add : InOp X .Add rAdd := by
  rintro pins s σ H x y u v Q I rx ry ⟨i, j, rfl, rfl, q⟩
  obtain ⟨t, rfl⟩ := (show ∃ t, u = Value.int i t from rx)
  obtain ⟨t', rfl⟩ := (show ∃ t', v = Value.int j t' from ry)
  exact PyProof.Rows.iadd_int ⟨.int (i + j), H, I.tok _, ⟨_, rfl⟩, q⟩
theorem in_sub : InOp X .Sub rSub := by
  rintro pins s σ H x y u v Q I rx ry ⟨i, j, rfl, rfl, q⟩
  obtain ⟨t, rfl⟩ := (show ∃ t, u = Value.int i t from rx)
  obtain ⟨t', rfl⟩ := (show ∃ t', v = Value.int j t' from ry)
  exact PyProof.Rows.isub_int ⟨.int (i - j), H, I.tok _, ⟨_, rfl⟩, q⟩

/-- what is between an instance and its method: the tree of a method call -/
theorem methcall_of {pl : Sem Bool} {m : Str} {apos : Pos} {args : List Expr} {pins : List (Addr × Obj)} {s : Shared} {σ : St} {H : Hp} {Q : Value → Shared → Prop} {te : TE} (he : PE X e te) (I : Inv X pins σ H s)
    (h : te σ H fun x H1 => ∃ a C dx fs g, x = .ref a ∧ H1 a = some (.ins C dx fs) ∧ Cls X.K C ∧ Meth X.K C m g ∧ fs.lookup m = none ∧
      ∀ s1, Inv X pins σ H1 s1 → wpAny (model X.prog X.w) X.A (callWith pos (.ref g) [.ref a] (backTo pos (starEach args X.env)) (backToKw pos (keywordEach [] X.env))) Q X.xe s1)
    (ht : eval (.Call (.Attribute e m apos) args [] pos) X.env = (do
      let ov ← eval e X.env
      standAt apos.atName
      let (f, first) ← holding [ov] (getMethod ov m pl)
      callWith pos f first (backTo pos (starEach args X.env)) (backToKw pos (keywordEach [] X.env)))) :
    wpAny (model X.prog X.w) X.A (eval (.Call (.Attribute e m apos) args [] pos) X.env) Q X.xe s := by
  refine PySem.W.methodCall_KW (pl := pl) (thn (he pins s σ H _ I h) fun u s1 ⟨x, H1, I1, rx, a, C, dx, fs, g, ex, ea, c, k, l, q⟩ => ?_) ht
  subst ex
  obtain rfl : u = Value.ref a := rx
  exact getmeth_ok I1 ea c k l (q s1 I1)
end

/-! ### isinstance -/
section
variable {X : Cx} {pins : List (Addr × Obj)} {σ : St} {H : Hp} {s : Shared} {A : Around} {E : Value → Shared → Prop} {Q : Value → Shared → Prop} {c : Value} {b : Bool}
/-- the type of a value, as the fragment's deciders take it; for an instance its class -/
inductive TyOf (K : PySem.W.Frag) (H : Hp) : V → Value → Prop where
  | non : TyOf K H .non (.type "NoneType")
  | bl (x : Bool) : TyOf K H (.bl x) (.type "bool")
  | int (i : Int) : TyOf K H (.int i) (.type "int")
  | str (x : Str) : TyOf K H (.str x) (.type "str")
  | flt (x : UInt64) : TyOf K H (.flt x) (.type "float")
  | lst {a : Addr} {xs : List V} (e : H a = some (.lst xs)) : TyOf K H (.ref a) (.type "list")
  | frz {a : Addr} {o : Obj} {xs : List V} (e : H a = some (.frz o (.lst xs))) : TyOf K H (.ref a) (.type "list")
  | tup {a : Addr} {xs : List V} (e : H a = some (.tup xs)) : TyOf K H (.ref a) (.type "tuple")
  | dK {a : Addr} {kvs : List (Key × V)} (e : H a = some (.dK kvs)) : TyOf K H (.ref a) (.type "dict")
  | dT {a : Addr} {kvs : List (List Key × V)} (e : H a = some (.dT kvs)) : TyOf K H (.ref a) (.type "dict")
  | ins {a C dx : Addr} {fs : List (Str × V)} (e : H a = some (.ins C dx fs)) (cl : Cls K C) (ha : PySem.W.findIn K (.ref C) "__class__" = some (some (.builtin "object.__class__")))
      (hn : PySem.W.specialIn K (.builtin "object.__class__") "__get__" = some (some (.builtin "getset_descriptor.__get__"))) (htk : PySem.W.takesIn K (.builtin "object.__class__") = some true)
      (hm : PySem.W.mroIn K C (.type "object") = some true) : TyOf K H (.ref a) (.ref C)
/-- isinstance(x, c) for one class c, a built-in or an own one: kitOne's answer -/
theorem isinst_ok {x : V} {u t : Value} (I : Inv X pins σ H s) (rx : RelV x u) (ty : TyOf X.K H x t) (e : PySem.W.kitOne X.K t c = some b) (h : ∀ tk, Q (.bool b) { s with toks := tk }) :
    wpAny (model X.prog X.w) A (call (.builtin "isinstance") [u, c]) Q E s := by
  cases ty with
  | non => cases (show u = Value.none from rx); exact PySem.W.kia_one PySem.W.kitx_none I.kIn True.intro e (fun z => nomatch z) h
  | bl y => cases (show u = Value.bool y from rx); exact PySem.W.kia_one PySem.W.kitx_bool I.kIn True.intro e (fun z => nomatch z) h
  | int i => obtain ⟨t, q⟩ := (show ∃ t, u = Value.int i t from rx); cases q; exact PySem.W.kia_one PySem.W.kitx_int I.kIn True.intro e (fun z => nomatch z) h
  | str y => obtain ⟨t, q⟩ := (show ∃ t, u = Value.str y t from rx); cases q; exact PySem.W.kia_one PySem.W.kitx_str I.kIn True.intro e (fun z => nomatch z) h
  | flt y => obtain ⟨t, q⟩ := (show ∃ t, u = Value.float y t from rx); cases q; exact PySem.W.kia_one PySem.W.kitx_float I.kIn True.intro e (fun z => nomatch z) h
  | @lst a xs ea =>
    cases (show u = Value.ref a from rx)
    obtain ⟨_, _, n, _, h1⟩ := (show ObjOk X.prog X.w H s.heap a (.lst xs) from I.hok a _ ea)
    exact PySem.W.kia_one PySem.W.kitx_list I.kIn ⟨_, h1, rfl⟩ e (fun z => nomatch z) h
  | @frz a ob xs ea =>
    cases (show u = Value.ref a from rx)
    obtain ⟨_, _, _, n, _, h1⟩ := (show ObjOk X.prog X.w H s.heap a (.frz ob (.lst xs)) from I.hok a _ ea)
    exact PySem.W.kia_one PySem.W.kitx_list I.kIn ⟨_, h1, rfl⟩ e (fun z => nomatch z) h
  | @tup a xs ea =>
    cases (show u = Value.ref a from rx)
    obtain ⟨_, _, _, p⟩ := (show ObjOk X.prog X.w H s.heap a (.tup xs) from I.hok a _ ea)
    obtain ⟨o, h1, h2, _⟩ := p
    exact PySem.W.kia_one PySem.W.kitx_tuple I.kIn ⟨o, h1, h2⟩ e (fun z => nomatch z) h
  | @dK a kvs ea =>
    cases (show u = Value.ref a from rx)
    obtain ⟨_, _, vs, _, p⟩ := (show ObjOk X.prog X.w H s.heap a (.dK kvs) from I.hok a _ ea)
    obtain ⟨o, es, ep, h1, h2, _⟩ := p
    exact PySem.W.kia_one PySem.W.kitx_dict I.kIn ⟨o, h1, h2.1⟩ e (fun z => nomatch z) h
  | @dT a kvs ea =>
    cases (show u = Value.ref a from rx)
    obtain ⟨_, _, xs, _, o, es, ep, h1, h2, _⟩ := (show ObjOk X.prog X.w H s.heap a (.dT kvs) from I.hok a _ ea)
    exact PySem.W.kia_one PySem.W.kitx_dict I.kIn ⟨o, h1, h2.1⟩ e (fun z => nomatch z) h
  | @ins a C dx fs ea cl ha hn htk hm =>
    cases (show u = Value.ref a from rx)
    obtain ⟨mA, O, _⟩ := ins_get I.hok ea
    obtain ⟨od, J, _⟩ := O.look
    exact PySem.W.kia_one (PySem.W.kitx_own (cl.get _) cl.hd ha hn htk hm) I.kIn J e (fun z => nomatch z) h
end
end L2

namespace L2
open PySem PySem.Spec PyProof.Rows

/-! ### room -/
structure Room (k : Nat) (A : Around) : Prop where
  hd : A.handled = none
  dp : A.depth + 3 * k + 5 < recursionLimit
  un : A.units + 16 * k + 200 < cLine
theorem Room.mono {j k : Nat} {A : Around} (r : Room k A) (h : j ≤ k) : Room j A := ⟨r.hd, by have := r.dp; omega, by have := r.un; omega⟩
theorem Room.deeper {k : Nat} {A : Around} (r : Room (k + 1) A) (env : Env) : Room k (A.deeper env) :=
  ⟨r.hd, by have := r.dp; show A.depth + 1 + 3 * k + 5 < _; omega, by have := r.un; show A.units + 3 + 16 * k + 200 < _; omega⟩
theorem Room.in1 {k : Nat} {A : Around} (r : Room (k + 1) A) : Room k A.in1 :=
  ⟨r.hd, by have := r.dp; show A.depth + 3 * k + 5 < _; omega, by have := r.un; show A.units + 1 + 16 * k + 200 < _; omega⟩
theorem make_depth {A : Around} {C : Addr} {us : List Value} {kw : List (Str × Value)} : (A.under (.builtin "type.__call__" ⟨.ref C :: us, kw⟩)).depth = A.depth + 1 := by
  first | rfl | simp [Around.under, Code.weight, Code.isCreation, Code.isGuard, Code.isCaller, Code.frames, Code.isFrame, guardIds]
theorem make_units {A : Around} {C : Addr} {us : List Value} {kw : List (Str × Value)} : (A.under (.builtin "type.__call__" ⟨.ref C :: us, kw⟩)).units = A.units + 1 := by
  first | rfl | simp [Around.under, Code.cUnits, Code.frames, Code.isFrame]
theorem Room.make {k : Nat} {A : Around} (r : Room (k + 1) A) (C : Addr) (us : List Value) (kw : List (Str × Value)) : Room k (A.under (.builtin "type.__call__" ⟨.ref C :: us, kw⟩)) :=
  ⟨r.hd, by have := r.dp; rw [make_depth]; omega, by have := r.un; rw [make_units]; omega⟩
theorem Room.depth {k : Nat} {A : Around} (r : Room k A) : A.depth < recursionLimit := by have := r.dp; omega
theorem Room.units {k : Nat} {A : Around} (r : Room k A) : A.units + 64 < cLine := by have := r.un; omega
theorem Room.units0 {k : Nat} {A : Around} (r : Room k A) : A.units < cLine := by have := r.un; omega

/-! ### argument lists and displays -/
def tNil : TA := fun _ H Q => Q [] H
def tCons (ta : TE) (tr : TA) : TA := fun σ H Q => ta σ H fun x H1 => tr σ H1 fun xs H2 => Q (x :: xs) H2
section
variable {X : Cx} {e : Expr} {es : List Expr} {te : TE} {t : TA} {pos : Pos}
theorem pa_nil : PA X [] tNil := fun _ _ _ _ H Q I h => Calls.spliced_nil ⟨[], H, I, .nil, h⟩
theorem pa_cons (ha : PE X e te) (hr : PA X es t) (hs : starEach (e :: es) X.env = (false, eval e X.env) :: starEach es X.env := by rfl) : PA X (e :: es) (tCons te t) := by
  intro pos pins s σ H Q I h
  rw [hs]
  show wpAny _ _ (spliced ((false, eval e X.env) :: backTo pos (starEach es X.env))) _ _ s
  refine Calls.spliced_cons (thn (ha pins s σ H _ I h) fun u s1 ⟨x, H1, I1, r1, q1⟩ => ?_)
  exact thn (hr pos pins s1 σ H1 _ I1 q1) fun us s2 ⟨xs, H2, I2, r2, q2⟩ => ⟨x :: xs, H2, I2, .cons r1 r2, q2⟩

/-- a tuple, a list of written items -/
def tTup (t : TA) : TE := fun σ H Q => t σ H fun xs H1 => xs.length ≤ sizeLine ∧ ∀ p, H1 p = none → Q (.ref p) (upd H1 p (.tup xs))
def tLst (t : TA) : TE := fun σ H Q => t σ H fun xs H1 => xs.length ≤ sizeLine ∧ ∀ p, H1 p = none → Q (.ref p) (upd H1 p (.lst xs))
theorem pe_tup {x1} (h : PA X es t) : PE X (.Tuple es x1 pos) (tTup t) := by
  intro pins s σ H Q I hq
  refine wpAny_Tuple_spliced (thn (h pos pins s σ H _ I hq) fun us s1 ⟨xs, H1, I1, r, z, q⟩ => ⟨by rw [← r.length]; exact z, ?_⟩)
  have hf : H1 s1.heap.objs.size = none := I1.hok.fresh (Nat.le_refl _)
  refine ⟨.ref s1.heap.objs.size, upd H1 s1.heap.objs.size (.tup xs), I1.laid (t' := s1.toks) (fun b u e => Heap.get?_push_of_some _ e) (Nat.le_refl _) ?_, rfl, q _ hf⟩
  exact ⟨z, us, r, ⟨_, Heap.get?_push_size _ rfl, rfl, _, rfl⟩⟩
theorem pe_lst (h : PA X es t) : PE X (.List es pos) (tLst t) := by
  intro pins s σ H Q I hq
  refine wpAny_List_spliced (thn (h pos pins s σ H _ I hq) fun us s1 ⟨xs, H1, I1, r, z, q⟩ => ⟨by rw [← r.length]; exact z, ?_⟩)
  have hf : H1 s1.heap.objs.size = none := I1.hok.fresh (Nat.le_refl _)
  refine ⟨.ref s1.heap.objs.size, upd H1 s1.heap.objs.size (.lst xs), I1.laid (t' := s1.toks) (fun b u e => Heap.get?_push_of_some _ e) (Nat.le_refl _) ?_, rfl, q _ hf⟩
  exact ⟨z, us, 0, r, Heap.get?_push_size _ rfl⟩
end

/-! ### what a def promises -/
/-- a def's promise: the bound arguments in the parameters' order, the heap, the wanted end, the wanted exception -/
abbrev Sp := List V → Hp → VK → XK → Prop
/-- how an exception lies behind a call (file 08 gives it): the callers' frames, abstract heap and state ahead of the call, the wish, the exception, the state -/
abbrev CXT := List Env → Hp → Shared → XK → Value → Shared → Prop

/-- the state at a call -/
structure Env0 (P : Program) (w : World) (K : PySem.W.Frag) (mg : Str → Option Value) (base : Heap) (A : Around) (outer : List Env) (s : Shared) (H : Hp) : Prop where
  frames : A.frames = some outer
  mod : Mod K mg base
  bs : ∀ b o, base.get? b = some o → s.heap.get? b = some o ∧ H b = none
  bsz : base.objs.size ≤ s.heap.objs.size
  funs : s.heap.FunFrames base outer
  frf : ∀ b ∈ frs outer, H b = none
  hok : HOk P w H s.heap
  bare : AllBare s.gens
/-- a call's end -/
def CE (outer : List Env) (P : Program) (w : World) (H : Hp) (s : Shared) (Q : VK) (u : Value) (s' : Shared) : Prop :=
  ∃ v H', s'.os = s.os ∧ AllBare s'.gens ∧ Un (frs outer) [] H H' s.heap s'.heap ∧ HOk P w H' s'.heap ∧ RelV v u ∧ Q v H'
def CR (CX : CXT) (outer : List Env) (P : Program) (w : World) (H : Hp) (s : Shared) (Q : VK) (E : XK) (r : Result) (s' : Shared) : Prop :=
  match r with
  | .ok (.ret u) => CE outer P w H s Q u s'
  | .ok _ => False
  | .error e => CX outer H s E e s'
structure FnOk (P : Program) (w : World) (K : PySem.W.Frag) (mg : Str → Option Value) (base : Heap) (CX : CXT) (k : Nat) (f : Addr) (fd : FuncData) (ps : List Str) (sp : Sp) : Prop where
  len : ∀ vs H Q E, sp vs H Q E → vs.length = ps.length
  run : ∀ (A : Around) (outer : List Env) (s : Shared) (H : Hp) (args : Args) (us : List Value) (vs : List V) (Q : VK) (E : XK), Room k A → Env0 P w K mg base A outer s H → BindsTo s fd args (ps.zip us) → Vals vs us → sp vs H Q E →
    codeAny (model P w) A (.call (.ref f) args) (CR CX outer P w H s Q E) s
theorem FnOk.mono {P : Program} {w : World} {K : PySem.W.Frag} {mg : Str → Option Value} {base : Heap} {CX : CXT} {j k : Nat} {f : Addr} {fd : FuncData} {ps : List Str} {sp : Sp} (F : FnOk P w K mg base CX j f fd ps sp) (h : j ≤ k) :
    FnOk P w K mg base CX k f fd ps sp := ⟨F.len, fun A outer s H args us vs Q E hr => F.run A outer s H args us vs Q E (hr.mono h)⟩
/-- a weaker promise -/
theorem FnOk.imp {P : Program} {w : World} {K : PySem.W.Frag} {mg : Str → Option Value} {base : Heap} {CX : CXT} {k : Nat} {f : Addr} {fd : FuncData} {ps : List Str} {sp sp' : Sp} (F : FnOk P w K mg base CX k f fd ps sp)
    (h : ∀ vs H Q E, sp' vs H Q E → sp vs H Q E) : FnOk P w K mg base CX k f fd ps sp' :=
  ⟨fun vs H Q E q => F.len vs H Q E (h _ _ _ _ q), fun A outer s H args us vs Q E hr he hb hv hs => F.run A outer s H args us vs Q E hr he hb hv (h _ _ _ _ hs)⟩

theorem Env0.make {P : Program} {w : World} {K : PySem.W.Frag} {mg : Str → Option Value} {base : Heap} {A : Around} {outer : List Env} {s : Shared} {H : Hp} (e : Env0 P w K mg base A outer s H) (C : Addr) (us : List Value) (kw : List (Str × Value)) :
    Env0 P w K mg base (A.under (.builtin "type.__call__" ⟨.ref C :: us, kw⟩)) outer s H := ⟨by first | exact e.frames | (simpa [Around.under, Code.envs, Code.isFrame, pushEnvs] using e.frames), e.mod, e.bs, e.bsz, e.funs, e.frf, e.hok, e.bare⟩
theorem Env0.in1 {P : Program} {w : World} {K : PySem.W.Frag} {mg : Str → Option Value} {base : Heap} {A : Around} {outer : List Env} {s : Shared} {H : Hp} (e : Env0 P w K mg base A outer s H) :
    Env0 P w K mg base A.in1 outer s H := ⟨e.frames, e.mod, e.bs, e.bsz, e.funs, e.frf, e.hok, e.bare⟩

section
variable {X : Cx} {pins : List (Addr × Obj)} {σ : St} {H : Hp} {s s' : Shared}
/-- from a body: what a callee wants -/
theorem Inv.env0 (I : Inv X pins σ H s) : Env0 X.prog X.w X.K X.mg X.base X.A X.stack s H :=
  ⟨I.ok.frames, I.ok.mod, I.bs, Nat.le_trans I.ok.bsz I.sz, I.stack, I.stkFree, I.hok, I.bare⟩
/-- behind a call -/
theorem Inv.after {Q : VK} {u : Value} (I : Inv X pins σ H s) (h : CE X.stack X.prog X.w H s Q u s') : EP X pins σ Q u s' := by
  obtain ⟨v, H', os, bare, un, hok, r, q⟩ := h
  obtain ⟨hh, g, d, t, os'⟩ := s'
  obtain rfl : os' = s.os := os
  exact ⟨v, H', I.call (h' := hh) (g' := g) (d' := d) (t' := t) (ch := []) un hok bare (fun b z => absurd z (by simp)), r, q⟩
end

/-! ### calls -/
/-- f(..): the written arguments, then the defaults dvs; E: what is wanted of an exception -/
def tCall (sp : Sp) (dvs : List V) (E : XK) (t : TA) : TE := fun σ H Q => t σ H fun vs H1 => sp (vs ++ dvs) H1 Q E
/-- o.m(..) of an instance of the class at C -/
def tMeth (C : Addr) (m : Str) (sp : Sp) (dvs : List V) (E : XK) (ta : TE) (t : TA) : TE := fun σ H Q => ta σ H fun x H1 => ∃ a dx fs, x = .ref a ∧ H1 a = some (.ins C dx fs) ∧ fs.lookup m = none ∧
  t σ H1 fun vs H2 => sp (x :: (vs ++ dvs)) H2 Q E
/-- C(..): a new instance and its dict, then __init__ -/
def tMake (C : Addr) (sp : Sp) (dvs : List V) (E : XK) (t : TA) : TE := fun σ H Q => t σ H fun vs H1 => ∀ x dx, H1 x = none → H1 dx = none → dx ≠ x →
  sp (.ref x :: (vs ++ dvs)) (upd (upd H1 dx (.own x)) x (.ins C dx [])) (fun v H2 => v = .non ∧ Q (.ref x) H2) E

/-- how the parameters are bound: us the positional arguments, kw the keywords' values by name, ds the defaults that fill up -/
def Binds (K : PySem.W.Frag) (fd : FuncData) (ps : List Str) (ds : List Value) : Prop :=
  ∀ (s : Shared) (us : List Value), K.In s.heap → (us ++ ds).length = ps.length → BindsTo s fd ⟨us, []⟩ (ps.zip (us ++ ds))
/-- every parameter is given -/
theorem Binds.all {K : PySem.W.Frag} {fd : FuncData} {ps : List Str} (h : ∀ us : List Value, us.length = ps.length → bindArgs fd ⟨us, []⟩ = pure (ps.zip us)) : Binds K fd ps [] := fun s us _ hl => by
  rw [List.append_nil] at hl ⊢
  exact .of_eq (h us hl)

/-- an exception of a callee reaches what this body wants of exceptions -/
def Passes (CX : CXT) (X : Cx) (E : XK) : Prop := ∀ (pins : List (Addr × Obj)) (σ : St) (H : Hp) (s : Shared) (e : Value) (s' : Shared), Inv X pins σ H s → CX X.stack H s E e s' → X.xe e s'

section
variable {X : Cx} {CX : CXT} {k : Nat} {f C : Addr} {fd : FuncData} {ps : List Str} {sp : Sp} {dvs : List V} {ds : List Value} {E : XK} {x m : Str} {p pos apos : Pos} {e o : Expr} {es : List Expr} {ta : TE} {t : TA}

/-- the callee runs -/
theorem run_fn {pins : List (Addr × Obj)} {σ : St} {H : Hp} {s : Shared} {Q : VK} {us : List Value} {vs : List V} (F : FnOk X.prog X.w X.K X.mg X.base CX k f fd ps sp) (hr : Room k X.A) (hb : Binds X.K fd ps ds) (hd : Vals dvs ds) (hx : Passes CX X E)
    (I : Inv X pins σ H s) (r : Vals vs us) (h : sp (vs ++ dvs) H Q E) : wpAny (model X.prog X.w) X.A (call (.ref f) us) (EP X pins σ Q) X.xe s := by
  have r2 : Vals (vs ++ dvs) (us ++ ds) := r.append hd
  have hl : (us ++ ds).length = ps.length := by rw [← r2.length]; exact F.len _ _ _ _ h
  refine wpAny_call (codeAny_mono (F.run X.A X.stack s H ⟨us, []⟩ (us ++ ds) (vs ++ dvs) Q E hr I.env0 (hb s us I.kIn hl) r2 h) fun r s' hq => ?_)
  cases r with
  | error e => exact hx pins σ H s e s' I hq
  | ok fl =>
    cases fl with
    | ret u => exact I.after hq
    | next => exact False.elim hq
    | brk => exact False.elim hq
    | cont => exact False.elim hq

theorem pe_call (F : FnOk X.prog X.w X.K X.mg X.base CX k f fd ps sp) (hr : Room k X.A) (hg : Gl X x) (hm : X.mg x = some (.ref f)) (hk : PySem.W.keepIn X.K (.ref f) = true) (hb : Binds X.K fd ps ds) (hd : Vals dvs ds) (hx : Passes CX X E)
    (ha : PA X (e :: es) t) (hdb : (x == ("__debug__" : Str)) = false := by decide) (he : starEach (e :: es) X.env = (false, eval e X.env) :: starEach es X.env := by rfl) (hpl : (backTo pos (starEach es X.env)).any (·.1) = false := by rfl) :
    PE X (.Call (.Name x p) (e :: es) [] pos) (tCall sp dvs E t) := by
  intro pins s σ H Q I h
  refine wpAny_Call_Name_kw (ld_glob I hg hm ?_ hdb)
  refine PySem.W.callWith_K (h₀ := X.base) I.ok.mod.kin hk (thn (ha pos pins s σ H _ I h) fun us s1 ⟨vs, H1, I1, r, q⟩ => ⟨I1.kIn, ?_⟩) he hpl
  exact run_fn F hr hb hd hx I1 r q
theorem pe_call0 (F : FnOk X.prog X.w X.K X.mg X.base CX k f fd ps sp) (hr : Room k X.A) (hg : Gl X x) (hm : X.mg x = some (.ref f)) (hk : PySem.W.keepIn X.K (.ref f) = true) (hb : Binds X.K fd ps ds) (hd : Vals dvs ds) (hx : Passes CX X E)
    (hdb : (x == ("__debug__" : Str)) = false := by decide) : PE X (.Call (.Name x p) [] [] pos) (tCall sp dvs E tNil) := by
  intro pins s σ H Q I h
  refine wpAny_Call_Name_kw (ld_glob I hg hm ?_ hdb)
  exact PySem.W.callWith_K0 I.kIn hk (run_fn (us := []) F hr hb hd hx I .nil h)

/-- o.m(e, ..) -/
theorem pe_meth {pl : Sem Bool} (he : PE X o ta) (c : Cls X.K C) (hm : Meth X.K C m f) (F : FnOk X.prog X.w X.K X.mg X.base CX k f fd ps sp) (hr : Room k X.A) (hb : Binds X.K fd ps ds) (hd : Vals dvs ds) (hx : Passes CX X E) (ha : PA X (e :: es) t)
    (hst : starEach (e :: es) X.env = (false, eval e X.env) :: starEach es X.env := by rfl) (hpl : (backTo pos (starEach es X.env)).any (·.1) = false := by rfl)
    (ht : eval (.Call (.Attribute o m apos) (e :: es) [] pos) X.env = (do
      let ov ← eval o X.env
      standAt apos.atName
      let (f, first) ← holding [ov] (getMethod ov m pl)
      callWith pos f first (backTo pos (starEach (e :: es) X.env)) (backToKw pos (keywordEach [] X.env))) := by rfl) :
    PE X (.Call (.Attribute o m apos) (e :: es) [] pos) (tMeth C m sp dvs E ta t) := by
  intro pins s σ H Q I h
  refine PySem.W.methodCall_KW (pl := pl) (thn (he pins s σ H _ I h) fun u s1 ⟨x, H1, I1, rx, a, dx, fs, ex, ea, l, q⟩ => ?_) ht
  subst ex
  obtain rfl : u = Value.ref a := rx
  refine getmeth_ok I1 ea c hm l ?_
  refine PySem.W.callWith_K (first := [.ref a]) (h₀ := X.base) I.ok.mod.kin hm.kp (thn (ha pos pins s1 σ H1 _ I1 q) fun us s2 ⟨vs, H2, I2, r, q2⟩ => ⟨I2.kIn, ?_⟩) hst hpl
  exact run_fn (us := .ref a :: us) (vs := .ref a :: vs) F hr hb hd hx I2 (.cons rfl r) q2
/-- o.m() -/
theorem pe_meth0 {pl : Sem Bool} (he : PE X o ta) (c : Cls X.K C) (hm : Meth X.K C m f) (F : FnOk X.prog X.w X.K X.mg X.base CX k f fd ps sp) (hr : Room k X.A) (hb : Binds X.K fd ps ds) (hd : Vals dvs ds) (hx : Passes CX X E)
    (ht : eval (.Call (.Attribute o m apos) [] [] pos) X.env = (do
      let ov ← eval o X.env
      standAt apos.atName
      let (f, first) ← holding [ov] (getMethod ov m pl)
      callWith pos f first (backTo pos (starEach [] X.env)) (backToKw pos (keywordEach [] X.env))) := by rfl) :
    PE X (.Call (.Attribute o m apos) [] [] pos) (tMeth C m sp dvs E ta tNil) := by
  intro pins s σ H Q I h
  refine PySem.W.methodCall_KW (pl := pl) (thn (he pins s σ H _ I h) fun u s1 ⟨x, H1, I1, rx, a, dx, fs, ex, ea, l, q⟩ => ?_) ht
  subst ex
  obtain rfl : u = Value.ref a := rx
  refine getmeth_ok I1 ea c hm l ?_
  exact PySem.W.callWith_K0 (first := [.ref a]) I1.kIn hm.kp (run_fn (us := [.ref a]) (vs := [.ref a]) F hr hb hd hx I1 (.cons rfl .nil) q)

/-- what a class must have to be made -/
structure Mk (K : PySem.W.Frag) (C f : Addr) : Prop where
  makes : PySem.W.makesIn K C = true
  init : PySem.W.findIn K (.ref C) "__init__" = some (some (.ref f))
  fn : PySem.W.isFn K (.ref f) = true
  kp : PySem.W.keepIn K (.ref C) = true

theorem run_make {pins : List (Addr × Obj)} {σ : St} {H : Hp} {s : Shared} {Q : VK} {us : List Value} {vs : List V} (M : Mk X.K C f) (F : FnOk X.prog X.w X.K X.mg X.base CX k f fd ps sp) (hr : Room (k + 1) X.A) (hb : Binds X.K fd ps ds) (hd : Vals dvs ds)
    (hx : Passes CX X E) (I : Inv X pins σ H s) (r : Vals vs us)
    (h : ∀ x dx, H x = none → H dx = none → dx ≠ x → sp (.ref x :: (vs ++ dvs)) (upd (upd H dx (.own x)) x (.ins C dx [])) (fun v H2 => v = .non ∧ Q (.ref x) H2) E) :
    wpAny (model X.prog X.w) X.A (call (.ref C) us) (EP X pins σ Q) X.xe s := by
  have hq := h (s.heap.objs.size + 1) s.heap.objs.size (I.hok.fresh (Nat.le_succ _)) (I.hok.fresh (Nat.le_refl _)) (Nat.ne_of_lt (Nat.lt_succ_self _))
  have I2 := Inv.made (C := C) I
  have r2 : Vals (V.ref (s.heap.objs.size + 1) :: (vs ++ dvs)) (Value.ref (s.heap.objs.size + 1) :: (us ++ ds)) := .cons rfl (r.append hd)
  have hl : (Value.ref (s.heap.objs.size + 1) :: us ++ ds).length = ps.length := by
    have e := r2.length
    rw [F.len _ _ _ _ hq] at e
    exact e.symm
  refine wpAny_call (make_map (f := f) I.kIn M.makes M.init (beq_iff_eq.mp M.fn) (codeAny_mono (F.run _ X.stack _ _ ⟨Value.ref (s.heap.objs.size + 1) :: us, []⟩ (Value.ref (s.heap.objs.size + 1) :: (us ++ ds)) _ _ E (hr.make C us [])
    (I2.env0.make C us []) (hb _ (Value.ref (s.heap.objs.size + 1) :: us) I2.kIn hl) r2 hq) fun r s' hq' => ?_))
  cases r with
  | error e => exact hx pins σ _ _ e s' I2 hq'
  | ok fl =>
    cases fl with
    | ret u =>
      obtain ⟨v, H', I3, rv, ev, q3⟩ := I2.after hq'
      subst ev
      exact ⟨rv, ⟨V.ref (s.heap.objs.size + 1), H', I3, rfl, q3⟩⟩
    | next => exact False.elim hq'
    | brk => exact False.elim hq'
    | cont => exact False.elim hq'
theorem pe_make (M : Mk X.K C f) (F : FnOk X.prog X.w X.K X.mg X.base CX k f fd ps sp) (hr : Room (k + 1) X.A) (hg : Gl X x) (hm : X.mg x = some (.ref C)) (hb : Binds X.K fd ps ds) (hd : Vals dvs ds) (hx : Passes CX X E)
    (ha : PA X (e :: es) t) (hdb : (x == ("__debug__" : Str)) = false := by decide) (he : starEach (e :: es) X.env = (false, eval e X.env) :: starEach es X.env := by rfl) (hpl : (backTo pos (starEach es X.env)).any (·.1) = false := by rfl) :
    PE X (.Call (.Name x p) (e :: es) [] pos) (tMake C sp dvs E t) := by
  intro pins s σ H Q I h
  refine wpAny_Call_Name_kw (ld_glob I hg hm ?_ hdb)
  refine PySem.W.callWith_K (h₀ := X.base) I.ok.mod.kin M.kp (thn (ha pos pins s σ H _ I h) fun us s1 ⟨vs, H1, I1, r, q⟩ => ⟨I1.kIn, ?_⟩) he hpl
  exact run_make M F hr hb hd hx I1 r q
theorem pe_make0 (M : Mk X.K C f) (F : FnOk X.prog X.w X.K X.mg X.base CX k f fd ps sp) (hr : Room (k + 1) X.A) (hg : Gl X x) (hm : X.mg x = some (.ref C)) (hb : Binds X.K fd ps ds) (hd : Vals dvs ds) (hx : Passes CX X E)
    (hdb : (x == ("__debug__" : Str)) = false := by decide) : PE X (.Call (.Name x p) [] [] pos) (tMake C sp dvs E tNil) := by
  intro pins s σ H Q I h
  refine wpAny_Call_Name_kw (ld_glob I hg hm ?_ hdb)
  exact PySem.W.callWith_K0 I.kIn M.kp (run_make (us := []) M F hr hb hd hx I .nil h)
end

/-! ### keywords -/
/-- the values of the keywords, from the left -/
def PK (X : Cx) (kws : List Keyword) (t : TA) : Prop :=
  ∀ (pos : Pos) (pins : List (Addr × Obj)) (s : Shared) (σ : St) (H : Hp) (Q : List V → Hp → Prop), Inv X pins σ H s → t σ H Q → wpAny (model X.prog X.w) X.A (evalAll ((backToKw pos (keywordEach kws X.env)).map (·.2))) (AP X pins σ Q) X.xe s
section
variable {X : Cx} {CX : CXT} {k : Nat} {f C : Addr} {fd : FuncData} {ps ks : List Str} {sp : Sp} {E : XK} {x m : Str} {p pos apos kpos : Pos} {e o : Expr} {es : List Expr} {kws : List Keyword} {te ta : TE} {t tk : TA} {nm : Option Str}
theorem pk_nil : PK X [] tNil := fun _ _ _ _ H Q I h => wpAny_evalAll_nil ⟨[], H, I, .nil, h⟩
theorem pk_cons (ha : PE X e te) (hr : PK X kws t) : PK X (⟨nm, e, kpos⟩ :: kws) (tCons te t) := by
  intro pos pins s σ H Q I h
  show wpAny _ _ (evalAll ((do let v ← eval e X.env; standAt pos; pure v) :: (backToKw pos (keywordEach kws X.env)).map (·.2))) _ _ s
  refine wpAny_evalAll_cons (wpAny_bind (thn (ha pins s σ H _ I h) fun u s1 ⟨x, H1, I1, r1, q1⟩ => wpAny_bind (wpAny_standAt (wpAny_pure ?_))))
  exact thn (hr pos pins s1 σ H1 _ I1 q1) fun us s2 ⟨xs, H2, I2, r2, q2⟩ => ⟨x :: xs, H2, I2, .cons r1 r2, q2⟩

/-- how a call with keywords binds: g puts the positional values us and the keywords' values ws (names ks) in the parameters' order, defaults among them -/
structure KBinds (K : PySem.W.Frag) (fd : FuncData) (ps ks : List Str) (g : List Value → List Value → List Value) (gV : List V → List V → List V) : Prop where
  to : ∀ (s : Shared) (us ws : List Value), K.In s.heap → (g us ws).length = ps.length → BindsTo s fd ⟨us, ks.zip ws⟩ (ps.zip (g us ws))
  rel : ∀ {vs : List V} {us : List Value} {zs : List V} {ws : List Value}, Vals vs us → Vals zs ws → Vals (gV vs zs) (g us ws)
def tCallK (sp : Sp) (gV : List V → List V → List V) (E : XK) (t tk : TA) : TE := fun σ H Q => t σ H fun vs H1 => tk σ H1 fun zs H2 => sp (gV vs zs) H2 Q E
variable {g : List Value → List Value → List Value} {gV : List V → List V → List V}
theorem run_fnk {pins : List (Addr × Obj)} {σ : St} {H : Hp} {s : Shared} {Q : VK} {us ws : List Value} {vs zs : List V} (F : FnOk X.prog X.w X.K X.mg X.base CX k f fd ps sp) (hr : Room k X.A) (hb : KBinds X.K fd ps ks g gV) (hx : Passes CX X E)
    (I : Inv X pins σ H s) (r : Vals vs us) (rz : Vals zs ws) (h : sp (gV vs zs) H Q E) : wpAny (model X.prog X.w) X.A (call (.ref f) us (ks.zip ws)) (EP X pins σ Q) X.xe s := by
  have r2 := hb.rel r rz
  have hl : (g us ws).length = ps.length := by rw [← r2.length]; exact F.len _ _ _ _ h
  refine wpAny_call (codeAny_mono (F.run X.A X.stack s H ⟨us, ks.zip ws⟩ (g us ws) (gV vs zs) Q E hr I.env0 (hb.to s us ws I.kIn hl) r2 h) fun r s' hq => ?_)
  cases r with
  | error e => exact hx pins σ H s e s' I hq
  | ok fl =>
    cases fl with
    | ret u => exact I.after hq
    | next => exact False.elim hq
    | brk => exact False.elim hq
    | cont => exact False.elim hq
/-- f(e, .., k = v, ..) -/
theorem pe_callK (F : FnOk X.prog X.w X.K X.mg X.base CX k f fd ps sp) (hr : Room k X.A) (hg : Gl X x) (hm : X.mg x = some (.ref f)) (hk : PySem.W.keepIn X.K (.ref f) = true) (hb : KBinds X.K fd ps ks g gV) (hx : Passes CX X E)
    (ha : PA X (e :: es) t) (hkw : PK X kws tk) (hall : (backToKw pos (keywordEach kws X.env)).all (·.1.isSome) = true := by rfl) (hks : (backToKw pos (keywordEach kws X.env)).filterMap (·.1) = ks := by rfl)
    (hdb : (x == ("__debug__" : Str)) = false := by decide) (he : starEach (e :: es) X.env = (false, eval e X.env) :: starEach es X.env := by rfl)
    (hpl : ((backTo pos (starEach (e :: es) X.env)).any (·.1) || (backToKw pos (keywordEach kws X.env)).any (·.1.isNone)) = false := by rfl) :
    PE X (.Call (.Name x p) (e :: es) kws pos) (tCallK sp gV E t tk) := by
  intro pins s σ H Q I h
  refine wpAny_Call_Name_kw (ld_glob I hg hm ?_ hdb)
  refine PySem.W.callWith_KW (h₀ := X.base) I.ok.mod.kin hk hall (thn (ha pos pins s σ H _ I h) fun us s1 ⟨vs, H1, I1, r, q⟩ => ?_) hpl he
  refine thn (hkw pos pins s1 σ H1 _ I1 q) fun ws s2 ⟨zs, H2, I2, rz, q2⟩ => ⟨I2.kIn, ?_⟩
  rw [hks]
  exact run_fnk F hr hb hx I2 r rz q2
end

/-! ### a def's body keeps its promise -/
/-- names: the parameters first -/
structure FnScope (N P : List Str) (sc : Scope) : Prop where
  kind : sc.kind = .function
  co : sc.isCoroutine = false
  gen : sc.isGenerator = false
  nd : N.Nodup
  pre : N.take P.length = P
  par : ∀ x ∈ P, sc.names.lookup x = some .local ∨ sc.names.lookup x = some .cell
  nofree : ∀ y ∈ sc.names, y.2 ≠ .free

theorem bindL_out {kindOf : Str → Option NameKind} {x : Str} : ∀ {binds : List (Str × Value)} {m : Str → Option Value}, (∀ v, (x, v) ∉ binds) → bindL kindOf binds m x = m x
  | [], _, _ => rfl
  | (n, v) :: r, m, h => by
    unfold bindL
    rw [bindL_out fun w hw => h w (List.mem_cons_of_mem _ hw)]
    split
    · have : x ≠ n := by rintro rfl; exact h v List.mem_cons_self
      simp [this]
    · rfl
theorem bindC_out {kindOf : Str → Option NameKind} {x : Str} : ∀ {binds : List (Str × Value)} {m : Str → Option Value}, (∀ v, (x, v) ∉ binds) → bindC kindOf binds m x = m x
  | [], _, _ => rfl
  | (n, v) :: r, m, h => by
    unfold bindC
    rw [bindC_out fun w hw => h w (List.mem_cons_of_mem _ hw)]
    split
    · rfl
    · have : x ≠ n := by rintro rfl; exact h v List.mem_cons_self
      simp [this]
theorem bindL_get {kindOf : Str → Option NameKind} {x : Str} {v : Value} : ∀ {P : List Str} {vs : List Value} {i : Nat} {m : Str → Option Value}, P.Nodup → P[i]? = some x → vs[i]? = some v → kindOf x = some .local →
    bindL kindOf (P.zip vs) m x = some v
  | [], _, _, _, _, h, _, _ => by simp at h
  | _ :: _, [], _, _, _, _, h, _ => by simp at h
  | p :: P, w :: vs, 0, m, nd, h1, h2, hk => by
    simp at h1 h2; subst h1; subst h2
    show bindL kindOf ((p, w) :: P.zip vs) m p = _
    unfold bindL
    rw [bindL_out fun v hv => (List.nodup_cons.mp nd).1 (List.of_mem_zip hv).1, if_pos hk]
    simp
  | p :: P, w :: vs, i + 1, m, nd, h1, h2, hk => by
    show bindL kindOf ((p, w) :: P.zip vs) m x = _
    unfold bindL
    exact bindL_get (i := i) (List.nodup_cons.mp nd).2 (by simpa using h1) (by simpa using h2) hk
theorem bindC_get {kindOf : Str → Option NameKind} {x : Str} {v : Value} : ∀ {P : List Str} {vs : List Value} {i : Nat} {m : Str → Option Value}, P.Nodup → P[i]? = some x → vs[i]? = some v → kindOf x ≠ some .local →
    bindC kindOf (P.zip vs) m x = some v
  | [], _, _, _, _, h, _, _ => by simp at h
  | _ :: _, [], _, _, _, _, h, _ => by simp at h
  | p :: P, w :: vs, 0, m, nd, h1, h2, hk => by
    simp at h1 h2; subst h1; subst h2
    show bindC kindOf ((p, w) :: P.zip vs) m p = _
    unfold bindC
    rw [bindC_out fun v hv => (List.nodup_cons.mp nd).1 (List.of_mem_zip hv).1, if_neg hk]
    simp
  | p :: P, w :: vs, i + 1, m, nd, h1, h2, hk => by
    show bindC kindOf ((p, w) :: P.zip vs) m x = _
    unfold bindC
    exact bindC_get (i := i) (List.nodup_cons.mp nd).2 (by simpa using h1) (by simpa using h2) hk

/-- the names' values at the entry -/
def start (N : List Str) (vs : List V) : St := vs.map some ++ List.replicate (N.length - vs.length) none

/-- the context of a def's body, at its entry; an exception leaves the frame, then lies as CX says -/
def cxOf (CX : CXT) (P : Program) (w : World) (K : PySem.W.Frag) (mg : Str → Option Value) (base : Heap) (N : List Str) (qual : Str) (scope : Scope) (f : Addr) (cd : Value) (A : Around) (outer : List Env) (s : Shared) (H : Hp) (E : XK) : Cx where
  prog := P
  w := w
  K := K
  mg := mg
  base := base
  A := A.deeper (envOfC qual scope s.heap.objs.size f cd)
  N := N
  s₀ := s
  H₀ := H
  env := envOfC qual scope s.heap.objs.size f cd
  outer := outer
  stack := envOfC qual scope s.heap.objs.size f cd :: outer
  ex := []
  calm := true
  fn := fun _ => true
  pn := []
  xe := fun e s' => wpAny (model P w) (A.deeper (envOfC qual scope s.heap.objs.size f cd)) (leaving (envOfC qual scope s.heap.objs.size f cd) e) (fun _ s'' => CX outer H s E e s'') (fun e' s'' => CX outer H s E e' s'') s'

theorem cell_has {sc : Scope} {n : Nat} {x : Str} (h : sc.names.lookup x = some .cell) : ∃ c, (cellsFrom n sc.names []).lookup x = some c := by
  have q := PySem.W.cellsFrom_some sc.names n [] (.inl h)
  exact Option.isSome_iff_exists.mp q

theorem inv_start {CX : CXT} {P : Program} {w : World} {K : PySem.W.Frag} {mg : Str → Option Value} {base : Heap} {N ps : List Str} {qual : Str} {scope : Scope} {f : Addr} {cd : Value} {A : Around} {outer : List Env} {s s1 : Shared} {H : Hp} {E : XK} {us : List Value} {vs : List V}
    (S : FnScope N ps scope) (hd : A.handled = none) (e0 : Env0 P w K mg base A outer s H) (hl : vs.length = ps.length) (r : Vals vs us)
    (x : InCallC s s.heap.objs.size (bindL (envOfC qual scope s.heap.objs.size f cd).kindOf (ps.zip us) fun _ => none) (cellsFrom (s.heap.objs.size + 1) scope.names []) (bindC (envOfC qual scope s.heap.objs.size f cd).kindOf (ps.zip us) fun _ => none) s1) :
    Inv (cxOf CX P w K mg base N qual scope f cd A outer s H E) [] (start N vs) H s1 := by
  have hpl : ps.length ≤ N.length := by have := congrArg List.length S.pre; rw [List.length_take] at this; omega
  obtain ⟨h1, tk, rfl, hk⟩ := x.done
  have noA : ∀ b : Addr, b ∉ (cxOf CX P w K mg base N qual scope f cd A outer s H E).ex := fun b z => absurd (show b ∈ ([] : List Addr) from z) (by simp)
  refine ⟨⟨e0.mod, S.kind, rfl, rfl, Nat.le_refl _, fun y z c h1 h2 => ?_, fun y hy => ?_, fun y c _ h => ?_, fun _ => hd, Around.frames_deeper e0.frames, .inr ⟨rfl, rfl⟩, fun b z => absurd z (noA b), e0.bs, e0.bsz, fun b _ _ => noA b, fun b z => absurd z (noA b), e0.funs, e0.frf⟩,
    rfl, e0.bare, Un.kept hk, ⟨_, x.toInCall.ns, fun i y v h1 h2 h3 => ?_⟩, fun y c h => ⟨_, x.cell y c h⟩, e0.hok.fresh (Nat.le_refl _), fun y c h => ?_, fun p hp => absurd (show p ∈ ([] : List (Addr × Obj)) from hp) (by simp), e0.hok.kept hk, ?_⟩
  · exact name_of_addr x.apart (PySem.mem_of_lookup h1) (PySem.mem_of_lookup h2)
  · have hy : scope.names.lookup y = some .cell ∨ scope.names.lookup y = some .free := hy
    rcases hy with hy | hy
    · exact cell_has hy
    · exact absurd rfl (S.nofree _ (PySem.mem_of_lookup hy))
  · exact Nat.le_of_lt (x.above y c (PySem.mem_of_lookup h))
  · have hi : i < vs.length := by
      unfold start at h2
      by_cases hi : i < vs.length
      · exact hi
      · rw [List.getElem?_append_right (by simpa using hi)] at h2
        rw [List.getElem?_replicate] at h2
        split at h2 <;> cases h2
    have ha : vs[i]? = some v := by
      unfold start at h2
      rw [List.getElem?_append_left (by simpa using hi), List.getElem?_map] at h2
      cases e : vs[i]? with
      | none => rw [e] at h2; cases h2
      | some a => rw [e] at h2; cases h2; rfl
    obtain ⟨u, hu, rv⟩ := r.get ha
    have hp : ps[i]? = some y := by
      rw [← S.pre, List.getElem?_take_of_lt (by omega)]; exact h1
    have ndP : ps.Nodup := by rw [← S.pre]; exact S.nd.sublist (List.take_sublist _ _)
    refine ⟨u, rv, ?_⟩
    rcases S.par y (List.mem_of_getElem? hp) with k | k
    · exact .inl ⟨k, bindL_get ndP hp hu k⟩
    · obtain ⟨c, e⟩ := cell_has (n := s.heap.objs.size + 1) k
      refine .inr ⟨.inl k, c, e, ?_⟩
      have q := x.cell y c e
      rw [bindC_get ndP hp hu (by show scope.names.lookup y ≠ _; rw [k]; decide)] at q
      exact q
  · exact e0.hok.fresh (Nat.le_of_lt (x.above y c (PySem.mem_of_lookup h)))
  · unfold start
    show _ = N.length
    rw [List.length_append, List.length_map, List.length_replicate]
    omega

/-- THE RULE: a def (or a method) of the text, by its body. The body's reading t is chosen for each entry; it is run at the parameters' values -/
theorem fn_of {CX : CXT} {P : Program} {w : World} {K : PySem.W.Frag} {mg : Str → Option Value} {base : Heap} {k : Nat} {f : Addr} {name qual : Str} {params : Arguments} {body : List Stmt} {scope : Scope} {dV kV doc pm cdv ct oc : Value} {an od : Option Addr}
    {osl : Array (Option Value)} {N ps : List Str} {sp : Sp} (lk : K.lookup f = some ⟨oc, od, .func (PySem.W.fnOf name qual params body scope dV kV doc pm an cdv ct), osl⟩) (hcd : PySem.W.codeIn K cdv qual = true) (S : FnScope N ps scope)
    (len : ∀ vs H Q E, sp vs H Q E → vs.length = ps.length)
    (hbody : ∀ (A : Around) (outer : List Env) (s : Shared) (H : Hp) (vs : List V) (Q : VK) (E : XK), Room k (A.deeper (envOfC qual scope s.heap.objs.size f cdv)) → sp vs H Q E →
      ∃ t, PSs (cxOf CX P w K mg base N qual scope f cdv A outer s H E) body t ∧ t { nx := fun _ H' => Q .non H', rt := Q } (start N vs) H) :
    FnOk P w K mg base CX (k + 1) f (PySem.W.fnOf name qual params body scope dV kV doc pm an cdv ct) ps sp := by
  refine ⟨len, fun A outer s H args us vs Q E hr e0 hb r hsp => ?_⟩
  have hl := len _ _ _ _ hsp
  have KX : K.In s.heap := e0.mod.kin.keeps fun b o e => (e0.bs b o e).1
  have lim : s.heap.NoLimit := e0.mod.nolimit.keeps fun b o e => (e0.bs b o e).1
  have hkind : ∀ y ∈ ps.zip us, scope.names.lookup y.1 = some .local ∨ (scope.names.lookup y.1 = some .cell ∧ ((cellsFrom (s.heap.objs.size + 1) scope.names []).lookup y.1).isSome = true) := fun ⟨n, v⟩ hy => by
    rcases S.par n (List.of_mem_zip hy).1 with q | q
    · exact .inl q
    · exact .inr ⟨q, PySem.W.cellsFrom_some _ _ _ (.inl q)⟩
  refine codeAny_call_function hr.depth (KX _ _ lk) rfl S.co S.gen rfl (PySem.W.codeRec_of KX hcd) (hb _ _ _ _ ?_)
  refine wpAny_newFunctionEnv_cells S.kind hkind fun env he s1 x => ?_
  subst he
  refine ⟨lim.keeps x.toInCall.keep, codeAny_func ?_⟩
  obtain ⟨t, ht, hq⟩ := hbody A outer s H vs Q E (hr.deeper _) hsp
  have I : Inv (cxOf CX P w K mg base N qual scope f cdv A outer s H E) [] (start N vs) H s1 := inv_start S hr.hd e0 hl r x
  refine wpAny_mono (ht [] s1 (start N vs) H _ I hq) (fun fl s' hs => ?_) fun e s' hs => hs
  have fin : ∀ {σ' : St} {H' : Hp} {v : V} {u : Value}, Inv (cxOf CX P w K mg base N qual scope f cdv A outer s H E) [] σ' H' s' → RelV v u → Q v H' → CE outer P w H s Q u s' :=
    fun {σ' H' v u} J rv q => ⟨v, H', J.os, J.bare, J.base, J.hok, rv, q⟩
  cases fl with
  | ret u =>
    obtain ⟨v, σ', H', J, rv, q⟩ := hs
    exact fin J rv q
  | next =>
    obtain ⟨σ', H', J, q⟩ := hs
    exact fin (v := V.non) (u := Value.none) J rfl q
  | brk =>
    obtain ⟨_, _, _, q⟩ := hs
    exact False.elim q
  | cont =>
    obtain ⟨_, _, _, q⟩ := hs
    exact False.elim q
end L2

namespace L2
open PySem PySem.Spec PyProof.Rows
section
variable {X : Cx} {x : Str} {p pos : Pos} {e : Expr} {es : List Expr} {t : TA} {id T : String} {r : List V → Hp → VK → Prop}

def tCB (r : List V → Hp → VK → Prop) (t : TA) : TE := fun σ H Q => t σ H fun vs H1 => r vs H1 Q
/-- f(e, ..), f a built-in function -/
theorem pe_callB (hc : CallR X (.builtin id) r) (hg : Gl X x) (hm : X.mg x = none) (hv : bootBuiltins x = some (.builtin id)) (ha : PA X (e :: es) t) (hn : x ≠ "__name__" := by decide) (hdb : (x == ("__debug__" : Str)) = false := by decide)
    (he : starEach (e :: es) X.env = (false, eval e X.env) :: starEach es X.env := by rfl) (hpl : (backTo pos (starEach es X.env)).any (·.1) = false := by rfl) : PE X (.Call (.Name x p) (e :: es) [] pos) (tCB r t) := by
  intro pins s σ H Q I h
  refine wpAny_Call_Name_kw (ld_blt I hg hm hv ?_ hn hdb)
  exact PyProof.Rows.callWith_builtin1 (thn (ha pos pins s σ H _ I h) fun us s1 ⟨vs, H1, I1, r1, q1⟩ => hc pins s1 σ H1 vs us Q I1 r1 q1) he hpl
/-- T(e, ..), T a built-in type -/
theorem pe_callTy (hc : CallR X (.type T) r) (hg : Gl X x) (hm : X.mg x = none) (hv : bootBuiltins x = some (.type T)) (ha : PA X (e :: es) t) (hn : x ≠ "__name__" := by decide) (hdb : (x == ("__debug__" : Str)) = false := by decide)
    (he : starEach (e :: es) X.env = (false, eval e X.env) :: starEach es X.env := by rfl) (hpl : (backTo pos (starEach es X.env)).any (·.1) = false := by rfl) : PE X (.Call (.Name x p) (e :: es) [] pos) (tCB r t) := by
  intro pins s σ H Q I h
  refine wpAny_Call_Name_kw (ld_blt I hg hm hv ?_ hn hdb)
  exact PyProof.Rows.callWith_type1 (thn (ha pos pins s σ H _ I h) fun us s1 ⟨vs, H1, I1, r1, q1⟩ => hc pins s1 σ H1 vs us Q I1 r1 q1) he hpl
/-- T() -/
theorem pe_callTy0 (hc : CallR X (.type T) r) (hg : Gl X x) (hm : X.mg x = none) (hv : bootBuiltins x = some (.type T)) (hn : x ≠ "__name__" := by decide) (hdb : (x == ("__debug__" : Str)) = false := by decide) :
    PE X (.Call (.Name x p) [] [] pos) (tCB r tNil) := by
  intro pins s σ H Q I h
  refine wpAny_Call_Name_kw (ld_blt I hg hm hv ?_ hn hdb)
  exact PyProof.Rows.callWith_type0 (hc pins s σ H [] [] Q I .nil h)
end
end L2

namespace HT
open PySem PyProof.Rows

/-- t < u of tuples of ints -/
def lexLt : List Int → List Int → Bool
  | [], [] => false
  | [], _ :: _ => true
  | _ :: _, [] => false
  | x :: xs, y :: ys => if x = y then lexLt xs ys else decide (x < y)
theorem lexLt_cons (x y : Int) (xs ys : List Int) : lexLt (x :: xs) (y :: ys) = if x = y then lexLt xs ys else decide (x < y) := rfl
theorem lexLt_nil_nil : lexLt [] [] = false := rfl
theorem lexLt_nil_cons (y : Int) (ys : List Int) : lexLt [] (y :: ys) = true := rfl
theorem lexLt_cons_nil (x : Int) (xs : List Int) : lexLt (x :: xs) [] = false := rfl

theorem eqAt_int (A : Around) (s : Shared) (a : Int) (t : Tok) (c : Int) (u : Tok) : ∃ e, SeqAt.EqAt A s (.int a t) (.int c u) e ∧ (e = true ↔ a = c) :=
  ⟨(a == c), SeqAt.EqAt.int_int a t c u, by simp⟩
theorem rcLt_int (A : Around) (s : Shared) (a : Int) (t : Tok) (c : Int) (u : Tok) (prog : Program) (w : World) (E : Value → Shared → Prop) (Q : Value → Shared → Prop) (h : Q (.bool (decide (a < c))) s) :
    wpAny (model prog w) A (richCompare .Lt (.int a t) (.int c u)) Q E s :=
  (PyProof.Rows.lt_int h : wpAny (model prog w) A (compareOp .Lt (.int a t) (.int c u)) Q E s)

section
open PySem.SeqAt
open PySem.AutoSeq1 (wpAny_loadPart')
open PySem.MeetsSeq PySem.MeetsSeq2 PySem.MeetsSeq3

theorem tuple_lt_ints (l b : Addr) (items items2 : Array Value) (n n2 : Nat) (dd dd2 : Option Addr) (sl sl2 : Array (Option Value)) (ns ms : List Int) (hi : IntsAre items.toList ns) (hj : IntsAre items2.toList ms) :
    Meets (Builtin.«tuple.__lt__» ⟨[.ref l, .ref b], []⟩)
      (fun _ R s => s.heap.get? l = some { cls := .type "tuple", dict := dd, data := .seq items n, slots := sl } ∧ s.heap.get? b = some { cls := .type "tuple", dict := dd2, data := .seq items2 n2, slots := sl2 } ∧
        R (.ok (.ret (.bool (lexLt ns ms)))) s) :=
  .of_wp fun prog w A R s h => by
    obtain ⟨hp, g, d, tk, os⟩ := s; obtain ⟨hl, hb, h⟩ := h
    have f2 := AutoSeq1.sub_tuple_tuple
    have z1 : items.size = ns.length := by rw [← hi.length]; simp
    have z2 : items2.size = ms.length := by rw [← hj.length]; simp
    wp_walk using wpAny_loadPart' hl, wpAny_loadPart' hb, wpAny_forIn_list _ (fun rest b s' => b.1 = none ∧ s' = ⟨hp, g, d, tk, os⟩ ∧ ∃ (vs ws : List Value) (ns' ms' : List Int), rest = vs.zip ws ∧
      IntsAre vs ns' ∧ IntsAre ws ms' ∧ ns'.length + items2.size = ms'.length + items.size ∧ R (.ok (.ret (.bool (lexLt ns' ms')))) ⟨hp, g, d, tk, os⟩) _
    case turn =>
      rintro ⟨y, x⟩ rest b s' ⟨hb', rfl, vs, ws, ns', ms', hz, hvi, hwi, hlen, hR⟩
      cases hvi with
      | nil => rw [List.zip_nil_left] at hz; cases hz
      | cons a t hvi' =>
        cases hwi with
        | nil => rw [List.zip_nil_right] at hz; cases hz
        | cons c u hwi' =>
          rw [List.zip_cons_cons] at hz
          injection hz with hyx hrest
          injection hyx with hy hx
          subst hy hx
          rw [lexLt_cons] at hR
          simp only [List.length_cons] at hlen
          obtain ⟨e, he, hiff⟩ := eqAt_int A.in1 ⟨hp, g, d, tk, os⟩ a t c u
          refine wpAny_bind (he prog w _ _ ?_)
          cases e with
          | true =>
            rw [if_pos (hiff.mp rfl)] at hR
            wp_walk
            exact ⟨rfl, rfl, _, _, _, _, hrest, hvi', hwi', by omega, hR⟩
          | false =>
            rw [if_neg (fun q => absurd (hiff.mpr q) Bool.false_ne_true)] at hR
            have hri := rcLt_int A.in1 ⟨hp, g, d, tk, os⟩ a t c u prog w
            wp_walk using hri
            exact ⟨_, rfl, by simpa using hR⟩
    case fin =>
      rintro ⟨b1, b2⟩ s' ⟨hb', rfl, vs, ws, ns', ms', hz, hvi, hwi, hlen, hR⟩
      simp only at hb'
      subst hb'
      have hv : lexLt ns' ms' = decide (items.size < items2.size) := by
        cases hvi with
        | nil =>
          cases hwi with
          | nil =>
            simp only [List.length_nil] at hlen
            rw [lexLt_nil_nil]
            exact (decide_eq_false (by omega)).symm
          | cons c u hw =>
            simp only [List.length_nil, List.length_cons] at hlen
            rw [lexLt_nil_cons]
            exact (decide_eq_true (by omega)).symm
        | cons a t hv =>
          cases hwi with
          | nil =>
            simp only [List.length_nil, List.length_cons] at hlen
            rw [lexLt_cons_nil]
            exact (decide_eq_false (by omega)).symm
          | cons c u hw =>
            rw [List.zip_cons_cons] at hz
            cases hz
      rw [hv] at hR
      wp_walk
      exact ⟨_, rfl, by simpa [Builtin.Tuple.tupleCompareSizes] using hR⟩
    case h =>
      exact ⟨rfl, rfl, items.toList, items2.toList, ns, ms, rfl, hi, hj, by omega, h⟩
end

section
variable {prog : Program} {w : World} {A : Around} {E : Value → Shared → Prop} {s : Shared}

theorem lt_tupInts {l b : Addr} {items items2 : Array Value} {ns ms : List Int} {Q : Value → Shared → Prop} (hl : IsTup s.heap l items) (hb : IsTup s.heap b items2) (hi : IntsAre items.toList ns) (hj : IntsAre items2.toList ms)
    (hu : A.units < cLine) (h : Q (.bool (lexLt ns ms)) s) : wpAny (model prog w) A (compareOp .Lt (.ref l) (.ref b)) Q E s := by
  obtain ⟨⟨cls, dd, data, sl⟩, ho, hc, n, hd⟩ := id hl
  obtain ⟨⟨cls2, dd2, data2, sl2⟩, ho2, hc2, n2, hd2⟩ := id hb
  simp only at hc hd hc2 hd2
  subst hc hd hc2 hd2
  exact richCompare_meets_room (op := .Lt) ⟨_, ho, rfl⟩ ⟨_, ho2, rfl⟩ PySem.F.slot_tuple_lt PySem.F.entry_tuple_lt (PySem.F.args_tuple_lt_2 _ _) (tuple_lt_ints l b items items2 n n2 dd dd2 sl sl2 ns ms hi hj)
    ⟨ho, ho2, show Value.bool (lexLt ns ms) ≠ Value.notImplemented ∧ Q (.bool (lexLt ns ms)) s from ⟨(fun x => nomatch x), h⟩⟩ hu

/-- t + u, t not empty -/
theorem cat_tup {t b : Addr} {vs ws : List Value} {Q : Value → Shared → Prop} (ht : IsTup s.heap t vs.toArray) (hb : IsTup s.heap b ws.toArray) (hv : vs ≠ [])
    (h1 : ws = [] → Q (.ref t) s) (h2 : ws ≠ [] → Q (.ref s.heap.objs.size) { s with heap := s.heap.push { cls := .type "tuple", data := .seq (vs ++ ws).toArray } })
    (hsz : vs.length + ws.length ≤ sizeLine) : wpAny (model prog w) A (binaryOp .Add (.ref t) (.ref b)) Q E s := by
  obtain ⟨⟨cls, dd, data, sl⟩, ho, hc, n, hd⟩ := id ht
  obtain ⟨⟨cls2, dd2, data2, sl2⟩, ho2, hc2, n2, hd2⟩ := id hb
  simp only at hc hd hc2 hd2
  subst hc hd hc2 hd2
  have e : vs.toArray ++ ws.toArray = (vs ++ ws).toArray := by simp
  by_cases hw : ws = []
  · exact concat_meets ⟨_, ho, rfl⟩ ⟨_, ho2, rfl⟩ noFill_tuple_add seq_tuple_add PySem.F.slot_tuple_add PySem.F.entry_tuple_add (PySem.F.args_tuple_add_2 _ _)
      (tuple_addW1 t b vs.toArray ws.toArray n n2 dd dd2 sl sl2 (by simpa using hv) (by simp [hw])) ⟨ho, ho2, h1 hw⟩
  · refine concat_meets ⟨_, ho, rfl⟩ ⟨_, ho2, rfl⟩ noFill_tuple_add seq_tuple_add PySem.F.slot_tuple_add PySem.F.entry_tuple_add (PySem.F.args_tuple_add_2 _ _)
      (tuple_addW2 t b vs.toArray ws.toArray n n2 dd dd2 sl sl2 (by simpa using hv) (by simpa using hw) (by rw [List.size_toArray, List.size_toArray]; exact hsz)) ⟨ho, ho2, ?_⟩
    rw [e]
    exact h2 hw

/-! ### t[a:b], not the whole -/
/-- a slice's bound as a place among n (d where it is left out) -/
def sIx (n d : Nat) : Option Int → Nat
  | none => d
  | some v => if v < 0 then (v + (n : Int)).toNat else min v.toNat n
theorem sIx_none (n d : Nat) : sIx n d none = d := rfl
theorem sIx_nat (n d k : Nat) : sIx n d (some (k : Int)) = min k n := by
  show (if (k : Int) < 0 then ((k : Int) + (n : Int)).toNat else min (k : Int).toNat n) = min k n
  rw [if_neg (by omega), Int.toNat_natCast]
theorem sIx_le (n d : Nat) (hd : d ≤ n) (o : Option Int) : sIx n d o ≤ n := by
  cases o with
  | none => exact hd
  | some v =>
    show (if v < 0 then (v + (n : Int)).toNat else min v.toNat n) ≤ n
    by_cases hv : v < 0
    · rw [if_pos hv]; omega
    · rw [if_neg hv]; exact Nat.min_le_right _ _
theorem clip_eq (v : Int) (n d : Nat) : (if v < 0 then max (v + (n : Int)) 0 else min v (n : Int)) = ((sIx n d (some v) : Nat) : Int) := by
  show (if v < 0 then max (v + (n : Int)) 0 else min v (n : Int)) = (((if v < 0 then (v + (n : Int)).toNat else min v.toNat n) : Nat) : Int)
  by_cases hv : v < 0
  · simp only [if_pos hv]; omega
  · simp only [if_neg hv]; omega
theorem adjust_gen (lo hi : Option Int) (n : Nat) : Builtin.Slice.sliceAdjust lo hi 1 (n : Int) = (((sIx n 0 lo : Nat) : Int), ((sIx n n hi : Nat) : Int)) := by
  have h1 : ¬ ((1 : Int) < 0) := by omega
  unfold Builtin.Slice.sliceAdjust
  simp only [h1, if_false]
  refine Prod.ext ?_ ?_
  · cases lo with
    | none => rfl
    | some v => exact clip_eq v n 0
  · cases hi with
    | none => rfl
    | some v => exact clip_eq v n n
theorem places_gen (i j : Nat) : Builtin.Slice.slicePlaces (i : Int) (j : Int) 1 = j - i := by
  unfold Builtin.Slice.slicePlaces
  have h1 : (1 : Int) > 0 := by omega
  simp only [h1, if_true, Int.ediv_one]
  split <;> omega
theorem slicePart_ {v : Value} {o : Option Int} {Q : Option Int → Shared → Prop} (p : IsPart v o) (h : Q o s) : wpAny (model prog w) A (Builtin.Slice.slicePartIndex v) Q E s := by
  cases p with
  | none => exact slicePart_none h
  | int i t => exact slicePart_int h
theorem sliceApplied_gen {sl : Addr} {vl vu : Value} {lo hi : Option Int} {n : Nat} {Q : Int × Int × Nat → Shared → Prop} (hs : s.heap.IsSliceOf sl vl vu .none) (pl : IsPart vl lo) (pu : IsPart vu hi)
    (h : Q (((sIx n 0 lo : Nat) : Int), 1, sIx n n hi - sIx n 0 lo) s) : wpAny (model prog w) A (Builtin.Slice.sliceApplied (.ref sl) (pure (n : Int))) Q E s := by
  obtain ⟨os, hos, hcs, hds⟩ := id hs
  unfold Builtin.Slice.sliceApplied Builtin.Slice.sliceFields
  refine wpAny_bind (wpAny_bind (wpAny_field hos hds (x := vl) rfl (wpAny_bind (wpAny_field hos hds (x := vu) rfl (wpAny_bind (wpAny_field hos hds (x := .none) rfl (wpAny_pure ?_)))))))
  refine wpAny_bind (slicePart_none ?_)
  show wpAny _ _ (if ((1 : Int) == 0) = true then _ else _) _ _ s
  rw [if_neg (by decide)]
  refine wpAny_bind (slicePart_ pl (wpAny_bind (slicePart_ pu (wpAny_bind (wpAny_pure ?_)))))
  show wpAny _ _ (match Builtin.Slice.sliceAdjust lo hi 1 (n : Int) with | (lo, hi) => pure (lo, (1 : Int), Builtin.Slice.slicePlaces lo hi 1)) _ _ s
  rw [adjust_gen lo hi n]
  show wpAny _ _ (pure (((sIx n 0 lo : Nat) : Int), (1 : Int), Builtin.Slice.slicePlaces ((sIx n 0 lo : Nat) : Int) ((sIx n n hi : Nat) : Int) 1)) _ _ s
  rw [places_gen]
  exact wpAny_pure h
theorem pick_gen (xs : Array Value) (i k : Nat) : ((List.range k).filterMap fun (m : Nat) => xs[((i : Int) + (m : Int) * 1).toNat]?).toArray = ((xs.toList.drop i).take k).toArray := by
  have e : (fun (m : Nat) => xs[((i : Int) + (m : Int) * 1).toNat]?) = fun m => xs[i + m]? := by
    funext m
    have : ((i : Int) + (m : Int) * 1).toNat = i + m := by omega
    rw [this]
  rw [e]
  have := pick_run xs i k
  rw [List.filterMap_map] at this
  have e2 : ((fun x => xs[x]?) ∘ fun x => i + x) = fun m => xs[i + m]? := rfl
  rw [e2] at this
  rw [this]

theorem getItem_tuple_cut {t sl : Addr} {items : Array Value} {vl vu : Value} {lo hi : Option Int} {Q : Value → Shared → Prop} (ht : IsTup s.heap t items) (hs : s.heap.IsSliceOf sl vl vu .none) (pl : IsPart vl lo) (pu : IsPart vu hi)
    (hw : ¬ (sIx items.size 0 lo = 0 ∧ sIx items.size items.size hi = items.size))
    (h : Q (.ref s.heap.objs.size) { s with heap := s.heap.push { cls := .type "tuple", data := .seq ((items.toList.drop (sIx items.size 0 lo)).take (sIx items.size items.size hi - sIx items.size 0 lo)).toArray } })
    (hsz : items.size ≤ sizeLine) : wpAny (model prog w) A (getItem (.ref t) (.ref sl)) Q E s := by
  have htake : sizeOk (.seq ((items.toList.drop (sIx items.size 0 lo)).take (sIx items.size items.size hi - sIx items.size 0 lo)).toArray) := by
    show ((items.toList.drop (sIx items.size 0 lo)).take (sIx items.size items.size hi - sIx items.size 0 lo)).toArray.size ≤ sizeLine
    rw [List.size_toArray, List.length_take, List.length_drop, Array.length_toList]
    omega
  have hj : sIx items.size items.size hi ≤ items.size := sIx_le _ _ (Nat.le_refl _) hi
  obtain ⟨os, hos, hcs, hds⟩ := id hs
  have hTs : s.TypeIs (.ref sl) "slice" := ⟨os, hos, hcs⟩
  unfold getItem
  try with_reducible refine wpAny_holding ?_
  first | refine wpAny_bind (wpAny_pure ?_) | skip
  refine wpAny_bind (wpAny_sequenceKey ht.typeIs (by decide) ?_)
  refine wpAny_bind (wpAny_callSpecial?_slot (name := Str.ofString "__getitem__") ht.typeIs PyProof.Rows.slot_tuple_getitem
    (wpAny_call_entry PyProof.Rows.slot_tuple_getitem ht.typeIs entry_tuple_getitem ?_ (args_tuple_getitem _ _)))
  show wpAny _ _ (Builtin.Tuple.tupleItemsOf (.ref t) >>= _) _ _ s
  refine wpAny_bind (tupleItemsOf_ ht ?_)
  refine wpAny_bind (wpAny_typeOf hTs ?_)
  rw [if_pos (by decide)]
  refine wpAny_bind (sliceApplied_gen hs pl pu ?_)
  have hno : ¬ ((((sIx items.size 0 lo : Nat) : Int) == 0 && (1 : Int) == 1 && (sIx items.size items.size hi - sIx items.size 0 lo) == items.size) = true) := by
    intro q
    rw [Bool.and_eq_true, Bool.and_eq_true] at q
    have q1 : ((sIx items.size 0 lo : Nat) : Int) = 0 := eq_of_beq q.1.1
    have q2 : sIx items.size items.size hi - sIx items.size 0 lo = items.size := eq_of_beq q.2
    exact hw ⟨by omega, by omega⟩
  show wpAny _ _ (if (((sIx items.size 0 lo : Nat) : Int) == 0 && (1 : Int) == 1 && (sIx items.size items.size hi - sIx items.size 0 lo) == items.size) = true then _ else _) _ _ s
  rw [if_neg hno, pick_gen]
  first
    | exact wpAny_bind (m := Builtin.Tuple.tupleExact _) (wpAny_newObj_type (wpAny_pure ⟨_, rfl, wpAny_pure h⟩) htake)
    | exact wpAny_bind (m := Builtin.Tuple.tupleExact _) (wpAny_newObj_type (wpAny_bind (wpAny_pure (wpAny_pure ⟨_, rfl, wpAny_pure h⟩))) htake)
    | exact wpAny_bind (wpAny_bind (m := Builtin.Tuple.tupleExact _) (wpAny_newObj_type (wpAny_pure (wpAny_pure ⟨_, rfl, wpAny_pure h⟩)) htake))
    | exact wpAny_bind (wpAny_bind (m := Builtin.Tuple.tupleExact _) (wpAny_newObj_type (wpAny_pure ⟨_, rfl, wpAny_pure h⟩) htake))
end
end HT

namespace L2
open PySem PySem.Spec PyProof.Rows

/-! ### the parts of a slice -/
abbrev TO := St → Hp → (Option Int → Hp → Prop) → Prop
/-- a slice's part (left out, or an int) -/
def PO (X : Cx) (e : Option Expr) (t : TO) : Prop :=
  ∀ (pins : List (Addr × Obj)) (s : Shared) (σ : St) (H : Hp) (Q : Option Int → Hp → Prop), Inv X pins σ H s → t σ H Q →
    wpAny (model X.prog X.w) X.A (evalPart e X.env) (fun u s' => ∃ o H', Inv X pins σ H' s' ∧ IsPart u o ∧ Q o H') X.xe s
def tNoPart : TO := fun _ H Q => Q none H
def tPart (t : TE) : TO := fun σ H Q => t σ H fun x H1 => ∃ i, x = .int i ∧ Q (some i) H1

theorem intsAre_of {ns : List Int} : ∀ {us : List Value}, Vals (ns.map V.int) us → IntsAre us ns := by
  induction ns with
  | nil => intro us r; rw [List.map_nil] at r; cases r; exact .nil
  | cons n ns ih =>
    intro us r
    rw [List.map_cons] at r
    cases r with
    | cons r1 r2 =>
      obtain ⟨t, e⟩ := r1
      subst e
      exact .cons n t (ih r2)

section
variable {X : Cx} {e : Expr} {te : TE} {lo hi : Option Expr} {tl th : TO} {pos p2 : Pos}

theorem po_none : PO X none tNoPart := by
  intro pins s σ H Q I h
  rw [evalPart_none]
  exact wpAny_pure ⟨none, H, I, .none, h⟩
theorem po_some (h : PE X e te) : PO X (some e) (tPart te) := by
  intro pins s σ H Q I hw
  rw [evalPart_some]
  refine thn (h pins s σ H _ I hw) fun u s1 ⟨x, H1, I1, r1, q1⟩ => ?_
  obtain ⟨i, rfl, q⟩ := q1
  obtain ⟨t, rfl⟩ := r1
  exact ⟨some i, H1, I1, .int i t, q⟩

/-- what a slice of a value is, by values: the slice object stands at sl -/
def SlR (X : Cx) (r : V → Option Int → Option Int → Hp → VK → Prop) : Prop :=
  ∀ (pins : List (Addr × Obj)) (s : Shared) (σ : St) (H : Hp) (x : V) (v vl vu : Value) (lo hi : Option Int) (sl : Addr) (Q : VK), Inv X pins σ H s → RelV x v → s.heap.IsSliceOf sl vl vu .none → IsPart vl lo → IsPart vu hi → r x lo hi H Q →
    ∃ T id, typeLookup (.type T) "__getitem__" = pure (some (.builtin id)) ∧ s.TypeIs v T ∧ wpAny (model X.prog X.w) X.A (getItem v (.ref sl)) (EP X pins σ Q) X.xe s
theorem SlR.or {r r' : V → Option Int → Option Int → Hp → VK → Prop} (h : SlR X r) (h' : SlR X r') : SlR X (fun x lo hi H Q => r x lo hi H Q ∨ r' x lo hi H Q) := by
  intro pins s σ H x v vl vu lo hi sl Q I rx hs pl pu q
  rcases q with q | q
  · exact h pins s σ H x v vl vu lo hi sl Q I rx hs pl pu q
  · exact h' pins s σ H x v vl vu lo hi sl Q I rx hs pl pu q
def tSl (r : V → Option Int → Option Int → Hp → VK → Prop) (te : TE) (tl th : TO) : TE := fun σ H Q => te σ H fun x H1 => tl σ H1 fun l H2 => th σ H2 fun u H3 => r x l u H3 Q
/-- a[lo:hi], any a -/
theorem pe_slice {r : V → Option Int → Option Int → Hp → VK → Prop} (hr : SlR X r) (he : PE X e te) (hl : PO X lo tl) (hu : PO X hi th) : PE X (.Subscript e (.Slice lo hi none p2) pos) (tSl r te tl th) := by
  intro pins s σ H Q I h
  refine Subscript_ (thn (he pins s σ H _ I h) fun v s1 ⟨x, H1, I1, r1, q1⟩ => ?_)
  refine wpAny_Slice (thn (hl pins s1 σ H1 _ I1 q1) fun vl s2 ⟨l, H2, I2, pl, q2⟩ => thn (hu pins s2 σ H2 _ I2 q2) fun vu s3 ⟨u, H3, I3, pu, q3⟩ => ?_)
  rw [evalPart_none]
  refine wpAny_pure ?_
  have I4 : Inv X pins σ H3 { s3 with heap := s3.heap.push { cls := .type "slice", data := .fields #[vl, vu, .none] } } := I3.kept (t' := s3.toks) fun b ob q => Heap.get?_push_of_some _ q
  obtain ⟨T, id, hT, ht, hg⟩ := hr pins { s3 with heap := s3.heap.push { cls := .type "slice", data := .fields #[vl, vu, .none] } } σ H3 x v vl vu l u s3.heap.objs.size Q I4 r1 (Heap.IsSliceOf.new ..) pl pu q3
  show wpAny (model X.prog X.w) X.A (subscriptTail e (.Slice lo hi none p2) v (.ref s3.heap.objs.size)) (EP X pins σ Q) X.xe { s3 with heap := s3.heap.push { cls := .type "slice", data := .fields #[vl, vu, .none] } }
  exact tail_any (ops := [.ref s3.heap.objs.size, v]) ht hT hg (by with_unfolding_all rfl)

/-- the items of xs[lo:hi] -/
def cutV (xs : List V) (lo hi : Option Int) : List V := (xs.drop (HT.sIx xs.length 0 lo)).take (HT.sIx xs.length xs.length hi - HT.sIx xs.length 0 lo)
theorem cutV_length (xs : List V) (lo hi : Option Int) : (cutV xs lo hi).length ≤ xs.length := by
  unfold cutV
  rw [List.length_take, List.length_drop]
  omega
/-- t[lo:hi], not the whole of it (the whole would be t itself) -/
def rSlT (K : PySem.W.Frag) : V → Option Int → Option Int → Hp → VK → Prop := fun x lo hi H Q => ∃ a xs, x = .ref a ∧ SqT K H a xs ∧
  ¬ (HT.sIx xs.length 0 lo = 0 ∧ HT.sIx xs.length xs.length hi = xs.length) ∧ ∀ p, H p = none → Q (.ref p) (upd H p (.tup (cutV xs lo hi)))
theorem sl_tup : SlR X (rSlT X.K) := by
  intro pins s σ H x v vl vu lo hi sl Q I rx hs pl pu h
  obtain ⟨a, xs, rfl, hx, hw, q⟩ := h
  cases rx
  obtain ⟨its, r, ht, hz⟩ := I.tuple hx
  have hlen : its.toArray.size = xs.length := by rw [List.size_toArray]; exact r.length.symm
  refine ⟨"tuple", _, PyProof.Rows.slot_tuple_getitem.lookup, ht.typeIs, ?_⟩
  refine HT.getItem_tuple_cut ht hs pl pu (by rw [hlen]; exact hw) ?_ (by rw [hlen]; exact hz)
  rw [hlen]
  refine ⟨.ref s.heap.objs.size, _, I.laid (t' := s.toks) (o := .tup (cutV xs lo hi)) (fun b ob q => Heap.get?_push_of_some _ q) (Nat.le_refl _) ?_, rfl, q _ (I.hok.fresh (Nat.le_refl _))⟩
  exact ⟨Nat.le_trans (cutV_length xs lo hi) hz, _, (r.drop (HT.sIx xs.length 0 lo)).take (HT.sIx xs.length xs.length hi - HT.sIx xs.length 0 lo), IsTup.new _ _⟩

/-! ### t < u, t + u -/
def rLtT (K : PySem.W.Frag) : R2 := fun x y H Q => ∃ a b ns ms, x = .ref a ∧ y = .ref b ∧ SqT K H a (ns.map V.int) ∧ SqT K H b (ms.map V.int) ∧ Q (.bl (HT.lexLt ns ms)) H
theorem op_ltT (hu : X.A.units < cLine) : OpR X (compareOp .Lt) (rLtT X.K) := by
  intro pins s σ H x y v u Q I rx ry h
  obtain ⟨a, b, ns, ms, rfl, rfl, ha, hb, q⟩ := h
  cases rx
  cases ry
  obtain ⟨its, r1, p1, _⟩ := I.tuple ha
  obtain ⟨its2, r2, p2, _⟩ := I.tuple hb
  have i1 : IntsAre its.toArray.toList ns := intsAre_of r1
  have i2 : IntsAre its2.toArray.toList ms := intsAre_of r2
  exact HT.lt_tupInts p1 p2 i1 i2 hu ⟨.bl (HT.lexLt ns ms), H, I, rfl, q⟩
/-- t + u, t not empty: u empty gives t itself -/
def rCatT (K : PySem.W.Frag) : R2 := fun x y H Q => ∃ a b xs ys, x = .ref a ∧ y = .ref b ∧ SqT K H a xs ∧ SqT K H b ys ∧ xs ≠ [] ∧ xs.length + ys.length ≤ sizeLine ∧
  (ys = [] → Q (.ref a) H) ∧ (ys ≠ [] → ∀ p, H p = none → Q (.ref p) (upd H p (.tup (xs ++ ys))))
theorem Vals.nil_iff {xs : List V} {us : List Value} (r : Vals xs us) : us = [] ↔ xs = [] := by
  cases r with
  | nil => simp
  | cons _ _ => simp
theorem op_catT : OpR X (binaryOp .Add) (rCatT X.K) := by
  intro pins s σ H x y v u Q I rx ry h
  obtain ⟨a, b, xs, ys, rfl, rfl, ha, hb, hx, hz, q1, q2⟩ := h
  cases rx
  cases ry
  obtain ⟨its, r1, p1, _⟩ := I.tuple ha
  obtain ⟨its2, r2, p2, _⟩ := I.tuple hb
  refine HT.cat_tup p1 p2 (fun z => hx (r1.nil_iff.mp z)) (fun z => ⟨.ref a, H, I, rfl, q1 (r2.nil_iff.mp z)⟩) (fun z => ?_) (by rw [← r1.length, ← r2.length]; exact hz)
  refine ⟨.ref s.heap.objs.size, _, I.laid (t' := s.toks) (o := .tup (xs ++ ys)) (fun b ob q => Heap.get?_push_of_some _ q) (Nat.le_refl _) ?_, rfl, q2 (fun w => z (r2.nil_iff.mpr w)) _ (I.hok.fresh (Nat.le_refl _))⟩
  exact ⟨by rw [List.length_append]; exact hz, _, r1.append r2, IsTup.new _ _⟩
/-- tuple(t) -/
theorem call_tupleT : CallR X (.type "tuple") (fun xs H Q => ∃ a ys, xs = [.ref a] ∧ SqT X.K H a ys ∧ Q (.ref a) H) := by
  intro pins s σ H xs us Q I r h
  obtain ⟨a, ys, rfl, ha, q⟩ := h
  obtain ⟨u, rfl, ru⟩ := vals1 r
  cases ru
  obtain ⟨its, _, p1, _⟩ := I.tuple ha
  exact call_tuple_same (items := its.toArray) p1 ⟨.ref a, H, I, rfl, q⟩
end
end L2

namespace L2
open PySem PySem.Spec PyProof.Rows

/-! ### places -/
/-- the place that an index of any sign means -/
def ixN (n : Nat) (i : Int) : Option Nat := if 0 ≤ i then (if i < n then some i.toNat else none) else if -(n : Int) ≤ i then some (i + n).toNat else none
def atI {α : Type} (xs : List α) (i : Int) : Option α := (ixN xs.length i).bind fun j => xs[j]?
theorem ixN_seq {n : Nat} {i : Int} {j : Nat} (h : ixN n i = some j) : seqIndex? i n = some j ∧ j < n ∧ -(n : Int) ≤ i ∧ i < n := by
  unfold ixN at h
  by_cases h0 : 0 ≤ i
  · rw [if_pos h0] at h
    by_cases h1 : i < n
    · rw [if_pos h1] at h
      have e : i.toNat = j := Option.some.inj h
      exact ⟨by rw [seqIndex_of h0 h1, e], by omega, by omega, h1⟩
    · rw [if_neg h1] at h; cases h
  · rw [if_neg h0] at h
    by_cases h1 : -(n : Int) ≤ i
    · rw [if_pos h1] at h
      have e : (i + n).toNat = j := Option.some.inj h
      exact ⟨by rw [seqIndex_neg (by omega) h1, e], by omega, h1, by omega⟩
    · rw [if_neg h1] at h; cases h
theorem atI_get {α : Type} {xs : List α} {i : Int} {v : α} (h : atI xs i = some v) : ∃ j, seqIndex? i xs.length = some j ∧ xs[j]? = some v ∧ j < xs.length ∧ -(xs.length : Int) ≤ i ∧ i < xs.length := by
  unfold atI at h
  cases e : ixN xs.length i with
  | none => rw [e] at h; cases h
  | some j =>
    rw [e] at h
    obtain ⟨h1, h2, h3, h4⟩ := ixN_seq e
    exact ⟨j, h1, h, h2, h3, h4⟩
theorem atI_nat {α : Type} {xs : List α} {j : Nat} {v : α} (h : xs[j]? = some v) : atI xs (j : Int) = some v := by
  have hj : j < xs.length := (List.getElem?_eq_some_iff.mp h).1
  have e : ixN xs.length (j : Int) = some j := by
    unfold ixN
    rw [if_pos (by omega), if_pos (by omega)]; simp
  unfold atI; rw [e]; exact h
theorem atI_last {α : Type} (xs : List α) (v : α) : atI (xs ++ [v]) (-1) = some v := by
  have hl : (xs ++ [v]).length = xs.length + 1 := by simp
  have e : ixN (xs ++ [v]).length (-1) = some xs.length := by
    unfold ixN
    rw [hl, if_neg (by decide), if_pos (by omega)]
    congr 1
    omega
  unfold atI
  rw [e]
  show (xs ++ [v])[xs.length]? = some v
  simp

/-! ### what may be subscripted -/
/-- what stands as an index of a plain subscript -/
def PlainIx (b : Expr) : Prop := ∀ o i, subscripted b false o i = operate [o, i] (getItem o i)
/-- a subscript by values -/
def IxR (X : Cx) (r : R2) : Prop :=
  ∀ (value slice : Expr) (pins : List (Addr × Obj)) (s : Shared) (σ : St) (H : Hp) (x y : V) (v u : Value) (Q : VK), Inv X pins σ H s → RelV x v → RelV y u → r x y H Q →
    subscripted slice false v u = operate [v, u] (getItem v u) → wpAny (model X.prog X.w) X.A (subscriptTail value slice v u) (EP X pins σ Q) X.xe s
/-- a call of a builtin's method by values: the receiver, the arguments -/
def MtR (X : Cx) (id : String) (r : V → List V → Hp → VK → Prop) : Prop :=
  ∀ (pins : List (Addr × Obj)) (s : Shared) (σ : St) (H : Hp) (x : V) (xs : List V) (v : Value) (us : List Value) (Q : VK), Inv X pins σ H s → RelV x v → Vals xs us → r x xs H Q →
    wpAny (model X.prog X.w) X.A (call (.builtin id) (v :: us)) (EP X pins σ Q) X.xe s
section
variable {X : Cx} {a b : Expr} {ta tb : TE} {pos : Pos}
theorem IxR.or {r r' : R2} (h : IxR X r) (h' : IxR X r') : IxR X (fun x y H Q => r x y H Q ∨ r' x y H Q) := by
  intro value slice pins s σ H x y v u Q I rx ry q hs
  rcases q with q | q
  · exact h value slice pins s σ H x y v u Q I rx ry q hs
  · exact h' value slice pins s σ H x y v u Q I rx ry q hs
theorem MtR.or {id : String} {r r' : V → List V → Hp → VK → Prop} (h : MtR X id r) (h' : MtR X id r') : MtR X id (fun x xs H Q => r x xs H Q ∨ r' x xs H Q) := by
  intro pins s σ H x xs v us Q I rx rs q
  rcases q with q | q
  · exact h pins s σ H x xs v us Q I rx rs q
  · exact h' pins s σ H x xs v us Q I rx rs q
/-- a[b] -/
theorem pe_ix {r : R2} (hr : IxR X r) (ha : PE X a ta) (hb : PE X b tb) (hs : PlainIx b) : PE X (.Subscript a b pos) (tOp r ta tb) := by
  intro pins s σ H Q I h
  exact Subscript_ (binT ha hb I h fun v u s2 x y H2 I2 rx ry q => hr a b pins s2 σ H2 x y v u Q I2 rx ry q (hs _ _))

def rIxL (K : PySem.W.Frag) : R2 := fun x y H Q => ∃ p xs i v, x = .ref p ∧ y = .int i ∧ SqL K H p xs ∧ atI xs i = some v ∧ Q v H
def rIxT (K : PySem.W.Frag) : R2 := fun x y H Q => ∃ p xs i v, x = .ref p ∧ y = .int i ∧ SqT K H p xs ∧ atI xs i = some v ∧ Q v H
def rIxS : R2 := fun x y H Q => ∃ z i c, x = .str z ∧ y = .int i ∧ z.length ≤ sizeLine ∧ atI z.cps.toList i = some c ∧ Q (.str ⟨#[c]⟩) H
theorem ix_list : IxR X (rIxL X.K) := by
  intro value slice pins s σ H x y v u Q I rx ry h hs
  obtain ⟨p, xs, i, z, rfl, rfl, hq, he, q⟩ := h
  cases rx
  obtain ⟨t, rfl⟩ := ry
  obtain ⟨its, r, pl, hz⟩ := I.list hq
  obtain ⟨j, h1, h2, h3, h4, h5⟩ := atI_get he
  obtain ⟨w, ew, rw'⟩ := r.get h2
  have hl := r.length
  have hn := line63
  have fin : EP X pins σ Q w s := ⟨z, H, I, rw', q⟩
  by_cases h0 : 0 ≤ i
  · have hj : i.toNat = j := by
      rw [seqIndex_of h0 h5] at h1
      exact Option.some.inj h1
    exact item_listR pl.isList h0 (by omega) (by rw [hj]; simpa using ew) fin hs
  · have hj : (i + (its.toArray.size : Int)).toNat = j := by
      rw [seqIndex_neg (by omega) h4] at h1
      rw [List.size_toArray, ← hl]
      exact Option.some.inj h1
    exact subscriptTail_builtinR (x := w) pl.isList.typeIs slot_list_getitem.lookup
      (wpAny_getItem_list_neg (Q := fun r s' => r = w ∧ EP X pins σ Q r s') pl.isList (by omega) (by rw [List.size_toArray] <;> omega) (by omega) (by rw [hj]; simpa using ew) ⟨rfl, fin⟩) hs
theorem ix_tup : IxR X (rIxT X.K) := by
  intro value slice pins s σ H x y v u Q I rx ry h hs
  obtain ⟨p, xs, i, z, rfl, rfl, hq, he, q⟩ := h
  cases rx
  obtain ⟨t, rfl⟩ := ry
  obtain ⟨its, r, pl, hz⟩ := I.tuple hq
  obtain ⟨j, h1, h2, h3, h4, h5⟩ := atI_get he
  obtain ⟨w, ew, rw'⟩ := r.get h2
  have hl := r.length
  have hn := line63
  have fin : EP X pins σ Q w s := ⟨z, H, I, rw', q⟩
  exact subscriptTail_builtinR (x := w) pl.typeIs slot_tuple_getitem.lookup
    (getItem_tuple (j := j) (Q := fun r s' => r = w ∧ EP X pins σ Q r s') pl (by omega) (by omega) (by rw [List.size_toArray, ← hl]; exact h1) (by simpa using ew) ⟨rfl, fin⟩) hs
theorem ix_str : IxR X rIxS := by
  intro value slice pins s σ H x y v u Q I rx ry h hs
  obtain ⟨z, i, c, rfl, rfl, hz, he, q⟩ := h
  obtain ⟨t, rfl⟩ := rx
  obtain ⟨t', rfl⟩ := ry
  obtain ⟨j, h1, h2, h3, h4, h5⟩ := atI_get he
  have hl : z.cps.toList.length = z.length := by simp [Str.length]
  rw [hl] at h1 h4 h5
  have hn := line63
  exact tail_any (typeIs_str s z t) slot_str_getitem.lookup (getItem_str (c := c) (by
    have e1 : decide (i < -(2 ^ 63 : Int)) = false := decide_eq_false (by omega)
    have e2 : decide (i ≥ 2 ^ 63) = false := decide_eq_false (by omega)
    rw [e1, e2, Bool.or_false]) (by rw [h1]; simpa using h2) ⟨.str ⟨#[c]⟩, H, I.tok _, ⟨_, rfl⟩, q⟩) hs
/-- list, tuple or str -/
def rIx (K : PySem.W.Frag) : R2 := fun x y H Q => rIxL K x y H Q ∨ rIxT K x y H Q ∨ rIxS x y H Q
theorem ix_seq : IxR X (rIx X.K) := ix_list.or (ix_tup.or ix_str)

/-! ### xs[i] = v, any sign -/
/-- the list's object behind a store -/
theorem mapSeq_set (its : List Value) (n j : Nat) (u : Value) : Obj.mapSeq (·.setIfInBounds j u) { cls := .type "list", data := .seq its.toArray n } = { cls := .type "list", data := .seq (its.set j u).toArray n } := by
  simp [Obj.mapSeq]
theorem Inv.lst {pins : List (Addr × Obj)} {σ : St} {H : Hp} {s : Shared} {p : Addr} {xs : List V} (I : Inv X pins σ H s) (h : H p = some (.lst xs)) :
    ∃ (its : List Value) (n : Nat), Vals xs its ∧ s.heap.get? p = some { cls := .type "list", data := .seq its.toArray n } ∧ xs.length ≤ sizeLine := by
  obtain ⟨z, its, n, r, e⟩ := I.hok p _ h
  exact ⟨its, n, r, e, z⟩
/-- the list at p is written by an update of its object -/
theorem Inv.lstUpd {pins : List (Addr × Obj)} {σ : St} {H : Hp} {s : Shared} {p : Addr} {xs ys : List V} {its its' : List Value} {n n' : Nat} {f : Obj → Obj} (I : Inv X pins σ H s) (h : H p = some (.lst xs))
    (ho : s.heap.get? p = some { cls := .type "list", data := .seq its.toArray n }) (hf : f { cls := .type "list", data := .seq its.toArray n } = { cls := .type "list", data := .seq its'.toArray n' }) (r : Vals ys its') (hz : ys.length ≤ sizeLine) (t : Nat) :
    Inv X pins σ (upd H p (.lst ys)) { s with heap := s.heap.update p f, toks := t } := by
  have e : (s.heap.update p f).get? p = some { cls := .type "list", data := .seq its'.toArray n' } := by
    rw [Heap.get?_update_self f ho (by rw [hf] <;> rfl), hf]
  refine I.write (x := p) (e := p) (by rw [h]; trivial) (.inl rfl) (fun b u hb q => (Heap.get?_update_other _ _ (Ne.symm hb)).trans q) ⟨_, e⟩ ?_
  exact ⟨hz, its', n', r, e⟩
def rSetL : V → V → V → Hp → (Hp → Prop) → Prop := fun o i v H Q => ∃ p xs k j, o = .ref p ∧ i = .int k ∧ H p = some (.lst xs) ∧ ixN xs.length k = some j ∧ Q (upd H p (.lst (xs.set j v)))
theorem set_list : PSet X rSetL := by
  intro pins s σ H o i v ov iv u Q I ro ri rv h
  obtain ⟨p, xs, k, j, rfl, rfl, hp, hj, q⟩ := h
  cases ro
  obtain ⟨t, rfl⟩ := ri
  obtain ⟨its, n, r, ho, hz⟩ := I.lst hp
  obtain ⟨h1, h2, h3, h4⟩ := ixN_seq hj
  have hl := r.length
  have hn := line63
  have I' : Inv X pins σ (upd H p (.lst (xs.set j v))) { s with heap := s.heap.update p (Obj.mapSeq (·.setIfInBounds j u)) } :=
    I.lstUpd hp ho (mapSeq_set its n j u) (r.set rv j) (by rw [List.length_set]; exact hz) s.toks
  by_cases h0 : 0 ≤ k
  · have hk : k.toNat = j := by
      rw [seqIndex_of h0 h4] at h1
      exact Option.some.inj h1
    exact PySem.W.ki_setAt ho h0 (by omega) (by rw [List.size_toArray, ← hl]; exact h4) (by rw [hk]; exact ⟨_, I', q⟩)
  · have hk : (k + (its.toArray.size : Int)).toNat = j := by
      rw [seqIndex_neg (by omega) h3] at h1
      rw [List.size_toArray, ← hl]
      exact Option.some.inj h1
    exact PySem.W.ki_setBack ho (by omega) (by rw [List.size_toArray, ← hl]; exact h3) (by omega) (by rw [hk]; exact ⟨_, I', q⟩)

/-! ### slices -/
theorem slice_bounds (lo hi : Option Int) (n : Nat) : (sliceBounds lo hi none n).1 = ((HT.sIx n 0 lo : Nat) : Int) ∧ (sliceBounds lo hi none n).2.1 = ((HT.sIx n n hi : Nat) : Int) ∧ (sliceBounds lo hi none n).2.2 = 1 := by
  refine ⟨?_, ?_, rfl⟩
  · cases lo with
    | none => simp [sliceBounds, HT.sIx]
    | some i =>
      simp only [sliceBounds, HT.sIx, Option.getD_none, show (1 : Int) > 0 by decide, if_true]
      by_cases h : i < 0
      · simp only [h, if_true] <;> omega
      · simp only [h, if_false] <;> omega
  · cases hi with
    | none => simp [sliceBounds, HT.sIx]
    | some i =>
      simp only [sliceBounds, HT.sIx, Option.getD_none, show (1 : Int) > 0 by decide, if_true]
      by_cases h : i < 0
      · simp only [h, if_true] <;> omega
      · simp only [h, if_false] <;> omega
theorem slicePick_cut (its : List Value) (lo hi : Option Int) : slicePick its.toArray lo hi none = ((its.drop (HT.sIx its.length 0 lo)).take (HT.sIx its.length its.length hi - HT.sIx its.length 0 lo)).toArray := by
  obtain ⟨h1, h2, h3⟩ := slice_bounds lo hi its.toArray.size
  unfold slicePick
  rw [h1, h2, h3]
  simp only [sliceRange_one, pick_run, List.size_toArray] <;> rfl
/-- xs[lo:hi] of a list: a new list -/
def rSlL (K : PySem.W.Frag) : V → Option Int → Option Int → Hp → VK → Prop := fun x lo hi H Q => ∃ a xs, x = .ref a ∧ SqL K H a xs ∧ ∀ p, H p = none → Q (.ref p) (upd H p (.lst (cutV xs lo hi)))
theorem sl_list : SlR X (rSlL X.K) := by
  intro pins s σ H x v vl vu lo hi sl Q I rx hs pl pu h
  obtain ⟨a, xs, rfl, hx, q⟩ := h
  cases rx
  obtain ⟨its, r, ht, hz⟩ := I.list hx
  have hlen := r.length
  refine ⟨"list", _, slot_list_getitem.lookup, ht.isList.typeIs, ?_⟩
  refine wpAny_getItem_list_slice ht.isList hs pl pu .none (by simp) ?_ (by rw [List.size_toArray] <;> omega)
  rw [slicePick_cut, ← hlen]
  refine ⟨.ref s.heap.objs.size, _, I.laid (t' := s.toks) (o := .lst (cutV xs lo hi)) (fun b ob q => Heap.get?_push_of_some _ q) (Nat.le_refl _) ?_, rfl, q _ (I.hok.fresh (Nat.le_refl _))⟩
  exact ⟨Nat.le_trans (cutV_length xs lo hi) hz, _, 0, (r.drop (HT.sIx xs.length 0 lo)).take (HT.sIx xs.length xs.length hi - HT.sIx xs.length 0 lo), Heap.get?_push_size _ rfl⟩

/-! ### in, not in: flat items -/
def flatV : V → Bool
  | .non => true
  | .bl _ => true
  | .int _ => true
  | .str _ => true
  | _ => false
/-- == of flat values -/
def eqV : V → V → Bool
  | .non, .non => true
  | .bl a, .bl b => a == b
  | .bl a, .int b => (if a then 1 else 0) == b
  | .int a, .bl b => a == (if b then 1 else 0)
  | .int a, .int b => a == b
  | .str a, .str b => a == b
  | _, _ => false
theorem eqAt_V {A : Around} {s : Shared} {y x : V} {u v : Value} (ry : RelV y u) (rx : RelV x v) (fy : flatV y = true) (fx : flatV x = true) : SeqAt.EqAt A s u v (eqV y x) := by
  cases y with
  | non =>
    cases ry
    cases x with
    | non => cases rx; exact SeqAt.EqAt.same _
    | bl b => cases rx; exact SeqAt.EqAt.none_bool b
    | int b => obtain ⟨t, rfl⟩ := rx; exact SeqAt.EqAt.none_int b t
    | str b => obtain ⟨t, rfl⟩ := rx; exact SeqAt.EqAt.none_str b t
    | _ => exact absurd (show false = true from fx) Bool.false_ne_true
  | bl a =>
    cases ry
    cases x with
    | non => cases rx; exact SeqAt.EqAt.bool_none a
    | bl b => cases rx; exact SeqAt.EqAt.bool_bool a b
    | int b => obtain ⟨t, rfl⟩ := rx; exact SeqAt.EqAt.bool_int a b t
    | str b => obtain ⟨t, rfl⟩ := rx; exact SeqAt.EqAt.bool_str a b t
    | _ => exact absurd (show false = true from fx) Bool.false_ne_true
  | int a =>
    obtain ⟨t', rfl⟩ := ry
    cases x with
    | non => cases rx; exact SeqAt.EqAt.int_none a t'
    | bl b => cases rx; exact SeqAt.EqAt.int_bool a t' b
    | int b => obtain ⟨t, rfl⟩ := rx; exact SeqAt.EqAt.int_int a t' b t
    | str b => obtain ⟨t, rfl⟩ := rx; exact SeqAt.EqAt.int_str a t' b t
    | _ => exact absurd (show false = true from fx) Bool.false_ne_true
  | str a =>
    obtain ⟨t', rfl⟩ := ry
    cases x with
    | non => cases rx; exact SeqAt.EqAt.str_none a t'
    | bl b => cases rx; exact SeqAt.EqAt.str_bool a t' b
    | int b => obtain ⟨t, rfl⟩ := rx; exact SeqAt.EqAt.str_int a t' b t
    | str b => obtain ⟨t, rfl⟩ := rx; exact SeqAt.EqAt.str_str a t' b t
    | _ => exact absurd (show false = true from fx) Bool.false_ne_true
  | _ => exact absurd (show false = true from fy) Bool.false_ne_true
/-- the items' answers, read off the values (a value's own answer does not lean on its token) -/
def eqU (x : V) (u : Value) : Bool := match u with
  | .none => eqV .non x
  | .bool b => eqV (.bl b) x
  | .int i _ => eqV (.int i) x
  | .str z _ => eqV (.str z) x
  | _ => false
theorem eqU_of {x y : V} {u : Value} (r : RelV y u) (f : flatV y = true) : eqU x u = eqV y x := by
  cases y with
  | non => cases r; rfl
  | bl b => cases r; rfl
  | int i => obtain ⟨t, rfl⟩ := r; rfl
  | str z => obtain ⟨t, rfl⟩ := r; rfl
  | _ => exact absurd (show false = true from f) Bool.false_ne_true
theorem any_eqU {x : V} : ∀ {xs : List V} {us : List Value}, Vals xs us → xs.all flatV = true → us.any (eqU x) = xs.any fun y => eqV y x
  | _, _, .nil, _ => rfl
  | y :: xs, u :: us, .cons r t, f => by
    rw [List.all_cons, Bool.and_eq_true] at f
    rw [List.any_cons, List.any_cons, eqU_of r f.1, any_eqU t f.2]
theorem mem_eqAt {A : Around} {s : Shared} {x : V} {v : Value} (rx : RelV x v) (fx : flatV x = true) : ∀ {xs : List V} {us : List Value}, Vals xs us → xs.all flatV = true → ∀ u ∈ us, SeqAt.EqAt A s u v (eqU x u)
  | _, _, .nil, _ => fun u hu => by cases hu
  | y :: xs, u :: us, .cons r t, f => fun u' hu => by
    rw [List.all_cons, Bool.and_eq_true] at f
    rcases List.mem_cons.mp hu with rfl | hu
    · rw [eqU_of r f.1]; exact eqAt_V r rx f.1 fx
    · exact mem_eqAt rx fx t f.2 u' hu
def inV (x : V) (xs : List V) : Bool := xs.any fun y => eqV y x
/-- x in a list or tuple of flat items -/
def rIn (K : PySem.W.Frag) (neg : Bool) : R2 := fun x y H Q => ∃ p xs, y = .ref p ∧ (SqL K H p xs ∨ SqT K H p xs) ∧ flatV x = true ∧ xs.all flatV = true ∧ Q (.bl (if neg then !inV x xs else inV x xs)) H
theorem op_in_seq : OpR X (compareOp .In) (rIn X.K false) := by
  intro pins s σ H x y v u Q I rx ry h
  obtain ⟨p, xs, rfl, hq, fx, fs, q⟩ := h
  cases ry
  rcases hq with hq | hq
  · obtain ⟨its, r, pl, hz⟩ := I.list hq
    refine SeqAt.in_listAt (eqU x) pl.isList (fun w hw => mem_eqAt rx fx r fs w (by simpa using hw)) ⟨.bl _, H, I, rfl, ?_⟩
    rw [show its.toArray.any (eqU x) = its.any (eqU x) by simp, any_eqU r fs]
    exact q
  · obtain ⟨its, r, pl, hz⟩ := I.tuple hq
    refine SeqAt.in_tupleAt (eqU x) pl (fun w hw => mem_eqAt rx fx r fs w (by simpa using hw)) ⟨.bl _, H, I, rfl, ?_⟩
    rw [show its.toArray.any (eqU x) = its.any (eqU x) by simp, any_eqU r fs]
    exact q
theorem op_notIn_seq : OpR X (compareOp .NotIn) (rIn X.K true) := by
  intro pins s σ H x y v u Q I rx ry h
  obtain ⟨p, xs, rfl, hq, fx, fs, q⟩ := h
  cases ry
  rcases hq with hq | hq
  · obtain ⟨its, r, pl, hz⟩ := I.list hq
    refine SeqAt.notIn_listAt (eqU x) pl.isList (fun w hw => mem_eqAt rx fx r fs w (by simpa using hw)) ⟨.bl _, H, I, rfl, ?_⟩
    rw [show its.toArray.any (eqU x) = its.any (eqU x) by simp, any_eqU r fs]
    exact q
  · obtain ⟨its, r, pl, hz⟩ := I.tuple hq
    refine SeqAt.notIn_tupleAt (eqU x) pl (fun w hw => mem_eqAt rx fx r fs w (by simpa using hw)) ⟨.bl _, H, I, rfl, ?_⟩
    rw [show its.toArray.any (eqU x) = its.any (eqU x) by simp, any_eqU r fs]
    exact q
theorem op_notIn_str : OpR X (compareOp .NotIn) (fun x y H Q => ∃ i j, x = .str i ∧ y = .str j ∧ Q (.bl (!(!(Builtin.Str.occurrences j i 0 j.length 1).isEmpty))) H) := by
  intro pins s σ H x y v u Q I rx ry h
  obtain ⟨i, j, rfl, rfl, q⟩ := h
  obtain ⟨t, rfl⟩ := rx
  obtain ⟨t', rfl⟩ := ry
  exact notIn_str ⟨.bl _, H, I, rfl, q⟩

/-! ### len, list(x), tuple(x) of any list or tuple that is read -/
theorem call_len_seq : CallR X (.builtin "len") (fun xs H Q => ∃ p ys, xs = [.ref p] ∧ (SqL X.K H p ys ∨ SqT X.K H p ys) ∧ Q (.int ys.length) H) := by
  intro pins s σ H xs us Q I r h
  obtain ⟨p, ys, rfl, hq, q⟩ := h
  obtain ⟨u, rfl, rx⟩ := vals1 r
  cases rx
  have hn := line63
  rcases hq with hq | hq
  · obtain ⟨its, r', pl, hz⟩ := I.list hq
    have hlen := r'.length
    exact Calls.call_len_list pl.isList (by simp only [List.size_toArray] <;> omega) ⟨.int ys.length, H, I.tok _, ⟨s.toks + 1, by rw [List.size_toArray, hlen]⟩, q⟩
  · obtain ⟨its, r', pl, hz⟩ := I.tuple hq
    have hlen := r'.length
    exact len_tuple pl (by simp only [List.size_toArray] <;> omega) ⟨.int ys.length, H, I.tok _, ⟨s.toks + 1, by rw [List.size_toArray, hlen]⟩, q⟩
theorem call_len_str : CallR X (.builtin "len") (fun xs H Q => ∃ z, xs = [.str z] ∧ z.length ≤ sizeLine ∧ Q (.int z.length) H) := by
  intro pins s σ H xs us Q I r h
  obtain ⟨z, rfl, hz, q⟩ := h
  obtain ⟨u, rfl, t, rfl⟩ := vals1 r
  have hn := line63
  exact len_str (by omega) ⟨.int z.length, H, I.tok _, ⟨_, rfl⟩, q⟩
theorem CallR.or {f : Value} {r r' : List V → Hp → VK → Prop} (h : CallR X f r) (h' : CallR X f r') : CallR X f (fun xs H Q => r xs H Q ∨ r' xs H Q) := by
  intro pins s σ H xs us Q I rs q
  rcases q with q | q
  · exact h pins s σ H xs us Q I rs q
  · exact h' pins s σ H xs us Q I rs q
theorem call_list_of : CallR X (.type "list") (fun xs H Q => ∃ p ys, xs = [.ref p] ∧ (SqL X.K H p ys ∨ SqT X.K H p ys) ∧ ∀ l, H l = none → Q (.ref l) (upd H l (.lst ys))) := by
  intro pins s σ H xs us Q I r h
  obtain ⟨p, ys, rfl, hq, q⟩ := h
  obtain ⟨u, rfl, rx⟩ := vals1 r
  cases rx
  have fin : ∀ (its : List Value), Vals ys its → ys.length ≤ sizeLine → ∀ (h' : Heap) (c' : Nat), (∀ b o', s.heap.get? b = some o' → h'.get? b = some o') →
      h'.get? s.heap.objs.size = some { cls := .type "list", dict := none, data := .seq its.toArray c', slots := #[] } → EP X pins σ Q (.ref s.heap.objs.size) { s with heap := h' } := fun its r' hz h' c' kp e =>
    ⟨.ref s.heap.objs.size, _, I.laid (t' := s.toks) kp (Nat.le_refl _) (show ObjOk X.prog X.w _ h' _ (.lst ys) from ⟨hz, its, c', r', e⟩), rfl, q _ (I.hok.fresh (Nat.le_refl _))⟩
  rcases hq with hq | hq
  · obtain ⟨its, r', pl, hz⟩ := I.list hq
    have hlen := r'.length
    obtain ⟨o, ho, hc, n, hd⟩ := pl.isList
    exact call_list_seq p (.inl rfl) ho hc hd (fun h' c' kp e => fin its r' hz h' c' kp e) (by simp only [List.size_toArray] <;> omega)
  · obtain ⟨its, r', pl, hz⟩ := I.tuple hq
    have hlen := r'.length
    obtain ⟨o, ho, hc, n, hd⟩ := pl
    exact call_list_seq p (.inr rfl) ho hc hd (fun h' c' kp e => fin its r' hz h' c' kp e) (by simp only [List.size_toArray] <;> omega)
theorem call_tuple_of : CallR X (.type "tuple") (fun xs H Q => ∃ p ys, xs = [.ref p] ∧ ((SqL X.K H p ys ∧ ∀ l, H l = none → Q (.ref l) (upd H l (.tup ys))) ∨ (SqT X.K H p ys ∧ Q (.ref p) H))) := by
  intro pins s σ H xs us Q I r h
  obtain ⟨p, ys, rfl, h⟩ := h
  obtain ⟨u, rfl, rx⟩ := vals1 r
  cases rx
  rcases h with ⟨hq, q⟩ | ⟨hq, q⟩
  · obtain ⟨its, r', pl, hz⟩ := I.list hq
    have hlen := r'.length
    refine call_tuple_list pl.isList (fun h' kp => ?_) (by simp only [List.size_toArray] <;> omega)
    have I1 : Inv X pins σ H { s with heap := h' } := I.kept (t' := s.toks) kp
    have I2 : Inv X pins σ (upd H h'.objs.size (.tup ys)) { s with heap := h'.push { cls := .type "tuple", data := .seq its.toArray } } :=
      I1.laid (t' := s.toks) (fun b o e => Heap.get?_push_of_some _ e) (Nat.le_refl _) (show ObjOk X.prog X.w _ _ _ (.tup ys) from ⟨hz, its, r', IsTup.new _ _⟩)
    exact ⟨.ref h'.objs.size, _, I2, rfl, q _ (I1.hok.fresh (Nat.le_refl _))⟩
  · obtain ⟨its, r', pl, hz⟩ := I.tuple hq
    exact call_tuple_same pl ⟨.ref p, H, I, rfl, q⟩

/-! ### the call of a builtin's method: o.m(..) -/
/-- the value is of that builtin type -/
def tyV (K : PySem.W.Frag) (T : String) (x : V) (H : Hp) : Prop := match x with
  | .str _ => T = "str"
  | .int _ => T = "int"
  | .ref p => (T = "list" ∧ ∃ xs, SqL K H p xs) ∨ (T = "tuple" ∧ ∃ o, K.lookup p = some o ∧ o.cls = .type "tuple" ∧ o.dict = none) ∨
      (T = "dict" ∧ ((∃ kvs, H p = some (.dK kvs)) ∨ ∃ kvs, H p = some (.dT kvs))) ∨ (T = "set" ∧ ∃ S n, H p = some (.set S n))
  | _ => False
theorem tyV_is {pins : List (Addr × Obj)} {σ : St} {H : Hp} {s : Shared} {T : String} {x : V} {v : Value} (I : Inv X pins σ H s) (r : RelV x v) (ty : tyV X.K T x H) :
    s.TypeIs v T ∧ ∀ a, v = .ref a → ∃ ob, s.heap.get? a = some ob ∧ ob.dict = none := by
  cases x with
  | str z =>
    obtain ⟨t, rfl⟩ := r
    cases (show T = "str" from ty)
    exact ⟨typeIs_str s z t, fun _ e => nomatch e⟩
  | int i =>
    obtain ⟨t, rfl⟩ := r
    cases (show T = "int" from ty)
    exact ⟨typeIs_int s i t, fun _ e => nomatch e⟩
  | ref p =>
    cases r
    rcases ty with ⟨rfl, xs, hq⟩ | ⟨rfl, o, hk, hc, hd⟩ | ⟨rfl, hk⟩ | ⟨rfl, S, n, hk⟩
    · obtain ⟨its, _, pl, _⟩ := I.list hq
      refine ⟨pl.isList.typeIs, fun a e => ?_⟩
      cases e
      obtain ⟨o, n, e, c, hd, _⟩ := pl
      exact ⟨o, e, hd⟩
    · refine ⟨⟨o, I.kIn p o hk, hc⟩, fun a e => ?_⟩
      cases e
      exact ⟨o, I.kIn _ o hk, hd⟩
    · have z : ∃ o, s.heap.get? p = some o ∧ o.ExactDict := by
        rcases hk with ⟨kvs, hk⟩ | ⟨kvs, hk⟩
        · obtain ⟨_, _, _, _, o, _, _, e, ex, _⟩ := I.hok p _ hk
          exact ⟨o, e, ex⟩
        · obtain ⟨_, _, _, _, o, _, _, e, ex, _⟩ := I.hok p _ hk
          exact ⟨o, e, ex⟩
      obtain ⟨o, e, ex⟩ := z
      refine ⟨⟨o, e, ex.1⟩, fun a e2 => ?_⟩
      cases e2
      exact ⟨o, e, ex.2.1⟩
    · obtain ⟨o, _, _, _, e, ex, _⟩ := I.hok p _ hk
      refine ⟨⟨o, e, ex.1⟩, fun a e2 => ?_⟩
      cases e2
      exact ⟨o, e, ex.2.1⟩
  | _ => exact False.elim ty
def tBM0 (K : PySem.W.Frag) (T : String) (r : V → List V → Hp → VK → Prop) (to : TE) : TE := fun σ H Q => to σ H fun x H1 => tyV K T x H1 ∧ r x [] H1 Q
def tBM (K : PySem.W.Frag) (T : String) (r : V → List V → Hp → VK → Prop) (to : TE) (t : TA) : TE := fun σ H Q => to σ H fun x H1 => tyV K T x H1 ∧ t σ H1 fun xs H2 => r x xs H2 Q
variable {o e : Expr} {es : List Expr} {to : TE} {t : TA} {name : Str} {apos cpos : Pos} {T id : String} {r : V → List V → Hp → VK → Prop}
theorem pe_bm0 (pa : PlainAttrs T) (slot : Slot T name id) (hty : typeOf (.builtin id) = pure (.type "method_descriptor")) (hm : MtR X id r) (ho : PE X o to)
    (hbase : attributeBase o name X.env (eval o X.env) = eval o X.env := by rfl) (hline : (apos.endLine == cpos.line) = true := by rfl) : PE X (.Call (.Attribute o name apos) [] [] cpos) (tBM0 X.K T r to) := by
  intro pins s σ H Q I h
  refine wpAny_Call_method0_late hbase hline (thn (ho pins s σ H _ I h) fun v s1 ⟨x, H1, I1, r1, ty, q1⟩ => ?_)
  obtain ⟨h1, h2⟩ := tyV_is I1 r1 ty
  exact ⟨T, id, pa, slot, hty, h1, h2, Calls.callWith_builtin rfl (PySem.evalArgs_none (hm pins s1 σ H1 x [] v [] Q I1 r1 .nil q1))⟩
theorem pe_bm (pa : PlainAttrs T) (slot : Slot T name id) (hty : typeOf (.builtin id) = pure (.type "method_descriptor")) (hm : MtR X id r) (ho : PE X o to) (ha : PA X (e :: es) t)
    (hbase : attributeBase o name X.env (eval o X.env) = eval o X.env := by rfl)
    (hfew : ((backTo cpos (starEach (e :: es) X.env)).all (fun x => !x.1) && (backToKw cpos (keywordEach [] X.env)).all (fun x => x.1.isSome)
      && decide ((e :: es).length + ([] : List Keyword).length + (if ([] : List Keyword).isEmpty then 0 else 1) < 30)) = true := by rfl)
    (hline : (apos.endLine == cpos.line) = true := by rfl) (hs : starEach (e :: es) X.env = (false, eval e X.env) :: starEach es X.env := by rfl) (hplain : (backTo cpos (starEach es X.env)).any (·.1) = false := by rfl) :
    PE X (.Call (.Attribute o name apos) (e :: es) [] cpos) (tBM X.K T r to t) := by
  intro pins s σ H Q I h
  refine wpAny_Call_method_late hbase hfew hline rfl (thn (ho pins s σ H _ I h) fun v s1 ⟨x, H1, I1, r1, ty, q1⟩ => ?_)
  obtain ⟨h1, h2⟩ := tyV_is I1 r1 ty
  refine ⟨T, id, pa, slot, hty, h1, h2, ?_⟩
  have hA := ha cpos pins s1 σ H1 _ I1 q1
  rw [hs] at hA ⊢
  refine Calls.callWith_builtin (by show (false || (backTo cpos (starEach es X.env)).any (·.1)) = false; rw [hplain] <;> rfl) (Calls.evalArgs_plain ?_)
  exact thn hA fun us s2 ⟨vs, H2, I2, r2, q2⟩ => hm pins s2 σ H2 x vs v us Q I2 r1 r2 q2
/- xs.append(e), list.index on a module's tuple .. are MtR facts of 06m -/
end
end L2

namespace L2
open PySem PySem.Spec PyProof.Rows

def MtM (X : Cx) (id : String) (r : V → List V → Hp → VK → Prop) : Prop :=
  ∀ (pins : List (Addr × Obj)) (s : Shared) (σ : St) (H : Hp) (x : V) (xs : List V) (v : Value) (us : List Value) (Q : VK), Inv X pins σ H s → RelV x v → Vals xs us → r x xs H Q →
    wpAny (model X.prog X.w) X.A (call (.builtin id) (v :: us)) (EP X pins σ Q) X.xe s

/-! ### lists of values -/
theorem Vals.one : ∀ {x : V} {us : List Value}, Vals [x] us → ∃ u, us = [u] ∧ RelV x u
  | _, _, .cons r .nil => ⟨_, rfl, r⟩
theorem Vals.two : ∀ {x y : V} {us : List Value}, Vals [x, y] us → ∃ u v, us = [u, v] ∧ RelV x u ∧ RelV y v
  | _, _, _, .cons r (.cons q .nil) => ⟨_, _, rfl, r, q⟩
theorem Vals.zero : ∀ {us : List Value}, Vals [] us → us = []
  | _, .nil => rfl
theorem Vals.dropLast {xs : List V} {us : List Value} (h : Vals xs us) : Vals xs.dropLast us.dropLast := by
  induction h with
  | nil => exact .nil
  | cons r t ih =>
    cases t with
    | nil => exact .nil
    | cons q t' => exact .cons r ih
theorem Vals.eraseIdx : ∀ {xs : List V} {us : List Value} (i : Nat), Vals xs us → Vals (xs.eraseIdx i) (us.eraseIdx i)
  | _, _, _, .nil => .nil
  | _, _, 0, .cons _ t => t
  | _, _, i + 1, .cons r t => .cons r (Vals.eraseIdx i t)
theorem Vals.reverse {xs : List V} {us : List Value} (h : Vals xs us) : Vals xs.reverse us.reverse := by
  induction h with
  | nil => exact .nil
  | cons r t ih => rw [List.reverse_cons, List.reverse_cons]; exact Vals.append ih (.cons r .nil)
theorem Vals.rep {xs : List V} {us : List Value} (h : Vals xs us) : ∀ k : Nat, Vals (List.replicate k xs).flatten (List.replicate k us).flatten
  | 0 => .nil
  | k + 1 => by
    rw [List.replicate_succ, List.replicate_succ, List.flatten_cons, List.flatten_cons]
    exact Vals.append h (Vals.rep h k)
theorem erase_last {α : Type} (l : List α) : l.eraseIdx (l.length - 1) = l.dropLast := by
  induction l with
  | nil => rfl
  | cons a r ih =>
    cases r with
    | nil => rfl
    | cons b r =>
      have e : (a :: b :: r).length - 1 = ((b :: r).length - 1) + 1 := by
        have h1 : (a :: b :: r).length = r.length + 2 := rfl
        have h2 : (b :: r).length = r.length + 1 := rfl
        omega
      rw [e, List.eraseIdx_cons_succ, ih]
      all_goals rfl
theorem len_erase {α : Type} : ∀ (l : List α) (i : Nat), (l.eraseIdx i).length ≤ l.length
  | [], _ => Nat.le_refl _
  | _ :: _, 0 => Nat.le_succ _
  | _ :: r, i + 1 => Nat.succ_le_succ (len_erase r i)
theorem foldl_rep (its : List Value) : ∀ (k : Nat) (acc : List Value),
    List.foldl (fun x1 x2 => x1 ++ x2) acc.toArray (List.replicate k its.toArray) = (acc ++ (List.replicate k its).flatten).toArray
  | 0, acc => by simp
  | k + 1, acc => by
    have e : acc.toArray ++ its.toArray = (acc ++ its).toArray := by simp
    have e2 : (acc ++ its) ++ (List.replicate k its).flatten = acc ++ (List.replicate (k + 1) its).flatten := by
      rw [List.replicate_succ, List.flatten_cons, List.append_assoc]
    rw [← e2, ← foldl_rep its k (acc ++ its), ← e, List.replicate_succ, List.foldl_cons]

section
variable {X : Cx} {pins : List (Addr × Obj)} {σ : St} {H : Hp} {s : Shared} {l b : Addr} {xs ys zs : List V}

/-! ### the two steps: a tracked list is rewritten, a new list is laid -/
theorem Inv.lset {its its' : List Value} {n : Nat} {f : Array Value → Array Value} {t' : Nat} (I : Inv X pins σ H s) (hH : H l = some (.lst xs))
    (e : s.heap.get? l = some { cls := .type "list", data := .seq its.toArray n }) (hf : f its.toArray = its'.toArray) (hv : Vals ys its') (hz : ys.length ≤ sizeLine) :
    Inv X pins σ (upd H l (.lst ys)) { s with heap := s.heap.update l (Obj.mapSeq f), toks := t' } := by
  have q := PySem.IsL.update e f
  rw [hf] at q
  refine I.write (x := l) (e := l) (by rw [hH]; exact trivial) (.inl rfl) (fun b' u hb hu => (Heap.get?_update_other s.heap (Obj.mapSeq f) (Ne.symm hb)).trans hu) ⟨_, q⟩ ?_
  exact ⟨hz, its', _, hv, q⟩
theorem Inv.lnew {its : List Value} {t' : Nat} (I : Inv X pins σ H s) (hv : Vals ys its) (hz : ys.length ≤ sizeLine) :
    Inv X pins σ (upd H s.heap.objs.size (.lst ys)) { s with heap := s.heap.push { cls := .type "list", data := .seq its.toArray }, toks := t' } :=
  I.laid (fun _ _ q => Heap.get?_push_of_some _ q) (Nat.le_refl _) ⟨hz, its, 0, hv, Heap.get?_push_size _ rfl⟩
theorem Inv.fresh (I : Inv X pins σ H s) : H s.heap.objs.size = none := I.hok.fresh (Nat.le_refl _)
theorem Inv.lstM (I : Inv X pins σ H s) (hH : H l = some (.lst xs)) : xs.length ≤ sizeLine ∧ ∃ (its : List Value) (n : Nat), Vals xs its ∧ xs.length = its.length ∧ s.heap.get? l = some { cls := .type "list", data := .seq its.toArray n } := by
  obtain ⟨z, its, n, r, e⟩ := I.hok l _ hH
  exact ⟨z, its, n, r, r.length, e⟩

theorem notLongL {n : Nat} (h : n ≤ sizeLine) : Builtin.List.listTooLong n = false := by
  unfold Builtin.List.listTooLong
  exact decide_eq_false (by omega)
end

section
variable {X : Cx}

/-! ### methods -/
def rAppend : V → List V → Hp → VK → Prop := fun x vs H Q => ∃ l xs y, x = .ref l ∧ vs = [y] ∧ H l = some (.lst xs) ∧ xs.length < sizeLine ∧ Q .non (upd H l (.lst (xs ++ [y])))
theorem mt_append : MtM X "list.append" rAppend := by
  intro pins s σ H x vs v us Q I rx rv h
  obtain ⟨l, xs, y, rfl, rfl, hH, hz, q⟩ := h
  cases rx
  obtain ⟨u, rfl, ru⟩ := rv.one
  obtain ⟨z, its, n, r, hl, e⟩ := I.lstM hH
  refine call_meets F.slot_list_append ⟨_, e, rfl⟩ F.entry_list_append (F.args_list_append_2 _ _) (PySem.list_append l its.toArray n u (by rw [List.size_toArray]; omega)) ⟨e, ?_⟩
  refine ⟨.non, _, I.lset (its' := its ++ [u]) hH e (by simp) (r.append (.cons ru .nil)) ?_, rfl, q⟩
  rw [List.length_append, List.length_singleton]
  omega

def rExtend : V → List V → Hp → VK → Prop := fun x vs H Q => ∃ l b xs zs, x = .ref l ∧ vs = [.ref b] ∧ H l = some (.lst xs) ∧ H b = some (.lst zs) ∧ xs.length + zs.length ≤ sizeLine ∧ Q .non (upd H l (.lst (xs ++ zs)))
theorem mt_extend : MtM X "list.extend" rExtend := by
  intro pins s σ H x vs v us Q I rx rv h
  obtain ⟨l, b, xs, zs, rfl, rfl, hH, hB, hz, q⟩ := h
  cases rx
  obtain ⟨u, rfl, ru⟩ := rv.one
  cases ru
  obtain ⟨z, its, n, r, hl, e⟩ := I.lstM hH
  obtain ⟨z2, its2, n2, r2, hl2, e2⟩ := I.lstM hB
  have hsz : its.toArray.size + its2.toArray.size ≤ sizeLine := by rw [List.size_toArray, List.size_toArray]; omega
  have hlong : ¬ (!its.toArray.isEmpty && Builtin.List.listTooLong (its.toArray.size + its2.toArray.size)) = true := by
    rw [notLongL hsz, Bool.and_false]
    exact Bool.false_ne_true
  refine call_meets F.slot_list_extend ⟨_, e, rfl⟩ F.entry_list_extend (F.args_list_extend_2 _ _)
    (AutoSeq1.list_extend_list_list_0 l its.toArray n b its2.toArray n2 hlong (by rw [List.size_toArray]; omega) (by omega)) ⟨e, e2, ?_⟩
  refine ⟨.non, _, I.lset (its' := its ++ its2) hH e (by simp) (r.append r2) ?_, rfl, q⟩
  rw [List.length_append]
  omega

def rPop : V → List V → Hp → VK → Prop := fun x vs H Q => ∃ l xs y, x = .ref l ∧ vs = [] ∧ H l = some (.lst xs) ∧ xs[xs.length - 1]? = some y ∧ Q y (upd H l (.lst xs.dropLast))
theorem mt_pop : MtM X "list.pop" rPop := by
  intro pins s σ H x vs v us Q I rx rv h
  obtain ⟨l, xs, y, rfl, rfl, hH, hy, q⟩ := h
  cases rx
  have hus := rv.zero
  subst hus
  obtain ⟨z, its, n, r, hl, e⟩ := I.lstM hH
  obtain ⟨u, hu, ru⟩ := r.get hy
  have hy' : its.toArray[its.toArray.size - 1]? = some u := by
    show its.toArray[its.length - 1]? = some u
    rw [← Array.getElem?_toList, ← hl]
    exact hu
  refine call_meets F.slot_list_pop ⟨_, e, rfl⟩ F.entry_list_pop (F.args_list_pop_1 _) (MeetsSeq.list_pop_last l its.toArray n u hy' (by rw [List.size_toArray]; omega)) ⟨e, ?_⟩
  refine ⟨y, _, I.lset (its' := its.dropLast) hH e ?_ r.dropLast ?_, ru, q⟩
  · show its.toArray.eraseIdxIfInBounds (its.toArray.size - 1) = its.dropLast.toArray
    rw [List.size_toArray, List.eraseIdxIfInBounds_toArray, erase_last]
  · rw [List.length_dropLast]
    omega

def rPopAt : V → List V → Hp → VK → Prop := fun x vs H Q => ∃ l xs i k y, x = .ref l ∧ vs = [.int i] ∧ H l = some (.lst xs) ∧ -(2 ^ 63) ≤ i ∧ i < 2 ^ 63 ∧ seqIndex? i xs.length = some k ∧ xs[k]? = some y ∧ Q y (upd H l (.lst (xs.eraseIdx k)))
theorem mt_popAt : MtM X "list.pop" rPopAt := by
  intro pins s σ H x vs v us Q I rx rv h
  obtain ⟨l, xs, i, k, y, rfl, rfl, hH, h1, h2, hk, hy, q⟩ := h
  cases rx
  obtain ⟨u, rfl, ru⟩ := rv.one
  obtain ⟨t, rfl⟩ := ru
  obtain ⟨z, its, n, r, hl, e⟩ := I.lstM hH
  obtain ⟨w, hw, rw'⟩ := r.get hy
  refine call_meets F.slot_list_pop ⟨_, e, rfl⟩ F.entry_list_pop (F.args_list_pop_2 _ _)
    (MeetsSeq.list_pop_at l its.toArray n i t k w (fitsIndex_both h1 h2) (by rw [List.size_toArray, ← hl]; exact hk) (by rw [← Array.getElem?_toList]; exact hw) (by rw [List.size_toArray]; omega)) ⟨e, ?_⟩
  refine ⟨y, _, I.lset (its' := its.eraseIdx k) hH e ?_ (r.eraseIdx k) ?_, rw', q⟩
  · show its.toArray.eraseIdxIfInBounds k = (its.eraseIdx k).toArray
    rw [List.eraseIdxIfInBounds_toArray]
  · have := len_erase xs k
    omega

def rReverse : V → List V → Hp → VK → Prop := fun x vs H Q => ∃ l xs, x = .ref l ∧ vs = [] ∧ H l = some (.lst xs) ∧ Q .non (upd H l (.lst xs.reverse))
theorem mt_reverse : MtM X "list.reverse" rReverse := by
  intro pins s σ H x vs v us Q I rx rv h
  obtain ⟨l, xs, rfl, rfl, hH, q⟩ := h
  cases rx
  have hus := rv.zero
  subst hus
  obtain ⟨z, its, n, r, hl, e⟩ := I.lstM hH
  refine call_meets F.slot_list_reverse ⟨_, e, rfl⟩ F.entry_list_reverse (F.args_list_reverse_1 _) (AutoSeq1.list_reverse_list_0 l its.toArray n (by rw [List.size_toArray]; omega)) ⟨e, ?_⟩
  refine ⟨.non, _, I.lset (its' := its.reverse) hH e (by simp) r.reverse ?_, rfl, q⟩
  rw [List.length_reverse]
  omega

def rClear : V → List V → Hp → VK → Prop := fun x vs H Q => ∃ l xs, x = .ref l ∧ vs = [] ∧ H l = some (.lst xs) ∧ Q .non (upd H l (.lst []))
theorem mt_clear : MtM X "list.clear" rClear := by
  intro pins s σ H x vs v us Q I rx rv h
  obtain ⟨l, xs, rfl, rfl, hH, q⟩ := h
  cases rx
  have hus := rv.zero
  subst hus
  obtain ⟨z, its, n, r, hl, e⟩ := I.lstM hH
  refine call_meets F.slot_list_clear ⟨_, e, rfl⟩ F.entry_list_clear (F.args_list_clear_1 _) (AutoSeq1.list_clear_list_0 l its.toArray n (by rw [List.size_toArray]; omega)) ⟨e, ?_⟩
  exact ⟨.non, _, I.lset (its' := []) (ys := []) hH e rfl .nil (Nat.zero_le _), rfl, q⟩

/-! ### list + list, list += list, list * int -/
def rCat : R2 := fun x y H Q => ∃ l b xs zs, x = .ref l ∧ y = .ref b ∧ H l = some (.lst xs) ∧ H b = some (.lst zs) ∧ xs.length + zs.length ≤ sizeLine ∧ ∀ p, H p = none → Q (.ref p) (upd H p (.lst (xs ++ zs)))
theorem op_cat : OpR X (binaryOp .Add) rCat := by
  intro pins s σ H x y v u Q I rx ry h
  obtain ⟨l, b, xs, zs, rfl, rfl, hH, hB, hz, q⟩ := h
  cases rx
  cases ry
  obtain ⟨z, its, n, r, hl, e⟩ := I.lstM hH
  obtain ⟨z2, its2, n2, r2, hl2, e2⟩ := I.lstM hB
  refine PySem.P.add_list e e2 ?_ (by rw [List.size_toArray, List.size_toArray]; omega)
  have ea : its.toArray ++ its2.toArray = (its ++ its2).toArray := by simp
  rw [ea]
  exact ⟨.ref _, _, I.lnew (t' := s.toks) (r.append r2) (by rw [List.length_append]; omega), rfl, q _ I.fresh⟩
/-- a list times an int (a negative one is nothing) -/
def rRep : R2 := fun x y H Q => ∃ l k xs, x = .ref l ∧ y = .int k ∧ H l = some (.lst xs) ∧ -(2 ^ 63) ≤ k ∧ k < 2 ^ 63 ∧ xs.length * k.toNat ≤ sizeLine ∧
  ∀ p, H p = none → Q (.ref p) (upd H p (.lst (List.replicate k.toNat xs).flatten))
theorem len_rep {α : Type} (xs : List α) (k : Nat) : (List.replicate k xs).flatten.length = k * xs.length := by
  induction k with
  | zero => simp
  | succ k ih => rw [List.replicate_succ, List.flatten_cons, List.length_append, ih, Nat.succ_mul, Nat.add_comm]
theorem op_rep : OpR X (binaryOp .Mult) rRep := by
  intro pins s σ H x y v u Q I rx ry h
  obtain ⟨l, k, xs, rfl, rfl, hH, h1, h2, hz, q⟩ := h
  cases rx
  obtain ⟨t, rfl⟩ := ry
  obtain ⟨z, its, n, r, hl, e⟩ := I.lstM hH
  have hlen : its.toArray.size * k.toNat ≤ sizeLine := by rw [List.size_toArray, ← hl]; exact hz
  have hcap : ¬ its.toArray.size * k.toNat > (2 ^ 63 - 1) / 8 := by
    have : (sizeLine : Nat) ≤ (2 ^ 63 - 1) / 8 := by decide
    omega
  have hfit : ¬ (!Builtin.List.listFitsIndex k) = true := by
    rw [fitsIndex_both h1 h2]
    exact Bool.false_ne_true
  have hlong : ¬ Builtin.List.listTooLong (its.toArray.size * k.toNat) = true := by
    rw [notLongL hlen]
    exact Bool.false_ne_true
  have hnew : List.foldl (fun x1 x2 => x1 ++ x2) #[] (List.replicate (if its.toArray.isEmpty = true then 0 else k.toNat) its.toArray) = (List.replicate k.toNat its).flatten.toArray := by
    have f0 : ∀ m : Nat, List.foldl (fun x1 x2 => x1 ++ x2) #[] (List.replicate m its.toArray) = (List.replicate m its).flatten.toArray := fun m => by
      have := foldl_rep its m []
      rw [List.nil_append] at this
      exact this
    rw [f0]
    cases its with
    | nil => simp
    | cons a r' => rw [if_neg (by simp)]
  refine wpAny_binaryOp_repeat_ref (T := "list") (U := "int") (by decide) ⟨_, e, rfl⟩ (fun s' => typeIs_int s' k t) noFill_list_mul F.fills_int_mul F.slot_int_rmul repeat_list F.slot_int_index.lookup
    (call_meets F.slot_int_rmul (typeIs_int s k t) F.entry_int_rmul (F.args_int_rmul_2 _ _) (int___rmul___int_list k t l its.toArray n)
      ⟨e, rfl, ⟨_, e, rfl⟩, call_meets F.slot_list_mul ⟨_, e, rfl⟩ F.entry_list_mul (F.args_list_mul_2 _ _) (AutoListH.list___mul___list_int_3 l its.toArray n k t hfit hcap hlong) ⟨e, ?_⟩⟩)
  rw [hnew]
  exact ⟨.ref _, _, I.lnew (t' := s.toks) (r.rep k.toNat) (by rw [len_rep, Nat.mul_comm]; exact hz), rfl, q _ I.fresh⟩

/-! ### del xs[i] -/
theorem del_list {pins : List (Addr × Obj)} {s : Shared} {σ : St} {H : Hp} {l : Addr} {xs : List V} {i : Int} {t : Tok} {k : Nat} {Q : Unit → Shared → Prop} (I : Inv X pins σ H s) (hH : H l = some (.lst xs))
    (h1 : -(2 ^ 63) ≤ i) (h2 : i < 2 ^ 63) (hk : seqIndex? i xs.length = some k) (h : ∀ s', Inv X pins σ (upd H l (.lst (xs.eraseIdx k))) s' → Q () s') :
    wpAny (model X.prog X.w) X.A (delItem (.ref l) (.int i t)) Q X.xe s := by
  obtain ⟨z, its, n, r, hl, e⟩ := I.lstM hH
  refine PySem.P.delItem_list (k := k) e (fitsIndex_both h1 h2) (by rw [List.size_toArray, ← hl]; exact hk) (h _ ?_) (by rw [List.size_toArray]; omega)
  refine I.lset (its' := its.eraseIdx k) (t' := s.toks) hH e ?_ (r.eraseIdx k) ?_
  · show its.toArray.eraseIdxIfInBounds k = (its.eraseIdx k).toArray
    rw [List.eraseIdxIfInBounds_toArray]
  · have := len_erase xs k
    omega
end

/-! ### xs[a:b] = ys -/
section
variable {prog : Program} {w : World} {A : Around} {E : Value → Shared → Prop} {s : Shared}
theorem splice_eq (its its2 : List Value) (a c : Nat) : its.toArray.extract 0 a ++ its2.toArray ++ its.toArray.extract c its.toArray.size = (its.take a ++ its2 ++ its.drop c).toArray := by
  apply Array.toList_inj.mp
  first
    | (simp
       exact List.take_of_length_le (by simp))
    | simp [List.take_of_length_le]
    | simp
theorem bounds_run {a c n : Nat} (hac : a ≤ c) (hc : c ≤ n) : sliceBounds (some (a : Int)) (some (c : Int)) none n = ((a : Int), (c : Int), 1) := by
  simp only [sliceBounds, Option.getD_none]
  have h1 : ¬ ((a : Int) < 0) := by omega
  have h2 : ¬ ((c : Int) < 0) := by omega
  simp only [h1, h2, if_false, show (1 : Int) > 0 by decide, if_true]
  congr 1
  · omega
  · congr 1; omega
set_option maxRecDepth 100000 in
/-- list.__setitem__ with a slice of step one and another list -/
theorem setItem_slice {l b sl : Addr} {items new : Array Value} {n n2 : Nat} {vl vu : Value} {a c : Nat} {Q : Unit → Shared → Prop}
    (e : s.heap.get? l = some { cls := .type "list", data := .seq items n }) (e2 : s.heap.get? b = some { cls := .type "list", data := .seq new n2 }) (hne : l ≠ b)
    (hs : s.heap.IsSliceOf sl vl vu .none) (pl : IsPart vl (some (a : Int))) (pu : IsPart vu (some (c : Int))) (hac : a ≤ c) (hc : c ≤ items.size)
    (hsz : items.size + new.size ≤ sizeLine) (h : Q () { s with heap := s.heap.update l (Obj.mapSeq fun xs => xs.extract 0 a ++ new ++ xs.extract c xs.size) }) :
    wpAny (model prog w) A (setItem (.ref l) (.ref sl) (.ref b)) Q E s := by
  have hl : s.heap.IsList l items := PySem.IsL.isList e
  have hb : s.heap.IsList b new := PySem.IsL.isList e2
  obtain ⟨os, hos, hcs, hds⟩ := id hs
  have hTs : s.TypeIs (.ref sl) "slice" := ⟨os, hos, hcs⟩
  have hstep : ¬ ((rawPart none == rawInt 0) = true) := Bool.false_ne_true
  have hsame : Builtin.List.listSameRef (.ref l) (.ref b) = false := by
    unfold Builtin.List.listSameRef
    exact beq_eq_false_iff_ne.mpr hne
  have hmax : (max (a : Int) (c : Int)).toNat = c := by omega
  have hz' : ((fun xs : Array Value => xs.extract 0 a ++ new ++ xs.extract c xs.size) items).size ≤ sizeLine + 1 := by
    simp only [Array.size_append, Array.size_extract]
    omega
  unfold setItem
  try with_reducible refine wpAny_holding ?_
  first | refine wpAny_bind (wpAny_pure ?_) | skip
  refine wpAny_bind (wpAny_sequenceKey hl.typeIs (by decide) ?_)
  refine wpAny_bind (wpAny_callSpecial?_slot (name := Str.ofString "__setitem__") hl.typeIs slot_list_setitem
    (wpAny_call_entry slot_list_setitem hl.typeIs entry_list_setitem ?_ (args_list_setitem _ _ _)))
  show wpAny _ _ (Builtin.List.listSubscript? (.ref sl) >>= _) _ _ s
  refine wpAny_bind ?_
  unfold Builtin.List.listSubscript?
  refine wpAny_bind (wpAny_specialOf hTs slice_no_index ?_)
  simp only [Option.isNone_none, if_true]
  refine wpAny_pure ?_
  show wpAny _ _ (typeOf (.ref sl) >>= _) _ _ s
  refine wpAny_bind (wpAny_typeOf hTs ?_)
  first
    | rw [if_neg (by decide)]
    | refine PySem.W.KFB.if_not (by decide) ?_
  rw [listSliceParts_eq]
  refine wpAny_bind (wpAny_bind (wpAny_field hos hds (x := .none) rfl (wpAny_bind (wpAny_listPart .none ?_))))
  rw [if_neg hstep]
  refine wpAny_bind (wpAny_field hos hds (x := vl) rfl (wpAny_bind (wpAny_listPart pl ?_)))
  refine wpAny_bind (wpAny_field hos hds (x := vu) rfl (wpAny_bind (wpAny_listPart pu (wpAny_pure ?_))))
  first
    | simp only [hsame, Bool.false_eq_true, if_false]
    | refine PySem.W.KFB.if_not hsame ?_
    | (dsimp only
       rw [if_neg (by rw [hsame]; exact Bool.false_ne_true)])
  refine wpAny_bind (m := Builtin.List.listAllItems (.ref b) "must assign iterable to extended slice") ?_
  unfold Builtin.List.listAllItems
  refine wpAny_bind (wpAny_typeOf hb.typeIs ?_)
  first
    | refine PySem.W.KFB.if_so (by decide) ?_
    | rw [if_pos (by decide)]
    | simp only [beq_self_eq_true, Bool.true_or, if_true]
  unfold Builtin.List.listItems
  refine wpAny_bind (wpAny_seqItems e2 rfl (wpAny_pure ?_))
  refine wpAny_bind (wpAny_bind (wpAny_seqItems e rfl (wpAny_pure ?_)))
  refine wpAny_bind (wpAny_of_eq ((sliceIndices_raw (some (a : Int)) (some (c : Int)) none items.size (by simp)).trans (congrArg (pure : Int × Int × Int → Sem (Int × Int × Int)) (bounds_run hac hc))) ?_)
  show wpAny _ _ (if ((1 : Int) == 1) = true then _ else _) _ _ s
  rw [if_pos (by decide)]
  refine wpAny_bind (wpAny_rule ?_)
  first
    | simp only [notLongL hsz, Bool.false_eq_true, if_false]
    | refine PySem.W.KFB.if_not (notLongL hsz) ?_
  first | refine wpAny_bind (wpAny_pure ?_) | skip
  show wpAny _ _ (updateSeq l (fun xs => xs.extract 0 ((a : Int)).toNat ++ new ++ xs.extract (max (a : Int) (c : Int)).toNat xs.size) >>= _) _ _ s
  rw [hmax, Int.toNat_natCast]
  refine wpAny_bind (wpAny_updateSeq (hz := Nat.le_trans (Nat.le_add_right _ _) hsz) (_hz' := hz') e rfl ?_)
  refine wpAny_bind (wpAny_letGo ?_)
  first
    | exact wpAny_bind (wpAny_pure (wpAny_pure ⟨.none, rfl, wpAny_pure h⟩))
    | exact wpAny_pure ⟨.none, rfl, wpAny_pure h⟩
end

section
variable {X : Cx}
/-- xs[a:c] = ys of another list, at the value level: sl is the slice object that was just made -/
theorem set_slice {pins : List (Addr × Obj)} {s : Shared} {σ : St} {H : Hp} {l b sl : Addr} {xs ys : List V} {a c : Int} {vl vu : Value} {Q : Unit → Shared → Prop} (I : Inv X pins σ H s)
    (hH : H l = some (.lst xs)) (hB : H b = some (.lst ys)) (hne : l ≠ b) (hs : s.heap.IsSliceOf sl vl vu .none) (ra : RelV (.int a) vl) (rc : RelV (.int c) vu) (h0 : 0 ≤ a) (hac : a ≤ c) (hc : c ≤ xs.length)
    (hz : xs.length + ys.length ≤ sizeLine) (h : ∀ s', Inv X pins σ (upd H l (.lst (xs.take a.toNat ++ ys ++ xs.drop c.toNat))) s' → Q () s') :
    wpAny (model X.prog X.w) X.A (setItem (.ref l) (.ref sl) (.ref b)) Q X.xe s := by
  obtain ⟨ta, rfl⟩ := ra
  obtain ⟨tc, rfl⟩ := rc
  obtain ⟨z, its, n, r, hl, e⟩ := I.lstM hH
  obtain ⟨z2, its2, n2, r2, hl2, e2⟩ := I.lstM hB
  obtain ⟨a', rfl⟩ := Int.eq_ofNat_of_zero_le h0
  obtain ⟨c', rfl⟩ := Int.eq_ofNat_of_zero_le (Int.le_trans h0 hac)
  simp only [Int.toNat_natCast] at h
  refine setItem_slice (a := a') (c := c') e e2 hne hs (.int _ _) (.int _ _) (by omega) (by rw [List.size_toArray]; omega) (by rw [List.size_toArray, List.size_toArray]; omega) (h _ ?_)
  refine I.lset (its' := its.take a' ++ its2 ++ its.drop c') (t' := s.toks) hH e ?_ (Vals.append (Vals.append (r.take _) r2) (r.drop _)) ?_
  · exact splice_eq its its2 a' c'
  · rw [List.length_append, List.length_append, List.length_take, List.length_drop]
    omega
end
end L2

namespace Att
open PySem PySem.W PySem.Calls PyProof.Rows

/-! ### the script -/
theorem ints_of_wellAll {P : Params} {h : Heap} : ∀ (ns : List Int) (vs : List Value), WellAll P h vs (ns.map WData.int) → IntsAre vs ns := by
  intro ns
  induction ns with
  | nil =>
    intro vs w
    rw [List.map_nil] at w
    cases w
    exact .nil
  | cons n ns ih =>
    intro vs w
    rw [List.map_cons] at w
    cases w with
    | cons a b =>
      cases a
      exact .cons _ _ (ih _ b)

theorem script_of {l : OpenLaw} {n : Nat} (hn : l.most = some n) {P : Params} {h : Heap} {args : List WData} {vals : List Value}
    (hpre : l.row.toRowW.claim.pre args = true) (hwl : WellAll P h vals args) :
    ∃ a vs ns, vals = [Value.ref a] ∧ args = [WData.list (ns.map WData.int)] ∧ h.get? a = some { cls := .type "list", data := .seq vs.toArray } ∧ IntsAre vs ns ∧ ns.length ≤ n := by
  have hsh : WShape.hasAll [] args [.list .int] = true := (pre_splitW hpre).1
  have hc : l.pre.holds [] { args := args } = true := (pre_splitW hpre).2
  obtain ⟨d, r, rfl, h1, h2⟩ := hasAllW_cons hsh
  obtain rfl := hasAllW_nil h2
  obtain ⟨xs, rfl, h3⟩ := hasW_list h1
  obtain ⟨ns, rfl⟩ := items_int h3
  have hlen : ns.length ≤ n := by
    unfold OpenLaw.pre at hc
    have h4 : (WTm.not (.lt (.lit (.int (n : Int))) (.len (.arg 0)))).holds [] { args := [.list (ns.map .int)] } = true := by
      have h4 := (holds_andW hc).1
      rw [hn] at h4
      exact h4
    have h5 := condW_of h4 (w_not (w_lt w_lit (w_len_list (w_arg rfl))))
    rw [List.length_map] at h5
    refine Nat.le_of_not_lt fun q => ?_
    have q' : (n : Int) < ((ns.length : Nat) : Int) := by omega
    first
      | (rw [decide_eq_true q'] at h5; exact absurd h5 (by decide))
      | (simp at h5; omega)
  cases hwl with
  | cons w1 w2 =>
    cases w2
    cases w1 with
    | list ho hall => exact ⟨_, _, ns, rfl, rfl, ho, ints_of_wellAll ns _ hall, hlen⟩

theorem post_true (l : OpenLaw) (args : List WData) : l.row.toRowW.claim.post args (.bool true) args = true :=
  postW_of (r := l.row.toRowW) (X := (true == true))
    (show WShape.has [] (.bool true) .bool = true by first | rfl | decide | simp [WShape.has, WShape.arms, WShape.armsAll])
    (show (WTm.eq .res (.lit (.bool true))).value [] { args := args, res := some (.bool true), after := args } = some (.bool (true == true)) from w_eq_bool (w_res rfl) w_lit) rfl

/-! ### the attachment: holds_open's last premise (the goal 'hc' behind k_head) from a wpAny of the law's body -/
theorem attach {l : OpenLaw} {n : Nat} {q : Program} {loose : List Str} {XP : (Str → Option Value) → Heap → Prop} {YP : World → Heap → Prop} {d : DefRec} {x : Str}
    (hn : l.most = some n) (hdf : d.params.defaults = [])
    (hbind : ∀ pm cd doc v : Value, bindArgs (docDef d.name d.params d.body d.scope pm cd doc) ⟨[v], []⟩ = pure [(x, v)])
    (hx : d.scope.names.lookup x = some .local ∨ d.scope.names.lookup x = some .cell)
    (hk : d.scope.kind = .function) (hco : d.scope.isCoroutine = false) (hgen : d.scope.isGenerator = false)
    (body : ∀ (w : World) (s₀ s₁ s : Shared) (mg mb : Str → Option Value) (fa : Addr) (o : Obj) (pm cd doc : Value) (a : Addr) (vs : List Value) (ns : List Int),
      Ground q loose [] XP w s₀ mg mb s₁.heap → YP w s₁.heap →
      s₁.heap.get? fa = some o → o.data = .func (docDef d.name d.params d.body d.scope pm cd doc) → s₁.heap.CodeRec cd d.name → mg d.name = some (.ref fa) →
      s₁.heap.get? a = some { cls := .type "list", data := .seq vs.toArray } → IntsAre vs ns → ns.length ≤ n →
      s.gens = #[] → s.os = s₁.os →
      Fr s₁.heap s₁.heap.objs.size s.heap (bindL (envOfC d.name d.scope s₁.heap.objs.size fa cd).kindOf [(x, .ref a)] fun _ => none) →
      Cl s₁.heap.objs.size (cellsFrom (s₁.heap.objs.size + 1) d.scope.names []) s.heap (bindC (envOfC d.name d.scope s₁.heap.objs.size fa cd).kindOf [(x, .ref a)] fun _ => none) →
      wpAny (model l.prog w) (callerA.deeper (envOfC d.name d.scope s₁.heap.objs.size fa cd)) (execs d.body (envOfC d.name d.scope s₁.heap.objs.size fa cd))
        (fun f s' => f = .ret (.bool true) ∧ OldK s₁.heap s'.heap ∧ s'.os = s₁.os ∧ AllBare s'.gens) (fun _ _ => False) s) :
    WalkO q loose XP YP l.row.toRowW d [] (fun f vs => PySem.call f vs) := by
  intro w s₀ s₁ mg mb G Y fa o pm cd doc dV kV ho hd hcd hD hmg hg args vals as hpre hlay hrd hwl hlo
  obtain rfl : dV = .none := Dflts.none hD hdf
  obtain rfl : kV = .none := Dflts.noKw hD
  obtain ⟨a, vs, ns, rfl, rfl, hobj, hints, hlen⟩ := script_of hn hpre hwl
  refine enter_call ?_
  refine call_cells_ret (o := o) (by rw [depth_caller]; decide) ho (fd_plain hd) G.T.nolimit hcd (hbind pm cd doc (.ref a)) (fun y hy => ?_) (fun h₁ tk F X => ?_) hco hgen hk
  · obtain rfl : y = (x, Value.ref a) := List.mem_singleton.mp hy
    rcases hx with e | e
    · exact .inl e
    · exact .inr ⟨e, cellsFrom_some _ _ _ (.inl e)⟩
  · refine wpAny_mono (body w s₀ s₁ { s₁ with heap := h₁, toks := tk } mg mb fa o pm cd doc a vs ns G Y ho (fd_plain hd) hcd hmg hobj hints hlen hg rfl F X) (fun f s' hq => ?_) (fun _ _ hq => hq)
    obtain ⟨rfl, h2, h3, h4⟩ := hq
    exact ⟨.inl ⟨.bool true, .bool true, [], rfl, fun _ => rfl, .bool true, post_true l _, fun _ => ⟨List.Pairwise.nil, fun _ hm => (nomatch hm)⟩⟩, h2, h3, h4⟩

/-- the same from a codeAny of the CALL (for a layer whose function contracts speak of calls) -/
theorem attach_call {l : OpenLaw} {n : Nat} {q : Program} {loose : List Str} {XP : (Str → Option Value) → Heap → Prop} {YP : World → Heap → Prop} {d : DefRec}
    (hn : l.most = some n) (hdf : d.params.defaults = [])
    (call : ∀ (w : World) (s₀ s₁ : Shared) (mg mb : Str → Option Value) (fa : Addr) (o : Obj) (pm cd doc : Value) (a : Addr) (vs : List Value) (ns : List Int),
      Ground q loose [] XP w s₀ mg mb s₁.heap → YP w s₁.heap →
      s₁.heap.get? fa = some o → o.data = .func (docDef d.name d.params d.body d.scope pm cd doc) → s₁.heap.CodeRec cd d.name → mg d.name = some (.ref fa) →
      s₁.heap.get? a = some { cls := .type "list", data := .seq vs.toArray } → IntsAre vs ns → ns.length ≤ n → s₁.gens = #[] →
      codeAny (model l.prog w) callerA (.call (.ref fa) ⟨[.ref a], []⟩) (fun r s' => r = .ok (.ret (.bool true)) ∧ OldK s₁.heap s'.heap ∧ s'.os = s₁.os ∧ AllBare s'.gens) s₁) :
    WalkO q loose XP YP l.row.toRowW d [] (fun f vs => PySem.call f vs) := by
  intro w s₀ s₁ mg mb G Y fa o pm cd doc dV kV ho hd hcd hD hmg hg args vals as hpre hlay hrd hwl hlo
  obtain rfl : dV = .none := Dflts.none hD hdf
  obtain rfl : kV = .none := Dflts.noKw hD
  obtain ⟨a, vs, ns, rfl, rfl, hobj, hints, hlen⟩ := script_of hn hpre hwl
  refine enter_call (codeAny_mono (call w s₀ s₁ mg mb fa o pm cd doc a vs ns G Y ho (fd_plain hd) hcd hmg hobj hints hlen hg) fun r s' hq => ?_)
  obtain ⟨rfl, h2, h3, h4⟩ := hq
  exact ⟨.inl ⟨.bool true, .bool true, [], rfl, fun _ => rfl, .bool true, post_true l _, fun _ => ⟨List.Pairwise.nil, fun _ hm => (nomatch hm)⟩⟩, h2, h3, h4⟩

/-- the same where the top left finished generators (o_head chose holds_openN): nothing may have changed at all and no generator may be left -/
theorem attachN {l : OpenLaw} {n : Nat} {q : Program} {loose : List Str} {XP : (Str → Option Value) → Heap → Prop} {YP : World → Heap → Prop} {d : DefRec} {x : Str}
    (hn : l.most = some n) (hdf : d.params.defaults = [])
    (hbind : ∀ pm cd doc v : Value, bindArgs (docDef d.name d.params d.body d.scope pm cd doc) ⟨[v], []⟩ = pure [(x, v)])
    (hx : d.scope.names.lookup x = some .local ∨ d.scope.names.lookup x = some .cell)
    (hk : d.scope.kind = .function) (hco : d.scope.isCoroutine = false) (hgen : d.scope.isGenerator = false)
    (body : ∀ (w : World) (s₀ s₁ s : Shared) (mg mb : Str → Option Value) (fa : Addr) (o : Obj) (pm cd doc : Value) (a : Addr) (vs : List Value) (ns : List Int),
      Ground q loose [] XP w s₀ mg mb s₁.heap → YP w s₁.heap →
      s₁.heap.get? fa = some o → o.data = .func (docDef d.name d.params d.body d.scope pm cd doc) → s₁.heap.CodeRec cd d.name → mg d.name = some (.ref fa) →
      s₁.heap.get? a = some { cls := .type "list", data := .seq vs.toArray } → IntsAre vs ns → ns.length ≤ n →
      s.gens = #[] → s.os = s₁.os →
      Fr s₁.heap s₁.heap.objs.size s.heap (bindL (envOfC d.name d.scope s₁.heap.objs.size fa cd).kindOf [(x, .ref a)] fun _ => none) →
      Cl s₁.heap.objs.size (cellsFrom (s₁.heap.objs.size + 1) d.scope.names []) s.heap (bindC (envOfC d.name d.scope s₁.heap.objs.size fa cd).kindOf [(x, .ref a)] fun _ => none) →
      wpAny (model l.prog w) (callerA.deeper (envOfC d.name d.scope s₁.heap.objs.size fa cd)) (execs d.body (envOfC d.name d.scope s₁.heap.objs.size fa cd))
        (fun f s' => f = .ret (.bool true) ∧ (∀ b o, s₁.heap.get? b = some o → s'.heap.get? b = some o) ∧ s'.os = s₁.os ∧ s'.gens = #[]) (fun _ _ => False) s) :
    WalkN q loose XP YP l.row.toRowW d [] (fun f vs => PySem.call f vs) := by
  intro w s₀ s₁ mg mb G Y fa o pm cd doc dV kV ho hd hcd hD hmg hg args vals as hpre hlay hrd hwl hlo
  obtain rfl : dV = .none := Dflts.none hD hdf
  obtain rfl : kV = .none := Dflts.noKw hD
  obtain ⟨a, vs, ns, rfl, rfl, hobj, hints, hlen⟩ := script_of hn hpre hwl
  refine enter_callW ?_
  refine call_cells_ret (o := o) (by rw [depth_caller]; decide) ho (fd_plain hd) G.T.nolimit hcd (hbind pm cd doc (.ref a)) (fun y hy => ?_) (fun h₁ tk F X => ?_) hco hgen hk
  · obtain rfl : y = (x, Value.ref a) := List.mem_singleton.mp hy
    rcases hx with e | e
    · exact .inl e
    · exact .inr ⟨e, cellsFrom_some _ _ _ (.inl e)⟩
  · refine wpAny_mono (body w s₀ s₁ { s₁ with heap := h₁, toks := tk } mg mb fa o pm cd doc a vs ns G Y ho (fd_plain hd) hcd hmg hobj hints hlen hg rfl F X) (fun f s' hq => ?_) (fun _ _ hq => hq)
    obtain ⟨rfl, h2, h3, h4⟩ := hq
    exact ⟨.inl ⟨.bool true, .bool true, [], rfl, fun _ => rfl, .bool true, post_true l _, fun _ => ⟨List.Pairwise.nil, fun _ hm => (nomatch hm)⟩⟩, h2, h3, h4⟩

/-! ### rules over ANY heap (no ledger) from facts about the written part K: the library's own take a ledger (News) for what they write -/
section
variable {prog : Program} {w : World} {A : Around} {E : Value → Shared → Prop} {s : Shared} {K : Frag}

/-- a def of the module, or a method (qual 'C.m'), entered: the frame is the next address; cells behind it -/
theorem call_fn {R : Result → Shared → Prop} {name qual : Str} {params : Arguments} {body : List Stmt} {scope : Scope} {dV kV doc pm cdv ct oc : Value} {an od : Option Addr} {osl : Array (Option Value)} {f : Addr} {args : Args} {binds : List (Str × Value)}
    (X : K.In s.heap) (hlim : s.heap.NoLimit) (ho : K.lookup f = some ⟨oc, od, .func (fnOf name qual params body scope dV kV doc pm an cdv ct), osl⟩) (hcd : codeIn K cdv qual = true) (hroom : A.depth < recursionLimit)
    (hbind : BindsTo s (fnOf name qual params body scope dV kV doc pm an cdv ct) args binds)
    (hkind : (binds.all fun y => scope.names.lookup y.1 == some .local || scope.names.lookup y.1 == some .cell) = true)
    (h : ∀ s₁, InCallC s s.heap.objs.size (bindL (envOfC qual scope s.heap.objs.size f cdv).kindOf binds fun _ => none) (cellsFrom (s.heap.objs.size + 1) scope.names [])
        (bindC (envOfC qual scope s.heap.objs.size f cdv).kindOf binds fun _ => none) s₁ →
      wpAny (model prog w) (A.deeper (envOfC qual scope s.heap.objs.size f cdv)) (execs body (envOfC qual scope s.heap.objs.size f cdv))
        (fun fl s' => R (.ok (.ret (match fl with | .ret v => v | _ => .none))) s')
        (fun e s' => wpAny (model prog w) (A.deeper (envOfC qual scope s.heap.objs.size f cdv)) (leaving (envOfC qual scope s.heap.objs.size f cdv) e) (fun _ s'' => R (.error e) s'') (fun e' s'' => R (.error e') s'') s') s₁)
    (hco : scope.isCoroutine = false) (hgen : scope.isGenerator = false) (hk : scope.kind = .function) : codeAny (model prog w) A (.call (.ref f) args) R s := by
  refine codeAny_call_function hroom (X _ _ ho) rfl hco hgen rfl (codeRec_of X hcd) (hbind _ _ _ _ ?_)
  refine wpAny_newFunctionEnv_cells hk (kindsX hkind _) fun env he s₁ x => ?_
  subst he
  exact ⟨hlim.keeps x.toInCall.keep, codeAny_func (h s₁ x)⟩

/-- C(..): dict at size, instance at size + 1, then __init__ -/
theorem make_obj {R : Result → Shared → Prop} {C fI : Addr} {rest : List Value} {kw : List (Str × Value)}
    (X : K.In s.heap) (hm : makesIn K C = true) (hi : findIn K (.ref C) "__init__" = some (some (.ref fI))) (hf : isFn K (.ref fI) = true)
    (h : codeAny (model prog w) (A.under (.builtin "type.__call__" ⟨.ref C :: rest, kw⟩)) (.call (.ref fI) ⟨.ref (s.heap.objs.size + 1) :: rest, kw⟩) (InitBack (s.heap.objs.size + 1) R)
      { s with heap := (s.heap.push emptyDict).push (instObj C s.heap.objs.size) }) : codeAny (model prog w) A (.call (.ref C) ⟨rest, kw⟩) R s := by
  obtain ⟨hh, g, d, t, os⟩ := s
  exact make_core (makes_of X hm) (looks_findIn X hi) (fun self => bind_fn X self (beq_iff_eq.mp hf)) (.inl rfl) h

/-- x.name where the instance's dict holds the name and the class does not -/
theorem get_field {x C : Addr} {ox : Obj} {es : List DictEntry} {n : Nat} {name : Str} {expr : Bool} {v : Value} {Q : Value → Shared → Prop}
    (X : K.In s.heap) (I : PySem.W.InstAt s.heap x ox C (some (dictOf es n))) (hg : plainGet K C name = true) (hh : hasDictIn K C = true) (ha : findIn K (.ref C) name = some none)
    (hl : getL name es = some (some v)) (hv : handedIn v = true) (h : Q v { s with toks := s.toks + 1 }) : wpAny (model prog w) A (getAttr (.ref x) name expr) Q E s :=
  get_value X I (plainGet_of hg).1 (findObj_own hh ha rfl hl) hv h

/-- x.m(..): the method found in the class -/
theorem get_method {x C f : Addr} {ox : Obj} {es : List DictEntry} {n : Nat} {name : Str} {pl : Sem Bool} {Q : Value × List Value → Shared → Prop}
    (X : K.In s.heap) (I : PySem.W.InstAt s.heap x ox C (some (dictOf es n))) (hg : plainGet K C name = true) (hf : findIn K (.ref C) name = some (some (.ref f))) (ht : isFn K (.ref f) = true)
    (hl : getL name es = some none) (h : Q (.ref f, [.ref x]) s) : wpAny (model prog w) A (getMethod (.ref x) name pl) Q E s :=
  method_fn X I (plainGet_of hg).1 (plainGet_of hg).2 hf (beq_iff_eq.mp ht) (by show (lookIn name (dictOf es n)).map _ = _; rw [lookIn_dict, hl]; rfl) h

/-! the whole heap as the ledger: makes every rule that writes through a ledger a rule over any heap -/
def noObjs (h : Heap) : Heap := { h with objs := #[] }
theorem noObjs_get (h : Heap) (b : Addr) : (noObjs h).get? b = none := by
  cases e : (noObjs h).get? b with
  | none => rfl
  | some o => exact absurd (Heap.lt_size e) (Nat.not_lt_zero _)
def ledger (h : Heap) (L d : Addr) : List (Addr × Obj) := (List.range h.objs.size).filterMap fun a => if a = L ∨ a = d then none else (h.get? a).map fun o => (a, o)
theorem mem_ledger {h : Heap} {L d a : Addr} {o : Obj} : (a, o) ∈ ledger h L d ↔ a ≠ L ∧ a ≠ d ∧ h.get? a = some o := by
  unfold ledger
  rw [List.mem_filterMap]
  constructor
  · rintro ⟨b, _, e⟩
    split at e
    · cases e
    · rename_i hb
      obtain ⟨o', ho, e'⟩ := Option.map_eq_some_iff.mp e
      cases e'
      exact ⟨fun q => hb (.inl q), fun q => hb (.inr q), ho⟩
  · rintro ⟨n1, n2, ho⟩
    refine ⟨a, List.mem_range.mpr (Heap.lt_size ho), ?_⟩
    rw [if_neg (show ¬ (a = L ∨ a = d) from fun q => q.elim n1 n2), ho] <;> rfl
theorem news_ledger {h : Heap} {L d : Addr} {od : Obj} (hne : d ≠ L) (ho : h.get? d = some od) : News (noObjs h) L h ([] ++ (d, od) :: ledger h L d) := by
  rintro ⟨a, o⟩ hp
  rcases List.mem_cons.mp hp with e | hp
  · cases e
    exact ⟨ho, hne, noObjs_get _ _⟩
  · obtain ⟨n1, n2, e⟩ := mem_ledger.mp hp
    exact ⟨e, n1, noObjs_get _ _⟩
theorem fr_all {h : Heap} {L : Addr} {m : Str → Option Value} (n : h.Ns L m) : Fr (noObjs h) L h m :=
  ⟨n, fun b o e => (by rw [noObjs_get] at e; cases e), Nat.zero_le _⟩
/-- Upd of the head entry (for append_K, setItem_K ..) -/
theorem upd_ledger {h : Heap} {L d : Addr} {o o' : Obj} : Upd d o o' ((d, o) :: ledger h L d) ((d, o') :: ledger h L d) :=
  .head fun ⟨_, _⟩ hp => (mem_ledger.mp hp).2.1

/-- x.name = v over any heap: L is any namespace of the heap (the frame's, say): its map stays, its object is not told; all else but the dict stays -/
theorem set_field {x C dx L : Addr} {ox : Obj} {m : Str → Option Value} {es es' : List DictEntry} {n n' : Nat} {name : Str} {v : Value} {Q : Unit → Shared → Prop}
    (X : K.In s.heap) (I : PySem.W.InstAt s.heap x ox C (some (dictOf es n))) (hd : ox.dict = some dx) (hL : s.heap.Ns L m) (hne : dx ≠ L)
    (hs : findIn K (.ref C) "__setattr__" = some (some (.builtin "object.__setattr__"))) (hp : plainOver K C = true) (ht : takerIn K C name = some none) (hh : hasDictIn K C = true) (hl : (getL name es).isSome = true)
    (e : (putL name (PyData.keyHash w.params name) (.str name (s.toks + 1)) v es, putN name es n) = (es', n')) (hz : es'.length ≤ 1000)
    (h : ∀ h' : Heap, h'.Ns L m → h'.get? dx = some (dictOf es' n') → (∀ b o, b ≠ dx → b ≠ L → s.heap.get? b = some o → h'.get? b = some o) → Q () { s with heap := h', toks := s.toks + 2 }) :
    wpAny (model prog w) A (setAttr (.ref x) name v) Q E s := by
  obtain ⟨e1, e2⟩ := Prod.mk.inj e
  have hdx : s.heap.get? dx = some (dictOf es n) := by
    have := I.dict
    rw [hd] at this
    exact this
  refine set_plain X I hs (osa_dict (s := { s with toks := s.toks + 1 }) (h₀ := noObjs s.heap) (L := L) (m := m) (od := dictOf es n) (od' := dictOf es' n') (es := es') (n := n') (pre := []) (post := ledger s.heap L dx)
    (fr_all hL) (news_ledger hne hdx) X I hd hp ht hh hl (fun _ q => nomatch q) (fun ⟨_, _⟩ q => (mem_ledger.mp q).2.1) (by rw [putName_dict, e1, e2]) rfl hz fun h' F' N' => ?_)
  exact h h' F'.ns (N'.get (List.Mem.head _)) fun b o n1 n2 ho => N'.get (List.Mem.tail _ (mem_ledger.mpr ⟨n2, n1, ho⟩))
end
end Att

namespace L2
open PySem PySem.Spec PyProof.Rows

theorem vals_ints : ∀ {vs : List Value} {ns : List Int}, IntsAre vs ns → Vals (ns.map V.int) vs
  | _, _, .nil => .nil
  | _, _, .cons n t h => .cons ⟨t, rfl⟩ (vals_ints h)

/-- nothing is tracked but the script, known to the object (or it is an object of the module) -/
def Only (H : Hp) : Prop := ∀ b, H b = none ∨ ∃ o xs, H b = some (.frz o (.lst xs))

/-- THE HEAD: the law's promise, at the heap behind the top. F, the promise of the law's def, may use that base is part of the heap (so K.In base, base.Ns mainGlobals mg stand in Mod) -/
theorem law_call {P : Program} {w : World} {K : PySem.W.Frag} {mg mb : Str → Option Value} {CX : CXT} {k : Nat} {fa a : Addr} {fd : FuncData} {x : Str} {sp : Sp} {s₁ : Shared} {vs : List Value} {ns : List Int}
    (KX : K.In s₁.heap) (hns : s₁.heap.Ns mainGlobals mg) (hb : s₁.heap.Ns builtinsNs mb) (hbb : ∀ x : Str, x ≠ "__name__" → mb x = bootBuiltins x) (hlim : s₁.heap.NoLimit) (hg : s₁.gens = #[])
    (ha : s₁.heap.get? a = some { cls := .type "list", data := .seq vs.toArray }) (hi : IntsAre vs ns) (hl : ns.length ≤ sizeLine) (hr : Room k callerA)
    (F : ∀ base : Heap, K.In base → base.Ns mainGlobals mg → FnOk P w K mg base CX k fa fd [x] sp) (hbind : ∀ (s : Shared) (u : Value), BindsTo s fd ⟨[u], []⟩ [(x, u)])
    (hsp : ∀ H : Hp, Only H → SqL K H a (ns.map V.int) → sp [.ref a] H (fun v _ => v = .bl true) fun _ _ _ => False)
    (hCX : ∀ H e s', CX [] H s₁ (fun _ _ _ => False) e s' → False) :
    codeAny (model P w) callerA (.call (.ref fa) ⟨[.ref a], []⟩) (fun r s' => r = .ok (.ret (.bool true)) ∧ OldK s₁.heap s'.heap ∧ s'.os = s₁.os ∧ AllBare s'.gens) s₁ := by
  have rv := vals_ints hi
  have lenV := hi.length
  -- from an abstract heap in which nothing but the script may be tracked
  have core : ∀ H : Hp, Only H → SqL K H a (ns.map V.int) → HOk P w H s₁.heap → (∀ b, H b ≠ none → b = a) → (H a ≠ none → K.lookup a = none) →
      codeAny (model P w) callerA (.call (.ref fa) ⟨[.ref a], []⟩) (fun r s' => r = .ok (.ret (.bool true)) ∧ OldK s₁.heap s'.heap ∧ s'.os = s₁.os ∧ AllBare s'.gens) s₁ := by
    intro H hO hS hok hA hK
    have base_of : ∀ {b : Addr} {o : Obj}, s₁.heap.get? b = some o → H b = none → (hidT s₁.heap H).get? b = some o := fun e n => hidT_get e n
    have noA : ∀ {b : Addr} {o : Obj} {es : Array DictEntry} {ep : Nat}, s₁.heap.get? b = some o → o.data = .dict es ep → H b = none := fun {b o es ep} e d => by
      cases q : H b with
      | none => rfl
      | some u =>
        have e' : b = a := hA b (by rw [q]; simp)
        subst e'
        rw [ha] at e; cases e
        have d' : Data.seq vs.toArray _ = Data.dict es ep := d
        cases d'
    have nsK : ∀ {b : Addr} {m : Str → Option Value}, s₁.heap.Ns b m → (hidT s₁.heap H).Ns b m := fun {b m} ⟨o, es, ep, e, d, r⟩ => ⟨o, es, ep, base_of e (noA e d), d, r⟩
    have hKb : K.In (hidT s₁.heap H) := fun b o e => base_of (KX b o e) (by
      cases q : H b with
      | none => rfl
      | some u =>
        have e' : b = a := hA b (by rw [q]; simp)
        subst e'
        rw [hK (by rw [q]; simp)] at e; cases e)
    have hM : Mod K mg (hidT s₁.heap H) := ⟨hKb, nsK hns, ⟨mb, nsK hb, hbb⟩, let ⟨mc, h1, h2⟩ := hlim; ⟨mc, nsK h1, h2⟩⟩
    have e0 : Env0 P w K mg (hidT s₁.heap H) callerA [] s₁ H := ⟨rfl, hM, fun b o e => of_hidT e, Nat.le_of_eq (hidT_size _ _), trivial, fun b hb => absurd (show b ∈ ([] : List Addr) from hb) (by simp), hok, .of_eq hg⟩
    refine codeAny_mono ((F _ hKb (nsK hns)).run callerA [] s₁ H ⟨[.ref a], []⟩ [.ref a] [.ref a] _ _ hr e0 (hbind s₁ (.ref a)) (.cons rfl .nil) (hsp H hO hS)) fun r s' h => ?_
    cases r with
    | error e => exact (hCX H e s' h).elim
    | ok fl =>
      cases fl with
      | next => exact False.elim h
      | brk => exact False.elim h
      | cont => exact False.elim h
      | ret u =>
        obtain ⟨v, H', os, bare, un, hok', r', q⟩ := h
        have q' : v = .bl true := q
        subst q'
        obtain rfl : u = Value.bool true := r'
        refine ⟨rfl, OldK.of_keep fun b o e => ?_, os, bare⟩
        cases q : H b with
        | none => exact un.keep b o e q (by intro z; exact absurd (show b ∈ ([] : List Addr) from z) (by simp)) (by simp)
        | some u =>
          rcases hO b with z | ⟨ob, xs, z⟩
          · rw [q] at z; cases z
          · have z2 := un.frzs b ob _ z
            obtain ⟨e1, _⟩ := hok b _ z
            obtain ⟨e2, _⟩ := hok' b _ z2
            rw [e] at e1; cases e1
            exact e2
  cases hk : K.lookup a with
  | some o =>
    -- the script is one of the module's own objects
    have e := KX a o hk
    rw [ha] at e
    cases e
    refine core (fun _ => none) (fun _ => .inl rfl) (.inr ⟨_, vs.toArray, _, hk, rfl, rfl, rfl, by rw [List.size_toArray, lenV]; exact hl, by simpa using rv⟩) (fun b u z => by have z' : (none : Option HO) = some u := z; cases z') (fun b z => absurd rfl z) fun z => absurd rfl z
  | none =>
    refine core (fun b => if b = a then some (.frz { cls := .type "list", data := .seq vs.toArray } (.lst (ns.map V.int))) else none) (fun b => ?_) (.inl (.inr ⟨{ cls := .type "list", data := .seq vs.toArray }, if_pos rfl⟩)) (fun b u z => ?_) (fun b z => ?_) fun _ => hk
    · by_cases hb : b = a
      · exact .inr ⟨_, _, if_pos hb⟩
      · exact .inl (if_neg hb)
    · by_cases hb : b = a
      · have z' := (if_pos hb).symm.trans z
        cases z'
        subst hb
        exact ⟨ha, by rw [List.length_map]; exact hl, vs, _, rv, ha⟩
      · have z' := (if_neg hb).symm.trans z
        cases z'
    · by_cases hb : b = a
      · exact hb
      · exact absurd (if_neg hb) z
end L2

namespace L2
open PySem PySem.Spec PyProof.Rows

abbrev KOf {K : PySem.W.Frag} {h : Heap} (_ : K.In h) : PySem.W.Frag := K

/-- the goal that k_head leaves (case hc), from the law's promise. F gives the function object fd (K's own) once, then the promise over every base -/
theorem walk_of {l : PySem.W.OpenLaw} {n k : Nat} {q : Program} {loose : List Str} {XP : (Str → Option Value) → Heap → Prop} {YP : World → Heap → Prop} {d : DefRec} {K : Params → PySem.W.Frag} {CX : World → CXT} {sp : World → Sp} {x : Str}
    (hn : l.most = some n) (hn2 : n ≤ sizeLine) (hdf : d.params.defaults = []) (hr : Room k callerA)
    (hY : ∀ (w : World) (h : Heap), YP w h → (K w.params).In h)
    (F : ∀ (w : World) (mg : Str → Option Value) (fa : Addr) (h : Heap), (K w.params).In h → h.Ns mainGlobals mg → mg d.name = some (.ref fa) →
      ∃ fd : FuncData, (∀ (s : Shared) (u : Value), BindsTo s fd ⟨[u], []⟩ [(x, u)]) ∧
        ∀ base : Heap, (K w.params).In base → base.Ns mainGlobals mg → FnOk l.prog w (K w.params) mg base (CX w) k fa fd [x] (sp w))
    (hsp : ∀ (w : World) (H : Hp) (a : Addr) (ns : List Int), ns.length ≤ n → Only H → SqL (K w.params) H a (ns.map V.int) → sp w [.ref a] H (fun v _ => v = .bl true) fun _ _ _ => False)
    (hCX : ∀ (w : World) (H : Hp) (s : Shared) (e : Value) (s' : Shared), CX w [] H s (fun _ _ _ => False) e s' → False) :
    PySem.W.WalkO q loose XP YP l.row.toRowW d [] (fun f vs => PySem.call f vs) := by
  refine Att.attach_call hn hdf fun w s₀ s₁ mg mb fa o pm cd doc a vs ns G Y ho hd hcd hmg hobj hints hlen hg => ?_
  have KX := hY w _ Y
  obtain ⟨fd, hb, hF⟩ := F w mg fa _ KX G.T.g hmg
  exact law_call KX G.T.g G.T.b G.T.builtins G.T.nolimit hg hobj hints (Nat.le_trans hlen hn2) hr hF hb (fun H hO hS => hsp w H a ns hlen hO hS) fun H e s' => hCX w H s₁ e s'
/-- the same where the promise hangs on the written part alone: (sp := My.sp_law), no hole under a binder -/
theorem walk_ofK {l : PySem.W.OpenLaw} {n k : Nat} {q : Program} {loose : List Str} {XP : (Str → Option Value) → Heap → Prop} {YP : World → Heap → Prop} {d : DefRec} {K : Params → PySem.W.Frag} {CX : CXT} {sp : PySem.W.Frag → Sp} {x : Str}
    (hn : l.most = some n) (hn2 : n ≤ sizeLine) (hdf : d.params.defaults = []) (hr : Room k callerA)
    (hY : ∀ (w : World) (h : Heap), YP w h → (K w.params).In h)
    (F : ∀ (w : World) (mg : Str → Option Value) (fa : Addr) (h : Heap), (K w.params).In h → h.Ns mainGlobals mg → mg d.name = some (.ref fa) →
      ∃ fd : FuncData, (∀ (s : Shared) (u : Value), BindsTo s fd ⟨[u], []⟩ [(x, u)]) ∧
        ∀ base : Heap, (K w.params).In base → base.Ns mainGlobals mg → FnOk l.prog w (K w.params) mg base CX k fa fd [x] (sp (K w.params)))
    (hsp : ∀ (K : PySem.W.Frag) (H : Hp) (a : Addr) (ns : List Int), ns.length ≤ n → Only H → SqL K H a (ns.map V.int) → sp K [.ref a] H (fun v _ => v = .bl true) fun _ _ _ => False)
    (hCX : ∀ (H : Hp) (s : Shared) (e : Value) (s' : Shared), CX [] H s (fun _ _ _ => False) e s' → False) :
    PySem.W.WalkO q loose XP YP l.row.toRowW d [] (fun f vs => PySem.call f vs) :=
  walk_of (K := K) (CX := fun _ => CX) (sp := fun w => sp (K w.params)) hn hn2 hdf hr hY F (fun w H a ns h1 h2 h3 => hsp (K w.params) H a ns h1 h2 h3) fun _ H s e s' => hCX H s e s'
end L2

/- THE LAST THEOREM (shape; LID, My.* are yours):
   My.Adr: a structure of the addresses that your layer names (classes, functions); My.Txt K t: a structure (Prop) of the equations over K;
   My.txt_mk : {K} {implicit addresses ..} (e1 : nsIn K mainGlobals "law" = some (some (.ref f))) (e2 : K.lookup f = some ⟨oc, od, .func (fnOf "law" "law" params body scope dV kV doc pm an cdv ct), sl⟩) (e3 : codeIn K cdv "law" = true) .. : ∃ t, My.Txt K t

set_option maxRecDepth 100000 in
set_option maxHeartbeats 0 in
theorem PySem.Challenge.cw_LID_holds : PySem.Challenge.rw_LID.Holds := by
  w_on; o_law; k_head; (case hw => w_witness2)
  k_fill
  refine L2.walk_of (l := PySem.Challenge.rw_LID) (n := 63) (k := 40) (x := "script") (CX := fun w => ..) (sp := fun _ => My.sp_law) rfl (by decide) rfl ⟨rfl, by decide, by decide⟩ (fun w h Y => PySem.W.kIn_of Y) ?F ?S ?C
  case F =>
    intro w mg fa h KX G hmg
    have T : ∃ t, My.Txt (L2.KOf KX) t := by
      dsimp only [L2.KOf]                          -- K must stand as «<heap const> w.params» for k_is
      refine' My.txt_mk ?e1 ?e2 ?e3 ..
      (case e1 => PySem.W.k_is)                    -- in the order: a name -> its address -> its object -> its parts
      (case e2 => PySem.W.k_is)
      ..
    obtain ⟨t, T⟩ := T
    have e0 := hmg.symm.trans (PySem.W.mg_of KX G T.law)
    cases e0                                       -- fa is the law's own address
    exact ⟨_, fun s u => .of_eq rfl, fun base kb nb => My.law_fn T kb nb⟩     -- if «.of_eq rfl» comes too early: refine' ⟨_, ?b, fun base kb nb => My.law_fn T kb nb⟩; exact fun s u => .of_eq rfl
  case S => exact fun w H a ns hl hO hS => ..
  case C => exact ..
(the tactic k_is has no namespace: write k_is) -/

/-! SHORT WORDS over the layer: a def of the text, its body, what a loop and a test want. -/
namespace L2
open PySem PySem.Spec PyProof.Rows

/-! ### the text by places -/
/-- the j-th statement of a class's body -/
def inClass (s : Stmt) (j : Nat) : Stmt := match s with
  | .ClassDef _ _ _ body _ _ _ _ _ _ _ => body.getD j (.Pass ⟨0, 0, 0, 0⟩)
  | _ => .Pass ⟨0, 0, 0, 0⟩
def defArgs (s : Stmt) : Arguments := match s with
  | .FunctionDef _ a _ _ _ _ _ _ _ _ => a
  | _ => { posonlyargs := [], args := [], vararg := none, kwonlyargs := [], kw_defaults := [], kwarg := none, defaults := [] }
def defBody (s : Stmt) : List Stmt := match s with
  | .FunctionDef _ _ b _ _ _ _ _ _ _ => b
  | _ => []
def defScope (s : Stmt) : Scope := match s with
  | .FunctionDef _ _ _ _ _ _ sc _ _ _ => sc
  | _ => { kind := .function, names := [], isGenerator := false, isCoroutine := false }

/-! ### no exception leaves a def -/
abbrev CX0 : CXT := fun _ _ _ _ _ _ => False
abbrev E0 : XK := fun _ _ _ => False
theorem pass0 {X : Cx} : Passes CX0 X E0 := fun _ _ _ _ _ _ _ h => h.elim

/-! ### a def (or method) of the text as it stands behind the top -/
structure Fun (K : PySem.W.Frag) (x qual : Str) (st : Stmt) (f : Addr) (fd : FuncData) : Prop where
  ex : ∃ (oc : Value) (od : Option Addr) (kV doc pm : Value) (an : Option Addr) (cdv ct : Value) (osl : Array (Option Value)),
    fd = PySem.W.fnOf x qual (defArgs st) (defBody st) (defScope st) .none kV doc pm an cdv ct ∧ K.lookup f = some ⟨oc, od, .func fd, osl⟩ ∧ PySem.W.codeIn K cdv qual = true
  kp : PySem.W.keepIn K (.ref f) = true
section
variable {P : Program} {w : World} {K : PySem.W.Frag} {mg : Str → Option Value} {base : Heap}
/-- THE RULE for a def: its body as a term of rules, and the reading of that term -/
theorem Fun.ok {x qual : Str} {st : Stmt} {f : Addr} {fd : FuncData} {N ps : List Str} {k : Nat} {sp : Sp} (F : Fun K x qual st f fd) (S : FnScope N ps (defScope st)) (len : ∀ vs H Q E, sp vs H Q E → vs.length = ps.length)
    (hbody : ∀ (cdv : Value) (A : Around) (outer : List Env) (s : Shared) (H : Hp) (vs : List V) (Q : VK) (E : XK), Room k (A.deeper (envOfC qual (defScope st) s.heap.objs.size f cdv)) → sp vs H Q E →
      ∃ t, PSs (cxOf CX0 P w K mg base N qual (defScope st) f cdv A outer s H E).nox (defBody st) t ∧ t { nx := fun _ H' => Q .non H', rt := Q } (start N vs) H) : FnOk P w K mg base CX0 (k + 1) f fd ps sp := by
  obtain ⟨oc, od, kV, doc, pm, an, cdv, ct, osl, rfl, lk, hcd⟩ := F.ex
  refine fn_of lk hcd S len fun A outer s H vs Q E hr hsp => ?_
  obtain ⟨t, h, q⟩ := hbody cdv A outer s H vs Q E hr hsp
  exact ⟨t, h.nox, q⟩
/-- how its arguments bind (no defaults): h is «fun _ _ _ _ _ _ us hl => match us, hl with | [_, _], _ => rfl», one _ a parameter -/
theorem Fun.binds {x qual : Str} {st : Stmt} {f : Addr} {fd : FuncData} {ps : List Str} (F : Fun K x qual st f fd)
    (h : ∀ (kV doc pm : Value) (an : Option Addr) (cdv ct : Value) (us : List Value), us.length = ps.length → bindArgs (PySem.W.fnOf x qual (defArgs st) (defBody st) (defScope st) .none kV doc pm an cdv ct) ⟨us, []⟩ = pure (ps.zip us)) : Binds K fd ps [] := by
  obtain ⟨oc, od, kV, doc, pm, an, cdv, ct, osl, rfl, lk, hcd⟩ := F.ex
  exact .all (h kV doc pm an cdv ct)
theorem fun_mk {x qual : Str} {st : Stmt} {f : Addr} {oc : Value} {od an : Option Addr} {osl : Array (Option Value)} {kV doc pm cdv ct : Value} (l : K.lookup f = some ⟨oc, od, .func (PySem.W.fnOf x qual (defArgs st) (defBody st) (defScope st) .none kV doc pm an cdv ct), osl⟩)
    (c : PySem.W.codeIn K cdv qual = true) (k : PySem.W.keepIn K (.ref f) = true) : Fun K x qual st f (PySem.W.fnOf x qual (defArgs st) (defBody st) (defScope st) .none kV doc pm an cdv ct) := ⟨⟨oc, od, kV, doc, pm, an, cdv, ct, osl, rfl, l, c⟩, k⟩
end
theorem hu_of {A : Around} {k : Nat} (hr : Room k A) : A.units + 1 < cLine := Nat.lt_of_le_of_lt (Nat.add_le_add_left (by decide : 1 ≤ 64) _) hr.units
theorem small1000 {n : Nat} (h : n ≤ 1000) : n < sizeLine := Nat.lt_of_le_of_lt h (by decide)

/-! ### expressions in short: the name that stands in the i-th slot -/
section
variable {X : Cx}
theorem pv (i : Nat) {x : Str} {pos : Pos} (hN : X.N[i]? = some x := by rfl) (hv : Vis X.env.scope x := by first | exact Or.inl rfl | exact Or.inr (Or.inl rfl) | exact Or.inr (Or.inr rfl)) (hd : (x == ("__debug__" : Str)) = false := by decide)
    (hcd : (x == ("__classdict__" : Str)) = false := by decide) : PE X (.Name x pos) (tVar i) := pe_var hN hv hd hcd
end

/-! ### tests -/
theorem iteF {A B : Prop} (h : B) : if false = true then A else B := by
  rw [if_neg Bool.false_ne_true]
  exact h
theorem iteT {A B : Prop} (h : A) : if true = true then A else B := by
  rw [if_pos rfl]
  exact h
theorem ite2 {c A B : Prop} [Decidable c] (h1 : c → A) (h2 : ¬ c → B) : if c then A else B := by
  by_cases h : c
  · rw [if_pos h]
    exact h1 h
  · rw [if_neg h]
    exact h2 h
theorem iteNS {c A B : Prop} [Decidable c] (hc : c) (h : B) : if (!decide c) = true then A else B := by
  rw [decide_eq_true hc]
  exact iteF h

/-! ### heaps -/
/-- all that was tracked is as it was -/
def Same (H H' : Hp) : Prop := ∀ b o, H b = some o → H' b = some o
theorem Same.refl (H : Hp) : Same H H := fun _ _ h => h
theorem Same.trans {H H1 H2 : Hp} (a : Same H H1) (b : Same H1 H2) : Same H H2 := fun c o h => b c o (a c o h)
theorem Same.free {H H' : Hp} (e : Same H H') {l : Addr} (h : H' l = Option.none) : H l = Option.none := by
  cases q : H l with
  | none => rfl
  | some o =>
    rw [e l o q] at h
    cases h
theorem Same.seq {K : PySem.W.Frag} {H H' : Hp} {a : Addr} {xs : List V} (e : Same H H') (h : SqL K H a xs) : SqL K H' a xs := by
  rcases h with (h | ⟨o, h⟩) | h
  · exact .inl (.inl (e _ _ h))
  · exact .inl (.inr ⟨o, e _ _ h⟩)
  · exact .inr h

end L2

set_option Elab.async false
set_option linter.all false
set_option maxRecDepth 100000
set_option maxHeartbeats 4000000
/-! Plain data, and the functions that expressions, statements and defs are. -/
namespace VL
open PySem L2
abbrev D := PyData
inductive Sl where
  | un | fz (d : D) | ow (ds : List D)
abbrev Dv := List Sl
inductive Fl where
  | nx | bk | ct | rt (d : D)
abbrev Sf := Dv → Option (Fl × Dv)
@[simp] def o2 (f1 f2 : Dv → Option D) (g : D → D → Option D) : Dv → Option D := fun δ => (f1 δ).bind fun x => (f2 δ).bind fun y => g x y
@[simp] def o1 (f : Dv → Option D) (g : D → Option D) : Dv → Option D := fun δ => (f δ).bind g
@[simp] def os (f : Dv → Option (List D)) (g : List D → Option D) : Dv → Option D := fun δ => (f δ).bind g
def asB : D → Option Bool
  | .bool b => some b
  | _ => none
@[simp] theorem asB_bool (b : Bool) : asB (.bool b) = some b := rfl
@[simp] def ob (f : Dv → Option D) : Dv → Option Bool := fun δ => (f δ).bind asB
@[simp] def oAnd (t u : Dv → Option Bool) : Dv → Option Bool := fun δ => (t δ).bind fun b => if b = true then u δ else some false
@[simp] def oOr (t u : Dv → Option Bool) : Dv → Option Bool := fun δ => (t δ).bind fun b => if b = true then some true else u δ
@[simp] def oNot (t : Dv → Option Bool) : Dv → Option Bool := fun δ => (t δ).map (!·)
@[simp] def oAndV (f1 f2 : Dv → Option D) : Dv → Option D := fun δ => (f1 δ).bind fun x => (asB x).bind fun b => if b = true then f2 δ else some (.bool false)
@[simp] def oOrV (f1 f2 : Dv → Option D) : Dv → Option D := fun δ => (f1 δ).bind fun x => (asB x).bind fun b => if b = true then some (.bool true) else f2 δ
@[simp] def notD (d : D) : Option D := (asB d).map fun b => .bool (!b)
@[simp] def oIf (t : Dv → Option Bool) (f1 f2 : Dv → Option D) : Dv → Option D := fun δ => (t δ).bind fun b => if b = true then f1 δ else f2 δ
def slV : Option Sl → Option D
  | some (.fz d) => some d
  | _ => none
@[simp] theorem slV_fz (d : D) : slV (some (.fz d)) = some d := rfl
@[simp] def oV (i : Nat) : Dv → Option D := fun δ => slV δ[i]?
@[simp] def oC (d : D) : Dv → Option D := fun _ => some d
@[simp] def oNil : Dv → Option (List D) := fun _ => some []
@[simp] def oCons (f : Dv → Option D) (fs : Dv → Option (List D)) : Dv → Option (List D) := fun δ => (f δ).bind fun x => (fs δ).bind fun xs => some (x :: xs)
def tupD (ds : List D) : Option D := if ds.length ≤ sizeLine then some (.tuple ds) else none
def lstD (ds : List D) : Option D := if ds.length ≤ sizeLine then some (.list ds) else none
theorem tupD_ok {ds : List D} (h : ds.length ≤ 16777216) : tupD ds = some (.tuple ds) := if_pos h
theorem lstD_ok {ds : List D} (h : ds.length ≤ 16777216) : lstD ds = some (.list ds) := if_pos h
@[simp] theorem tupD0 : tupD [] = some (.tuple []) := rfl
@[simp] theorem tupD1 (a : D) : tupD [a] = some (.tuple [a]) := tupD_ok (by simp)
@[simp] theorem tupD2 (a b : D) : tupD [a, b] = some (.tuple [a, b]) := tupD_ok (by simp)
@[simp] theorem tupD3 (a b c : D) : tupD [a, b, c] = some (.tuple [a, b, c]) := tupD_ok (by simp)
@[simp] theorem tupD4 (a b c d : D) : tupD [a, b, c, d] = some (.tuple [a, b, c, d]) := tupD_ok (by simp)
@[simp] theorem tupD5 (a b c d e : D) : tupD [a, b, c, d, e] = some (.tuple [a, b, c, d, e]) := tupD_ok (by simp)
@[simp] theorem tupD8 (a b c d e f g h : D) : tupD [a, b, c, d, e, f, g, h] = some (.tuple [a, b, c, d, e, f, g, h]) := tupD_ok (by simp)
@[simp] theorem lstD0 : lstD [] = some (.list []) := rfl
@[simp] theorem lstD1 (a : D) : lstD [a] = some (.list [a]) := lstD_ok (by simp)
@[simp] theorem lstD2 (a b : D) : lstD [a, b] = some (.list [a, b]) := lstD_ok (by simp)
@[simp] theorem lstD3 (a b c : D) : lstD [a, b, c] = some (.list [a, b, c]) := lstD_ok (by simp)
@[simp] theorem lstD4 (a b c d : D) : lstD [a, b, c, d] = some (.list [a, b, c, d]) := lstD_ok (by simp)
@[simp] theorem lstD5 (a b c d e : D) : lstD [a, b, c, d, e] = some (.list [a, b, c, d, e]) := lstD_ok (by simp)
/-! ### ints -/
instance (i j : Int) : Decidable (IntMulOk i j) := by unfold IntMulOk; infer_instance
def iI (g : Int → Int → Int) : D → D → Option D
  | .int i, .int j => some (.int (g i j))
  | _, _ => none
def iC (C : Int → Int → Bool) (g : Int → Int → Int) : D → D → Option D
  | .int i, .int j => if C i j = true then some (.int (g i j)) else none
  | _, _ => none
def iB (g : Int → Int → Bool) : D → D → Option D
  | .int i, .int j => some (.bool (g i j))
  | _, _ => none
@[simp] theorem iI_int (g : Int → Int → Int) (i j : Int) : iI g (.int i) (.int j) = some (.int (g i j)) := rfl
@[simp] theorem iB_int (g : Int → Int → Bool) (i j : Int) : iB g (.int i) (.int j) = some (.bool (g i j)) := rfl
theorem iC_int {C : Int → Int → Bool} {g : Int → Int → Int} {i j : Int} (h : C i j = true) : iC C g (.int i) (.int j) = some (.int (g i j)) := if_pos h
def cMul (i j : Int) : Bool := decide (IntMulOk i j)
def cDiv (i j : Int) : Bool := decide (0 < j ∧ j < 1073741824)
def cMod (i j : Int) : Bool := decide (0 < j)
def cPow (i j : Int) : Bool := decide (0 ≤ j ∧ j ≤ 1000000 ∧ i.natAbs < 2 ^ 64)
def cShl (i j : Int) : Bool := decide (0 ≤ j ∧ (Builtin.Int.intBits i : Int) + j ≤ 2 ^ 27)
def cShr (i j : Int) : Bool := decide (0 ≤ j)
abbrev subD := iI fun i j => i - j
abbrev mulI := iC cMul fun i j => i * j
abbrev divD := iC cDiv fun i j => i / j
abbrev modD := iC cMod fun i j => i % j
abbrev powD := iC cPow fun i j => i ^ j.toNat
abbrev shlD := iC cShl fun i j => i * 2 ^ j.toNat
abbrev shrD := iC cShr fun i j => i / 2 ^ j.toNat
abbrev andD := iI Builtin.bitAnd
abbrev orD := iI Builtin.bitOr
abbrev xorD := iI Builtin.bitXor
abbrev ltD := iB fun i j => decide (i < j)
abbrev leD := iB fun i j => decide (i ≤ j)
abbrev gtD := iB fun i j => decide (j < i)
abbrev geD := iB fun i j => decide (j ≤ i)
@[simp] theorem mulI_int {i j : Int} (h : IntMulOk i j) : mulI (.int i) (.int j) = some (.int (i * j)) := iC_int (decide_eq_true h)
@[simp] theorem divD_int {i j : Int} (h : 0 < j) (h2 : j < 1073741824) : divD (.int i) (.int j) = some (.int (i / j)) := iC_int (decide_eq_true ⟨h, h2⟩)
@[simp] theorem modD_int {i j : Int} (h : 0 < j) : modD (.int i) (.int j) = some (.int (i % j)) := iC_int (decide_eq_true h)
@[simp] theorem powD_int {i j : Int} (h : 0 ≤ j) (h2 : j ≤ 1000000) (h3 : i.natAbs < 2 ^ 64) : powD (.int i) (.int j) = some (.int (i ^ j.toNat)) := iC_int (decide_eq_true ⟨h, h2, h3⟩)
theorem shlD_int {i j : Int} (h : 0 ≤ j) (h2 : (Builtin.Int.intBits i : Int) + j ≤ 2 ^ 27) : shlD (.int i) (.int j) = some (.int (i * 2 ^ j.toNat)) := iC_int (decide_eq_true ⟨h, h2⟩)
@[simp] theorem shrD_int {i j : Int} (h : 0 ≤ j) : shrD (.int i) (.int j) = some (.int (i / 2 ^ j.toNat)) := iC_int (decide_eq_true h)
def negD : D → Option D
  | .int i => some (.int (-i))
  | _ => none
@[simp] theorem negD_int (i : Int) : negD (.int i) = some (.int (-i)) := rfl
def addD : D → D → Option D
  | .int i, .int j => some (.int (i + j))
  | .str x, .str y => if x.length + y.length ≤ sizeLine then some (.str (x ++ y)) else none
  | .list xs, .list ys => if xs.length + ys.length ≤ sizeLine then some (.list (xs ++ ys)) else none
  | .tuple xs, .tuple ys => if xs.length + ys.length ≤ sizeLine then some (.tuple (xs ++ ys)) else none
  | _, _ => none
@[simp] theorem addD_int (i j : Int) : addD (.int i) (.int j) = some (.int (i + j)) := rfl
theorem addD_list {xs ys : List D} (h : xs.length + ys.length ≤ 16777216) : addD (.list xs) (.list ys) = some (.list (xs ++ ys)) := if_pos h
theorem addD_tuple {xs ys : List D} (_ : xs.length ≠ 0) (h : xs.length + ys.length ≤ 16777216) : addD (.tuple xs) (.tuple ys) = some (.tuple (xs ++ ys)) := if_pos h
theorem addD_tup {xs ys : List D} (h : xs.length + ys.length ≤ 16777216) : addD (.tuple xs) (.tuple ys) = some (.tuple (xs ++ ys)) := if_pos h
/-! ### == -/
def shp (d : D) : Bool := PySem.SeqAt.shaped d
def eqD : D → D → Option D := fun a b => if shp a = true ∧ shp b = true then some (.bool (PyData.eqv a b)) else none
def neD : D → D → Option D := fun a b => if shp a = true ∧ shp b = true then some (.bool (!PyData.eqv a b)) else none
@[simp] theorem eqD_int (i j : Int) : eqD (.int i) (.int j) = some (.bool (i == j)) := rfl
@[simp] theorem neD_int (i j : Int) : neD (.int i) (.int j) = some (.bool (!(i == j))) := rfl
@[simp] theorem eqD_bool (i j : Bool) : eqD (.bool i) (.bool j) = some (.bool (i == j)) := rfl
@[simp] theorem neD_bool (i j : Bool) : neD (.bool i) (.bool j) = some (.bool (!(i == j))) := rfl
def isN (d : D) : Bool := match d with
  | .none => true
  | _ => false
def isD : D → D → Option D := fun a b => match b with
  | .none => some (.bool (isN a))
  | _ => none
def isntD : D → D → Option D := fun a b => match b with
  | .none => some (.bool (!isN a))
  | _ => none
@[simp] theorem isD_none (a : D) : isD a .none = some (.bool (isN a)) := rfl
@[simp] theorem isntD_none (a : D) : isntD a .none = some (.bool (!isN a)) := rfl
@[simp] theorem isN_none : isN .none = true := rfl
@[simp] theorem isN_int (i : Int) : isN (.int i) = false := rfl
/-! ### items -/
def ixD : D → D → Option D
  | .list xs, .int i => atI xs i
  | .tuple xs, .int i => atI xs i
  | _, _ => none
@[simp] theorem ixD_list (xs : List D) (i : Int) : ixD (.list xs) (.int i) = atI xs i := rfl
@[simp] theorem ixD_tuple (xs : List D) (i : Int) : ixD (.tuple xs) (.int i) = atI xs i := rfl
theorem atI_of {α : Type} {xs : List α} {i : Int} {j : Nat} {v : α} (hi : i = j) (h : xs[j]? = some v) : atI xs i = some v := by
  have hl : j < xs.length := (List.getElem?_eq_some_iff.mp h).1
  subst hi
  unfold atI ixN
  rw [if_pos (by omega), if_pos (by omega)]
  simpa using h
@[simp] theorem at0 {α : Type} (a : α) (r : List α) : atI (a :: r) 0 = some a := atI_of (j := 0) rfl rfl
@[simp] theorem at1 {α : Type} (a b : α) (r : List α) : atI (a :: b :: r) 1 = some b := atI_of (j := 1) rfl rfl
@[simp] theorem at2 {α : Type} (a b c : α) (r : List α) : atI (a :: b :: c :: r) 2 = some c := atI_of (j := 2) rfl rfl
@[simp] theorem at3 {α : Type} (a b c d : α) (r : List α) : atI (a :: b :: c :: d :: r) 3 = some d := atI_of (j := 3) rfl rfl
@[simp] theorem at4 {α : Type} (a b c d e : α) (r : List α) : atI (a :: b :: c :: d :: e :: r) 4 = some e := atI_of (j := 4) rfl rfl
@[simp] theorem at5 {α : Type} (a b c d e f : α) (r : List α) : atI (a :: b :: c :: d :: e :: f :: r) 5 = some f := atI_of (j := 5) rfl rfl
@[simp] theorem at6 {α : Type} (a b c d e f g : α) (r : List α) : atI (a :: b :: c :: d :: e :: f :: g :: r) 6 = some g := atI_of (j := 6) rfl rfl
@[simp] theorem at7 {α : Type} (a b c d e f g h : α) (r : List α) : atI (a :: b :: c :: d :: e :: f :: g :: h :: r) 7 = some h := atI_of (j := 7) rfl rfl
/-! ### builtins -/
def lenD : List D → Option D
  | [.list xs] => some (.int xs.length)
  | [.tuple xs] => some (.int xs.length)
  | _ => none
@[simp] theorem lenD_list (xs : List D) : lenD [.list xs] = some (.int xs.length) := rfl
@[simp] theorem lenD_tuple (xs : List D) : lenD [.tuple xs] = some (.int xs.length) := rfl
def minD : List D → Option D
  | [.int i, .int j] => some (.int (if j < i then j else i))
  | _ => none
def maxD : List D → Option D
  | [.int i, .int j] => some (.int (if j > i then j else i))
  | _ => none
@[simp] theorem minD_int (i j : Int) : minD [.int i, .int j] = some (.int (if j < i then j else i)) := rfl
@[simp] theorem maxD_int (i j : Int) : maxD [.int i, .int j] = some (.int (if j > i then j else i)) := rfl
def intD : List D → Option D
  | [.int i] => some (.int i)
  | [.bool b] => some (.int (if b then 1 else 0))
  | _ => none
@[simp] theorem intD_int (i : Int) : intD [.int i] = some (.int i) := rfl
@[simp] theorem intD_bool (b : Bool) : intD [.bool b] = some (.int (if b then 1 else 0)) := rfl
def listD : List D → Option D
  | [.list xs] => some (.list xs)
  | [.tuple xs] => some (.list xs)
  | _ => none
@[simp] theorem listD_list (xs : List D) : listD [.list xs] = some (.list xs) := rfl
@[simp] theorem listD_tuple (xs : List D) : listD [.tuple xs] = some (.list xs) := rfl
def tupleD : List D → Option D
  | [.list xs] => some (.tuple xs)
  | [.tuple xs] => some (.tuple xs)
  | _ => none
@[simp] theorem tupleD_list (xs : List D) : tupleD [.list xs] = some (.tuple xs) := rfl
@[simp] theorem tupleD_tuple (xs : List D) : tupleD [.tuple xs] = some (.tuple xs) := rfl
def bitsD : D → Option D
  | .int i => some (.int (Builtin.Int.intBits i))
  | _ => none
@[simp] theorem bitsD_int (i : Int) : bitsD (.int i) = some (.int (Builtin.Int.intBits i)) := rfl
def tyN : D → String
  | .none => "NoneType"
  | .bool _ => "bool"
  | .int _ => "int"
  | .str _ => "str"
  | .list _ => "list"
  | .tuple _ => "tuple"
  | .dict _ => "dict"
def isiB (t T : String) : Bool := t == T || (t == "bool" && T == "int")
def isDct : D → Bool
  | .dict _ => true
  | _ => false
def isiD (T : String) (d : D) : Option D := if isDct d = true then none else if T = "int" ∨ T = "bool" ∨ T = "str" ∨ T = "list" ∨ T = "tuple" then some (.bool (isiB (tyN d) T)) else none
@[simp] theorem isi_int_int (i : Int) : isiD "int" (.int i) = some (.bool true) := rfl
@[simp] theorem isi_bool_int (i : Int) : isiD "bool" (.int i) = some (.bool false) := rfl
@[simp] theorem isi_int_bool (i : Bool) : isiD "int" (.bool i) = some (.bool true) := rfl
@[simp] theorem isi_bool_bool (i : Bool) : isiD "bool" (.bool i) = some (.bool true) := rfl
@[simp] theorem isi_tuple_tuple (xs : List D) : isiD "tuple" (.tuple xs) = some (.bool true) := rfl
@[simp] theorem isi_list_list (xs : List D) : isiD "list" (.list xs) = some (.bool true) := rfl
/-! ### statements -/
@[simp] def sRet (f : Dv → Option D) : Sf := fun δ => (f δ).bind fun d => some (.rt d, δ)
@[simp] def sSet (i : Nat) (f : Dv → Option D) : Sf := fun δ => (f δ).bind fun d => some (.nx, δ.set i (.fz d))
@[simp] def sDrop (f : Dv → Option D) : Sf := fun δ => (f δ).bind fun _ => some (.nx, δ)
@[simp] def sNx : Sf := fun δ => some (.nx, δ)
@[simp] def sBk : Sf := fun δ => some (.bk, δ)
@[simp] def sCt : Sf := fun δ => some (.ct, δ)
@[simp] def sSeq (s t : Sf) : Sf := fun δ => (s δ).bind fun r => match r with
  | (.nx, δ') => t δ'
  | r => some r
@[simp] def sIf (t : Dv → Option Bool) (u w : Sf) : Sf := fun δ => (t δ).bind fun c => if c = true then u δ else w δ
def dFz (i : Nat) (δ : Dv) : Dv := match δ[i]? with
  | some (.ow ds) => δ.set i (.fz (.list ds))
  | _ => δ
@[simp] def gN (i : Nat) : D → Dv → Option Dv := fun d δ => some (δ.set i (.fz d))
def loop (g : D → Dv → Option Dv) (b : Sf) : List D → Sf
  | [], δ => some (.nx, δ)
  | d :: ds, δ => (g d δ).bind fun δ1 => (b δ1).bind fun r => match r with
    | (.nx, δ2) => loop g b ds δ2
    | (.ct, δ2) => loop g b ds δ2
    | (.bk, δ2) => some (.nx, δ2)
    | (.rt x, δ2) => some (.rt x, δ2)
@[simp] theorem loop_nil (g : D → Dv → Option Dv) (b : Sf) (δ : Dv) : loop g b [] δ = some (.nx, δ) := rfl
@[simp] def sFor (f : Dv → Option (List D)) (g : D → Dv → Option Dv) (b : Sf) : Sf := fun δ => (f δ).bind fun ds => loop g b ds δ
def wloop (t : Dv → Option Bool) (b : Sf) : Nat → Sf
  | 0, _ => none
  | n + 1, δ => (t δ).bind fun c => if c = true then (b δ).bind fun r => match r with
      | (.nx, δ2) => wloop t b n δ2
      | (.ct, δ2) => wloop t b n δ2
      | (.bk, δ2) => some (.nx, δ2)
      | (.rt x, δ2) => some (.rt x, δ2)
    else some (.nx, δ)
def rngL (lo : Int) (n : Nat) : List D := (List.range n).map fun k => .int (lo + (k : Nat))
def rng1D : List D → Option (List D)
  | [.int j] => if j < 2 ^ 62 ∧ -(2 ^ 62) ≤ j then some (rngL 0 j.toNat) else none
  | _ => none
def rng2D : List D → Option (List D)
  | [.int i, .int j] => if (i < 2 ^ 62 ∧ -(2 ^ 62) ≤ i) ∧ j < 2 ^ 62 ∧ -(2 ^ 62) ≤ j then some (rngL i (j - i).toNat) else none
  | _ => none
theorem rng1D_int {j : Int} (h : j < 4611686018427387904) (h2 : -4611686018427387904 ≤ j) : rng1D [.int j] = some (rngL 0 j.toNat) := if_pos ⟨h, h2⟩
@[simp] def oL (fs : Dv → Option (List D)) (g : List D → Option (List D)) : Dv → Option (List D) := fun δ => (fs δ).bind g
def itsD : D → Option (List D)
  | .list xs => some xs
  | .tuple xs => some xs
  | _ => none
@[simp] theorem itsD_list (xs : List D) : itsD (.list xs) = some xs := rfl
@[simp] theorem itsD_tuple (xs : List D) : itsD (.tuple xs) = some xs := rfl
def lstI : D → Option (List D)
  | .list xs => some xs
  | _ => none
def tupI : D → Option (List D)
  | .tuple xs => some xs
  | _ => none
@[simp] def oI (f : Dv → Option D) (g : D → Option (List D)) : Dv → Option (List D) := fun δ => (f δ).bind g
def rngN (lo hi st : Int) : Nat := if lo < hi then ((hi - lo - 1) / st + 1).toNat else 0
def rngL3 (lo st : Int) (n : Nat) : List D := (List.range n).map fun k => .int (lo + (k : Nat) * st)
def rng3D : List D → Option (List D)
  | [.int i, .int j, .int k] => if -(2 ^ 40) ≤ i ∧ i < 2 ^ 40 ∧ -(2 ^ 40) ≤ j ∧ j < 2 ^ 40 ∧ 0 < k ∧ k < 2 ^ 20 then some (rngL3 i k (rngN i j k)) else none
  | _ => none
theorem rng3D_int {i j k : Int} (h : -1099511627776 ≤ i ∧ i < 1099511627776 ∧ -1099511627776 ≤ j ∧ j < 1099511627776 ∧ 0 < k ∧ k < 1048576) : rng3D [.int i, .int j, .int k] = some (rngL3 i k (rngN i j k)) := if_pos h
@[simp] def oNo : Dv → Option (Option Int) := fun _ => some none
def asI : D → Option (Option Int)
  | .int i => some (some i)
  | _ => none
@[simp] theorem asI_int (i : Int) : asI (.int i) = some (some i) := rfl
@[simp] def oP (f : Dv → Option D) : Dv → Option (Option Int) := fun δ => (f δ).bind asI
def cutD (xs : List D) (lo hi : Option Int) : List D := (xs.drop (HT.sIx xs.length 0 lo)).take (HT.sIx xs.length xs.length hi - HT.sIx xs.length 0 lo)
def slD : D → Option Int → Option Int → Option D
  | .list xs, lo, hi => some (.list (cutD xs lo hi))
  | .tuple xs, lo, hi => some (.tuple (cutD xs lo hi))
  | _, _, _ => none
@[simp] def oSl (f : Dv → Option D) (l u : Dv → Option (Option Int)) : Dv → Option D := fun δ => (f δ).bind fun x => (l δ).bind fun i => (u δ).bind fun j => slD x i j
def startD (N : List Str) (as : List D) : Dv := as.map .fz ++ List.replicate (N.length - as.length) .un
def runB (N : List Str) (n : Nat) (b : Sf) : List D → Option D := fun as => if as.length = n then (b (startD N as)).bind fun r => match r with
    | (.rt d, _) => some d
    | (.nx, _) => some .none
    | _ => none
  else none
theorem loop_nx {g : D → Dv → Option Dv} {b : Sf} (I : Dv → Prop) : ∀ (ds : List D), (∀ d ∈ ds, ∀ δ, I δ → ∃ δ1, g d δ = some δ1 ∧ ∃ δ2, b δ1 = some (.nx, δ2) ∧ I δ2) → ∀ δ, I δ → ∃ δ', loop g b ds δ = some (.nx, δ') ∧ I δ'
  | [], _, δ, hI => ⟨δ, rfl, hI⟩
  | d :: ds, h, δ, hI => by
    obtain ⟨δ1, e1, δ2, e2, h2⟩ := h d List.mem_cons_self δ hI
    obtain ⟨δ', e3, h3⟩ := loop_nx I ds (fun d hd => h d (List.mem_cons_of_mem _ hd)) δ2 h2
    refine ⟨δ', ?_, h3⟩
    rw [loop, e1]
    show (b δ1).bind _ = _
    rw [e2]
    exact e3
end VL

set_option Elab.async false
set_option linter.all false
set_option maxRecDepth 100000
set_option maxHeartbeats 4000000
/-! Values as plain data over the hand layer: what an expression, a statement, a def is worth, as a partial function over plain data. -/
namespace VL
open PySem PySem.Spec PyProof.Rows L2

abbrev Fg := PySem.W.Frag
abbrev St := L2.St

/-- things that are no plain data: an exception of a class of the text, a def of the text -/
def exO (a C : Addr) : HO := .ext fun h => ∃ o, h.get? a = some o ∧ o.cls = .ref C
inductive Opq (K : Fg) (Z : Hp) (a : Addr) : List (D × D) → Prop
  | exc {n : Str} {C : Addr} : PySem.W.nsIn K mainGlobals n = some (some (.ref C)) → Z a = some (exO a C) → Opq K Z a [(.str "exc", .str n)]
  | fn {n : Str} : PySem.W.nsIn K mainGlobals n = some (some (.ref a)) → Opq K Z a [(.str "fn", .str n)]
theorem Opq.same {K : Fg} {Z Z' : Hp} {a : Addr} {kvs : List (D × D)} (s : Same Z Z') (h : Opq K Z a kvs) : Opq K Z' a kvs := by
  cases h with
  | exc h1 h2 => exact .exc h1 (s _ _ h2)
  | fn h1 => exact .fn h1
mutual
inductive Rep (K : Fg) (Z : Hp) : V → D → Prop
  | non : Rep K Z .non .none
  | bl (b : Bool) : Rep K Z (.bl b) (.bool b)
  | int (i : Int) : Rep K Z (.int i) (.int i)
  | str (x : Str) : Rep K Z (.str x) (.str x)
  | tup {a : Addr} {xs : List V} {ds : List D} : SqT K Z a xs → Reps K Z xs ds → Rep K Z (.ref a) (.tuple ds)
  | lst {a : Addr} {xs : List V} {ds : List D} : SqL K Z a xs → Reps K Z xs ds → Rep K Z (.ref a) (.list ds)
  | opq {a : Addr} {kvs : List (D × D)} : Opq K Z a kvs → Rep K Z (.ref a) (.dict kvs)
inductive Reps (K : Fg) (Z : Hp) : List V → List D → Prop
  | nil : Reps K Z [] []
  | cons {v : V} {d : D} {vs : List V} {ds : List D} : Rep K Z v d → Reps K Z vs ds → Reps K Z (v :: vs) (d :: ds)
end

theorem Rd.same {H H' : Hp} {a : Addr} {u : HO} (h : Rd H a u) (s : Same H H') : Rd H' a u := by
  rcases h with h | ⟨o, h⟩
  · exact .inl (s _ _ h)
  · exact .inr ⟨o, s _ _ h⟩
theorem SqT.same {K : Fg} {H H' : Hp} {a : Addr} {xs : List V} (h : SqT K H a xs) (s : Same H H') : SqT K H' a xs := by
  rcases h with h | h
  · exact .inl (Rd.same h s)
  · exact .inr h
theorem SqL.same {K : Fg} {H H' : Hp} {a : Addr} {xs : List V} (h : SqL K H a xs) (s : Same H H') : SqL K H' a xs := by
  rcases h with h | h
  · exact .inl (Rd.same h s)
  · exact .inr h
mutual
theorem Rep.same {K : Fg} {Z Z' : Hp} (s : Same Z Z') : ∀ {v : V} {d : D}, Rep K Z v d → Rep K Z' v d
  | _, _, .non => .non
  | _, _, .bl b => .bl b
  | _, _, .int i => .int i
  | _, _, .str x => .str x
  | _, _, .tup h r => .tup (SqT.same h s) (Reps.same s r)
  | _, _, .lst h r => .lst (SqL.same h s) (Reps.same s r)
  | _, _, .opq h => .opq (Opq.same s h)
theorem Reps.same {K : Fg} {Z Z' : Hp} (s : Same Z Z') : ∀ {vs : List V} {ds : List D}, Reps K Z vs ds → Reps K Z' vs ds
  | _, _, .nil => .nil
  | _, _, .cons h r => .cons (Rep.same s h) (Reps.same s r)
end
theorem Reps.length {K : Fg} {Z : Hp} : ∀ {vs : List V} {ds : List D}, Reps K Z vs ds → vs.length = ds.length
  | _, _, .nil => rfl
  | _, _, .cons _ r => congrArg (· + 1) (Reps.length r)
theorem Reps.get {K : Fg} {Z : Hp} : ∀ {vs : List V} {ds : List D} {i : Nat} {d : D}, Reps K Z vs ds → ds[i]? = some d → ∃ v, vs[i]? = some v ∧ Rep K Z v d
  | _, _, _, _, .nil, e => by simp at e
  | _, _, 0, _, .cons r _, e => by simp at e; subst e; exact ⟨_, rfl, r⟩
  | _, _, i + 1, d, .cons _ t, e => by
    obtain ⟨u, h1, h2⟩ := Reps.get (i := i) (d := d) t (by simpa using e)
    exact ⟨u, by simpa using h1, h2⟩
theorem Reps.getV {K : Fg} {Z : Hp} : ∀ {vs : List V} {ds : List D} {i : Nat} {v : V}, Reps K Z vs ds → vs[i]? = some v → ∃ d, ds[i]? = some d ∧ Rep K Z v d
  | _, _, _, _, .nil, e => by simp at e
  | _, _, 0, _, .cons r _, e => by simp at e; subst e; exact ⟨_, rfl, r⟩
  | _, _, i + 1, v, .cons _ t, e => by
    obtain ⟨u, h1, h2⟩ := Reps.getV (i := i) (v := v) t (by simpa using e)
    exact ⟨u, by simpa using h1, h2⟩
theorem Reps.set {K : Fg} {Z : Hp} {x : V} {u : D} (r : Rep K Z x u) : ∀ {xs : List V} {us : List D} (i : Nat), Reps K Z xs us → Reps K Z (xs.set i x) (us.set i u)
  | _, _, _, .nil => .nil
  | _, _, 0, .cons _ t => .cons r t
  | _, _, i + 1, .cons q t => .cons q (Reps.set r i t)
theorem Reps.append {K : Fg} {Z : Hp} : ∀ {xs ys : List V} {us ws : List D}, Reps K Z xs us → Reps K Z ys ws → Reps K Z (xs ++ ys) (us ++ ws)
  | _, _, _, _, .nil, s => s
  | _, _, _, _, .cons r t, s => .cons r (Reps.append t s)
theorem Reps.take {K : Fg} {Z : Hp} : ∀ {xs : List V} {us : List D} (n : Nat), Reps K Z xs us → Reps K Z (xs.take n) (us.take n)
  | _, _, 0, _ => .nil
  | _, _, _ + 1, .nil => .nil
  | _, _, n + 1, .cons r t => .cons r (Reps.take n t)
theorem Reps.drop {K : Fg} {Z : Hp} : ∀ {xs : List V} {us : List D} (n : Nat), Reps K Z xs us → Reps K Z (xs.drop n) (us.drop n)
  | _, _, 0, r => r
  | _, _, _ + 1, .nil => .nil
  | _, _, n + 1, .cons _ t => Reps.drop n t
theorem Rep.int_eq {K : Fg} {Z : Hp} {v : V} {i : Int} (h : Rep K Z v (.int i)) : v = .int i := by cases h; rfl
theorem Rep.bl_eq {K : Fg} {Z : Hp} {v : V} {b : Bool} (h : Rep K Z v (.bool b)) : v = .bl b := by cases h; rfl
theorem Reps.ints {K : Fg} {Z : Hp} : ∀ ns : List Int, Reps K Z (ns.map V.int) (ns.map PyData.int)
  | [] => .nil
  | n :: r => .cons (.int n) (Reps.ints r)

/-! ### from the abstract heap to the heap -/
mutual
theorem Rep.reads {X : Cx} {pins : List (Addr × Obj)} {σ : St} {H Z : Hp} {s : Shared} (I : Inv X pins σ H s) (zh : Same Z H) : ∀ {v : V} {d : D} {u : Value}, Rep X.K Z v d → RelV v u → d.canLay0 = true → ∃ as, Reads s.heap u d as
  | _, _, u, .non, r, _ => by cases (show u = Value.none from r); exact ⟨_, .none⟩
  | _, _, u, .bl b, r, _ => by cases (show u = Value.bool b from r); exact ⟨_, .bool b⟩
  | _, _, u, .int i, r, _ => by obtain ⟨t, rfl⟩ := (show ∃ t, u = Value.int i t from r); exact ⟨_, .int i t⟩
  | _, _, u, .str x, r, _ => by obtain ⟨t, rfl⟩ := (show ∃ t, u = Value.str x t from r); exact ⟨_, .str x t⟩
  | _, _, u, .tup (a := a) h q, r, hc => by
    cases (show u = Value.ref a from r)
    obtain ⟨its, rv, ht, _⟩ := I.tuple (SqT.same h zh)
    obtain ⟨as, ra⟩ := Reps.reads I zh q rv hc
    obtain ⟨o, e, c, n, dd⟩ := ht
    exact ⟨_, reads_tuple_at e c dd (by simpa using ra)⟩
  | _, _, u, .lst (a := a) h q, r, hc => by
    cases (show u = Value.ref a from r)
    obtain ⟨its, rv, ht, _⟩ := I.list (SqL.same h zh)
    obtain ⟨as, ra⟩ := Reps.reads I zh q rv hc
    obtain ⟨o, n, e, c, _, dd⟩ := ht
    exact ⟨_, reads_list_at e c dd (by simpa using ra)⟩
  | _, _, u, .opq h, r, hc => by cases hc
theorem Reps.reads {X : Cx} {pins : List (Addr × Obj)} {σ : St} {H Z : Hp} {s : Shared} (I : Inv X pins σ H s) (zh : Same Z H) : ∀ {vs : List V} {ds : List D} {us : List Value}, Reps X.K Z vs ds → Vals vs us → PyData.canLayAll0 ds = true → ∃ as, ReadsAll s.heap us ds as
  | _, _, _, .nil, .nil, _ => ⟨_, .nil⟩
  | _, _, _, .cons h q, .cons r t, hc => by
    have hc' := Bool.and_eq_true_iff.mp hc
    obtain ⟨as, ha⟩ := Rep.reads I zh h r hc'.1
    obtain ⟨bs, hb⟩ := Reps.reads I zh q t hc'.2
    exact ⟨_, .cons ha hb⟩
end

/-! ### what is new -/
structure New (Z H Z' H' : Hp) : Prop where
  z : Same Z Z'
  h : Same H H'
  zh : Same Z' H'
  o : ∀ b, H b ≠ none → Z' b = Z b
theorem New.refl {Z H : Hp} (zh : Same Z H) : New Z H Z H := ⟨Same.refl _, Same.refl _, zh, fun _ _ => rfl⟩
theorem New.trans {Z H Z1 H1 Z2 H2 : Hp} (a : New Z H Z1 H1) (b : New Z1 H1 Z2 H2) : New Z H Z2 H2 :=
  ⟨a.z.trans b.z, a.h.trans b.h, b.zh, fun c hc => by
    have : H1 c ≠ none := by
      cases e : H c with
      | none => exact absurd e hc
      | some o => rw [a.h c o e]; intro z; cases z
    rw [b.o c this, a.o c hc]⟩
theorem same_upd {H : Hp} {p : Addr} {o : HO} (h : H p = none) : Same H (upd H p o) := fun b u e => by
  rw [upd_ne (ne_of_none e h)]; exact e
theorem free_of {Z H : Hp} (zh : Same Z H) {p : Addr} (h : H p = none) : Z p = none := by
  cases e : Z p with
  | none => rfl
  | some o => rw [zh p o e] at h; cases h
/-- a new object, known for good -/
theorem New.add {Z H : Hp} (zh : Same Z H) {p : Addr} (hp : H p = none) (o : HO) : New Z H (upd Z p o) (upd H p o) where
  z := same_upd (free_of zh hp)
  h := same_upd hp
  zh := fun b u e => by
    by_cases hb : b = p
    · subst hb; rw [upd_same] at e ⊢; exact e
    · rw [upd_ne hb] at e ⊢; exact zh b u e
  o := fun b hb => by
    have : b ≠ p := fun z => hb (z ▸ hp)
    rw [upd_ne this]

/-! ### slots -/

structure Hold (K : Fg) (H₀ Z₀ Z : Hp) (δ : Dv) (σ : St) (H : Hp) : Prop where
  zh : Same Z H
  h0 : Same H₀ H
  z0 : Same Z₀ Z
  zb : ∀ b, H₀ b ≠ none → Z b = Z₀ b
  len : δ.length = σ.length
  fz : ∀ (i : Nat) d, δ[i]? = some (.fz d) → ∃ v, σ[i]? = some (some v) ∧ Rep K Z v d
  ow : ∀ (i : Nat) ds, δ[i]? = some (.ow ds) → ∃ a xs, σ[i]? = some (some (.ref a)) ∧ H₀ a = none ∧ Z a = none ∧ H a = some (.lst xs) ∧ Reps K Z xs ds
  dj : ∀ (i j : Nat) ds es a, i ≠ j → δ[i]? = some (.ow ds) → δ[j]? = some (.ow es) → σ[i]? = some (some (.ref a)) → σ[j]? ≠ some (some (V.ref a))
section
variable {K : Fg} {H₀ Z₀ Z Z' H H' : Hp} {δ : Dv} {σ : St}
theorem Hold.new (h : Hold K H₀ Z₀ Z δ σ H) (n : New Z H Z' H') : Hold K H₀ Z₀ Z' δ σ H' where
  zh := n.zh
  h0 := h.h0.trans n.h
  z0 := h.z0.trans n.z
  zb := fun b hb => by
    have : H b ≠ none := by
      cases e : H₀ b with
      | none => exact absurd e hb
      | some o => rw [h.h0 b o e]; intro z; cases z
    rw [n.o b this, h.zb b hb]
  len := h.len
  fz := fun i d e => let ⟨v, a, r⟩ := h.fz i d e; ⟨v, a, r.same n.z⟩
  ow := fun i ds e => by
    obtain ⟨a, xs, h1, h2, h3, h4, h5⟩ := h.ow i ds e
    exact ⟨a, xs, h1, h2, by rw [n.o a (by rw [h4]; intro z; cases z)]; exact h3, n.h a _ h4, h5.same n.z⟩
  dj := h.dj
/-- a name is given a known value -/
theorem Hold.set (h : Hold K H₀ Z₀ Z δ σ H) {i : Nat} {v : V} {d : D} (r : Rep K Z v d) : Hold K H₀ Z₀ Z (δ.set i (.fz d)) (σ.set i (some v)) H where
  zh := h.zh
  h0 := h.h0
  z0 := h.z0
  zb := h.zb
  len := by simp [h.len]
  fz := fun j e q => by
    by_cases hj : i = j
    · subst hj
      have hl : i < δ.length := by
        have := (List.getElem?_eq_some_iff.mp q).1
        simpa using this
      rw [List.getElem?_set_self hl] at q
      cases q
      exact ⟨v, List.getElem?_set_self (by rw [← h.len]; exact hl), r⟩
    · rw [List.getElem?_set_ne hj] at q
      obtain ⟨u, a, b⟩ := h.fz j e q
      exact ⟨u, by rw [List.getElem?_set_ne hj]; exact a, b⟩
  ow := fun j es q => by
    by_cases hj : i = j
    · subst hj
      have hl : i < δ.length := by
        have := (List.getElem?_eq_some_iff.mp q).1
        simpa using this
      rw [List.getElem?_set_self hl] at q
      cases q
    · rw [List.getElem?_set_ne hj] at q ⊢
      exact h.ow j es q
  dj := fun j k ds es a hjk q1 q2 => by
    by_cases hj : i = j
    · subst hj
      have hl : i < δ.length := by
        have := (List.getElem?_eq_some_iff.mp q1).1
        simpa using this
      rw [List.getElem?_set_self hl] at q1
      cases q1
    · by_cases hk : i = k
      · subst hk
        have hl : i < δ.length := by
          have := (List.getElem?_eq_some_iff.mp q2).1
          simpa using this
        rw [List.getElem?_set_self hl] at q2
        cases q2
      · rw [List.getElem?_set_ne hj] at q1
        rw [List.getElem?_set_ne hk] at q2
        rw [List.getElem?_set_ne hj, List.getElem?_set_ne hk]
        exact h.dj j k ds es a hjk q1 q2
/-- a name is given a new list of its own -/
theorem Hold.setO (h : Hold K H₀ Z₀ Z δ σ H) {i : Nat} {p : Addr} {xs : List V} {ds : List D} (hp : H p = none) (r : Reps K Z xs ds) : Hold K H₀ Z₀ Z (δ.set i (.ow ds)) (σ.set i (some (.ref p))) (upd H p (.lst xs)) where
  zh := h.zh.trans (same_upd hp)
  h0 := h.h0.trans (same_upd hp)
  z0 := h.z0
  zb := h.zb
  len := by simp [h.len]
  fz := fun j e q => by
    by_cases hj : i = j
    · subst hj
      have hl : i < δ.length := by
        have := (List.getElem?_eq_some_iff.mp q).1
        simpa using this
      rw [List.getElem?_set_self hl] at q
      cases q
    · rw [List.getElem?_set_ne hj] at q
      obtain ⟨u, a, b⟩ := h.fz j e q
      exact ⟨u, by rw [List.getElem?_set_ne hj]; exact a, b⟩
  ow := fun j es q => by
    by_cases hj : i = j
    · subst hj
      have hl : i < δ.length := by
        have := (List.getElem?_eq_some_iff.mp q).1
        simpa using this
      rw [List.getElem?_set_self hl] at q
      cases q
      exact ⟨p, xs, List.getElem?_set_self (by rw [← h.len]; exact hl), free_of h.h0 hp, free_of h.zh hp, upd_same, r⟩
    · rw [List.getElem?_set_ne hj] at q ⊢
      obtain ⟨a, ys, h1, h2, h3, h4, h5⟩ := h.ow j es q
      exact ⟨a, ys, h1, h2, h3, by rw [upd_ne (ne_of_none h4 hp)]; exact h4, h5⟩
  dj := fun j k ds es a hjk q1 q2 => by
    have old : ∀ {m : Nat} {fs : List D}, δ[m]? = some (.ow fs) → σ[m]? ≠ some (some (V.ref p)) := fun {m fs} q z => by
      obtain ⟨b, ys, h1, h2, h3, h4, h5⟩ := h.ow m fs q
      rw [h1] at z
      cases z
      rw [hp] at h4
      cases h4
    have hl : ∀ {m : Nat} {x : Sl}, (δ.set i x)[m]? ≠ none → m < σ.length := fun {m x} q => by
      have : m < (δ.set i x).length := by
        rcases Nat.lt_or_ge m (δ.set i x).length with g | g
        · exact g
        · exact absurd (List.getElem?_eq_none_iff.mpr g) q
      rw [← h.len]; simpa using this
    by_cases hj : i = j
    · subst hj
      have h1 : i < σ.length := hl (by rw [q1]; intro z; cases z)
      rw [List.getElem?_set_self h1]
      intro e
      cases e
      rw [List.getElem?_set_ne hjk] at q2 ⊢
      exact old q2
    · rw [List.getElem?_set_ne hj] at q1 ⊢
      by_cases hk : i = k
      · subst hk
        have h1 : i < σ.length := hl (by rw [q2]; intro z; cases z)
        intro e z
        rw [List.getElem?_set_self h1] at z
        cases z
        exact old q1 e
      · rw [List.getElem?_set_ne hk] at q2 ⊢
        exact h.dj j k ds es a hjk q1 q2
/-- a list of one's own is changed -/
theorem Hold.chg (h : Hold K H₀ Z₀ Z δ σ H) {i : Nat} {p : Addr} {xs ys : List V} {ds es : List D} (e : δ[i]? = some (.ow ds)) (ep : σ[i]? = some (some (.ref p))) (r : Reps K Z ys es) : Hold K H₀ Z₀ Z (δ.set i (.ow es)) σ (upd H p (.lst ys)) := by
  obtain ⟨a, zs, h1, h2, h3, h4, h5⟩ := h.ow i ds e
  rw [ep] at h1
  cases h1
  have hl : i < δ.length := (List.getElem?_eq_some_iff.mp e).1
  refine ⟨fun b o q => ?_, fun b o q => ?_, h.z0, h.zb, by simp [h.len], fun j d q => ?_, fun j d q => ?_, fun j k d1 d2 a hjk q1 q2 => ?_⟩
  · rw [upd_ne (ne_of_none q h3)]; exact h.zh b o q
  · rw [upd_ne (ne_of_none q h2)]; exact h.h0 b o q
  · by_cases hj : i = j
    · subst hj
      rw [List.getElem?_set_self hl] at q
      cases q
    · rw [List.getElem?_set_ne hj] at q
      exact h.fz j d q
  · by_cases hj : i = j
    · subst hj
      rw [List.getElem?_set_self hl] at q
      cases q
      exact ⟨p, ys, ep, h2, h3, upd_same, r⟩
    · rw [List.getElem?_set_ne hj] at q
      obtain ⟨b, ws, g1, g2, g3, g4, g5⟩ := h.ow j d q
      refine ⟨b, ws, g1, g2, g3, ?_, g5⟩
      have : b ≠ p := fun z => by subst z; exact h.dj i j ds d b hj e q ep g1
      rw [upd_ne this]; exact g4
  · have f : ∀ {m : Nat} {dm : List D}, (δ.set i (.ow es))[m]? = some (.ow dm) → ∃ dm', δ[m]? = some (.ow dm') := fun {m dm} q => by
      by_cases hm : i = m
      · subst hm; exact ⟨ds, e⟩
      · rw [List.getElem?_set_ne hm] at q; exact ⟨dm, q⟩
    obtain ⟨e1, g1⟩ := f q1
    obtain ⟨e2, g2⟩ := f q2
    exact h.dj j k e1 e2 a hjk g1 g2
/-- a list of one's own is known for good -/
theorem Hold.frz (h : Hold K H₀ Z₀ Z δ σ H) {i : Nat} {ds : List D} (e : δ[i]? = some (.ow ds)) : ∃ Z', Same Z Z' ∧ Hold K H₀ Z₀ Z' (δ.set i (.fz (.list ds))) σ H := by
  obtain ⟨a, xs, h1, h2, h3, h4, h5⟩ := h.ow i ds e
  have hl : i < δ.length := (List.getElem?_eq_some_iff.mp e).1
  have sz : Same Z (upd Z a (.lst xs)) := same_upd h3
  refine ⟨upd Z a (.lst xs), sz, fun b o q => ?_, h.h0, h.z0.trans sz, fun b hb => ?_, by simp [h.len], fun j d q => ?_, fun j d q => ?_, fun j k d1 d2 b hjk q1 q2 => ?_⟩
  · by_cases hb : b = a
    · subst hb; rw [upd_same] at q; cases q; exact h4
    · rw [upd_ne hb] at q; exact h.zh b o q
  · rw [upd_ne (fun z => hb (by rw [z]; exact h2))]; exact h.zb b hb
  · by_cases hj : i = j
    · subst hj
      rw [List.getElem?_set_self hl] at q
      cases q
      exact ⟨.ref a, h1, .lst (SqL.of upd_same) (h5.same sz)⟩
    · rw [List.getElem?_set_ne hj] at q
      obtain ⟨v, g1, g2⟩ := h.fz j d q
      exact ⟨v, g1, g2.same sz⟩
  · by_cases hj : i = j
    · subst hj
      rw [List.getElem?_set_self hl] at q
      cases q
    · rw [List.getElem?_set_ne hj] at q
      obtain ⟨b, ws, g1, g2, g3, g4, g5⟩ := h.ow j d q
      have : b ≠ a := fun z => by subst z; exact h.dj i j ds d b hj e q h1 g1
      exact ⟨b, ws, g1, g2, by rw [upd_ne this]; exact g3, g4, g5.same sz⟩
  · by_cases hj : i = j
    · subst hj
      rw [List.getElem?_set_self hl] at q1
      cases q1
    · by_cases hk : i = k
      · subst hk
        rw [List.getElem?_set_self hl] at q2
        cases q2
      · rw [List.getElem?_set_ne hj] at q1
        rw [List.getElem?_set_ne hk] at q2
        exact h.dj j k d1 d2 b hjk q1 q2
end

/-! ### readings by plain functions -/
def tV (K : Fg) (f : Dv → Option D) : TE := fun σ H Q => ∃ H₀ Z₀ Z δ d, Hold K H₀ Z₀ Z δ σ H ∧ f δ = some d ∧ ∀ v Z' H', Hold K H₀ Z₀ Z' δ σ H' → Same Z Z' → Rep K Z' v d → Q v H'
def tVT (K : Fg) (f : Dv → Option Bool) : TT := fun σ H Q => ∃ H₀ Z₀ Z δ b, Hold K H₀ Z₀ Z δ σ H ∧ f δ = some b ∧ ∀ Z' H', Hold K H₀ Z₀ Z' δ σ H' → Same Z Z' → Q b H'
def tVA (K : Fg) (f : Dv → Option (List D)) : TA := fun σ H Q => ∃ H₀ Z₀ Z δ ds, Hold K H₀ Z₀ Z δ σ H ∧ f δ = some ds ∧ ∀ vs Z' H', Hold K H₀ Z₀ Z' δ σ H' → Same Z Z' → Reps K Z' vs ds → Q vs H'
def Fl.to (K : Fg) (Z : Hp) (D : Ends) (σ : St) (H : Hp) : Fl → Prop
  | .nx => D.nx σ H
  | .bk => D.bk σ H
  | .ct => D.ct σ H
  | .rt d => ∀ v, Rep K Z v d → D.rt v H
def tVS (K : Fg) (f : Dv → Option (Fl × Dv)) : TS := fun D σ H => ∃ H₀ Z₀ Z δ r, Hold K H₀ Z₀ Z δ σ H ∧ f δ = some r ∧ ∀ σ' H' Z', Hold K H₀ Z₀ Z' r.2 σ' H' → Same Z Z' → r.1.to K Z' D σ' H'
def EV (X : Cx) (e : Expr) (f : Dv → Option D) : Prop := PE X e (tV X.K f)
def TV (X : Cx) (e : Expr) (f : Dv → Option Bool) : Prop := PT X e (tVT X.K f)
def AV (X : Cx) (es : List Expr) (f : Dv → Option (List D)) : Prop := PA X es (tVA X.K f)
def SV (X : Cx) (st : Stmt) (f : Dv → Option (Fl × Dv)) : Prop := PS X st (tVS X.K f)
def BV (X : Cx) (st : List Stmt) (f : Dv → Option (Fl × Dv)) : Prop := PSs X st (tVS X.K f)

theorem PE.imp {X : Cx} {e : Expr} {t t' : TE} (h : PE X e t) (i : ∀ σ H Q, t' σ H Q → t σ H Q) : PE X e t' := fun pins s σ H Q I hw => h pins s σ H Q I (i _ _ _ hw)
theorem PT.imp {X : Cx} {e : Expr} {t t' : TT} (h : PT X e t) (i : ∀ σ H Q, t' σ H Q → t σ H Q) : PT X e t' := fun pins s σ H Q I hw => h pins s σ H Q I (i _ _ _ hw)
theorem PA.imp {X : Cx} {es : List Expr} {t t' : TA} (h : PA X es t) (i : ∀ σ H Q, t' σ H Q → t σ H Q) : PA X es t' := fun pos pins s σ H Q I hw => h pos pins s σ H Q I (i _ _ _ hw)
theorem PS.imp {X : Cx} {st : Stmt} {t t' : TS} (h : PS X st t) (i : ∀ D σ H, t' D σ H → t D σ H) : PS X st t' := fun pins s σ H D I hw => h pins s σ H D I (i _ _ _ hw)
theorem PSs.imp {X : Cx} {st : List Stmt} {t t' : TS} (h : PSs X st t) (i : ∀ D σ H, t' D σ H → t D σ H) : PSs X st t' := fun pins s σ H D I hw => h pins s σ H D I (i _ _ _ hw)
theorem OpR.imp {X : Cx} {f : Value → Value → Sem Value} {r r' : R2} (h : OpR X f r) (i : ∀ x y H Q, r' x y H Q → r x y H Q) : OpR X f r' := fun pins s σ H x y v u Q I rx ry q => h pins s σ H x y v u Q I rx ry (i _ _ _ _ q)
theorem CallR.imp {X : Cx} {f : Value} {r r' : List V → Hp → VK → Prop} (h : CallR X f r) (i : ∀ xs H Q, r' xs H Q → r xs H Q) : CallR X f r' := fun pins s σ H xs us Q I rx q => h pins s σ H xs us Q I rx (i _ _ _ q)

/-! ### operations on known values -/
def rD (K : Fg) (g : D → D → Option D) : R2 := fun x y H Q => ∃ Z a b d, Same Z H ∧ Rep K Z x a ∧ Rep K Z y b ∧ g a b = some d ∧ ∀ v Z' H', New Z H Z' H' → Rep K Z' v d → Q v H'
def rD1 (K : Fg) (g : D → Option D) : V → Hp → VK → Prop := fun x H Q => ∃ Z a d, Same Z H ∧ Rep K Z x a ∧ g a = some d ∧ ∀ v Z' H', New Z H Z' H' → Rep K Z' v d → Q v H'
def rDs (K : Fg) (g : List D → Option D) : List V → Hp → VK → Prop := fun xs H Q => ∃ Z as d, Same Z H ∧ Reps K Z xs as ∧ g as = some d ∧ ∀ v Z' H', New Z H Z' H' → Rep K Z' v d → Q v H'
def spD (K : Fg) (g : List D → Option D) : Sp := fun vs H Q _ => rDs K g vs H Q
section
variable {X : Cx} {a b c e : Expr} {es : List Expr} {pos p : Pos} {f f1 f2 f3 : Dv → Option D} {fs : Dv → Option (List D)} {ft fu : Dv → Option Bool}
theorem bind_some {α β : Type} {o : Option α} {k : α → Option β} {r : β} (h : o.bind k = some r) : ∃ a, o = some a ∧ k a = some r := by
  cases o with
  | none => cases h
  | some a => exact ⟨a, rfl, h⟩
/-- two in a row -/
theorem two {K : Fg} {g : D → D → Option D} {σ : St} {H : Hp} {Q : VK} {r : R2} (hr : ∀ x y H Q, rD K g x y H Q → r x y H Q) (h : tV K (o2 f1 f2 g) σ H Q) : tOp r (tV K f1) (tV K f2) σ H Q := by
  obtain ⟨H₀, Z₀, Z, δ, d, hh, e, k⟩ := h
  obtain ⟨x, e1, e⟩ := bind_some e
  obtain ⟨y, e2, e⟩ := bind_some e
  refine ⟨H₀, Z₀, Z, δ, x, hh, e1, fun v Z1 H1 hh1 s1 r1 => ⟨H₀, Z₀, Z1, δ, y, hh1, e2, fun u Z2 H2 hh2 s2 r2 => hr _ _ _ _ ⟨Z2, x, y, d, hh2.zh, r1.same s2, r2, e, fun w Z3 H3 n r3 => ?_⟩⟩⟩
  exact k w Z3 H3 (hh2.new n) ((s1.trans s2).trans n.z) r3
theorem ev_op {op : Operator} {g : D → D → Option D} (ho : OpR X (binaryOp op) (rD X.K g)) (ha : EV X a f1) (hb : EV X b f2) : EV X (.BinOp a op b pos) (o2 f1 f2 g) :=
  PE.imp (pe_op ho ha hb) fun _ _ _ h => two (fun _ _ _ _ q => q) h
theorem ev_un {op : UnaryOp} {g : D → Option D} (ho : UnR X (unaryOp op) (rD1 X.K g)) (ha : EV X a f) : EV X (.UnaryOp op a pos) (o1 f g) :=
  PE.imp (pe_un ho ha) fun σ H Q h => by
    obtain ⟨H₀, Z₀, Z, δ, d, hh, e, k⟩ := h
    obtain ⟨x, e1, e⟩ := bind_some e
    exact ⟨H₀, Z₀, Z, δ, x, hh, e1, fun v Z1 H1 hh1 s1 r1 => ⟨Z1, x, d, hh1.zh, r1, e, fun w Z3 H3 n r3 => k w Z3 H3 (hh1.new n) (s1.trans n.z) r3⟩⟩
theorem ev_cmp {op : CmpOp} {g : D → D → Option D} (ho : OpR X (compareOp op) (rD X.K g)) (ha : EV X a f1) (hb : EV X b f2) (hm : behindInMarks op b = false) : EV X (.Compare a [op] [b] pos) (o2 f1 f2 g) :=
  PE.imp (pe_cmpR ho ha hb hm) fun _ _ _ h => two (fun _ _ _ _ q => q) h
/-- a value's bool -/
theorem asB_eq {d : D} {b : Bool} (h : asB d = some b) : d = .bool b := by
  cases d <;> simp [asB] at h
  subst h; rfl
theorem toB {K : Fg} {σ : St} {H : Hp} {Q : Bool → Hp → Prop} (h : tVT K (ob f) σ H Q) : tV K f σ H fun x H1 => ∃ c, x = .bl c ∧ Q c H1 := by
  obtain ⟨H₀, Z₀, Z, δ, d, hh, e, k⟩ := h
  obtain ⟨x, e1, e⟩ := bind_some e
  have := asB_eq e
  subst this
  exact ⟨H₀, Z₀, Z, δ, _, hh, e1, fun v Z1 H1 hh1 s1 r1 => ⟨_, r1.bl_eq, k Z1 H1 hh1 s1⟩⟩
theorem tv_cmp {op : CmpOp} {g : D → D → Option D} (ho : OpR X (compareOp op) (rD X.K g)) (ha : EV X a f1) (hb : EV X b f2) (hm : behindInMarks op b = false) : TV X (.Compare a [op] [b] pos) (ob (o2 f1 f2 g)) :=
  PT.imp (pt_cmpR ho ha hb hm) fun σ H Q h => by
    have h' := toB h
    exact two (f1 := f1) (f2 := f2) (g := g) (fun _ _ _ _ q => q) h'
theorem tv_val (ha : EV X a f) (he : ∀ whole, isTrue a X.env whole = (do let v ← whole; standAt a.pos; holding [v] (truthy v)) := by intro _; rfl) : TV X a (ob f) :=
  PT.imp (pt_val ha he) fun _ _ _ h => toB h
def WV (X : Cx) (e : Expr) (f : Dv → Option Bool) : Prop := PW X e (tVT X.K f)
theorem PW.imp {X : Cx} {e : Expr} {t t' : TT} (h : PW X e t) (i : ∀ σ H Q, t' σ H Q → t σ H Q) : PW X e t' := fun whole pins s σ H Q I hw => h whole pins s σ H Q I (i _ _ _ hw)
theorem wv_and1 (ha : TV X a ft) : WV X (.BoolOp .And [a] pos) ft := pw_and1 ha
theorem wv_or1 (ha : TV X a ft) : WV X (.BoolOp .Or [a] pos) ft := pw_or1 ha
theorem wv_and {rest : List Expr} (ha : TV X a ft) (hb : WV X (.BoolOp .And (b :: rest) pos) fu) : WV X (.BoolOp .And (a :: b :: rest) pos) (oAnd ft fu) :=
  PW.imp (pw_and ha hb) fun σ H Q h => by
    obtain ⟨H₀, Z₀, Z, δ, d, hh, e, k⟩ := h
    obtain ⟨x, e1, e⟩ := bind_some e
    refine ⟨H₀, Z₀, Z, δ, x, hh, e1, fun Z1 H1 hh1 s1 => ?_⟩
    cases x with
    | true => exact ⟨H₀, Z₀, Z1, δ, d, hh1, e, fun Z2 H2 hh2 s2 => k Z2 H2 hh2 (s1.trans s2)⟩
    | false => cases e; exact k Z1 H1 hh1 s1
theorem wv_or {rest : List Expr} (ha : TV X a ft) (hb : WV X (.BoolOp .Or (b :: rest) pos) fu) : WV X (.BoolOp .Or (a :: b :: rest) pos) (oOr ft fu) :=
  PW.imp (pw_or ha hb) fun σ H Q h => by
    obtain ⟨H₀, Z₀, Z, δ, d, hh, e, k⟩ := h
    obtain ⟨x, e1, e⟩ := bind_some e
    refine ⟨H₀, Z₀, Z, δ, x, hh, e1, fun Z1 H1 hh1 s1 => ?_⟩
    cases x with
    | true => cases e; exact k Z1 H1 hh1 s1
    | false => exact ⟨H₀, Z₀, Z1, δ, d, hh1, e, fun Z2 H2 hh2 s2 => k Z2 H2 hh2 (s1.trans s2)⟩
theorem WV.tv (h : WV X a ft) : TV X a ft := PW.pt h
theorem tv_not (ha : TV X a ft) : TV X (.UnaryOp .Not a pos) (oNot ft) :=
  PT.imp (pt_not ha) fun σ H Q h => by
    obtain ⟨H₀, Z₀, Z, δ, d, hh, e, k⟩ := h
    cases e1 : ft δ with
    | none => unfold oNot at e; rw [e1] at e; cases e
    | some x =>
      unfold oNot at e
      rw [e1] at e
      cases e
      exact ⟨H₀, Z₀, Z, δ, x, hh, e1, fun Z1 H1 hh1 s1 => k Z1 H1 hh1 s1⟩
/-- and, or, not as values (bools) -/
theorem ev_one {op} (h : EV X a f) : EV X (.BoolOp op [a] pos) f := pe_one h
theorem ev_and {rest : List Expr} (ha : EV X a f1) (hb : EV X (.BoolOp .And (b :: rest) pos) f2) : EV X (.BoolOp .And (a :: b :: rest) pos) (oAndV f1 f2) :=
  PE.imp (pe_and ha hb) fun σ H Q h => by
    obtain ⟨H₀, Z₀, Z, δ, d, hh, e, k⟩ := h
    obtain ⟨x, e1, e⟩ := bind_some e
    obtain ⟨c, e2, e⟩ := bind_some e
    have := asB_eq e2
    subst this
    refine ⟨H₀, Z₀, Z, δ, _, hh, e1, fun v Z1 H1 hh1 s1 r1 => ⟨c, r1.bl_eq, ?_⟩⟩
    cases c with
    | true => exact ⟨H₀, Z₀, Z1, δ, d, hh1, e, fun v Z2 H2 hh2 s2 r2 => k v Z2 H2 hh2 (s1.trans s2) r2⟩
    | false => cases e; exact k _ Z1 H1 hh1 s1 (.bl false)
theorem ev_or {rest : List Expr} (ha : EV X a f1) (hb : EV X (.BoolOp .Or (b :: rest) pos) f2) : EV X (.BoolOp .Or (a :: b :: rest) pos) (oOrV f1 f2) :=
  PE.imp (pe_or ha hb) fun σ H Q h => by
    obtain ⟨H₀, Z₀, Z, δ, d, hh, e, k⟩ := h
    obtain ⟨x, e1, e⟩ := bind_some e
    obtain ⟨c, e2, e⟩ := bind_some e
    have := asB_eq e2
    subst this
    refine ⟨H₀, Z₀, Z, δ, _, hh, e1, fun v Z1 H1 hh1 s1 r1 => ⟨c, r1.bl_eq, ?_⟩⟩
    cases c with
    | true => cases e; exact k _ Z1 H1 hh1 s1 (.bl true)
    | false => exact ⟨H₀, Z₀, Z1, δ, d, hh1, e, fun v Z2 H2 hh2 s2 r2 => k v Z2 H2 hh2 (s1.trans s2) r2⟩
theorem ev_not (ha : EV X a f) : EV X (.UnaryOp .Not a pos) (o1 f notD) :=
  PE.imp (pe_not ha) fun σ H Q h => by
    obtain ⟨H₀, Z₀, Z, δ, d, hh, e, k⟩ := h
    obtain ⟨x, e1, e⟩ := bind_some e
    cases e2 : asB x with
    | none => unfold notD at e; rw [e2] at e; cases e
    | some c =>
      unfold notD at e
      rw [e2] at e
      cases e
      have := asB_eq e2
      subst this
      exact ⟨H₀, Z₀, Z, δ, _, hh, e1, fun v Z1 H1 hh1 s1 r1 => ⟨c, r1.bl_eq, k _ Z1 H1 hh1 s1 (.bl _)⟩⟩
theorem ev_ifx (hc : TV X c ft) (ha : EV X a f1) (hb : EV X b f2) : EV X (.IfExp c a b pos) (oIf ft f1 f2) :=
  PE.imp (pe_ifExp hc ha hb) fun σ H Q h => by
    obtain ⟨H₀, Z₀, Z, δ, d, hh, e, k⟩ := h
    obtain ⟨x, e1, e⟩ := bind_some e
    refine ⟨H₀, Z₀, Z, δ, x, hh, e1, fun Z1 H1 hh1 s1 => ?_⟩
    cases x with
    | true => exact ⟨H₀, Z₀, Z1, δ, d, hh1, e, fun v Z2 H2 hh2 s2 r2 => k v Z2 H2 hh2 (s1.trans s2) r2⟩
    | false => exact ⟨H₀, Z₀, Z1, δ, d, hh1, e, fun v Z2 H2 hh2 s2 r2 => k v Z2 H2 hh2 (s1.trans s2) r2⟩

/-! ### names, constants, argument lists, displays -/
theorem oV_eq {i : Nat} {δ : Dv} {d : D} (h : oV i δ = some d) : δ[i]? = some (.fz d) := by
  unfold oV at h
  cases q : δ[i]? with
  | none => rw [q] at h; cases h
  | some x =>
    rw [q] at h
    cases x with
    | fz e => cases h; rfl
    | un => cases h
    | ow _ => cases h
theorem ev_var (i : Nat) {x : Str} (hN : X.N[i]? = some x := by rfl) (hv : Vis X.env.scope x := by first | exact Or.inl rfl | exact Or.inr (Or.inl rfl) | exact Or.inr (Or.inr rfl)) (hd : (x == ("__debug__" : Str)) = false := by decide) (hcd : (x == ("__classdict__" : Str)) = false := by decide) :
    EV X (.Name x pos) (oV i) :=
  PE.imp (pe_var hN hv hd hcd) fun σ H Q h => by
    obtain ⟨H₀, Z₀, Z, δ, d, hh, e, k⟩ := h
    obtain ⟨v, q, r⟩ := hh.fz i d (oV_eq e)
    exact ⟨v, q, k v Z H hh (Same.refl _) r⟩
theorem ev_c {d : D} {v : V} (h : PE X e (tC v)) (r : ∀ Z, Rep X.K Z v d) : EV X e (oC d) :=
  PE.imp h fun σ H Q h => by
    obtain ⟨H₀, Z₀, Z, δ, d', hh, e, k⟩ := h
    cases e
    exact k v Z H hh (Same.refl _) (r Z)
theorem ev_int {i j} : EV X (.Constant (.int i) j pos) (oC (.int i)) := ev_c pe_int fun _ => .int i
theorem ev_bl {i j} : EV X (.Constant (.bool i) j pos) (oC (.bool i)) := ev_c pe_bl fun _ => .bl i
theorem ev_non {j} : EV X (.Constant .none j pos) (oC .none) := ev_c pe_non fun _ => .non
theorem ev_str {i j} : EV X (.Constant (.str i) j pos) (oC (.str i)) := ev_c pe_str fun _ => .str i
theorem av_nil : AV X [] oNil :=
  PA.imp pa_nil fun σ H Q h => by
    obtain ⟨H₀, Z₀, Z, δ, d, hh, e, k⟩ := h
    cases e
    exact k [] Z H hh (Same.refl _) .nil
theorem av_cons (ha : EV X e f) (hr : AV X es fs) (hs : starEach (e :: es) X.env = (false, eval e X.env) :: starEach es X.env := by rfl) : AV X (e :: es) (oCons f fs) :=
  PA.imp (pa_cons ha hr hs) fun σ H Q h => by
    obtain ⟨H₀, Z₀, Z, δ, d, hh, e, k⟩ := h
    obtain ⟨x, e1, e⟩ := bind_some e
    obtain ⟨xs, e2, e⟩ := bind_some e
    cases e
    exact ⟨H₀, Z₀, Z, δ, x, hh, e1, fun v Z1 H1 hh1 s1 r1 => ⟨H₀, Z₀, Z1, δ, xs, hh1, e2, fun vs Z2 H2 hh2 s2 r2 => k _ Z2 H2 hh2 (s1.trans s2) (.cons (r1.same s2) r2)⟩⟩
theorem ev_tup {x1} (h : AV X es fs) : EV X (.Tuple es x1 pos) (os fs tupD) :=
  PE.imp (pe_tup h) fun σ H Q h => by
    obtain ⟨H₀, Z₀, Z, δ, d, hh, e, k⟩ := h
    obtain ⟨xs, e1, e⟩ := bind_some e
    refine ⟨H₀, Z₀, Z, δ, xs, hh, e1, fun vs Z1 H1 hh1 s1 r1 => ?_⟩
    by_cases hl : xs.length ≤ sizeLine
    · rw [tupD, if_pos hl] at e
      cases e
      refine ⟨by rw [r1.length]; exact hl, fun p hp => ?_⟩
      have n := New.add hh1.zh hp (.tup vs)
      exact k _ _ _ (hh1.new n) (s1.trans n.z) (.tup (SqT.of upd_same) (r1.same n.z))
    · rw [tupD, if_neg hl] at e; cases e
theorem ev_lst (h : AV X es fs) : EV X (.List es pos) (os fs lstD) :=
  PE.imp (pe_lst h) fun σ H Q h => by
    obtain ⟨H₀, Z₀, Z, δ, d, hh, e, k⟩ := h
    obtain ⟨xs, e1, e⟩ := bind_some e
    refine ⟨H₀, Z₀, Z, δ, xs, hh, e1, fun vs Z1 H1 hh1 s1 r1 => ?_⟩
    by_cases hl : xs.length ≤ sizeLine
    · rw [lstD, if_pos hl] at e
      cases e
      refine ⟨by rw [r1.length]; exact hl, fun p hp => ?_⟩
      have n := New.add hh1.zh hp (.lst vs)
      exact k _ _ _ (hh1.new n) (s1.trans n.z) (.lst (SqL.of upd_same) (r1.same n.z))
    · rw [lstD, if_neg hl] at e; cases e
/-! ### calls -/
theorem args {K : Fg} {g : List D → Option D} {σ : St} {H : Hp} {Q : VK} (h : tV K (os fs g) σ H Q) : tVA K fs σ H fun vs H1 => rDs K g vs H1 Q := by
  obtain ⟨H₀, Z₀, Z, δ, d, hh, e, k⟩ := h
  obtain ⟨xs, e1, e⟩ := bind_some e
  exact ⟨H₀, Z₀, Z, δ, xs, hh, e1, fun vs Z1 H1 hh1 s1 r1 => ⟨Z1, xs, d, hh1.zh, r1, e, fun w Z3 H3 n r3 => k w Z3 H3 (hh1.new n) (s1.trans n.z) r3⟩⟩
theorem ev_callB {x : Str} {id : String} {g : List D → Option D} (hc : CallR X (.builtin id) (rDs X.K g)) (hg : Gl X x) (hm : X.mg x = none) (hv : bootBuiltins x = some (.builtin id)) (ha : AV X (e :: es) fs) (hn : x ≠ "__name__" := by decide) (hdb : (x == ("__debug__" : Str)) = false := by decide)
    (he : starEach (e :: es) X.env = (false, eval e X.env) :: starEach es X.env := by rfl) (hpl : (backTo pos (starEach es X.env)).any (·.1) = false := by rfl) : EV X (.Call (.Name x p) (e :: es) [] pos) (os fs g) :=
  PE.imp (pe_callB hc hg hm hv ha hn hdb he hpl) fun _ _ _ h => args h
theorem ev_callTy {x : Str} {id : String} {g : List D → Option D} (hc : CallR X (.type id) (rDs X.K g)) (hg : Gl X x) (hm : X.mg x = none) (hv : bootBuiltins x = some (.type id)) (ha : AV X (e :: es) fs) (hn : x ≠ "__name__" := by decide) (hdb : (x == ("__debug__" : Str)) = false := by decide)
    (he : starEach (e :: es) X.env = (false, eval e X.env) :: starEach es X.env := by rfl) (hpl : (backTo pos (starEach es X.env)).any (·.1) = false := by rfl) : EV X (.Call (.Name x p) (e :: es) [] pos) (os fs g) :=
  PE.imp (pe_callTy hc hg hm hv ha hn hdb he hpl) fun _ _ _ h => args h
/-- a def of the text: dd the defaults that fill up (plain) -/
theorem ev_call {k : Nat} {fa : Addr} {fd : FuncData} {ps : List Str} {x : Str} {g : List D → Option D} {dd : List D} {dv : List V} {ds : List Value} (F : FnOk X.prog X.w X.K X.mg X.base CX0 k fa fd ps (spD X.K g)) (hr : Room k X.A) (hg : Gl X x) (hm : X.mg x = some (.ref fa)) (hk : PySem.W.keepIn X.K (.ref fa) = true)
    (hb : Binds X.K fd ps ds) (hd : Vals dv ds) (hdd : ∀ Z, Reps X.K Z dv dd) (hx : Passes CX0 X E0) (ha : AV X (e :: es) fs) (hdb : (x == ("__debug__" : Str)) = false := by decide) (he : starEach (e :: es) X.env = (false, eval e X.env) :: starEach es X.env := by rfl) (hpl : (backTo pos (starEach es X.env)).any (·.1) = false := by rfl) :
    EV X (.Call (.Name x p) (e :: es) [] pos) (os fs fun as => g (as ++ dd)) :=
  PE.imp (pe_call F hr hg hm hk hb hd hx ha hdb he hpl) fun σ H Q h => by
    obtain ⟨H₀, Z₀, Z, δ, xs, hh, e1, q⟩ := args h
    refine ⟨H₀, Z₀, Z, δ, xs, hh, e1, fun vs Z1 H1 hh1 s1 r1 => ?_⟩
    obtain ⟨Z2, as, d, zh, ra, eg, kk⟩ := q vs Z1 H1 hh1 s1 r1
    exact ⟨Z2, as ++ dd, d, zh, ra.append (hdd Z2), eg, kk⟩
/-! ### subscripts -/
theorem IxR.imp {r r' : R2} (h : IxR X r) (i : ∀ x y H Q, r' x y H Q → r x y H Q) : IxR X r' := fun value slice pins s σ H x y v u Q I rx ry q hs => h value slice pins s σ H x y v u Q I rx ry (i _ _ _ _ q) hs
theorem ev_ix {g : D → D → Option D} (ho : IxR X (rD X.K g)) (ha : EV X a f1) (hb : EV X b f2) (hs : PlainIx b) : EV X (.Subscript a b pos) (o2 f1 f2 g) :=
  PE.imp (pe_ix ho ha hb hs) fun _ _ _ h => two (fun _ _ _ _ q => q) h
end
end VL

set_option Elab.async false
set_option linter.all false
set_option maxRecDepth 100000
set_option maxHeartbeats 4000000
namespace VL
open PySem PySem.Spec PyProof.Rows L2
section
variable {X : Cx} {a b c e tg : Expr} {es : List Expr} {pos p : Pos} {f f1 f2 f3 : Dv → Option D} {fs : Dv → Option (List D)} {ft fu : Dv → Option Bool} {st : Stmt} {sts body : List Stmt} {s1 s2 : Dv → Option (Fl × Dv)}

/-! ### ints -/
theorem op_iI {F : Value → Value → Sem Value} {g : Int → Int → Int} (h : OpR X F (rI0 fun i j => .int (g i j))) : OpR X F (rD X.K (iI g)) :=
  OpR.imp h fun x y H Q q => by
    obtain ⟨Z, a, b, d, zh, ra, rb, e, k⟩ := q
    cases ra <;> cases rb <;> simp [iI] at e
    subst e
    exact ⟨_, _, rfl, rfl, k _ Z H (New.refl zh) (.int _)⟩
theorem op_iB {F : Value → Value → Sem Value} {g : Int → Int → Bool} (h : OpR X F (rI0 fun i j => .bl (g i j))) : OpR X F (rD X.K (iB g)) :=
  OpR.imp h fun x y H Q q => by
    obtain ⟨Z, a, b, d, zh, ra, rb, e, k⟩ := q
    cases ra <;> cases rb <;> simp [iB] at e
    subst e
    exact ⟨_, _, rfl, rfl, k _ Z H (New.refl zh) (.bl _)⟩
theorem op_iC {F : Value → Value → Sem Value} {P : Int → Int → Prop} {C : Int → Int → Bool} {g : Int → Int → Int} (h : OpR X F (rI P fun i j => .int (g i j))) (hc : ∀ i j, C i j = true → P i j) : OpR X F (rD X.K (iC C g)) :=
  OpR.imp h fun x y H Q q => by
    obtain ⟨Z, a, b, d, zh, ra, rb, e, k⟩ := q
    cases ra with
    | int i =>
      cases rb with
      | int j =>
        by_cases hh : C i j = true
        · simp only [iC, if_pos hh] at e
          cases e
          exact ⟨_, _, rfl, rfl, hc _ _ hh, k _ Z H (New.refl zh) (.int _)⟩
        · simp only [iC, if_neg hh] at e
          cases e
      | _ => simp [iC] at e
    | _ => simp [iC] at e
theorem d_sub : OpR X (binaryOp .Sub) (rD X.K subD) := op_iI op_sub
theorem d_mulI : OpR X (binaryOp .Mult) (rD X.K mulI) := op_iC (P := fun i j => IntMulOk i j) (opI fun _ _ _ _ _ _ _ hc q => mul_int q hc) fun i j h => of_decide_eq_true h
theorem d_div : OpR X (binaryOp .FloorDiv) (rD X.K divD) := op_iC op_fdiv fun i j h => (of_decide_eq_true h : 0 < j ∧ j < 1073741824)
theorem d_mod : OpR X (binaryOp .Mod) (rD X.K modD) := op_iC op_mod fun i j h => of_decide_eq_true h
theorem d_pow : OpR X (binaryOp .Pow) (rD X.K powD) := op_iC op_pow fun i j h => (of_decide_eq_true h : 0 ≤ j ∧ j ≤ 1000000 ∧ i.natAbs < 2 ^ 64)
theorem d_shl : OpR X (binaryOp .LShift) (rD X.K shlD) := op_iC (P := fun i j => 0 ≤ j ∧ (Builtin.Int.intBits i : Int) + j ≤ 2 ^ 27) (opI fun _ _ _ _ _ _ _ hc q => lshift_int hc.1 hc.2 q) fun i j h => of_decide_eq_true h
theorem d_shr : OpR X (binaryOp .RShift) (rD X.K shrD) := op_iC op_shr fun i j h => of_decide_eq_true h
theorem d_and : OpR X (binaryOp .BitAnd) (rD X.K andD) := op_iI op_and
theorem d_or : OpR X (binaryOp .BitOr) (rD X.K orD) := op_iI op_or
theorem d_xor : OpR X (binaryOp .BitXor) (rD X.K xorD) := op_iI op_xor
theorem d_lt : OpR X (compareOp .Lt) (rD X.K ltD) := op_iB op_lt
theorem d_le : OpR X (compareOp .LtE) (rD X.K leD) := op_iB op_le
theorem d_gt : OpR X (compareOp .Gt) (rD X.K gtD) := op_iB op_gt
theorem d_ge : OpR X (compareOp .GtE) (rD X.K geD) := op_iB op_ge
theorem d_neg : UnR X (unaryOp .USub) (rD1 X.K negD) := by
  intro pins s σ H x v Q I rx q
  obtain ⟨Z, a, d, zh, ra, e, k⟩ := q
  cases ra <;> simp [negD] at e
  subst e
  exact un_neg pins s σ H _ v Q I rx ⟨_, rfl, k _ Z H (New.refl zh) (.int _)⟩
/-! ### + -/
theorem d_add : OpR X (binaryOp .Add) (rD X.K addD) := by
  intro pins s σ H x y v u Q I rx ry q
  obtain ⟨Z, a, b, d, zh, ra, rb, e, k⟩ := q
  cases ra with
  | int i =>
    cases rb with
    | int j => simp only [addD] at e; cases e; exact op_add pins s σ H _ _ v u Q I rx ry ⟨_, _, rfl, rfl, k _ Z H (New.refl zh) (.int _)⟩
    | _ => simp [addD] at e
  | str i =>
    cases rb with
    | str j =>
      by_cases hl : i.length + j.length ≤ sizeLine
      · simp only [addD, if_pos hl] at e; cases e; exact op_add_str pins s σ H _ _ v u Q I rx ry ⟨_, _, rfl, rfl, hl, k _ Z H (New.refl zh) (.str _)⟩
      · simp only [addD, if_neg hl] at e; cases e
    | _ => simp [addD] at e
  | @tup a xs ds h1 q1 =>
    cases rb with
    | @tup b ys es h2 q2 =>
      by_cases hl : ds.length + es.length ≤ sizeLine
      · simp only [addD, if_pos hl] at e
        cases e
        by_cases h0 : ds.length = 0
        · have hd0 : ds = [] := List.eq_nil_of_length_eq_zero h0
          subst hd0
          cases q1
          cases rx
          cases ry
          obtain ⟨its, r1, p1, z1⟩ := I.tuple (SqT.same h1 zh)
          obtain ⟨its2, r2, p2, z2⟩ := I.tuple (SqT.same h2 zh)
          cases r1
          obtain ⟨⟨cls, dd, data, sl⟩, ho, hc, n, hd⟩ := id p1
          obtain ⟨⟨cls2, dd2, data2, sl2⟩, ho2, hc2, n2, hd2⟩ := id p2
          simp only at hc hd hc2 hd2
          subst hc hd hc2 hd2
          exact concat_meets ⟨_, ho, rfl⟩ ⟨_, ho2, rfl⟩ noFill_tuple_add seq_tuple_add PySem.F.slot_tuple_add PySem.F.entry_tuple_add (PySem.F.args_tuple_add_2 _ _)
            (tuple_addW0 a b _ its2.toArray n n2 dd dd2 sl sl2 (by simp)) ⟨ho, ho2, ⟨.ref b, H, I, rfl, k _ Z H (New.refl zh) (.tup h2 q2)⟩⟩
        refine op_catT pins s σ H _ _ v u Q I rx ry ⟨a, b, xs, ys, rfl, rfl, SqT.same h1 zh, SqT.same h2 zh, fun z => h0 (by rw [← q1.length, z]; rfl), by rw [q1.length, q2.length]; exact hl, fun z => ?_, fun z p hp => ?_⟩
        · subst z
          cases q2
          rw [List.append_nil] at k
          exact k _ Z H (New.refl zh) (.tup h1 q1)
        · have n := New.add zh hp (.tup (xs ++ ys))
          exact k _ _ _ n (.tup (SqT.of upd_same) ((q1.append q2).same n.z))
      · simp only [addD, if_neg hl] at e; cases e
    | _ => simp [addD] at e
  | @lst a xs ds h1 q1 =>
    cases rb with
    | @lst b ys es h2 q2 =>
      by_cases hl : ds.length + es.length ≤ sizeLine
      · simp only [addD, if_pos hl] at e
        cases e
        cases rx
        cases ry
        obtain ⟨its, r1, p1, z1⟩ := I.list (SqL.same h1 zh)
        obtain ⟨its2, r2, p2, z2⟩ := I.list (SqL.same h2 zh)
        obtain ⟨⟨cls, dd, data, sl⟩, n1, ho, hc, hdd, hd⟩ := p1
        obtain ⟨⟨cls2, dd2, data2, sl2⟩, n2, ho2, hc2, hdd2, hd2⟩ := p2
        simp only at hc hd hc2 hd2
        subst hc hd hc2 hd2
        have hl1 := r1.length
        have hl2 := r2.length
        have ql1 := q1.length
        have ql2 := q2.length
        refine concat_meets ⟨_, ho, rfl⟩ ⟨_, ho2, rfl⟩ noFill_list_add seq_list_add PySem.F.slot_list_add PySem.F.entry_list_add (PySem.F.args_list_add_2 _ _) (list_addW a b its.toArray its2.toArray n1 n2 dd dd2 sl sl2 (by simp; omega)) ⟨ho, ho2, ?_⟩
        have ea : its.toArray ++ its2.toArray = (its ++ its2).toArray := by simp
        rw [ea]
        have n := New.add zh I.fresh (.lst (xs ++ ys))
        exact ⟨.ref _, _, I.lnew (t' := s.toks) (r1.append r2) (by rw [List.length_append]; omega), rfl, k _ _ _ n (.lst (SqL.of upd_same) ((q1.append q2).same n.z))⟩
      · simp only [addD, if_neg hl] at e; cases e
    | _ => simp [addD] at e
  | _ => cases rb <;> simp [addD] at e

/-! ### == -/
theorem shp_lay {d : D} (h : shp d = true) : d.canLay0 = true := (Bool.and_eq_true_iff.mp h).1
theorem d_eq (hu : X.A.units + 64 < cLine) : OpR X (compareOp .Eq) (rD X.K eqD) := by
  intro pins s σ H x y v u Q I rx ry q
  obtain ⟨Z, a, b, d, zh, ra, rb, e, k⟩ := q
  by_cases hs : shp a = true ∧ shp b = true
  · rw [eqD, if_pos hs] at e
    cases e
    obtain ⟨as, r1⟩ := ra.reads I zh rx (shp_lay hs.1)
    obtain ⟨bs, r2⟩ := rb.reads I zh ry (shp_lay hs.2)
    exact eq_dataH r1 r2 hs.1 hs.2 hu ⟨.bl _, H, I, rfl, k _ Z H (New.refl zh) (.bl _)⟩
  · rw [eqD, if_neg hs] at e; cases e
theorem d_ne (hu : X.A.units + 64 < cLine) : OpR X (compareOp .NotEq) (rD X.K neD) := by
  intro pins s σ H x y v u Q I rx ry q
  obtain ⟨Z, a, b, d, zh, ra, rb, e, k⟩ := q
  by_cases hs : shp a = true ∧ shp b = true
  · rw [neD, if_pos hs] at e
    cases e
    obtain ⟨as, r1⟩ := ra.reads I zh rx (shp_lay hs.1)
    obtain ⟨bs, r2⟩ := rb.reads I zh ry (shp_lay hs.2)
    exact ne_dataH r1 r2 hs.1 hs.2 hu ⟨.bl _, H, I, rfl, k _ Z H (New.refl zh) (.bl _)⟩
  · rw [neD, if_neg hs] at e; cases e
theorem isN_eq {K : Fg} {Z : Hp} {v : V} {d : D} (r : Rep K Z v d) : decide (v = .non) = isN d := by cases r <;> rfl
theorem d_is : OpR X (compareOp .Is) (rD X.K isD) :=
  OpR.imp op_isN fun x y H Q q => by
    obtain ⟨Z, a, b, d, zh, ra, rb, e, k⟩ := q
    cases rb <;> simp [isD] at e
    subst e
    exact ⟨rfl, by rw [isN_eq ra]; exact k _ Z H (New.refl zh) (.bl _)⟩
theorem d_isnt : OpR X (compareOp .IsNot) (rD X.K isntD) :=
  OpR.imp op_notN fun x y H Q q => by
    obtain ⟨Z, a, b, d, zh, ra, rb, e, k⟩ := q
    cases rb <;> simp [isntD] at e
    subst e
    exact ⟨rfl, by rw [isN_eq ra]; exact k _ Z H (New.refl zh) (.bl _)⟩
/-! ### items -/
theorem Reps.at {K : Fg} {Z : Hp} {vs : List V} {ds : List D} {i : Int} {d : D} (r : Reps K Z vs ds) (h : atI ds i = some d) : ∃ v, atI vs i = some v ∧ Rep K Z v d := by
  unfold atI at h ⊢
  rw [r.length]
  obtain ⟨j, e, h⟩ := bind_some h
  obtain ⟨v, q, rr⟩ := r.get h
  exact ⟨v, by rw [e]; exact q, rr⟩
theorem d_ix : IxR X (rD X.K ixD) :=
  IxR.imp (ix_list.or ix_tup) fun x y H Q q => by
    obtain ⟨Z, a, b, d, zh, ra, rb, e, k⟩ := q
    cases ra with
    | lst h1 q1 =>
      cases rb with
      | int i =>
        obtain ⟨v, ev, rv⟩ := q1.at e
        exact .inl ⟨_, _, _, v, rfl, rfl, SqL.same h1 zh, ev, k v Z H (New.refl zh) rv⟩
      | _ => cases e
    | tup h1 q1 =>
      cases rb with
      | int i =>
        obtain ⟨v, ev, rv⟩ := q1.at e
        exact .inr ⟨_, _, _, v, rfl, rfl, SqT.same h1 zh, ev, k v Z H (New.refl zh) rv⟩
      | _ => cases e
    | _ => cases rb <;> cases e
/-! ### builtins -/
theorem c_len : CallR X (.builtin "len") (rDs X.K lenD) :=
  CallR.imp call_len fun xs H Q q => by
    obtain ⟨Z, as, d, zh, ra, e, k⟩ := q
    cases ra with
    | nil => cases e
    | cons r1 r2 =>
      cases r2 with
      | cons _ _ => cases r1 <;> cases e
      | nil =>
        cases r1 with
        | lst h1 q1 => cases e; exact ⟨_, _, rfl, .inl ⟨_, SqL.same h1 zh, rfl⟩, k _ Z H (New.refl zh) (by rw [q1.length]; exact .int _)⟩
        | tup h1 q1 => cases e; exact ⟨_, _, rfl, .inr ⟨_, SqT.same h1 zh, rfl⟩, k _ Z H (New.refl zh) (by rw [q1.length]; exact .int _)⟩
        | _ => cases e
theorem two_ints {K : Fg} {Z : Hp} {xs : List V} {as : List D} {d : D} {g : List D → Option D} {h : Int → Int → Int} (hg : ∀ as d, g as = some d → ∃ i j, as = [.int i, .int j] ∧ d = .int (h i j)) (r : Reps K Z xs as) (e : g as = some d) :
    ∃ i j, xs = [.int i, .int j] ∧ d = .int (h i j) := by
  obtain ⟨i, j, rfl, rfl⟩ := hg _ _ e
  cases r with
  | cons r1 r2 =>
    cases r2 with
    | cons r3 r4 =>
      cases r4
      exact ⟨i, j, by rw [r1.int_eq, r3.int_eq], rfl⟩
theorem c_min (hc : X.calm = true) : CallR X (.builtin "min") (rDs X.K minD) :=
  CallR.imp (call_min2 hc) fun xs H Q q => by
    obtain ⟨Z, as, d, zh, ra, e, k⟩ := q
    obtain ⟨i, j, rfl, rfl⟩ := two_ints (h := fun i j => if j < i then j else i) (fun as d h => by unfold minD at h; split at h <;> cases h; exact ⟨_, _, rfl, rfl⟩) ra e
    exact ⟨i, j, rfl, k _ Z H (New.refl zh) (.int _)⟩
theorem c_max (hc : X.calm = true) : CallR X (.builtin "max") (rDs X.K maxD) :=
  CallR.imp (call_max2 hc) fun xs H Q q => by
    obtain ⟨Z, as, d, zh, ra, e, k⟩ := q
    obtain ⟨i, j, rfl, rfl⟩ := two_ints (h := fun i j => if j > i then j else i) (fun as d h => by unfold maxD at h; split at h <;> cases h; exact ⟨_, _, rfl, rfl⟩) ra e
    exact ⟨i, j, rfl, k _ Z H (New.refl zh) (.int _)⟩
theorem c_int : CallR X (.type "int") (rDs X.K intD) :=
  CallR.imp call_int1 fun xs H Q q => by
    obtain ⟨Z, as, d, zh, ra, e, k⟩ := q
    cases ra with
    | nil => cases e
    | cons r1 r2 =>
      cases r2 with
      | cons _ _ => cases r1 <;> cases e
      | nil =>
        cases r1 with
        | int i => cases e; exact .inl ⟨_, rfl, k _ Z H (New.refl zh) (.int _)⟩
        | bl i => cases e; exact .inr ⟨_, rfl, k _ Z H (New.refl zh) (.int _)⟩
        | _ => cases e
theorem c_list : CallR X (.type "list") (rDs X.K listD) :=
  CallR.imp call_list_of fun xs H Q q => by
    obtain ⟨Z, as, d, zh, ra, e, k⟩ := q
    cases ra with
    | nil => cases e
    | cons r1 r2 =>
      cases r2 with
      | cons _ _ => cases r1 <;> cases e
      | nil =>
        cases r1 with
        | lst h1 q1 => cases e; exact ⟨_, _, rfl, .inl (SqL.same h1 zh), fun l hl => let n := New.add zh hl (.lst _); k _ _ _ n (.lst (SqL.of upd_same) (q1.same n.z))⟩
        | tup h1 q1 => cases e; exact ⟨_, _, rfl, .inr (SqT.same h1 zh), fun l hl => let n := New.add zh hl (.lst _); k _ _ _ n (.lst (SqL.of upd_same) (q1.same n.z))⟩
        | _ => cases e
theorem c_tuple : CallR X (.type "tuple") (rDs X.K tupleD) :=
  CallR.imp call_tuple_of fun xs H Q q => by
    obtain ⟨Z, as, d, zh, ra, e, k⟩ := q
    cases ra with
    | nil => cases e
    | cons r1 r2 =>
      cases r2 with
      | cons _ _ => cases r1 <;> cases e
      | nil =>
        cases r1 with
        | lst h1 q1 => cases e; exact ⟨_, _, rfl, .inl ⟨SqL.same h1 zh, fun l hl => let n := New.add zh hl (.tup _); k _ _ _ n (.tup (SqT.of upd_same) (q1.same n.z))⟩⟩
        | tup h1 q1 => cases e; exact ⟨_, _, rfl, .inr ⟨SqT.same h1 zh, k _ Z H (New.refl zh) (.tup h1 q1)⟩⟩
        | _ => cases e
/-- n.bit_length() -/
theorem mt_bits : MtR X "int.bit_length" (fun x xs H Q => ∃ i, x = .int i ∧ xs = [] ∧ Q (.int (Builtin.Int.intBits i)) H) := by
  intro pins s σ H x xs v us Q I rx rs q
  obtain ⟨i, rfl, rfl, q⟩ := q
  obtain ⟨t, rfl⟩ := rx
  cases rs
  exact call_int_bit_length ⟨.int _, H, I.tok _, ⟨_, rfl⟩, q⟩
theorem ev_bits {apos : Pos} (ha : EV X a f) (hbase : attributeBase a "bit_length" X.env (eval a X.env) = eval a X.env := by rfl) (hline : (apos.endLine == pos.line) = true := by rfl) : EV X (.Call (.Attribute a "bit_length" apos) [] [] pos) (o1 f bitsD) :=
  PE.imp (pe_bm0 PySem.F.plainAttrs_int PySem.F.slot_int_bit_length PySem.F.type_int_bit_length mt_bits ha hbase hline) fun σ H Q h => by
    obtain ⟨H₀, Z₀, Z, δ, d, hh, e, k⟩ := h
    obtain ⟨x, e1, e⟩ := bind_some e
    refine ⟨H₀, Z₀, Z, δ, x, hh, e1, fun v Z1 H1 hh1 s1 r1 => ?_⟩
    cases r1 <;> simp [bitsD] at e
    subst e
    exact ⟨rfl, _, rfl, rfl, k _ Z1 H1 hh1 s1 (.int _)⟩
/-! ### isinstance -/
theorem kit_ok (K : Fg) {t T : String} (ht : t = "NoneType" ∨ t = "bool" ∨ t = "int" ∨ t = "str" ∨ t = "list" ∨ t = "tuple") (hT : T = "int" ∨ T = "bool" ∨ T = "str" ∨ T = "list" ∨ T = "tuple") : PySem.W.kitOne K (.type t) (.type T) = some (isiB t T) := by
  rcases ht with rfl | rfl | rfl | rfl | rfl | rfl <;> rcases hT with rfl | rfl | rfl | rfl | rfl <;> rfl
theorem Rep.ty {K : Fg} {Z H : Hp} {v : V} {d : D} (zh : Same Z H) (r : Rep K Z v d) (hD : ¬isDct d = true) : (tyN d = "NoneType" ∨ tyN d = "bool" ∨ tyN d = "int" ∨ tyN d = "str" ∨ tyN d = "list" ∨ tyN d = "tuple") := by
  cases r <;> simp [tyN]
  exact absurd rfl hD
theorem isi_ok {pins : List (Addr × Obj)} {σ : St} {H Z : Hp} {s : Shared} {x : V} {u : Value} {d : D} {T : String} {A : Around} {E : Value → Shared → Prop} {Q : Value → Shared → Prop} (I : Inv X pins σ H s) (zh : Same Z H) (rx : RelV x u) (r : Rep X.K Z x d) (hD : ¬isDct d = true)
    (hT : T = "int" ∨ T = "bool" ∨ T = "str" ∨ T = "list" ∨ T = "tuple") (h : ∀ tk, Q (.bool (isiB (tyN d) T)) { s with toks := tk }) : wpAny (model X.prog X.w) A (call (.builtin "isinstance") [u, .type T]) Q E s := by
  have ko := kit_ok X.K (Rep.ty zh r hD) hT
  cases r with
  | non => exact isinst_ok I rx (.non) ko h
  | bl b => exact isinst_ok I rx (.bl b) ko h
  | int b => exact isinst_ok I rx (.int b) ko h
  | str b => exact isinst_ok I rx (.str b) ko h
  | @tup a xs ds h1 q1 =>
    cases (show u = Value.ref a from rx)
    obtain ⟨its, _, p, _⟩ := I.tuple (SqT.same h1 zh)
    obtain ⟨o, h1, h2, _⟩ := p
    exact PySem.W.kia_one PySem.W.kitx_tuple I.kIn ⟨o, h1, h2⟩ ko (fun z => nomatch z) h
  | @lst a xs ds h1 q1 =>
    cases (show u = Value.ref a from rx)
    obtain ⟨its, _, p, _⟩ := I.list (SqL.same h1 zh)
    obtain ⟨o, n, h1, h2, _⟩ := p
    exact PySem.W.kia_one PySem.W.kitx_list I.kIn ⟨o, h1, h2⟩ ko (fun z => nomatch z) h
  | opq h1 => exact absurd rfl hD
theorem c_isi (T : String) : CallR X (.builtin "isinstance") (fun xs H Q => ∃ x Z d r, xs = [x, .ty T] ∧ Same Z H ∧ Rep X.K Z x d ∧ isiD T d = some r ∧ ∃ b, r = .bool b ∧ Q (.bl b) H) := by
  intro pins s σ H xs us Q I rv h
  obtain ⟨x, Z, d, r, rfl, zh, rr, e, b, rfl, q⟩ := h
  obtain ⟨u, w', rfl, r1, r2⟩ := vals2 rv
  cases (show w' = Value.type T from r2)
  by_cases hD : isDct d = true
  · rw [isiD, if_pos hD] at e; cases e
  by_cases hT : T = "int" ∨ T = "bool" ∨ T = "str" ∨ T = "list" ∨ T = "tuple"
  · rw [isiD, if_neg hD, if_pos hT] at e
    cases e
    exact isi_ok I zh r1 rr hD hT fun tk => ⟨.bl _, H, I.tok _, rfl, q⟩
  · rw [isiD, if_neg hD, if_neg hT] at e; cases e
theorem ev_isi {x : Str} {T : String} {p2 : Pos} (hg : Gl X "isinstance") (hm : X.mg "isinstance" = none) (hgT : Gl X x) (hmT : X.mg x = none) (hvT : bootBuiltins x = some (.type T)) (hnT : x ≠ "__name__") (hdT : (x == ("__debug__" : Str)) = false) (ha : EV X a f)
    (he : starEach (a :: [.Name x p2]) X.env = (false, eval a X.env) :: starEach [.Name x p2] X.env := by rfl) (he2 : starEach ((.Name x p2) :: []) X.env = (false, eval (.Name x p2) X.env) :: starEach [] X.env := by rfl) (hpl : (backTo pos (starEach [.Name x p2] X.env)).any (·.1) = false := by rfl) :
    EV X (.Call (.Name "isinstance" p) [a, .Name x p2] [] pos) (o1 f (isiD T)) :=
  PE.imp (pe_callB (c_isi T) hg hm PyProof.Rows.boot_isinstance (pa_cons ha (pa_cons (pe_bltn (v := .ty T) hgT hmT hvT rfl hnT hdT) pa_nil he2) he) (by decide) (by decide) he hpl) fun σ H Q h => by
    obtain ⟨H₀, Z₀, Z, δ, d, hh, e, k⟩ := h
    obtain ⟨y, e1, e⟩ := bind_some e
    refine ⟨H₀, Z₀, Z, δ, y, hh, e1, fun v Z1 H1 hh1 s1 r1 => ⟨v, Z1, y, d, rfl, hh1.zh, r1, e, ?_⟩⟩
    have : ∃ b, d = .bool b := by
      unfold isiD at e
      split at e
      · cases e
      · split at e
        · cases e; exact ⟨_, rfl⟩
        · cases e
    obtain ⟨b, rfl⟩ := this
    exact ⟨b, rfl, k _ Z1 H1 hh1 s1 (.bl b)⟩
end
end VL

set_option Elab.async false
set_option linter.all false
set_option maxRecDepth 100000
set_option maxHeartbeats 4000000
namespace VL
open PySem PySem.Spec PyProof.Rows L2
section
variable {X : Cx} {a b c e tg iter : Expr} {es : List Expr} {pos p : Pos} {f f1 f2 f3 : Dv → Option D} {fs : Dv → Option (List D)} {ft fu : Dv → Option Bool} {st : Stmt} {sts body orelse : List Stmt} {s1 s2 s3 : Sf}

/-! ### statements -/
theorem sv_ret (he : EV X e f) : SV X (.Return (some e) pos) (sRet f) :=
  PS.imp (ps_ret he) fun D σ H h => by
    obtain ⟨H₀, Z₀, Z, δ, r, hh, e, k⟩ := h
    obtain ⟨x, e1, e⟩ := bind_some e
    cases e
    exact ⟨H₀, Z₀, Z, δ, x, hh, e1, fun v Z1 H1 hh1 s1 r1 => k σ H1 Z1 hh1 s1 v r1⟩
theorem sv_set (i : Nat) {x : Str} {pos' : Pos} (hN : X.N.Nodup) (he : EV X e f) (hi : X.N[i]? = some x := by rfl) (hx : Loc X.env.scope x := by first | exact Or.inl rfl | exact Or.inr rfl) (hs : swapsWith e (some (.Name x pos')) pos.line X.env = pure false := by rfl)
    (hf : X.fn x = true ∨ X.env.scope.names.lookup x = some .local := by first | exact .inl rfl | exact .inr rfl | assumption) : SV X (.Assign [.Name x pos'] e pos) (sSet i f) :=
  PS.imp (ps_set hN hi hx he hs hf) fun D σ H h => by
    obtain ⟨H₀, Z₀, Z, δ, r, hh, e, k⟩ := h
    obtain ⟨x, e1, e⟩ := bind_some e
    cases e
    exact ⟨H₀, Z₀, Z, δ, x, hh, e1, fun v Z1 H1 hh1 s1 r1 => k _ H1 Z1 (hh1.set r1) s1⟩
theorem sv_expr (he : EV X e f) (hs : swapsWith e none pos.line X.env = pure false := by rfl) : SV X (.Expr e pos) (sDrop f) :=
  PS.imp (ps_expr he hs) fun D σ H h => by
    obtain ⟨H₀, Z₀, Z, δ, r, hh, e, k⟩ := h
    obtain ⟨x, e1, e⟩ := bind_some e
    cases e
    exact ⟨H₀, Z₀, Z, δ, x, hh, e1, fun v Z1 H1 hh1 s1 r1 => k σ H1 Z1 hh1 s1⟩
theorem nx_ok {D : Ends} {σ : St} {H : Hp} {K : Fg} (h : tVS K sNx D σ H) : D.nx σ H := by
  obtain ⟨H₀, Z₀, Z, δ, r, hh, e, k⟩ := h
  cases e
  exact k σ H Z hh (Same.refl _)
theorem sv_pass : SV X (.Pass pos) sNx := PS.imp ps_pass fun D σ H h => nx_ok h
theorem sv_doc {x j pos pos'} : SV X (.Expr (.Constant (.str x) j pos) pos') sNx := PS.imp ps_doc fun D σ H h => nx_ok h
theorem sv_break : SV X (.Break pos) sBk := PS.imp ps_break fun D σ H h => by
  obtain ⟨H₀, Z₀, Z, δ, r, hh, e, k⟩ := h
  cases e
  exact k σ H Z hh (Same.refl _)
theorem sv_continue : SV X (.Continue pos) sCt := PS.imp ps_continue fun D σ H h => by
  obtain ⟨H₀, Z₀, Z, δ, r, hh, e, k⟩ := h
  cases e
  exact k σ H Z hh (Same.refl _)
theorem bv_nil : BV X [] sNx := PSs.imp pss_nil fun D σ H h => nx_ok h
theorem bv_cons (h1 : SV X st s1) (h2 : BV X sts s2) : BV X (st :: sts) (sSeq s1 s2) :=
  PSs.imp (pss_cons h1 h2) fun D σ H h => by
    obtain ⟨H₀, Z₀, Z, δ, r, hh, e, k⟩ := h
    obtain ⟨⟨fl, δ'⟩, e1, e⟩ := bind_some e
    refine ⟨H₀, Z₀, Z, δ, (fl, δ'), hh, e1, fun σ' H' Z' hh' s' => ?_⟩
    cases fl with
    | nx => exact ⟨H₀, Z₀, Z', δ', r, hh', e, fun σ2 H2 Z2 hh2 s2 => by
        have := k σ2 H2 Z2 hh2 (s'.trans s2)
        obtain ⟨fl, δ2⟩ := r
        cases fl <;> exact this⟩
    | bk => cases e; exact k σ' H' Z' hh' s'
    | ct => cases e; exact k σ' H' Z' hh' s'
    | rt d => cases e; exact k σ' H' Z' hh' s'
theorem bv_one (h1 : SV X st s1) : BV X [st] s1 := pss_one h1
theorem sv_if (hc : TV X c ft) (ha : BV X body s1) (hb : BV X orelse s2) : SV X (.If c body orelse pos) (sIf ft s1 s2) :=
  PS.imp (ps_if hc ha hb) fun D σ H h => by
    obtain ⟨H₀, Z₀, Z, δ, r, hh, e, k⟩ := h
    obtain ⟨x, e1, e⟩ := bind_some e
    refine ⟨H₀, Z₀, Z, δ, x, hh, e1, fun Z1 H1 hh1 t1 => ?_⟩
    cases x with
    | true => exact ⟨H₀, Z₀, Z1, δ, r, hh1, e, fun σ2 H2 Z2 hh2 t2 => k σ2 H2 Z2 hh2 (t1.trans t2)⟩
    | false => exact ⟨H₀, Z₀, Z1, δ, r, hh1, e, fun σ2 H2 Z2 hh2 t2 => k σ2 H2 Z2 hh2 (t1.trans t2)⟩
/-- a list of one's own is known for good from here -/
theorem fz_ok {K : Fg} (i : Nat) {D : Ends} {σ : St} {H : Hp} (h : tVS K (fun δ => s1 (dFz i δ)) D σ H) : tVS K s1 D σ H := by
  obtain ⟨H₀, Z₀, Z, δ, r, hh, e, k⟩ := h
  have e : s1 (dFz i δ) = some r := e
  unfold dFz at e
  split at e
  · rename_i ds q
    obtain ⟨Z1, t1, hh1⟩ := hh.frz q
    exact ⟨H₀, Z₀, Z1, _, r, hh1, e, fun σ2 H2 Z2 hh2 t2 => k σ2 H2 Z2 hh2 (t1.trans t2)⟩
  · exact ⟨H₀, Z₀, Z, _, r, hh, e, k⟩
theorem sv_fz (i : Nat) (h : SV X st s1) : SV X st (fun δ => s1 (dFz i δ)) := PS.imp h fun D σ H q => fz_ok i q

/-! ### targets -/
def tVG (K : Fg) (g : D → Dv → Option Dv) : TG := fun v σ H Q => ∃ H₀ Z₀ Z δ d δ', Hold K H₀ Z₀ Z δ σ H ∧ Rep K Z v d ∧ g d δ = some δ' ∧ ∀ σ' H' Z', Hold K H₀ Z₀ Z' δ' σ' H' → Same Z Z' → Q σ' H'
def GV (X : Cx) (tg : Expr) (g : D → Dv → Option Dv) : Prop := PG X tg (tVG X.K g)
theorem PG.imp {t t' : TG} (h : PG X tg t) (i : ∀ v σ H Q, t' v σ H Q → t v σ H Q) : PG X tg t' := fun pins s σ H x v Q I r q => h pins s σ H x v Q I r (i _ _ _ _ q)
theorem gv_name (i : Nat) {x : Str} (hN : X.N.Nodup) (hi : X.N[i]? = some x := by rfl) (hx : Loc X.env.scope x := by first | exact Or.inl rfl | exact Or.inr rfl)
    (hf : X.fn x = true ∨ X.env.scope.names.lookup x = some .local := by first | exact .inl rfl | exact .inr rfl | assumption) : GV X (.Name x pos) (gN i) :=
  PG.imp (pg_name hN hi hx hf) fun v σ H Q h => by
    obtain ⟨H₀, Z₀, Z, δ, d, δ', hh, r, e, k⟩ := h
    cases e
    exact k _ H Z (hh.set r) (Same.refl _)
/-! ### loops -/
structure ItOk (K : Fg) (Z : Hp) (J : It) (ds : List D) : Prop where
  go : ∀ (i : Nat) (H : Hp), Same Z H → i < ds.length → J.go i H
  yld : ∀ (i : Nat) (H : Hp) x H' d, Same Z H → ds[i]? = some d → J.yld i H x H' → H' = H ∧ Rep K Z x d
  stop : ∀ (i : Nat) (H : Hp), Same Z H → ds.length ≤ i → J.stop i H
def tVI (K : Fg) (f : Dv → Option (List D)) : TI := fun σ H R => ∃ H₀ Z₀ Z δ ds, Hold K H₀ Z₀ Z δ σ H ∧ f δ = some ds ∧ ∀ J Z' H', Hold K H₀ Z₀ Z' δ σ H' → Same Z Z' → ItOk K Z' J ds → R J H'
def IV (X : Cx) (tg iter : Expr) (f : Dv → Option (List D)) : Prop := PI X tg iter (tVI X.K f)
theorem PI.imp {t t' : TI} (h : PI X tg iter t) (i : ∀ σ H R, t' σ H R → t σ H R) : PI X tg iter t' := fun pins s σ H R I q => h pins s σ H R I (i _ _ _ q)
theorem sv_for {g : D → Dv → Option Dv} (hp : PassesOwn (model X.prog X.w) X.A X.env X.xe) (hc : X.calm = true) (hi : IV X tg iter fs) (hg : GV X tg g) (hb : BV X body s1)
    (hs : ∀ x, foldedSetIterable iter X.env x = pure x := by intro _; rfl) : SV X (.For tg iter body [] pos) (sFor fs g s1) :=
  PS.imp (ps_for hp hc hi hg hb hs) fun D σ H h => by
    obtain ⟨H₀, Z₀, Z, δ, r, hh, e, k⟩ := h
    obtain ⟨ds, e1, e⟩ := bind_some e
    refine ⟨H₀, Z₀, Z, δ, ds, hh, e1, fun J Z1 H1 hh1 t1 ok => ?_⟩
    refine ⟨fun i m σ H => m = ds.length - i ∧ i ≤ ds.length ∧ ∃ Zc δc, Hold X.K H₀ Z₀ Zc δc σ H ∧ Same Z1 Zc ∧ loop g s1 (ds.drop i) δc = some r, ⟨ds.length, by simp, Nat.zero_le _, Z1, δ, hh1, Same.refl _, e⟩, ?_⟩
    rintro i m σ2 H2 ⟨rfl, hi2, Zc, δc, hhc, tc, ec⟩
    have zh : Same Z1 H2 := tc.trans hhc.zh
    by_cases hlt : i < ds.length
    · refine .inr ⟨ok.go i H2 zh hlt, fun σ3 H3 => ∃ Zc δc, Hold X.K H₀ Z₀ Zc δc σ3 H3 ∧ Same Z1 Zc ∧ loop g s1 (ds.drop (i + 1)) δc = some r, fun σ3 H3 q => ⟨ds.length - (i + 1), by omega, rfl, hlt, q⟩, fun x H3 y => ?_⟩
      have ed : ds[i]? = some ds[i] := by simp [hlt]
      obtain ⟨rfl, rx⟩ := ok.yld i H2 x H3 _ zh ed y
      rw [List.drop_eq_getElem_cons hlt] at ec
      obtain ⟨δ1, g1, ec⟩ := bind_some ec
      obtain ⟨⟨fl, δ2⟩, g2, ec⟩ := bind_some ec
      refine ⟨H₀, Z₀, Zc, δc, _, δ1, hhc, rx.same tc, g1, fun σ4 H4 Z4 hh4 t4 => ⟨H₀, Z₀, Z4, δ1, (fl, δ2), hh4, g2, fun σ5 H5 Z5 hh5 t5 => ?_⟩⟩
      cases fl with
      | nx => exact ⟨Z5, δ2, hh5, (tc.trans t4).trans t5, ec⟩
      | ct => exact ⟨Z5, δ2, hh5, (tc.trans t4).trans t5, ec⟩
      | bk => cases ec; exact k σ5 H5 Z5 hh5 (((t1.trans tc).trans t4).trans t5)
      | rt d => cases ec; exact k σ5 H5 Z5 hh5 (((t1.trans tc).trans t4).trans t5)
    · have e2 : ds.drop i = [] := List.drop_eq_nil_iff.mpr (by omega)
      rw [e2] at ec
      cases ec
      exact .inl ⟨ok.stop i H2 zh (by omega), k σ2 H2 Zc hhc (t1.trans tc)⟩
theorem sv_while (n : Dv → Nat) (hp : PassesOwn (model X.prog X.w) X.A X.env X.xe) (hc : TV X c ft) (hb : BV X body s1) : SV X (.While c body [] pos) (fun δ => wloop ft s1 (n δ) δ) :=
  PS.imp (ps_while hp hc hb) fun D σ H h => by
    obtain ⟨H₀, Z₀, Z, δ, r, hh, e, k⟩ := h
    refine ⟨fun m σ H => ∃ Zc δc, Hold X.K H₀ Z₀ Zc δc σ H ∧ Same Z Zc ∧ wloop ft s1 m δc = some r, ⟨n δ, Z, δ, hh, Same.refl _, e⟩, ?_⟩
    rintro m σ2 H2 ⟨Zc, δc, hhc, tc, ec⟩
    cases m with
    | zero => cases ec
    | succ m =>
      obtain ⟨cc, g1, ec⟩ := bind_some ec
      refine ⟨H₀, Z₀, Zc, δc, cc, hhc, g1, fun Z3 H3 hh3 t3 => ?_⟩
      cases cc with
      | false => cases ec; exact k σ2 H3 Z3 hh3 (tc.trans t3)
      | true =>
        obtain ⟨⟨fl, δ2⟩, g2, ec⟩ := bind_some ec
        refine ⟨fun σ4 H4 => ∃ Zc δc, Hold X.K H₀ Z₀ Zc δc σ4 H4 ∧ Same Z Zc ∧ wloop ft s1 m δc = some r, fun σ4 H4 q => ⟨m, Nat.lt_succ_self m, q⟩, ?_⟩
        refine ⟨H₀, Z₀, Z3, δc, (fl, δ2), hh3, g2, fun σ5 H5 Z5 hh5 t5 => ?_⟩
        cases fl with
        | nx => exact ⟨Z5, δ2, hh5, (tc.trans t3).trans t5, ec⟩
        | ct => exact ⟨Z5, δ2, hh5, (tc.trans t3).trans t5, ec⟩
        | bk => cases ec; exact k σ5 H5 Z5 hh5 ((tc.trans t3).trans t5)
        | rt d => cases ec; exact k σ5 H5 Z5 hh5 ((tc.trans t3).trans t5)
/-! ### what is walked -/
theorem itok_rng {K : Fg} {Z : Hp} {lo : Int} {n : Nat} : ItOk K Z (Itr lo n) (rngL lo n) where
  go := fun i H _ h => by simpa [rngL, Itr] using h
  yld := fun i H x H' d _ e y => by
    obtain ⟨rfl, rfl⟩ := y
    refine ⟨rfl, ?_⟩
    unfold rngL at e
    rw [List.getElem?_map] at e
    cases q : (List.range n)[i]? with
    | none => rw [q] at e; cases e
    | some k =>
      rw [q] at e
      cases e
      have : k = i := by
        obtain ⟨h, h2⟩ := List.getElem?_eq_some_iff.mp q
        simpa using h2.symm
      subst this
      exact .int _
  stop := fun i H _ h => by simpa [rngL, Itr] using h
theorem iv_range1 (hg : Gl X "range") (hm : X.mg "range" = none) (ha : AV X [a] fs) (hs : starEach [a] X.env = [(false, eval a X.env)] := by rfl) : IV X tg (.Call (.Name "range" p) [a] [] pos) (oL fs rng1D) :=
  PI.imp (pi_range1 hg hm ha hs) fun σ H R h => by
    obtain ⟨H₀, Z₀, Z, δ, ds, hh, e, k⟩ := h
    obtain ⟨as, e1, e⟩ := bind_some e
    refine ⟨H₀, Z₀, Z, δ, as, hh, e1, fun vs Z1 H1 hh1 t1 r1 => ?_⟩
    unfold rng1D at e
    split at e
    · rename_i j
      split at e
      · rename_i hj
        cases e
        cases r1 with
        | cons q1 q2 =>
          cases q2
          exact ⟨j, by rw [q1.int_eq], hj.2, hj.1, k _ Z1 H1 hh1 t1 itok_rng⟩
      · cases e
    · cases e
theorem iv_range2 (hg : Gl X "range") (hm : X.mg "range" = none) (ha : AV X [a, b] fs) (hs : starEach [a, b] X.env = [(false, eval a X.env), (false, eval b X.env)] := by rfl) (hs2 : starEach [b] X.env = [(false, eval b X.env)] := by rfl) : IV X tg (.Call (.Name "range" p) [a, b] [] pos) (oL fs rng2D) :=
  PI.imp (pi_range2 hg hm ha hs hs2) fun σ H R h => by
    obtain ⟨H₀, Z₀, Z, δ, ds, hh, e, k⟩ := h
    obtain ⟨as, e1, e⟩ := bind_some e
    refine ⟨H₀, Z₀, Z, δ, as, hh, e1, fun vs Z1 H1 hh1 t1 r1 => ?_⟩
    unfold rng2D at e
    split at e
    · rename_i i j
      split at e
      · rename_i hj
        cases e
        cases r1 with
        | cons q1 q2 =>
          cases q2 with
          | cons q2 q3 =>
            cases q3
            exact ⟨i, j, by rw [q1.int_eq, q2.int_eq], ⟨hj.1.2, hj.1.1, hj.2.2, hj.2.1⟩, k _ Z1 H1 hh1 t1 itok_rng⟩
      · cases e
    · cases e
/-- a list or a tuple -/
theorem iv_list (ha : EV X a f) : IV X tg a (oI f lstI) :=
  PI.imp (pi_list ha) fun σ H R h => by
    obtain ⟨H₀, Z₀, Z, δ, ds, hh, e, k⟩ := h
    obtain ⟨y, e1, e⟩ := bind_some e
    refine ⟨H₀, Z₀, Z, δ, y, hh, e1, fun v Z1 H1 hh1 t1 r1 => ?_⟩
    cases r1 with
    | @lst l xs ds' h1 q1 =>
      cases e
      refine ⟨l, rfl, ⟨xs, SqL.same h1 hh1.zh⟩, k _ Z1 H1 hh1 t1 ⟨fun i H2 z hi => ?_, fun i H2 x H3 d z ed y => ?_, fun i H2 z hi => ⟨xs, SqL.same h1 z, by rw [q1.length]; exact hi⟩⟩⟩
      · have hi' : i < xs.length := by rw [q1.length]; exact hi
        exact ⟨xs, xs[i], SqL.same h1 z, by simp [hi']⟩
      · obtain ⟨rfl, y⟩ := y
        obtain ⟨v, ev, rv⟩ := q1.get ed
        have := y xs (SqL.same h1 z)
        rw [ev] at this
        cases this
        exact ⟨rfl, rv⟩
    | _ => cases e
theorem iv_tup (ha : EV X a f) : IV X tg a (oI f tupI) :=
  PI.imp (pi_tup ha) fun σ H R h => by
    obtain ⟨H₀, Z₀, Z, δ, ds, hh, e, k⟩ := h
    obtain ⟨y, e1, e⟩ := bind_some e
    refine ⟨H₀, Z₀, Z, δ, y, hh, e1, fun v Z1 H1 hh1 t1 r1 => ?_⟩
    cases r1 with
    | @tup l xs ds' h1 q1 =>
      cases e
      refine ⟨l, rfl, ⟨xs, SqT.same h1 hh1.zh⟩, k _ Z1 H1 hh1 t1 ⟨fun i H2 z hi => ?_, fun i H2 x H3 d z ed y => ?_, fun i H2 z hi => ⟨xs, SqT.same h1 z, by rw [q1.length]; exact hi⟩⟩⟩
      · have hi' : i < xs.length := by rw [q1.length]; exact hi
        exact ⟨xs, xs[i], SqT.same h1 z, by simp [hi']⟩
      · obtain ⟨rfl, y⟩ := y
        obtain ⟨v, ev, rv⟩ := q1.get ed
        have := y xs (SqT.same h1 z)
        rw [ev] at this
        cases this
        exact ⟨rfl, rv⟩
    | _ => cases e
end
/-! ### range(a, b, c) -/
def Itr3 (lo st : Int) (n : Nat) : It := ⟨fun i _ => i < n, fun i H x H' => H' = H ∧ x = .int (lo + i * st), fun i _ => n ≤ i⟩
theorem turn_range3 {P : Program} {w : World} {K : PySem.W.Frag} {tg : Expr} (it : Addr) (lo st : Int) (n : Nat) : Turn P w K tg (Itr3 lo st n) [it] it (fun i h => IsRangeIter h it (lo + (i : Nat) * st) ((n : Int) - (i : Nat)) st) where
  mem := by simp
  obj := fun i h st b hb => by
    have e : b = it := by simpa using hb
    subst e
    exact ⟨_, st, fun v z => by
      have z' : Data.fields _ = Data.cell v := z
      cases z'⟩
  keep := fun i h h' st k => k it (by simp) _ st
  item := by
    intro X hP hw hK hc i pins s σ H E I hf st' hg
    subst hP hw hK
    obtain ⟨f0, f1, f2, f3, f4, f5⟩ := hf it (by simp)
    have W := Walks.range (prog := X.prog) (w := X.w) (I.ok.hd hc) it lo st n
    refine W.item i s _ _ hg st' fun v h' tk hv st'' kk => ?_
    obtain ⟨t, rfl⟩ := hv
    have I1 : Inv X pins σ H { s with heap := h', toks := tk } := I.turned (fun b o hb e => kk b o (by simpa using hb) e) f0 f1 f3 f4 f5
    exact ⟨_, rfl, go_of (s := { s with heap := h', toks := tk }) (n := "range_iterator") st'' rfl rfl (by decide) ⟨.int (lo + i * st), H, I1, ⟨t, rfl⟩, ⟨rfl, rfl⟩, st'', fun b hb => (hf b hb).1⟩⟩
  done := by
    intro X hP hw hK hc i pins s σ H E I hf st' hg
    subst hP hw hK
    obtain ⟨f0, f1, f2, f3, f4, f5⟩ := hf it (by simp)
    exact wpAny_pyNext_range_end (I.ok.hd hc) st' (by have : n ≤ i := hg; omega) fun h' eb => ⟨rfl, I.turned (t' := s.toks) (fun b o hb e => eb b o hb e) f0 f1 f3 f4 f5⟩
  self := fun _ _ _ _ _ st h => wpAny_pyIter_rangeiter st h
theorem small_step {a b c : Int} (ha : -(2 ^ 40) ≤ a) (ha' : a < 2 ^ 40) (hb : -(2 ^ 40) ≤ b) (hb' : b < 2 ^ 40) (hc : 0 < c) (hc' : c < 2 ^ 20) : Builtin.Range.small a b c = true := by
  have h0 : 0 ≤ (b - a - 1) / c ∨ b - a - 1 < 0 := by
    rcases Int.lt_or_le (b - a - 1) 0 with h | h
    · exact .inr h
    · exact .inl (Int.ediv_nonneg h (by omega))
  have h1 : 0 ≤ b - a - 1 → (b - a - 1) / c ≤ b - a - 1 := fun h => Int.ediv_le_self _ h
  have h2 : 0 ≤ b - a - 1 → (b - a - 1) / c * c ≤ b - a - 1 := fun h => Int.ediv_mul_le _ (by omega)
  have hp : 0 ≤ (b - a - 1) / c → 0 ≤ (b - a - 1) / c * c := fun h => Int.mul_nonneg h (by omega)
  unfold Builtin.Range.small Builtin.Range.rangeSize
  simp only [Builtin.Range.rangeFitsLong, Bool.and_eq_true, Bool.or_eq_true, decide_eq_true_eq, beq_iff_eq, if_pos (show c > 0 from hc)]
  split <;> omega
section
variable {X : Cx} {a b c tg : Expr} {ta : TA} {p pos : Pos} {fs : Dv → Option (List D)}
theorem range_it3 {pins : List (Addr × Obj)} {σ : St} {H : Hp} {s : Shared} {R : It → Hp → Prop} {E : Value → Shared → Prop} {lo hi st : Int} {t u v : Tok} {tk : Nat} (I : Inv X pins σ H s) (h1 : -(2 ^ 40) ≤ lo) (h2 : lo < 2 ^ 40) (h3 : -(2 ^ 40) ≤ hi) (h4 : hi < 2 ^ 40) (h5 : 0 < st) (h6 : st < 2 ^ 20)
    (q : R (Itr3 lo st (rngN lo hi st)) H) : wpAny (model X.prog X.w) X.A (pyIter (.ref s.heap.objs.size)) (PIE X pins σ tg R) E { s with heap := s.heap.push { cls := .type "range", data := .fields #[.int lo t, .int hi u, .int st v] }, toks := tk } := by
  refine wpAny_pyIter_range (IsRange.new ..) (small_step h1 h2 h3 h4 h5 h6) ?_
  have I1 : Inv X pins σ H { s with heap := s.heap.push { cls := .type "range", data := .fields #[.int lo t, .int hi u, .int st v] }, toks := tk } := I.kept fun b o e => Heap.get?_push_of_some _ e
  refine ⟨(s.heap.push { cls := .type "range", data := .fields #[.int lo t, .int hi u, .int st v] }).objs.size, [(s.heap.push { cls := .type "range", data := .fields #[.int lo t, .int hi u, .int st v] }).objs.size], _, _, H, rfl,
    I1.kept (t' := tk) fun b o e => Heap.get?_push_of_some _ e, turn_range3 _ lo st (rngN lo hi st), ?_, fun b hb => ?_, q⟩
  · have e1 : lo + ((0 : Nat) : Int) * st = lo := by simp
    have e2 : ((rngN lo hi st : Nat) : Int) - ((0 : Nat) : Int) = Builtin.Range.rangeSize lo hi st := by
      unfold rngN Builtin.Range.rangeSize
      rw [if_pos (show st > 0 from h5)]
      split
      · have : 0 ≤ (hi - lo - 1) / st := Int.ediv_nonneg (by omega) (by omega)
        omega
      · rfl
    show IsRangeIter _ _ (lo + ((0 : Nat) : Int) * st) (((rngN lo hi st : Nat) : Int) - ((0 : Nat) : Int)) st
    rw [e1, e2]
    exact Heap.get?_push_size _ rfl
  · have e : b = (s.heap.push { cls := .type "range", data := .fields #[.int lo t, .int hi u, .int st v] }).objs.size := by simpa using hb
    subst e
    exact I1.fpOk (Nat.le_refl _) (I1.hok.fresh (Nat.le_refl _))
def iRng3 (ta : TA) : TI := fun σ H R => ta σ H fun vs H1 => ∃ i j k : Int, vs = [.int i, .int j, .int k] ∧ (-(2 ^ 40) ≤ i ∧ i < 2 ^ 40 ∧ -(2 ^ 40) ≤ j ∧ j < 2 ^ 40 ∧ 0 < k ∧ k < 2 ^ 20) ∧ R (Itr3 i k (rngN i j k)) H1
theorem pi_range3 (hg : Gl X "range") (hm : X.mg "range" = none) (ha : PA X [a, b, c] ta) (hs : starEach [a, b, c] X.env = [(false, eval a X.env), (false, eval b X.env), (false, eval c X.env)] := by rfl) (hs2 : starEach [b, c] X.env = [(false, eval b X.env), (false, eval c X.env)] := by rfl) :
    PI X tg (.Call (.Name "range" p) [a, b, c] [] pos) (iRng3 ta) := by
  intro pins s σ H R I h
  refine Call_ (ld_blt I hg hm boot_range (PyProof.Rows.callWith_type1 (thn (ha pos pins s σ H _ I h) fun us s1 ⟨vs, H1, I1, r1, q1⟩ => ?_) (by rw [hs, hs2]) (by rw [hs2]; rfl)))
  obtain ⟨i, j, k, e, ⟨q1, q2, q3, q4, q5, q6⟩, q⟩ := q1
  subst e
  cases r1 with
  | cons r rr =>
    cases rr with
    | cons r' rr =>
      cases rr with
      | cons r'' rr =>
        cases rr
        obtain ⟨t, rfl⟩ := r
        obtain ⟨t', rfl⟩ := r'
        obtain ⟨t'', rfl⟩ := r''
        exact call_range_3 (by omega) (range_it3 I1 q1 q2 q3 q4 q5 q6 q) (.inl (PyProof.noPylong_small (by omega)))
theorem itok_rng3 {K : Fg} {Z : Hp} {lo st : Int} {n : Nat} : ItOk K Z (Itr3 lo st n) (rngL3 lo st n) where
  go := fun i H _ h => by simpa [rngL3, Itr3] using h
  yld := fun i H x H' d _ e y => by
    obtain ⟨rfl, rfl⟩ := y
    refine ⟨rfl, ?_⟩
    unfold rngL3 at e
    rw [List.getElem?_map] at e
    cases q : (List.range n)[i]? with
    | none => rw [q] at e; cases e
    | some k =>
      rw [q] at e
      cases e
      have : k = i := by
        obtain ⟨h, h2⟩ := List.getElem?_eq_some_iff.mp q
        simpa using h2.symm
      subst this
      exact .int _
  stop := fun i H _ h => by simpa [rngL3, Itr3] using h
theorem iv_range3 (hg : Gl X "range") (hm : X.mg "range" = none) (ha : AV X [a, b, c] fs) (hs : starEach [a, b, c] X.env = [(false, eval a X.env), (false, eval b X.env), (false, eval c X.env)] := by rfl) (hs2 : starEach [b, c] X.env = [(false, eval b X.env), (false, eval c X.env)] := by rfl) :
    IV X tg (.Call (.Name "range" p) [a, b, c] [] pos) (oL fs rng3D) :=
  PI.imp (pi_range3 hg hm ha hs hs2) fun σ H R h => by
    obtain ⟨H₀, Z₀, Z, δ, ds, hh, e, k⟩ := h
    obtain ⟨as, e1, e⟩ := bind_some e
    refine ⟨H₀, Z₀, Z, δ, as, hh, e1, fun vs Z1 H1 hh1 t1 r1 => ?_⟩
    unfold rng3D at e
    split at e
    · rename_i i j m
      split at e
      · rename_i hj
        cases e
        cases r1 with
        | cons q1 q2 =>
          cases q2 with
          | cons q2 q3 =>
            cases q3 with
            | cons q3 q4 =>
              cases q4
              exact ⟨i, j, m, by rw [q1.int_eq, q2.int_eq, q3.int_eq], hj, k _ Z1 H1 hh1 t1 itok_rng3⟩
      · cases e
    · cases e
end
/-! ### slices -/
section
variable {X : Cx} {e : Expr} {lo hi : Option Expr} {p2 pos : Pos} {f : Dv → Option D}
def tVO (K : Fg) (f : Dv → Option (Option Int)) : TO := fun σ H Q => ∃ H₀ Z₀ Z δ d, Hold K H₀ Z₀ Z δ σ H ∧ f δ = some d ∧ ∀ Z' H', Hold K H₀ Z₀ Z' δ σ H' → Same Z Z' → Q d H'
def OV (X : Cx) (e : Option Expr) (f : Dv → Option (Option Int)) : Prop := PO X e (tVO X.K f)
theorem PO.imp {eo : Option Expr} {t t' : TO} (h : PO X eo t) (i : ∀ σ H Q, t' σ H Q → t σ H Q) : PO X eo t' := fun pins s σ H Q I q => h pins s σ H Q I (i _ _ _ q)
theorem ov_none : OV X none oNo := PO.imp po_none fun σ H Q h => by
  obtain ⟨H₀, Z₀, Z, δ, d, hh, e, k⟩ := h
  cases e
  exact k Z H hh (Same.refl _)
theorem ov_some (h : EV X e f) : OV X (some e) (oP f) := PO.imp (po_some h) fun σ H Q h => by
  obtain ⟨H₀, Z₀, Z, δ, d, hh, e, k⟩ := h
  obtain ⟨x, e1, e⟩ := bind_some e
  refine ⟨H₀, Z₀, Z, δ, x, hh, e1, fun v Z1 H1 hh1 t1 r1 => ?_⟩
  cases r1 <;> simp [asI] at e
  subst e
  exact ⟨_, rfl, k Z1 H1 hh1 t1⟩
/-- the items of xs[lo:hi] -/
theorem Reps.cut {K : Fg} {Z : Hp} {vs : List V} {ds : List D} (r : Reps K Z vs ds) (lo hi : Option Int) : Reps K Z (cutV vs lo hi) (cutD ds lo hi) := by
  unfold cutV cutD
  rw [r.length]
  exact (r.drop _).take _
/-- t[lo:hi], the whole of it: t itself -/
theorem cutD_whole {ds : List D} {lo hi : Option Int} (h1 : HT.sIx ds.length 0 lo = 0) (h2 : HT.sIx ds.length ds.length hi = ds.length) : cutD ds lo hi = ds := by
  unfold cutD
  rw [h1, h2]
  simp
section
variable {prog : Program} {w : World} {A : Around} {E : Value → Shared → Prop} {s : Shared}
theorem tupCut_whole {t sl : Addr} {items : Array Value} {vl vu : Value} {lo hi : Option Int} {Q : Value → Shared → Prop} (ht : IsTup s.heap t items) (hs : s.heap.IsSliceOf sl vl vu .none) (pl : IsPart vl lo) (pu : IsPart vu hi)
    (h1 : HT.sIx items.size 0 lo = 0) (h2 : HT.sIx items.size items.size hi = items.size) (h : Q (.ref t) s) : wpAny (model prog w) A (getItem (.ref t) (.ref sl)) Q E s := by
  obtain ⟨osl, hos, hcs, hds⟩ := id hs
  have ty : s.TypeIs (.ref sl) "slice" := ⟨osl, hos, hcs⟩
  unfold getItem
  try with_reducible refine wpAny_holding ?_
  first | refine wpAny_bind (wpAny_pure ?_) | skip
  refine wpAny_bind (wpAny_sequenceKey ht.typeIs (by decide) ?_)
  refine wpAny_bind (wpAny_callSpecial?_slot (name := Str.ofString "__getitem__") ht.typeIs PyProof.Rows.slot_tuple_getitem
    (wpAny_call_entry PyProof.Rows.slot_tuple_getitem ht.typeIs PyProof.Rows.entry_tuple_getitem ?_ (PyProof.Rows.args_tuple_getitem _ _)))
  show wpAny _ _ (Builtin.Tuple.tupleItemsOf (.ref t) >>= _) _ _ s
  refine wpAny_bind (tupleItemsOf_ ht ?_)
  refine wpAny_bind (wpAny_typeOf ty ?_)
  rw [if_pos (by decide)]
  refine wpAny_bind (HT.sliceApplied_gen hs pl pu ?_)
  have yes : (((((HT.sIx items.size 0 lo : Nat) : Int) == 0) && ((1 : Int) == 1)) && ((HT.sIx items.size items.size hi - HT.sIx items.size 0 lo) == items.size)) = true := by
    rw [h1, h2]; simp
  show wpAny _ _ (if (((((HT.sIx items.size 0 lo : Nat) : Int) == 0) && ((1 : Int) == 1)) && ((HT.sIx items.size items.size hi - HT.sIx items.size 0 lo) == items.size)) = true then _ else _) _ _ s
  rw [if_pos yes]
  unfold Builtin.Tuple.tupleIsExact
  refine wpAny_bind (wpAny_bind (wpAny_typeOf ht.typeIs (wpAny_pure ?_)))
  rw [if_pos (by decide)]
  exact wpAny_bind (wpAny_rule (wpAny_pure ⟨_, rfl, wpAny_pure h⟩))
end
def rSlW (K : PySem.W.Frag) : V → Option Int → Option Int → Hp → VK → Prop := fun x lo hi H Q => ∃ a xs, x = .ref a ∧ SqT K H a xs ∧ HT.sIx xs.length 0 lo = 0 ∧ HT.sIx xs.length xs.length hi = xs.length ∧ Q (.ref a) H
theorem sl_tupW : SlR X (rSlW X.K) := by
  intro pins s σ H x v vl vu lo hi sl Q I rx hs pl pu h
  obtain ⟨a, xs, rfl, hx, w1, w2, q⟩ := h
  cases rx
  obtain ⟨its, r, ht, hz⟩ := I.tuple hx
  have hlen : its.toArray.size = xs.length := by rw [List.size_toArray]; exact r.length.symm
  refine ⟨"tuple", _, PyProof.Rows.slot_tuple_getitem.lookup, ht.typeIs, ?_⟩
  exact tupCut_whole ht hs pl pu (by rw [hlen]; exact w1) (by rw [hlen]; exact w2) ⟨.ref a, H, I, rfl, q⟩
theorem ev_slice {fl fu : Dv → Option (Option Int)} (he : EV X e f) (hl : OV X lo fl) (hu : OV X hi fu) : EV X (.Subscript e (.Slice lo hi none p2) pos) (oSl f fl fu) :=
  PE.imp (pe_slice (sl_list.or (sl_tup.or sl_tupW)) he hl hu) fun σ H Q h => by
    obtain ⟨H₀, Z₀, Z, δ, d, hh, e, k⟩ := h
    obtain ⟨x, e1, e⟩ := bind_some e
    obtain ⟨i, e2, e⟩ := bind_some e
    obtain ⟨j, e3, e⟩ := bind_some e
    refine ⟨H₀, Z₀, Z, δ, x, hh, e1, fun v Z1 H1 hh1 t1 r1 => ⟨H₀, Z₀, Z1, δ, i, hh1, e2, fun Z2 H2 hh2 t2 => ⟨H₀, Z₀, Z2, δ, j, hh2, e3, fun Z3 H3 hh3 t3 => ?_⟩⟩⟩
    have r3 := (r1.same t2).same t3
    have tt := (t1.trans t2).trans t3
    cases r3 with
    | @lst a xs ds h1 q1 =>
      cases e
      refine .inl ⟨_, _, rfl, SqL.same h1 hh3.zh, fun p hp => ?_⟩
      have n := New.add hh3.zh hp (.lst (cutV xs i j))
      exact k _ _ _ (hh3.new n) (tt.trans n.z) (.lst (SqL.of upd_same) ((q1.cut i j).same n.z))
    | @tup a xs ds h1 q1 =>
      simp only [slD] at e
      cases e
      by_cases hw : HT.sIx ds.length 0 i = 0 ∧ HT.sIx ds.length ds.length j = ds.length
      · refine .inr (.inr ⟨_, _, rfl, SqT.same h1 hh3.zh, by rw [q1.length]; exact hw.1, by rw [q1.length]; exact hw.2, ?_⟩)
        refine k _ _ _ hh3 tt ?_
        rw [cutD_whole hw.1 hw.2]
        exact .tup h1 q1
      · refine .inr (.inl ⟨_, _, rfl, SqT.same h1 hh3.zh, by rw [q1.length]; exact hw, fun p hp => ?_⟩)
        have n := New.add hh3.zh hp (.tup (cutV xs i j))
        exact k _ _ _ (hh3.new n) (tt.trans n.z) (.tup (SqT.of upd_same) ((q1.cut i j).same n.z))
    | _ => cases e
end
/-! ### defs -/
structure FunV (K : PySem.W.Frag) (x qual : Str) (st : Stmt) (f : Addr) (fd : FuncData) (dV : Value) : Prop where
  ex : ∃ (oc : Value) (od : Option Addr) (kV doc pm : Value) (an : Option Addr) (cdv ct : Value) (osl : Array (Option Value)),
    fd = PySem.W.fnOf x qual (defArgs st) (defBody st) (defScope st) dV kV doc pm an cdv ct ∧ K.lookup f = some ⟨oc, od, .func fd, osl⟩ ∧ PySem.W.codeIn K cdv qual = true
  kp : PySem.W.keepIn K (.ref f) = true
section
variable {P : Program} {w : World} {K : PySem.W.Frag} {mg : Str → Option Value} {base : Heap}
theorem start_get {N : List Str} {vs : List V} {as : List D} {Z : Hp} (r : Reps K Z vs as) : ∀ (i : Nat) d, (startD N as)[i]? = some (.fz d) → ∃ v, (start N vs)[i]? = some (some v) ∧ Rep K Z v d := by
  intro i d e
  unfold startD at e
  unfold L2.start
  by_cases hi : i < as.length
  · rw [List.getElem?_append_left (by simpa using hi), List.getElem?_map] at e
    cases q : as[i]? with
    | none => rw [q] at e; cases e
    | some d' =>
      rw [q] at e
      cases e
      obtain ⟨v, ev, rv⟩ := r.get q
      exact ⟨v, by rw [List.getElem?_append_left (by simpa [r.length] using hi), List.getElem?_map, ev]; rfl, rv⟩
  · rw [List.getElem?_append_right (by simpa using hi), List.getElem?_replicate] at e
    split at e <;> cases e
theorem start_now {N : List Str} {as : List D} : ∀ (i : Nat) ds, (startD N as)[i]? ≠ some (.ow ds) := by
  intro i ds e
  unfold startD at e
  by_cases hi : i < as.length
  · rw [List.getElem?_append_left (by simpa using hi), List.getElem?_map] at e
    cases q : as[i]? with
    | none => rw [q] at e; cases e
    | some d' => rw [q] at e; cases e
  · rw [List.getElem?_append_right (by simpa using hi), List.getElem?_replicate] at e
    split at e <;> cases e
theorem hold_start {N : List Str} {vs : List V} {as : List D} {Z H : Hp} (zh : Same Z H) (r : Reps K Z vs as) : Hold K H Z Z (startD N as) (start N vs) H :=
  ⟨zh, Same.refl _, Same.refl _, fun _ _ => rfl, by simp [startD, L2.start, r.length], start_get r, fun i ds e => absurd e (start_now i ds), fun i j ds es a _ e => absurd e (start_now i ds)⟩
/-- THE RULE for a def: g what it is worth, b its body as a function -/
theorem fn_v {x qual : Str} {st : Stmt} {f : Addr} {fd : FuncData} {dV : Value} {N ps : List Str} {k : Nat} {g : List D → Option D} {b : Sf} (F : FunV K x qual st f fd dV) (S : FnScope N ps (defScope st)) (len : ∀ as d, g as = some d → as.length = ps.length)
    (hb : ∀ (cdv : Value) (A : Around) (outer : List Env) (s : Shared) (H : Hp) (E : XK), Room k (A.deeper (envOfC qual (defScope st) s.heap.objs.size f cdv)) → BV (cxOf CX0 P w K mg base N qual (defScope st) f cdv A outer s H E).nox (defBody st) b)
    (hg : ∀ as d, g as = some d → ∃ δ', b (startD N as) = some (.rt d, δ') ∨ (d = .none ∧ b (startD N as) = some (.nx, δ'))) : FnOk P w K mg base CX0 (k + 1) f fd ps (spD K g) := by
  obtain ⟨oc, od, kV, doc, pm, an, cdv, ct, osl, rfl, lk, hcd⟩ := F.ex
  refine fn_of lk hcd S (fun vs H Q E h => ?_) fun A outer s H vs Q E hr hsp => ?_
  · obtain ⟨Z, as, d, zh, r, e, _⟩ := h
    rw [r.length]
    exact len as d e
  · refine ⟨_, PSs.nox (hb cdv A outer s H E hr), ?_⟩
    obtain ⟨Z, as, d, zh, r, e, kk⟩ := hsp
    have hh := hold_start (N := N) zh r
    have fin : ∀ {σ' : St} {H' Z' : Hp} {δ' : Dv}, Hold K H Z Z' δ' σ' H' → Same Z Z' → New Z H Z' H' := fun h' z' => ⟨z', h'.h0, h'.zh, h'.zb⟩
    obtain ⟨δ', e2 | ⟨rfl, e2⟩⟩ := hg as d e
    · exact ⟨H, Z, Z, _, _, hh, e2, fun σ' H' Z' h' z' v rv => kk v Z' H' (fin h' z') rv⟩
    · exact ⟨H, Z, Z, _, _, hh, e2, fun σ' H' Z' h' z' => kk _ Z' H' (fin h' z') .non⟩
theorem FunV.binds {x qual : Str} {st : Stmt} {f : Addr} {fd : FuncData} {ps : List Str} (F : FunV K x qual st f fd .none)
    (h : ∀ (kV doc pm : Value) (an : Option Addr) (cdv ct : Value) (us : List Value), us.length = ps.length → bindArgs (PySem.W.fnOf x qual (defArgs st) (defBody st) (defScope st) .none kV doc pm an cdv ct) ⟨us, []⟩ = pure (ps.zip us)) : Binds K fd ps [] := by
  obtain ⟨oc, od, kV, doc, pm, an, cdv, ct, osl, rfl, lk, hcd⟩ := F.ex
  exact .all (h kV doc pm an cdv ct)
/-- with defaults: ds of them fill up -/
theorem FunV.bindsD {x qual : Str} {st : Stmt} {f T : Addr} {fd : FuncData} {ps : List Str} {o : Obj} {items : Array Value} {n : Nat} {ds : List Value} (F : FunV K x qual st f fd (.ref T)) (ho : K.lookup T = some o) (hs : o.data = .seq items n) (nu : Nat) (hn : nu + ds.length = ps.length)
    (h : ∀ (kV doc pm : Value) (an : Option Addr) (cdv ct : Value) (us : List Value), us.length = nu → ∃ kk, bindArgs (PySem.W.fnOf x qual (defArgs st) (defBody st) (defScope st) (.ref T) kV doc pm an cdv ct) ⟨us, []⟩ = seqItems? (.ref T) >>= kk ∧ kk (some items) = pure (ps.zip (us ++ ds))) : Binds K fd ps ds := by
  obtain ⟨oc, od, kV, doc, pm, an, cdv, ct, osl, rfl, lk, hcd⟩ := F.ex
  intro s us KX hl
  obtain ⟨kk, h1, h2⟩ := h kV doc pm an cdv ct us (by rw [List.length_append] at hl; omega)
  exact BindsTo.of_defaults rfl (KX _ _ ho) hs h1 h2
theorem funV_mk {x qual : Str} {st : Stmt} {f : Addr} {dV oc : Value} {od an : Option Addr} {osl : Array (Option Value)} {kV doc pm cdv ct : Value} (l : K.lookup f = some ⟨oc, od, .func (PySem.W.fnOf x qual (defArgs st) (defBody st) (defScope st) dV kV doc pm an cdv ct), osl⟩)
    (c : PySem.W.codeIn K cdv qual = true) (k : PySem.W.keepIn K (.ref f) = true) : FunV K x qual st f (PySem.W.fnOf x qual (defArgs st) (defBody st) (defScope st) dV kV doc pm an cdv ct) dV := ⟨⟨oc, od, kV, doc, pm, an, cdv, ct, osl, rfl, l, c⟩, k⟩
/-- law's: a list of at most 63 ints is handed in, True comes out -/
def spLaw (K : PySem.W.Frag) : Sp := fun vs H Q _ => ∃ (a : Addr) (ns : List Int), vs = [.ref a] ∧ SqL K H a (ns.map V.int) ∧ ns.length ≤ 63 ∧ ∀ H', Q (.bl true) H'
theorem law_v {g : List D → Option D} {k : Nat} {f : Addr} {fd : FuncData} (F : FnOk P w K mg base CX0 k f fd ["script"] (spD K g)) (hg : ∀ ns : List Int, ns.length ≤ 63 → g [.list (ns.map .int)] = some (.bool true)) : FnOk P w K mg base CX0 k f fd ["script"] (spLaw K) :=
  F.imp fun vs H Q E h => by
    obtain ⟨a, ns, rfl, hS, hl, q⟩ := h
    exact ⟨H, [.list (ns.map .int)], .bool true, Same.refl _, .cons (.lst hS (Reps.ints ns)) .nil, hg ns hl, fun v Z' H' _ r => by cases r; exact q H'⟩
end
theorem walkV {k : Nat} {l : PySem.W.OpenLaw} {q : Program} {loose : List Str} {XP : (Str → Option Value) → Heap → Prop} {YP : World → Heap → Prop} {d : DefRec} {K : Params → PySem.W.Frag} (hn : l.most = some 63) (hr : Room k callerA) (hdf : d.params.defaults = [])
    (hY : ∀ (w : World) (h : Heap), YP w h → (K w.params).In h)
    (F : ∀ (w : World) (mg : Str → Option Value) (fa : Addr) (h : Heap), (K w.params).In h → h.Ns mainGlobals mg → mg d.name = some (.ref fa) →
      ∃ fd : FuncData, (∀ (s : Shared) (u : Value), BindsTo s fd ⟨[u], []⟩ [("script", u)]) ∧ ∀ base : Heap, (K w.params).In base → base.Ns mainGlobals mg → FnOk l.prog w (K w.params) mg base CX0 k fa fd ["script"] (spLaw (K w.params))) :
    PySem.W.WalkO q loose XP YP l.row.toRowW d [] (fun f vs => PySem.call f vs) :=
  L2.walk_of (n := 63) (k := k) (x := "script") (CX := fun _ => CX0) (sp := fun w => spLaw (K w.params)) hn (by decide) hdf hr hY F (fun _ _ a ns hl _ hS => ⟨a, ns, rfl, hS, hl, fun _ => rfl⟩) fun _ _ _ _ _ z => z
/-! ### a def by its own body -/
section
variable {P : Program} {w : World} {K : PySem.W.Frag} {mg : Str → Option Value} {base : Heap}
theorem fn_b {x qual : Str} {st : Stmt} {f : Addr} {fd : FuncData} {dV : Value} {N ps : List Str} {k : Nat} {b : Sf} (F : FunV K x qual st f fd dV) (S : FnScope N ps (defScope st))
    (hb : ∀ (cdv : Value) (A : Around) (outer : List Env) (s : Shared) (H : Hp) (E : XK), Room k (A.deeper (envOfC qual (defScope st) s.heap.objs.size f cdv)) → BV (cxOf CX0 P w K mg base N qual (defScope st) f cdv A outer s H E).nox (defBody st) b) :
    FnOk P w K mg base CX0 (k + 1) f fd ps (spD K (runB N ps.length b)) := by
  refine fn_v F S (fun as d h => ?_) hb fun as d h => ?_
  · unfold runB at h
    split at h
    · assumption
    · cases h
  · unfold runB at h
    split at h
    · obtain ⟨⟨fl, δ'⟩, e, h⟩ := bind_some h
      cases fl with
      | nx => cases h; exact ⟨δ', .inr ⟨rfl, e⟩⟩
      | rt d => cases h; exact ⟨δ', .inl e⟩
      | bk => cases h
      | ct => cases h
    · cases h
/-- a def that may be called: g what it is worth, dd the defaults that fill up -/
structure Cal (P : Program) (w : World) (K : PySem.W.Frag) (mg : Str → Option Value) (base : Heap) (x : Str) (k : Nat) (g : List D → Option D) (dd : List D) : Prop where
  ex : ∃ (fa : Addr) (fd : FuncData) (ps : List Str) (ds : List Value) (dv : List V), FnOk P w K mg base CX0 k fa fd ps (spD K g) ∧ mg x = some (.ref fa) ∧ PySem.W.keepIn K (.ref fa) = true ∧ Binds K fd ps ds ∧ Vals dv ds ∧ ∀ Z, Reps K Z dv dd
theorem Cal.mk0 {x : Str} {k : Nat} {g : List D → Option D} {fa : Addr} {fd : FuncData} {ps : List Str} (F : FnOk P w K mg base CX0 k fa fd ps (spD K g)) (hm : mg x = some (.ref fa)) (hk : PySem.W.keepIn K (.ref fa) = true) (hb : Binds K fd ps []) : Cal P w K mg base x k g [] :=
  ⟨⟨fa, fd, ps, [], [], F, hm, hk, hb, .nil, fun _ => .nil⟩⟩
end
section
variable {X : Cx} {e : Expr} {es : List Expr} {p pos : Pos} {fs : Dv → Option (List D)}
theorem ev_def {k : Nat} {x : Str} {g : List D → Option D} {dd : List D} (C : Cal X.prog X.w X.K X.mg X.base x k g dd) (hr : Room k X.A) (hg : Gl X x) (ha : AV X (e :: es) fs) (hdb : (x == ("__debug__" : Str)) = false := by decide) (he : starEach (e :: es) X.env = (false, eval e X.env) :: starEach es X.env := by rfl)
    (hpl : (backTo pos (starEach es X.env)).any (·.1) = false := by rfl) : EV X (.Call (.Name x p) (e :: es) [] pos) (os fs fun as => g (as ++ dd)) := by
  obtain ⟨fa, fd, ps, ds, dv, F, hm, hk, hb, hd, hdd⟩ := C.ex
  exact ev_call F hr hg hm hk hb hd hdd pass0 ha hdb he hpl
variable {tg a : Expr} {f : Dv → Option D}
theorem iv_seq (ha : EV X a f) : IV X tg a (oI f itsD) := by
  intro pins s σ H R I h
  obtain ⟨H₀, Z₀, Z, δ, ds, hh, e, k⟩ := h
  obtain ⟨y, e1, e⟩ := bind_some e
  cases y with
  | list xs => exact iv_list ha pins s σ H R I ⟨H₀, Z₀, Z, δ, ds, hh, by unfold oI; rw [e1]; exact e, k⟩
  | tuple xs => exact iv_tup ha pins s σ H R I ⟨H₀, Z₀, Z, δ, ds, hh, by unfold oI; rw [e1]; exact e, k⟩
  | _ => cases e
end
end VL

set_option Elab.async false
set_option linter.all false
set_option maxRecDepth 100000
set_option maxHeartbeats 4000000
namespace VL
open PySem PySem.Spec PyProof.Rows L2
/-! ### comprehensions -/
/-- the cells that a block takes along -/
def clos (env : Env) : List (Str × NameKind) → List (Str × Addr) → List (Str × Addr)
  | [], cs => cs
  | (n, k) :: r, cs => if k == .free then clos env r ((n, (env.cells.lookup n).getD 0) :: cs) else clos env r cs
theorem forIn_clos {env : Env} : ∀ (l : List (Str × NameKind)) (cs : List (Str × Addr)), (∀ y ∈ l, y.2 = .free → ∃ c, env.cells.lookup y.1 = some c) →
    (forIn l cs fun (x : Str × NameKind) (r : List (Str × Addr)) => (if (x.2 == NameKind.free) = true then do let c ← cellOf env x.1; pure (ForInStep.yield ((x.1, c) :: r)) else pure (ForInStep.yield r) : Sem (ForInStep (List (Str × Addr))))) = pure (clos env l cs)
  | [], cs, _ => rfl
  | (n, k) :: r, cs, h => by
    have ih := fun cs' => forIn_clos r cs' fun y hy => h y (List.mem_cons_of_mem _ hy)
    rw [List.forIn_cons]
    cases hk : k == NameKind.free with
    | true =>
      have hk' : k = .free := by simpa using hk
      obtain ⟨c, ec⟩ := h (n, k) List.mem_cons_self hk'
      have e1 : cellOf env n = pure c := by unfold cellOf; rw [ec]
      simp only [hk, if_true, e1, pure_bind, clos, ec, Option.getD_some]
      exact ih _
    | false =>
      simp only [hk, Bool.false_eq_true, if_false, pure_bind, clos]
      exact ih _
theorem closureFor_eq {scope : Scope} {env : Env} (h : ∀ y ∈ scope.names, y.2 = .free → ∃ c, env.cells.lookup y.1 = some c) : closureFor scope env = pure (clos env scope.names []) := by
  simp only [closureFor]
  have := forIn_clos (env := env) scope.names [] h
  first
    | (rw [this]; rfl)
    | (simp only [this]; rfl)
    | (unfold closureFor; simp_all)
theorem clos_lookup {env : Env} : ∀ (l : List (Str × NameKind)) (cs : List (Str × Addr)) (y : Str) (c : Addr), (∀ z ∈ l, z.2 = .free → ∃ c, env.cells.lookup z.1 = some c) → (clos env l cs).lookup y = some c → cs.lookup y = some c ∨ env.cells.lookup y = some c
  | [], cs, y, c, _, e => .inl e
  | (n, k) :: r, cs, y, c, h, e => by
    unfold clos at e
    have hr := fun z hz => h z (List.mem_cons_of_mem _ hz)
    split at e
    · rename_i hk
      rcases clos_lookup r _ y c hr e with q | q
      · rw [List.lookup_cons] at q
        cases hy : y == n with
        | true =>
          have hy' : y = n := by simpa using hy
          subst hy'
          rw [hy] at q
          obtain ⟨c', ec⟩ := h (y, k) List.mem_cons_self (by simpa using hk)
          simp only [ec, Option.getD_some] at q
          cases q
          exact .inr ec
        | false => rw [hy] at q; exact .inl q
      · exact .inr q
    · exact clos_lookup r cs y c hr e
theorem clos_has {env : Env} : ∀ (l : List (Str × NameKind)) (cs : List (Str × Addr)) (y : Str), ((y, NameKind.free) ∈ l ∨ (cs.lookup y).isSome = true) → ((clos env l cs).lookup y).isSome = true
  | [], cs, y, h => by
    rcases h with h | h
    · cases h
    · exact h
  | (n, k) :: r, cs, y, h => by
    unfold clos
    split
    · rename_i hk
      refine clos_has r _ y ?_
      rcases h with h | h
      · rcases List.mem_cons.mp h with e | e
        · cases e; exact .inr (by simp [List.lookup_cons])
        · exact .inl e
      · refine .inr ?_
        rw [List.lookup_cons]
        cases hy : y == n with
        | true => rfl
        | false => exact h
    · rename_i hk
      refine clos_has r cs y ?_
      rcases h with h | h
      · rcases List.mem_cons.mp h with e | e
        · cases e; exact absurd rfl hk
        · exact .inl e
      · exact .inr h
theorem relabel_lookup {env : Env} {y : Str} : ∀ (l : List (Str × NameKind)), (∀ z ∈ l, z.2 ≠ .cell) →
    (((l.map fun (n, k) => if (k == NameKind.free && env.scope.kind == .function && env.kindOf n == some .cell) then (n, NameKind.cell) else (n, k)).lookup y = some .cell ∨ (l.map fun (n, k) => if (k == NameKind.free && env.scope.kind == .function && env.kindOf n == some .cell) then (n, NameKind.cell) else (n, k)).lookup y = some .free) ↔ l.lookup y = some .free)
  | [], _ => by simp
  | (n, k) :: r, h => by
    have ih := relabel_lookup (env := env) (y := y) r fun z hz => h z (List.mem_cons_of_mem _ hz)
    have hk : k ≠ .cell := h (n, k) List.mem_cons_self
    rw [List.map_cons]
    cases hy : y == n with
    | true =>
      by_cases hc : (k == NameKind.free && env.scope.kind == .function && env.kindOf n == some .cell) = true
      · have hf : k = .free := by
          simp only [Bool.and_eq_true] at hc
          simpa using hc.1.1
        simp only [if_pos hc, List.lookup_cons, hy]
        simp [hf]
      · simp only [if_neg hc, List.lookup_cons, hy]
        simp [hk]
    | false =>
      by_cases hc : (k == NameKind.free && env.scope.kind == .function && env.kindOf n == some .cell) = true
      · simp only [if_pos hc, List.lookup_cons, hy]; exact ih
      · simp only [if_neg hc, List.lookup_cons, hy]; exact ih
/-- the context of a comprehension's block -/
def blk (X : Cx) (scope : Scope) (N : List Str) (C : Addr) (s₀ : Shared) (H₀ : Hp) (ex : List Addr) : Cx :=
  { X with N := N, s₀ := s₀, H₀ := H₀, env := compEnvC scope (clos X.env scope.names []) C X.env, outer := X.stack, stack := X.stack, ex := ex, fn := fun _ => false, pn := [], xe := fun _ _ => False }
/-- what must be seen of the block's text: on the names of the code around, ON its slots -/
structure BlkOk (on : List (Str × NameKind)) (ON : List Str) (scope : Scope) (vars : List Str) (caps : List (Nat × Str)) : Prop where
  kind : scope.kind = .function
  cell : ∀ y ∈ scope.names, y.2 ≠ .cell
  names : ∀ y ∈ scope.names, y.2 = .local → scope.names.lookup y.1 = some .local
  free : ∀ y ∈ scope.names, y.2 = .free → on.lookup y.1 = some .cell ∨ on.lookup y.1 = some .free
  cap : ∀ p ∈ caps, ON[p.1]? = some p.2 ∧ scope.names.lookup p.2 = some .free
section
variable {X : Cx} {pins : List (Addr × Obj)} {σ : St} {H H' : Hp} {s s' : Shared} {scope : Scope} {vars : List Str} {caps : List (Nat × Str)} {fp : List Addr} {C : Addr}
def capV (σ : St) (caps : List (Nat × Str)) : St := caps.map fun p => (σ[p.1]?).getD none
theorem BlkOk.cells (B : BlkOk X.env.scope.names X.N scope vars caps) (I : Inv X pins σ H s) : ∀ y ∈ scope.names, y.2 = .free → ∃ c, X.env.cells.lookup y.1 = some c := fun y hy e => I.ok.has y.1 (B.free y hy e)
theorem blk_ok (B : BlkOk X.env.scope.names X.N scope vars caps) (I : Inv X pins σ H s) (hf : ∀ b ∈ fp, FpOk X pins H b) (hlt : ∀ b ∈ fp, b < s.heap.objs.size) (hC : s.heap.objs.size ≤ C) : (blk X scope (vars ++ caps.map (·.2)) C s H fp).Ok where
  mod := I.ok.mod
  kind := B.kind
  glob := I.ok.glob
  blt := I.ok.blt
  above := hC
  inj := fun x y c e1 e2 => by
    rcases clos_lookup _ _ _ _ (B.cells I) e1 with q1 | q1
    · cases q1
    · rcases clos_lookup _ _ _ _ (B.cells I) e2 with q2 | q2
      · cases q2
      · exact I.ok.inj x y c q1 q2
  has := fun x e => by
    have : scope.names.lookup x = some .free := (relabel_lookup scope.names B.cell).mp e
    have := clos_has (env := X.env) scope.names [] x (.inl (PySem.mem_of_lookup this))
    exact Option.isSome_iff_exists.mp this
  cab := fun x c e => nomatch e
  hd := I.ok.hd
  frames := I.ok.frames
  stk := .inl rfl
  exf := fun b hb => ⟨Nat.ne_of_lt (Nat.lt_of_lt_of_le (hlt b hb) hC), fun x c e => by
    rcases clos_lookup _ _ _ _ (B.cells I) e with q | q
    · cases q
    · exact (hf b hb).2.2.2.2.1 x c q⟩
  bs := I.bs
  bsz := Nat.le_trans I.ok.bsz I.sz
  noex := fun b o e hb => by
    rcases (hf b hb).2.2.2.1 with z | z
    · exact I.ok.noex b o e z
    · exact absurd (Nat.lt_of_lt_of_le (Heap.lt_size e) (Nat.le_trans I.ok.bsz z)) (Nat.lt_irrefl _)
  exfs := fun b hb z => by
    rcases List.mem_cons.mp (I.stkSub b z) with q | q
    · exact (hf b hb).2.1 q
    · exact (hf b hb).2.2.1 q
  funs := I.stack
  frf := I.stkFree
/-- the block is entered -/
theorem blk_inv (B : BlkOk X.env.scope.names X.N scope vars caps) (I : Inv X pins σ H s) (hf : ∀ b ∈ fp, FpOk X pins H b) (hlt : ∀ b ∈ fp, b < s.heap.objs.size) (hC : s.heap.objs.size ≤ C) {h₁ : Heap} {m : Str → Option Value} {tk : Nat} (hns : h₁.Ns C m) (old : ∀ b o, s.heap.get? b = some o → h₁.get? b = some o) :
    Inv (blk X scope (vars ++ caps.map (·.2)) C s H fp) [] (vars.map (fun _ => none) ++ capV σ caps) H { s with heap := h₁, toks := tk } := by
  refine ⟨blk_ok B I hf hlt hC, rfl, I.bare, Un.kept old, ⟨m, hns, fun i x v e1 e2 e3 => ?_⟩, fun x c e => ?_, I.hok.fresh hC, fun x c e => ?_, fun p hp => absurd (show p ∈ ([] : List (Addr × Obj)) from hp) (by simp), I.hok.kept old, ?_⟩
  · have e1 : (vars ++ caps.map (·.2))[i]? = some x := e1
    by_cases hi : i < vars.length
    · rw [List.getElem?_append_left (by simpa using hi), List.getElem?_map] at e2
      cases q : vars[i]? <;> rw [q] at e2 <;> cases e2
    · rw [List.getElem?_append_right (by simpa using hi)] at e1 e2
      simp only [List.length_map] at e2
      unfold capV at e2
      rw [List.getElem?_map] at e1 e2
      cases q : caps[i - vars.length]? with
      | none => rw [q] at e1; cases e1
      | some p =>
        rw [q] at e1 e2
        cases e1
        have hp := List.mem_of_getElem? q
        obtain ⟨g1, g2⟩ := B.cap p hp
        have gf : X.env.scope.names.lookup p.2 = some .cell ∨ X.env.scope.names.lookup p.2 = some .free := B.free (p.2, .free) (PySem.mem_of_lookup g2) rfl
        have ev : σ[p.1]? = some (some v) := by
          have e2 : (σ[p.1]?).getD none = some v := Option.some.inj e2
          cases z : σ[p.1]? with
          | none => rw [z] at e2; cases e2
          | some w => rw [z] at e2; rw [show w = some v from e2]
        obtain ⟨m', _, hl⟩ := I.loc
        obtain ⟨u, r, l⟩ := hl p.1 p.2 v g1 ev (gf.elim (fun z => .inr (.inl z)) fun z => .inr (.inr z))
        refine ⟨u, r, .inr ⟨?_, ?_⟩⟩
        · exact (relabel_lookup scope.names B.cell).mpr g2
        · rcases l with ⟨z, _⟩ | ⟨_, c, ec, hc⟩
          · have z : X.env.scope.names.lookup p.2 = some .local := z
            rcases gf with w | w <;> rw [z] at w <;> cases w
          · obtain ⟨c', q'⟩ := Option.isSome_iff_exists.mp (clos_has (env := X.env) scope.names [] p.2 (.inl (PySem.mem_of_lookup g2)))
            rcases clos_lookup _ _ _ _ (B.cells I) q' with w | w
            · cases w
            · rw [ec] at w
              cases w
              obtain ⟨o, ho, hd⟩ := hc
              exact ⟨c, q', o, old c o ho, hd⟩
  · rcases clos_lookup _ _ _ _ (B.cells I) e with q | q
    · cases q
    · obtain ⟨v, o, ho, hd⟩ := I.cell x c q
      exact ⟨v, o, old c o ho, hd⟩
  · rcases clos_lookup _ _ _ _ (B.cells I) e with q | q
    · cases q
    · exact I.freeC x c q
  · simp [blk, capV]
/-- the block is left: its list is told -/
theorem blk_out (I : Inv X pins σ H s) (hf : ∀ b ∈ fp, FpOk X pins H b) {D : Addr} {s' : Shared} {σ' : St} {N : List Str} {ys : List V} {its : List Value} (hC : s.heap.objs.size ≤ C) (hD : s.heap.objs.size ≤ D) (hDC : D ≠ C)
    (J : Inv (blk X scope N C s H fp) [] σ' H' s') (hD' : H' D = none) (hp : s'.heap.PlainList D its.toArray) (hv : Vals ys its) (hz : ys.length ≤ sizeLine) {h' : Heap} (hs : Heap.SameBut C s'.heap h') :
    Inv X pins σ (upd H' D (.lst ys)) { s' with heap := h' } := by
  have U : Un (frs X.stack) fp H H' s.heap s'.heap := J.base
  have neC : ∀ b o, s.heap.get? b = some o → b ≠ C := fun b o e => Nat.ne_of_lt (Nat.lt_of_lt_of_le (Heap.lt_size e) hC)
  have neD : ∀ b o, s.heap.get? b = some o → b ≠ D := fun b o e => Nat.ne_of_lt (Nat.lt_of_lt_of_le (Heap.lt_size e) hD)
  have mv : ∀ b o, b ≠ C → s'.heap.get? b = some o → h'.get? b = some o := fun b o hb e => hs.extBut b o hb e
  have tD : ∀ b o, H' b = some o → (upd H' D (.lst ys)) b = some o := fun b o e => by rw [upd_ne (ne_of_none e hD')]; exact e
  refine I.call' (s' := { s' with heap := h' }) (ch := fp) J.os ⟨fun b o e n h1 h2 => mv b o (neC b o e) (U.keep b o e n h1 h2), fun b o e n h1 h2 => ?_, fun b o e n h2 => ?_, fun b o e h2 => ?_, fun b xs e => tD _ _ (U.tups b xs e), fun b o xs e => tD _ _ (U.frzs b o xs e), fun b ps e => ?_⟩ (fun b o e => ?_) J.bare
    (fun b hb => ⟨(hf b hb).2.2.2.1, (hf b hb).2.1, (hf b hb).2.2.2.2.1, (hf b hb).2.2.2.2.2⟩)
  · obtain ⟨sl, q⟩ := U.slot b o e n h1 h2
    exact ⟨sl, mv b _ (neC b o e) q⟩
  · rw [upd_ne (neD b o e)]; exact U.free b o e n h2
  · obtain ⟨o', q⟩ := U.there b o e h2
    exact ⟨o', mv b _ (neC b o e) q⟩
  · obtain ⟨more, q⟩ := U.tbls b ps e
    exact ⟨more, tD _ _ q⟩
  · by_cases hb : b = D
    · subst hb
      rw [upd_same] at e
      cases e
      obtain ⟨n, q⟩ := hp
      exact ⟨hz, its, n, hv, mv _ _ hDC q⟩
    · rw [upd_ne hb] at e
      refine (J.hok b o e).stay (fun c v hc q => mv c v ?_ q) (fun c q => tD _ _ q) fun c xs q => tD _ _ q
      intro z
      have fc : H' C = none := J.free
      rcases hc with w | w
      · rw [← w, z, fc] at e; cases e
      · rw [z, fc] at w; cases w
theorem compTurn_go (elt target iter : Expr) (scope : Scope) (pos : Pos) (it acc : Value) (env : Env) :
    compTurn (.ListComp elt [⟨target, iter, [], 0⟩] scope pos) 0 it acc env = (standAt iter.pos >>= fun _ => pyNext it >>= fun r => match r with
      | none => pure (.done .next)
      | some v => letOwnedTupleGo target it v >>= fun _ => assign target env v >>= fun _ =>
        (eval elt env >>= fun x => call (.builtin "list.append") [acc, x] >>= fun _ => pure ()) >>= fun _ =>
          again (.compLoop (.ListComp elt [⟨target, iter, [], 0⟩] scope pos) 0 it acc env)) := by rfl
/-- what is wanted of a comprehension, turn by turn: W the invariant by the turn, a measure, the items so far -/
def KeepS (σ σ' : St) : Prop := σ.length = σ'.length ∧ ∀ (i : Nat) v, σ[i]? = some (some v) → σ'[i]? = some (some v)
def tComp (wi : TI) (g : TG) (te : TE) (vars : List Str) (caps : List (Nat × Str)) : TE := fun σ H Q => wi σ H fun J H1 => ∃ W : Nat → Nat → List V → Hp → Prop, (∃ m, W 0 m [] H1) ∧ ∀ i m ys H, W i m ys H →
  (J.stop i H ∧ ys.length ≤ sizeLine ∧ ∀ p, H p = none → Q (.ref p) (upd H p (.lst ys))) ∨
  (J.go i H ∧ ys.length < sizeLine ∧ ∀ x H', J.yld i H x H' → g x (vars.map (fun _ => none) ++ capV σ caps) H' fun σ2 H2 => KeepS (vars.map (fun _ => none) ++ capV σ caps) σ2 ∧ te σ2 H2 fun y H3 => ∃ m', m' < m ∧ W (i + 1) m' (ys ++ [y]) H3)
theorem Inv.weaken {X : Cx} {pins : List (Addr × Obj)} {σ σ' : St} {H : Hp} {s : Shared} (I : Inv X pins σ H s) (hl : σ'.length = σ.length) (w : ∀ (i : Nat) v, σ'[i]? = some (some v) → σ[i]? = some (some v)) : Inv X pins σ' H s := I.weak hl w
theorem codeAny_comp_go {prog : Program} {w : World} {A : Around} {R : Result → Shared → Prop} {s : Shared} {elt target iter : Expr} {scope : Scope} {pos : Pos} {it acc : Value} {env : Env} (I : Nat → Shared → Prop)
    (turn : ∀ n s, I n s → wpAny (model prog w) A (pyNext it) (fun r s₁ => match r with
      | none => R (.ok .next) s₁
      | some v => wpAny (model prog w) A (letOwnedTupleGo target it v) (fun _ s₁ => wpAny (model prog w) A (assign target env v) (fun _ s₂ => wpAny (model prog w) A (eval elt env) (fun x s₃ =>
          wpAny (model prog w) A (call (.builtin "list.append") [acc, x]) (fun _ s₄ => ∃ m, m < n ∧ I m s₄) (fun _ _ => False) s₃) (fun _ _ => False) s₂) (fun _ _ => False) s₁) (fun _ _ => False) s₁) (fun _ _ => False) s)
    (n : Nat) (h : I n s) : codeAny (model prog w) A (.compLoop (.ListComp elt [⟨target, iter, [], 0⟩] scope pos) 0 it acc env) R s := by
  refine codeAny_loop rfl I (fun n s hI => ?_) n h
  show wpAny _ _ ((compTurn (.ListComp elt [⟨target, iter, [], 0⟩] scope pos) 0 it acc env).onRaise (fun x => do noteFrame x env; theTreesLotGoes x)) _ _ s
  refine wpAny_noted ?_
  rw [compTurn_go]
  refine wpAny_bind (wpAny_standAt (wpAny_bind (wpAny_mono (turn n s hI) (fun r s₁ h₁ => ?_) fun _ _ h' => h'.elim)))
  cases r with
  | none => exact wpAny_pure h₁
  | some v =>
    refine wpAny_bind (wpAny_mono h₁ (fun _ s₁ h₁ => ?_) fun _ _ h' => h'.elim)
    exact wpAny_bind (wpAny_mono h₁ (fun _ s₂ h₂ => wpAny_bind (wpAny_bind (wpAny_mono h₂ (fun x s₃ h₃ => wpAny_bind (wpAny_mono h₃
      (fun _ s₄ h₄ => wpAny_pure (wpAny_pure ⟨rfl, h₄⟩)) fun _ _ h' => h'.elim)) fun _ _ h' => h'.elim))) fun _ _ h' => h'.elim)
end
section
variable {X : Cx} {scope : Scope} {vars : List Str} {caps : List (Nat × Str)} {elt tg iter : Expr} {pos : Pos} {wi : TI} {g : TG} {te : TE}
/-- the walk of the block -/
theorem comp_block (B : BlkOk X.env.scope.names X.N scope vars caps) (hc : X.calm = true)
    (hg : ∀ C s₀ H₀ ex, PG (blk X scope (vars ++ caps.map (·.2)) C s₀ H₀ ex) tg g) (he : ∀ C s₀ H₀ ex, PE (blk X scope (vars ++ caps.map (·.2)) C s₀ H₀ ex) elt te)
    {pins : List (Addr × Obj)} {σ : St} {H2 : Hp} {s2 : Shared} {Q : VK} {it : Addr} {fp : List Addr} {tn : Nat → Heap → Prop} {J : It} (I2 : Inv X pins σ H2 s2) (T : Turn X.prog X.w X.K tg J fp it tn) (st2 : tn 0 s2.heap) (f2 : ∀ b ∈ fp, FpOk X pins H2 b)
    {W : Nat → Nat → List V → Hp → Prop} {m0 : Nat} (w0 : W 0 m0 [] H2) (turn : ∀ i m ys H, W i m ys H →
      (J.stop i H ∧ ys.length ≤ sizeLine ∧ ∀ p, H p = none → Q (.ref p) (upd H p (.lst ys))) ∨
      (J.go i H ∧ ys.length < sizeLine ∧ ∀ x H', J.yld i H x H' → g x (vars.map (fun _ => none) ++ capV σ caps) H' fun σ2 H2 => KeepS (vars.map (fun _ => none) ++ capV σ caps) σ2 ∧ te σ2 H2 fun y H3 => ∃ m', m' < m ∧ W (i + 1) m' (ys ++ [y]) H3))
    {RR : Value → Addr → Result → Shared → Prop} {E : Value → Shared → Prop}
    (hRR : ∀ D C s' m, s'.heap.Ns C m → D ≠ C → s2.heap.objs.size ≤ D → s2.heap.objs.size ≤ C → ∀ H', H' C = none → (∀ h', Heap.SameBut C s'.heap h' → Inv X pins σ H' { s' with heap := h' }) → Q (.ref D) H' → RR (.ref D) C (.ok .next) s') :
    wpAny (model X.prog X.w) X.A (newList []) (fun acc s₃ => wpAny (model X.prog X.w) X.A (newFunctionEnv scope X.env.globals (clos X.env scope.names []) [] X.env.qual none .none (some X.env)) (fun cenv s₄ =>
      codeAny (model X.prog X.w) X.A (.compStart (.ListComp elt [⟨tg, iter, [], 0⟩] scope pos) 0 (.ref it) acc { cenv with scope := relabel scope X.env }) (RR acc cenv.locals) s₄) E s₃) E s2 := by
  refine wpAny_newObj_type (wpAny_newFunctionEnv B.cell (by intro y hy; simp at hy) (fun h₁ hns₁ hsb₁ => ?_) B.kind)
  dsimp only at hns₁ hsb₁ ⊢
  generalize hP : s2.heap.push { cls := .type "list", dict := none, data := .seq ([] : List Value).toArray } = HP at hns₁ hsb₁ ⊢
  have hCs : HP.objs.size = s2.heap.objs.size + 1 := by rw [← hP, Heap.size_push]
  have hDC : s2.heap.objs.size ≠ HP.objs.size := by rw [hCs]; exact Nat.ne_of_lt (Nat.lt_succ_self _)
  have hCle : s2.heap.objs.size ≤ HP.objs.size := by rw [hCs]; exact Nat.le_succ _
  have old : ∀ b o, s2.heap.get? b = some o → h₁.get? b = some o := fun b o e => hsb₁.extBut b o (Nat.ne_of_lt (Nat.lt_of_lt_of_le (Heap.lt_size e) hCle)) (Heap.get?_push_of_some _ (hP ▸ Heap.get?_push_of_some _ e))
  have hacc : h₁.PlainList s2.heap.objs.size #[] := ⟨_, hsb₁.extBut _ _ hDC (Heap.get?_push_of_some _ (hP ▸ Heap.get?_push_size _ rfl))⟩
  have flt : ∀ b ∈ fp, b < s2.heap.objs.size := fun b hb => by
    obtain ⟨o, e, _⟩ := T.obj _ _ st2 b hb
    exact Heap.lt_size e
  have st1 : tn 0 h₁ := T.keep _ _ _ st2 fun b _ o e => old b o e
  -- the loop
  have loop : ∀ s3 : Shared, s3 = { s2 with heap := h₁, toks := s2.toks + ([] : List (Str × Value)).length } →
      codeAny (model X.prog X.w) X.A (.compLoop (.ListComp elt [⟨tg, iter, [], 0⟩] scope pos) 0 (.ref it) (.ref s2.heap.objs.size) (compEnvC scope (clos X.env scope.names []) HP.objs.size X.env))
        (RR (.ref s2.heap.objs.size) HP.objs.size) s3 := by
    rintro s3 rfl
    have X' := blk X scope (vars ++ caps.map (·.2)) HP.objs.size s2 H2 fp
    have fpo : ∀ {H' : Hp}, (∀ b ∈ fp, H' b = none) → ∀ b ∈ fp, FpOk (blk X scope (vars ++ caps.map (·.2)) HP.objs.size s2 H2 fp) [] H' b := fun hn b hb => by
      have ok := blk_ok B I2 f2 flt hCle
      exact ⟨hn b hb, (ok.exf b hb).1, ok.exfs b hb, .inl hb, (ok.exf b hb).2, fun p hp => absurd (show p ∈ ([] : List (Addr × Obj)) from hp) (by simp)⟩
    refine codeAny_comp_go (fun n s => ∃ i ys H its, Inv (blk X scope (vars ++ caps.map (·.2)) HP.objs.size s2 H2 fp) [] (vars.map (fun _ => none) ++ capV σ caps) H s ∧ tn i s.heap ∧ (∀ b ∈ fp, H b = none) ∧ s.heap.PlainList s2.heap.objs.size (List.toArray its) ∧ H s2.heap.objs.size = none ∧ Vals ys its ∧ W i n ys H) ?_ m0
      ⟨0, [], H2, [], blk_inv B I2 f2 flt hCle hns₁ old, st1, fun b hb => (f2 b hb).1, hacc, I2.hok.fresh (Nat.le_refl _), .nil, w0⟩
    rintro n s4 ⟨i, ys, H4, its, I4, st4, fr4, pl4, nD4, v4, w4⟩
    obtain ⟨nn, eD⟩ := id pl4
    have DnL : s2.heap.objs.size ≠ (blk X scope (vars ++ caps.map (·.2)) HP.objs.size s2 H2 fp).env.locals := hDC
    have Dfs : s2.heap.objs.size ∉ (blk X scope (vars ++ caps.map (·.2)) HP.objs.size s2 H2 fp).fs := fun z => by
      rcases List.mem_cons.mp (I2.stkSub _ z) with q | q
      · have := I2.lt; rw [← q] at this; exact Nat.lt_irrefl _ this
      · exact I2.nofs (Nat.le_refl _) q
    have Dfp : ∀ b ∈ fp, s2.heap.objs.size ≠ b := fun b hb z => by have := flt b hb; rw [← z] at this; exact Nat.lt_irrefl _ this
    have DnC : ∀ x c, (blk X scope (vars ++ caps.map (·.2)) HP.objs.size s2 H2 fp).env.cells.lookup x = some c → c ≠ s2.heap.objs.size := fun x c e z => by
      rcases clos_lookup _ _ _ _ (B.cells I2) e with q | q
      · cases q
      · obtain ⟨v, o, ho, _⟩ := I2.cell x c q
        have := Heap.lt_size ho
        rw [z] at this
        exact Nat.lt_irrefl _ this
    have pinD : ∀ {σ' : St} {H' : Hp} {s' : Shared}, Inv (blk X scope (vars ++ caps.map (·.2)) HP.objs.size s2 H2 fp) [(s2.heap.objs.size, { cls := .type "list", data := .seq its.toArray nn })] σ' H' s' → s'.heap.PlainList s2.heap.objs.size its.toArray ∧ H' s2.heap.objs.size = none := fun {σ' H' s'} I' => by
      obtain ⟨q1, q2, _⟩ := I'.pin (s2.heap.objs.size, { cls := .type "list", data := .seq its.toArray nn }) (by simp [blk])
      exact ⟨⟨nn, q1⟩, q2⟩
    have I4p : Inv (blk X scope (vars ++ caps.map (·.2)) HP.objs.size s2 H2 fp) [(s2.heap.objs.size, { cls := .type "list", data := .seq its.toArray nn })] (vars.map (fun _ => none) ++ capV σ caps) H4 s4 :=
      I4.pins_of fun p hp => by
        have e : p = (s2.heap.objs.size, { cls := .type "list", data := .seq its.toArray nn }) := by simpa [blk] using hp
        subst e
        exact ⟨eD, nD4, DnL, Dfs, fun v z => by cases z⟩
    have fpo' : ∀ {H' : Hp}, (∀ b ∈ fp, H' b = none) → ∀ b ∈ fp, FpOk (blk X scope (vars ++ caps.map (·.2)) HP.objs.size s2 H2 fp) [(s2.heap.objs.size, { cls := .type "list", data := .seq its.toArray nn })] H' b := fun hn b hb => by
      obtain ⟨q1, q2, q3, q4, q5, _⟩ := fpo hn b hb
      exact ⟨q1, q2, q3, q4, q5, fun p hp => by
        have e : p = (s2.heap.objs.size, { cls := .type "list", data := .seq its.toArray nn }) := by simpa [blk] using hp
        subst e
        exact Dfp b hb⟩
    have unp : ∀ {pl : List (Addr × Obj)} {σ' : St} {H' : Hp} {s' : Shared}, Inv (blk X scope (vars ++ caps.map (·.2)) HP.objs.size s2 H2 fp) pl σ' H' s' → Inv (blk X scope (vars ++ caps.map (·.2)) HP.objs.size s2 H2 fp) [] σ' H' s' := fun {pl σ' H' s'} I' =>
      I'.pins_of fun p hp => absurd (show p ∈ ([] : List (Addr × Obj)) from hp) (by simp)
    rcases turn i n ys H4 w4 with ⟨stop, hz, qn⟩ | ⟨go, hz, step⟩
    · refine thn (T.done (blk X scope (vars ++ caps.map (·.2)) HP.objs.size s2 H2 fp) rfl rfl rfl hc i _ s4 _ H4 _ I4p (fpo' fr4) st4 stop) fun r s5 ⟨hr, I5⟩ => ?_
      subst hr
      obtain ⟨p5, n5⟩ := pinD I5
      obtain ⟨m5, ns5, _⟩ := I5.loc
      refine hRR _ _ s5 m5 ns5 hDC (Nat.le_refl _) hCle _ ?_ (fun h' hs' => blk_out I2 f2 hCle (Nat.le_refl _) hDC (unp I5) n5 p5 v4 hz hs') (qn _ n5)
      rw [upd_ne hDC.symm]
      exact I5.free
    · refine thn (T.item (blk X scope (vars ++ caps.map (·.2)) HP.objs.size s2 H2 fp) rfl rfl rfl hc i _ s4 _ H4 _ I4p (fpo' fr4) st4 go) fun r s5 ⟨u, hr, h5⟩ => ?_
      subst hr
      refine thn h5 fun _ s6 ⟨x, H6, I6, rx, yx, st6, fr6⟩ => ?_
      have I6p := I6.pinned (fpo' fr6) (T.obj _ _ st6)
      refine thn (hg _ _ _ _ _ s6 _ H6 x u _ I6p rx (step x H6 yx)) fun _ s7 ⟨σ7, H7, I7, kp, q7⟩ => ?_
      refine thn (he _ _ _ _ _ s7 σ7 H7 _ I7 q7) fun v s8 ⟨y, H8, I8, ry, m', hm, w8⟩ => ?_
      obtain ⟨p8, n8⟩ := pinD I8.unpinned
      have st8 : tn (i + 1) s8.heap := T.keep _ _ _ st6 fun b hb o e => (I8.pin (b, o) (List.mem_append_right _ (List.mem_append_right _ (mem_pinsAt hb e)))).1
      have fr8 : ∀ b ∈ fp, H8 b = none := fun b hb => by
        obtain ⟨o, e, d⟩ := T.obj _ _ st6 b hb
        exact (I8.pin (b, o) (List.mem_append_right _ (List.mem_append_right _ (mem_pinsAt hb e)))).2.1
      have hl := v4.length
      refine wpAny_list_append_plain p8 (fun h9 p9 sb9 => ⟨m', hm, i + 1, ys ++ [y], H8, its ++ [v], ?_, ?_, fr8, by simpa using p9, n8, v4.append (.cons ry .nil), w8⟩) (by simp; omega)
      · have I9 : Inv (blk X scope (vars ++ caps.map (·.2)) HP.objs.size s2 H2 fp) [] σ7 H8 { s8 with heap := h9, toks := s8.toks } :=
          (unp I8).turned (it := s2.heap.objs.size) (fun b o hb e => sb9.extBut b o hb e) n8 DnL (.inr (Nat.le_refl _)) DnC fun p hp => absurd (show p ∈ ([] : List (Addr × Obj)) from hp) (by simp)
        exact I9.weak kp.1 kp.2
      · exact T.keep _ _ _ st8 fun b hb o e => sb9.extBut b o (Dfp b hb).symm e
  exact codeAny_compStart_list (loop _ rfl) (T.self _ 0 _ _ _ st1 (loop _ rfl))
theorem pe_comp (B : BlkOk X.env.scope.names X.N scope vars caps) (hc : X.calm = true) (hi : PI X tg iter wi)
    (hg : ∀ C s₀ H₀ ex, PG (blk X scope (vars ++ caps.map (·.2)) C s₀ H₀ ex) tg g) (he : ∀ C s₀ H₀ ex, PE (blk X scope (vars ++ caps.map (·.2)) C s₀ H₀ ex) elt te) (hs : ∀ x, foldedSetIterable iter X.env x = pure x := by intro _; rfl) :
    PE X (.ListComp elt [⟨tg, iter, [], 0⟩] scope pos) (tComp wi g te vars caps) := by
  intro pins s σ H Q I h
  rw [eval_ListComp]
  refine wpAny_comprehension_free (use := none) rfl hs (closureFor_eq (B.cells I)) B.kind B.names ?_
  show wpAny _ _ (eval iter X.env) _ _ s
  refine thn (hi pins s σ H _ I h) fun v s1 h1 => thn h1 fun itv s2 h2 => ?_
  obtain ⟨it, fp, tn, J, H2, e, I2, T, st2, f2, W, ⟨m0, w0⟩, turn⟩ := h2
  subst e
  exact comp_block B hc hg he I2 T st2 f2 w0 turn (RR := fun acc C => compPost (model X.prog X.w) X.A X.xe none (EP X pins σ Q) acc C) fun D C s' m ns _ _ _ H' _ k q => ⟨m, ns, fun h' hs' => ⟨.ref D, H', k h' hs', rfl, q⟩⟩
/-- y = [..]: the store is exchanged with the block's own names -/
theorem ps_comp {i : Nat} {y : Str} {py spos : Pos} (B : BlkOk X.env.scope.names X.N scope vars caps) (hc : X.calm = true) (hi : PI X tg iter wi)
    (hg : ∀ C s₀ H₀ ex, PG (blk X scope (vars ++ caps.map (·.2)) C s₀ H₀ ex) tg g) (he : ∀ C s₀ H₀ ex, PE (blk X scope (vars ++ caps.map (·.2)) C s₀ H₀ ex) elt te)
    (hN : X.N.Nodup) (hy : X.N[i]? = some y) (hx : Loc X.env.scope y) (hsw : swapsWith (.ListComp elt [⟨tg, iter, [], 0⟩] scope pos) (some (.Name y py)) spos.line X.env = pure true)
    (hf : X.fn y = true ∨ X.env.scope.names.lookup y = some .local) (hs : ∀ x, foldedSetIterable iter X.env x = pure x := by intro _; rfl) :
    PS X (.Assign [.Name y py] (.ListComp elt [⟨tg, iter, [], 0⟩] scope pos) spos) (fun D σ H => tComp wi g te vars caps σ H fun v H1 => D.nx (σ.set i (some v)) H1) := by
  intro pins s σ H DE I h
  rw [exec_Assign_Name_used _ _ _ _ hsw]
  refine wpAny_bind (wpAny_standAt (wpAny_bind ?_))
  show wpAny _ X.A (do let _ ← comprehension (.ListComp elt [⟨tg, iter, [], 0⟩] scope pos) scope X.env _ (newList []) false (eval iter X.env) (some (assign (.Name y py) X.env))) _ _ s
  refine wpAny_bind (wpAny_mono (wpAny_comprehension_free (use := some (assign (.Name y py) X.env)) (Q := fun _ s' => SP X pins DE .next s') rfl hs (closureFor_eq (B.cells I)) B.kind B.names
    (thn (hi pins s σ H _ I h) fun v s1 h1 => thn h1 fun itv s2 h2 => ?_)) (fun _ s' hq => wpAny_pure (wpAny_pure hq)) fun _ _ e => e)
  obtain ⟨it, fp, tn, J, H2, e, I2, T, st2, f2, W, ⟨m0, w0⟩, turn⟩ := h2
  subst e
  refine comp_block (Q := fun v H1 => DE.nx (σ.set i (some v)) H1) B hc hg he I2 T st2 f2 w0 turn (RR := fun acc C => compPost (model X.prog X.w) X.A X.xe (some (assign (.Name y py) X.env)) (fun _ s' => SP X pins DE .next s') acc C) ?_
  intro D C s' m ns hDC hD hC H' hHC k q
  obtain ⟨oC, es, ep, eC, dC, rC⟩ := ns
  have I' : Inv X pins σ H' s' := k s'.heap (Heap.SameBut.refl ..)
  have nL : C ≠ X.env.locals := fun z => by have := I2.lt; rw [← z] at this; exact absurd (Nat.lt_of_lt_of_le this hC) (Nat.lt_irrefl _)
  have nF : C ∉ X.fs := I2.nofs hC
  have nCell : ∀ x c, X.env.cells.lookup x = some c → c ≠ C := fun x c e z => by
    obtain ⟨v, o, ho, _⟩ := I2.cell x c e
    have := Heap.lt_size ho
    rw [z] at this
    exact absurd (Nat.lt_of_lt_of_le this hC) (Nat.lt_irrefl _)
  have nPin : ∀ p ∈ X.pn ++ pins, p.1 ≠ C := fun p hp z => by
    have := Heap.lt_size (I2.pin p hp).1
    rw [z] at this
    exact absurd (Nat.lt_of_lt_of_le this hC) (Nat.lt_irrefl _)
  have Ip : Inv X (pins ++ [(C, oC)]) σ H' s' := I'.pins_of fun p hp => by
    rcases List.mem_append.mp hp with z | z
    · exact I'.pin p (List.mem_append_right _ z)
    · have e : p = (C, oC) := by simpa using z
      subst e
      exact ⟨eC, hHC, nL, nF, fun v z => by rw [dC] at z; cases z⟩
  refine thn (pg_name (pos := py) hN hy hx hf _ s' σ H' (.ref D) (.ref D) (fun σ' H'' => σ' = σ.set i (some (.ref D)) ∧ H'' = H' ∧ DE.nx σ' H'') Ip rfl ⟨rfl, rfl, q⟩) fun _ s'' ⟨σ'', H'', I'', e1, e2, q''⟩ => ?_
  subst e1 e2
  have eC'' : s''.heap.get? C = some oC := (I''.pin (C, oC) (List.mem_append_right _ (List.mem_append_right _ (by simp)))).1
  refine ⟨m, ⟨oC, es, ep, eC'', dC, rC⟩, fun h' hs' => ⟨_, H'', ?_, q''⟩⟩
  exact I''.unpinned.turned (t' := s''.toks) (it := C) (fun b o hb e => hs'.extBut b o hb e) hHC nL (.inr (Nat.le_trans I2.sz hC)) nCell nPin
end
/-! ### comprehensions by plain functions -/
def slF : Option Sl → Sl
  | some (.fz d) => .fz d
  | _ => .un
@[simp] theorem slF_fz (d : D) : slF (some (.fz d)) = .fz d := rfl
def capS (δ : Dv) (caps : List (Nat × Str)) : Dv := caps.map fun p => slF δ[p.1]?
def mapO (f : D → Option D) : List D → Option (List D)
  | [] => some []
  | d :: ds => (f d).bind fun e => (mapO f ds).bind fun es => some (e :: es)
def oComp (fi : Dv → Option (List D)) (caps : List (Nat × Str)) (bv : D → Option (List D)) (fe : Dv → Option D) : Dv → Option D := fun δ => (fi δ).bind fun ds => if ds.length ≤ sizeLine then (mapO (fun d => (bv d).bind fun vs => fe (vs.map .fz ++ capS δ caps)) ds).bind fun es => some (.list es) else none
def bv1 : D → Option (List D) := fun d => some [d]
def bvT (n : Nat) : D → Option (List D)
  | .tuple ds => if ds.length = n then some ds else none
  | _ => none
theorem mapO_length {f : D → Option D} : ∀ {ds es : List D}, mapO f ds = some es → es.length = ds.length
  | [], es, h => by cases h; rfl
  | d :: ds, es, h => by
    obtain ⟨e, _, h⟩ := bind_some h
    obtain ⟨es', h2, h⟩ := bind_some h
    cases h
    exact congrArg (· + 1) (mapO_length h2)
theorem mapO_get {f : D → Option D} : ∀ {ds es : List D} {i : Nat} {d : D}, mapO f ds = some es → ds[i]? = some d → ∃ e, f d = some e ∧ es[i]? = some e
  | [], es, i, d, h, q => by simp at q
  | d :: ds, es, i, d', h, q => by
    obtain ⟨e, h1, h⟩ := bind_some h
    obtain ⟨es', h2, h⟩ := bind_some h
    cases h
    cases i with
    | zero => simp at q; subst q; exact ⟨e, h1, rfl⟩
    | succ i => simp at q; obtain ⟨e', g1, g2⟩ := mapO_get (i := i) h2 q; exact ⟨e', g1, by simpa using g2⟩
/-- how a target of the block binds -/
def TgOk (K : Fg) (g : TG) (n : Nat) (bv : D → Option (List D)) : Prop := ∀ (x : V) (Z : Hp) (d : D) (vs : List D) (σc : St) (H : Hp) (R : St → Hp → Prop), Rep K Z x d → Same Z H → bv d = some vs → (∀ us, Reps K Z us vs → us.length = n → R (us.map some ++ σc) H) → g x (List.replicate n none ++ σc) H R
theorem tg_one {K : Fg} : TgOk K (gName 0) 1 bv1 := fun x Z d vs σc H R r zh e k => by
  cases e
  exact k [x] (.cons r .nil) rfl
section
variable {X : Cx} {scope : Scope} {vars : List Str} {caps : List (Nat × Str)} {elt tg iter : Expr} {pos : Pos} {g : TG} {fi : Dv → Option (List D)} {fe : Dv → Option D} {bv : D → Option (List D)}
theorem capV_get {σ : St} {δ : Dv} {K : Fg} {H₀ Z₀ Z H : Hp} (hh : Hold K H₀ Z₀ Z δ σ H) : ∀ (j : Nat) d, (capS δ caps)[j]? = some (.fz d) → ∃ v, (capV σ caps)[j]? = some (some v) ∧ Rep K Z v d := fun j d e => by
  unfold capS at e
  unfold capV
  rw [List.getElem?_map] at e ⊢
  cases q : caps[j]? with
  | none => rw [q] at e; cases e
  | some p =>
    rw [q] at e
    have e : slF δ[p.1]? = .fz d := Option.some.inj e
    cases z : δ[p.1]? with
    | none => rw [z] at e; cases e
    | some sl =>
      rw [z] at e
      cases sl with
      | fz d' =>
        cases e
        obtain ⟨v, g1, g2⟩ := hh.fz p.1 _ z
        exact ⟨v, by show some ((σ[p.1]?).getD none) = _; rw [g1]; rfl, g2⟩
      | un => cases e
      | ow _ => cases e
theorem capS_ow {δ : Dv} : ∀ (j : Nat) ds, (capS δ caps)[j]? ≠ some (.ow ds) := fun j ds e => by
  unfold capS at e
  rw [List.getElem?_map] at e
  cases q : caps[j]? with
  | none => rw [q] at e; cases e
  | some p =>
    rw [q] at e
    have e : slF δ[p.1]? = .ow ds := Option.some.inj e
    cases z : δ[p.1]? with
    | none => rw [z] at e; cases e
    | some sl => rw [z] at e; cases sl <;> cases e
/-- a block's slots hold -/
theorem blk_hold {σ : St} {δ : Dv} {K : Fg} {H₀ Z₀ Z H : Hp} (hh : Hold K H₀ Z₀ Z δ σ H) {us : List V} {vs : List D} (r : Reps K Z us vs) : Hold K H Z Z (vs.map .fz ++ capS δ caps) (us.map some ++ capV σ caps) H := by
  have hl := r.length
  refine ⟨hh.zh, Same.refl _, Same.refl _, fun _ _ => rfl, by simp [capS, capV, hl], fun i d e => ?_, fun i ds e => ?_, fun i j ds es a _ e => ?_⟩
  · by_cases hi : i < vs.length
    · rw [List.getElem?_append_left (by simpa using hi), List.getElem?_map] at e
      cases q : vs[i]? with
      | none => rw [q] at e; cases e
      | some d' =>
        rw [q] at e
        cases e
        obtain ⟨v, g1, g2⟩ := r.get q
        exact ⟨v, by rw [List.getElem?_append_left (by simpa [hl] using hi), List.getElem?_map, g1]; rfl, g2⟩
    · rw [List.getElem?_append_right (by simpa using hi)] at e
      obtain ⟨v, g1, g2⟩ := capV_get hh _ d e
      refine ⟨v, ?_, g2⟩
      rw [List.getElem?_append_right (by simpa [hl] using hi)]
      simp only [List.length_map] at g1 ⊢
      rw [hl]; exact g1
  all_goals
    exfalso
    by_cases hi : i < vs.length
    · rw [List.getElem?_append_left (by simpa using hi), List.getElem?_map] at e
      cases q : vs[i]? <;> rw [q] at e <;> cases e
    · rw [List.getElem?_append_right (by simpa using hi)] at e
      exact capS_ow _ _ e
theorem comp_read (tk : TgOk X.K g vars.length bv) {σ : St} {H : Hp} {Q : VK} (h : tV X.K (oComp fi caps bv fe) σ H Q) : tComp (tVI X.K fi) g (tV X.K fe) vars caps σ H Q := by
  obtain ⟨H₀, Z₀, Z, δ, d, hh, e, k⟩ := h
  obtain ⟨ds, e1, e⟩ := bind_some e
  by_cases hz : ds.length ≤ sizeLine
  · rw [if_pos hz] at e
    obtain ⟨es, e2, e⟩ := bind_some e
    cases e
    have le := mapO_length e2
    have hv : vars.map (fun _ => (none : Option V)) = List.replicate vars.length none := by rw [List.map_const']
    refine ⟨H₀, Z₀, Z, δ, ds, hh, e1, fun J Z1 H1 hh1 t1 ok => ?_⟩
    refine ⟨fun i m ys H => m = ds.length - i ∧ i ≤ ds.length ∧ ∃ Zc, Hold X.K H₀ Z₀ Zc δ σ H ∧ Same Z1 Zc ∧ Reps X.K Zc ys (es.take i), ⟨ds.length, by simp, Nat.zero_le _, Z1, hh1, Same.refl _, by simpa using .nil⟩, ?_⟩
    rintro i m ys H2 ⟨rfl, hi2, Zc, hhc, tc, rc⟩
    have zh : Same Z1 H2 := tc.trans hhc.zh
    have ly := rc.length
    rw [List.length_take] at ly
    by_cases hlt : i < ds.length
    · refine .inr ⟨ok.go i H2 zh hlt, by omega, fun x H3 y => ?_⟩
      have ed : ds[i]? = some ds[i] := by simp [hlt]
      obtain ⟨rfl, rx⟩ := ok.yld i H2 x H3 _ zh ed y
      obtain ⟨ei, f1, f2⟩ := mapO_get e2 ed
      obtain ⟨vs, f3, f1⟩ := bind_some f1
      rw [hv]
      refine tk x Zc ds[i] vs (capV σ caps) H3 _ (rx.same tc) hhc.zh f3 fun us ru hn => ⟨⟨by simp [hn], fun j v q => ?_⟩, ?_⟩
      · by_cases hj : j < vars.length
        · rw [List.getElem?_append_left (by simpa using hj), List.getElem?_replicate] at q
          split at q <;> cases q
        · rw [List.getElem?_append_right (by simpa using hj)] at q
          rw [List.getElem?_append_right (by simpa [hn] using hj)]
          simpa [hn] using q
      · refine ⟨H3, Zc, Zc, _, ei, blk_hold hhc ru, f1, fun v Z4 H4 h4 t4 r4 => ⟨ds.length - (i + 1), by omega, rfl, hlt, Z4, hhc.new ⟨t4, h4.h0, h4.zh, h4.zb⟩, tc.trans t4, ?_⟩⟩
        have : es.take (i + 1) = es.take i ++ [ei] := by
          rw [List.take_add_one, f2]; rfl
        rw [this]
        exact (rc.same t4).append (.cons r4 .nil)
    · have hie : i = ds.length := by omega
      subst hie
      refine .inl ⟨ok.stop _ H2 zh (Nat.le_refl _), by omega, fun p hp => ?_⟩
      rw [← le, List.take_length] at rc
      have n := New.add hhc.zh hp (.lst ys)
      exact k _ _ _ (hhc.new n) ((t1.trans tc).trans n.z) (.lst (SqL.of upd_same) (rc.same n.z))
  · rw [if_neg hz] at e; cases e
theorem ev_comp (B : BlkOk X.env.scope.names X.N scope vars caps) (hc : X.calm = true) (hi : IV X tg iter fi) (tk : TgOk X.K g vars.length bv)
    (hg : ∀ C s₀ H₀ ex, PG (blk X scope (vars ++ caps.map (·.2)) C s₀ H₀ ex) tg g) (he : ∀ C s₀ H₀ ex, EV (blk X scope (vars ++ caps.map (·.2)) C s₀ H₀ ex) elt fe) (hs : ∀ x, foldedSetIterable iter X.env x = pure x := by intro _; rfl) :
    EV X (.ListComp elt [⟨tg, iter, [], 0⟩] scope pos) (oComp fi caps bv fe) :=
  PE.imp (pe_comp (te := tV X.K fe) B hc hi hg he hs) fun _ _ _ h => comp_read tk h
theorem sv_comp (i : Nat) {y : Str} {py spos : Pos} (hN : X.N.Nodup) (B : BlkOk X.env.scope.names X.N scope vars caps) (hc : X.calm = true) (hi : IV X tg iter fi) (tk : TgOk X.K g vars.length bv)
    (hg : ∀ C s₀ H₀ ex, PG (blk X scope (vars ++ caps.map (·.2)) C s₀ H₀ ex) tg g) (he : ∀ C s₀ H₀ ex, EV (blk X scope (vars ++ caps.map (·.2)) C s₀ H₀ ex) elt fe)
    (hy : X.N[i]? = some y := by rfl) (hx : Loc X.env.scope y := by first | exact Or.inl rfl | exact Or.inr rfl) (hsw : swapsWith (.ListComp elt [⟨tg, iter, [], 0⟩] scope pos) (some (.Name y py)) spos.line X.env = pure true := by rfl)
    (hf : X.fn y = true ∨ X.env.scope.names.lookup y = some .local := by first | exact .inl rfl | exact .inr rfl | assumption) (hs : ∀ x, foldedSetIterable iter X.env x = pure x := by intro _; rfl) :
    SV X (.Assign [.Name y py] (.ListComp elt [⟨tg, iter, [], 0⟩] scope pos) spos) (sSet i (oComp fi caps bv fe)) :=
  PS.imp (ps_comp (te := tV X.K fe) B hc hi hg he hN hy hx hsw hf hs) fun D σ H h => by
    obtain ⟨H₀, Z₀, Z, δ, r, hh, e, k⟩ := h
    obtain ⟨x, e1, e⟩ := bind_some e
    cases e
    exact comp_read tk ⟨H₀, Z₀, Z, δ, x, hh, e1, fun v Z1 H1 hh1 s1 r1 => k _ H1 Z1 (hh1.set r1) s1⟩
end
end VL

set_option Elab.async false
set_option linter.all false
set_option maxRecDepth 100000
set_option maxHeartbeats 4000000
namespace VL
open PySem PySem.Spec PyProof.Rows L2
section
variable {X : Cx} {e : Expr} {es : List Expr} {p pos : Pos} {fs : Dv → Option (List D)}
/-- a def of the text, every argument given -/
theorem ev_def0 {k : Nat} {x : Str} {g : List D → Option D} (C : Cal X.prog X.w X.K X.mg X.base x k g []) (hr : Room k X.A) (hg : Gl X x) (ha : AV X (e :: es) fs) (hdb : (x == ("__debug__" : Str)) = false := by decide) (he : starEach (e :: es) X.env = (false, eval e X.env) :: starEach es X.env := by rfl)
    (hpl : (backTo pos (starEach es X.env)).any (·.1) = false := by rfl) : EV X (.Call (.Name x p) (e :: es) [] pos) (os fs g) := by
  have h := ev_def C hr hg ha hdb he hpl (p := p) (pos := pos)
  have e : (fun as => g (as ++ [])) = g := by funext as; rw [List.append_nil]
  rw [e] at h
  exact h
end
/-- a plain value at the module's top -/
structure TopV (K : Fg) (mg : Str → Option Value) (x : Str) (d : D) : Prop where
  ex : ∃ v u, mg x = some u ∧ RelV v u ∧ ∀ Z, Rep K Z v d
theorem TopV.tup {K : Fg} {mg : Str → Option Value} {x : Str} {a : Addr} {td : Option Addr} {its : Array Value} {tn : Nat} {ts : Array (Option Value)} {xs : List V} {ds : List D} (hm : mg x = some (.ref a)) (hk : K.lookup a = some ⟨.type "tuple", td, .seq its tn, ts⟩)
    (hz : its.size ≤ sizeLine) (hv : Vals xs its.toList) (hr : ∀ Z, Reps K Z xs ds) : TopV K mg x (.tuple ds) := ⟨.ref a, .ref a, hm, rfl, fun Z => .tup (.inr ⟨_, its, tn, hk, rfl, rfl, hz, hv⟩) (hr Z)⟩
theorem TopV.int {K : Fg} {mg : Str → Option Value} {x : Str} {i : Int} {t : Tok} (hm : mg x = some (.int i t)) : TopV K mg x (.int i) := ⟨.int i, .int i t, hm, ⟨t, rfl⟩, fun _ => .int i⟩
theorem ev_topV {X : Cx} {x : Str} {pos : Pos} {d : D} (T : TopV X.K X.mg x d) (hg : Gl X x) (hd : (x == ("__debug__" : Str)) = false := by decide) : EV X (.Name x pos) (oC d) := by
  obtain ⟨v, u, hm, r, h⟩ := T.ex
  exact ev_c (pe_glob hg hm r hd) h
/-! ### lists of one's own -/
def slO : Option Sl → Option (List D)
  | some (.ow ds) => some ds
  | _ => none
@[simp] theorem slO_ow (ds : List D) : slO (some (.ow ds)) = some ds := rfl
theorem slO_eq {o : Option Sl} {ds : List D} (h : slO o = some ds) : o = some (.ow ds) := by
  cases o with
  | none => cases h
  | some s => cases s <;> cases h; rfl
/-- x = [..] -/
@[simp] def sOwn (i : Nat) (fs : Dv → Option (List D)) : Sf := fun δ => (fs δ).bind fun ds => if ds.length ≤ sizeLine then some (.nx, δ.set i (.ow ds)) else none
/-- x[k] of one's own -/
@[simp] def oIxO (i : Nat) (f : Dv → Option D) : Dv → Option D := fun δ => (slO δ[i]?).bind fun ds => (f δ).bind fun k => ixD (.list ds) k
@[simp] def oLenO (i : Nat) : Dv → Option D := fun δ => (slO δ[i]?).bind fun ds => some (.int ds.length)
def putD (ds : List D) (k v : D) : Option (List D) := match k with
  | .int j => (ixN ds.length j).map fun n => ds.set n v
  | _ => none
@[simp] theorem putD_int (ds : List D) (j : Int) (v : D) : putD ds (.int j) v = (ixN ds.length j).map fun n => ds.set n v := rfl
/-- x[k] = v -/
@[simp] def sPut (i : Nat) (fk fv : Dv → Option D) : Sf := fun δ => (fv δ).bind fun v => (fk δ).bind fun k => (slO δ[i]?).bind fun ds => (putD ds k v).bind fun ds' => some (.nx, δ.set i (.ow ds'))
/-- x.append(v) -/
@[simp] def sApp (i : Nat) (f : Dv → Option D) : Sf := fun δ => (f δ).bind fun v => (slO δ[i]?).bind fun ds => if ds.length < sizeLine then some (.nx, δ.set i (.ow (ds ++ [v]))) else none
section
variable {X : Cx} {e b : Expr} {es : List Expr} {p pos tpos apos : Pos} {fs : Dv → Option (List D)} {f fk fv : Dv → Option D}
theorem sv_own (i : Nat) {x : Str} {pos' : Pos} (hN : X.N.Nodup) (ha : AV X es fs) (hi : X.N[i]? = some x := by rfl) (hx : Loc X.env.scope x := by first | exact Or.inl rfl | exact Or.inr rfl) (hs : swapsWith (.List es p) (some (.Name x pos')) pos.line X.env = pure false := by rfl)
    (hf : X.fn x = true ∨ X.env.scope.names.lookup x = some .local := by first | exact .inl rfl | exact .inr rfl | assumption) : SV X (.Assign [.Name x pos'] (.List es p) pos) (sOwn i fs) :=
  PS.imp (ps_set hN hi hx (pe_lst ha) hs hf) fun D σ H h => by
    obtain ⟨H₀, Z₀, Z, δ, r, hh, e, k⟩ := h
    obtain ⟨ds, e1, e⟩ := bind_some e
    by_cases hl : ds.length ≤ sizeLine
    · rw [if_pos hl] at e
      cases e
      exact ⟨H₀, Z₀, Z, δ, ds, hh, e1, fun vs Z1 H1 hh1 t1 r1 => ⟨by rw [r1.length]; exact hl, fun p hp => k _ _ Z1 (hh1.setO hp r1) t1⟩⟩
    · rw [if_neg hl] at e; cases e
theorem ow_at {K : Fg} {H₀ Z₀ Z : Hp} {δ : Dv} {σ : St} {H : Hp} (hh : Hold K H₀ Z₀ Z δ σ H) {i : Nat} {ds : List D} (h : slO δ[i]? = some ds) : ∃ a xs, σ[i]? = some (some (V.ref a)) ∧ H a = some (.lst xs) ∧ Reps K Z xs ds := by
  obtain ⟨a, xs, h1, _, _, h4, h5⟩ := hh.ow i ds (slO_eq h)
  exact ⟨a, xs, h1, h4, h5⟩
theorem ev_ixO (i : Nat) {x : Str} (hb : EV X b f) (hs : PlainIx b) (hN : X.N[i]? = some x := by rfl) (hv : Vis X.env.scope x := by first | exact Or.inl rfl | exact Or.inr (Or.inl rfl) | exact Or.inr (Or.inr rfl)) (hd : (x == ("__debug__" : Str)) = false := by decide) (hcd : (x == ("__classdict__" : Str)) = false := by decide) :
    EV X (.Subscript (.Name x p) b pos) (oIxO i f) :=
  PE.imp (pe_ix ix_list (pe_var hN hv hd hcd) hb hs) fun σ H Q h => by
    obtain ⟨H₀, Z₀, Z, δ, d, hh, e, k⟩ := h
    obtain ⟨ds, e1, e⟩ := bind_some e
    obtain ⟨y, e2, e⟩ := bind_some e
    obtain ⟨a, xs, h1, h4, h5⟩ := ow_at hh e1
    refine ⟨_, h1, H₀, Z₀, Z, δ, y, hh, e2, fun v Z1 H1 hh1 t1 r1 => ?_⟩
    obtain ⟨a', xs', g1, g4, g5⟩ := ow_at hh1 e1
    rw [h1] at g1
    cases g1
    cases r1 with
    | int j =>
      obtain ⟨w, ew, rw'⟩ := g5.at e
      exact ⟨_, _, _, w, rfl, rfl, SqL.of g4, ew, k w Z1 H1 hh1 t1 rw'⟩
    | _ => cases e
theorem ev_lenO (i : Nat) {x : Str} {p2 : Pos} (hg : Gl X "len") (hm : X.mg "len" = none) (hN : X.N[i]? = some x := by rfl) (hv : Vis X.env.scope x := by first | exact Or.inl rfl | exact Or.inr (Or.inl rfl) | exact Or.inr (Or.inr rfl)) (hd : (x == ("__debug__" : Str)) = false := by decide) (hcd : (x == ("__classdict__" : Str)) = false := by decide)
    (he : starEach [.Name x p2] X.env = (false, eval (.Name x p2) X.env) :: starEach [] X.env := by rfl) (hpl : (backTo pos (starEach [] X.env)).any (·.1) = false := by rfl) : EV X (.Call (.Name "len" p) [.Name x p2] [] pos) (oLenO i) :=
  PE.imp (pe_callB call_len hg hm PySem.boot_len (pa_cons (pe_var hN hv hd hcd) pa_nil he) (by decide) (by decide) he hpl) fun σ H Q h => by
    obtain ⟨H₀, Z₀, Z, δ, d, hh, e, k⟩ := h
    obtain ⟨ds, e1, e⟩ := bind_some e
    cases e
    obtain ⟨a, xs, h1, h4, h5⟩ := ow_at hh e1
    exact ⟨_, h1, _, _, rfl, .inl ⟨xs, SqL.of h4, rfl⟩, k _ Z H hh (Same.refl _) (by rw [h5.length]; exact .int _)⟩
theorem sv_put (i : Nat) {x : Str} (hb : EV X b fk) (hv' : EV X e fv) (hN : X.N[i]? = some x := by rfl) (hv : Vis X.env.scope x := by first | exact Or.inl rfl | exact Or.inr (Or.inl rfl) | exact Or.inr (Or.inr rfl)) (hd : (x == ("__debug__" : Str)) = false := by decide) (hcd : (x == ("__classdict__" : Str)) = false := by decide)
    (hs : swapsWithSole [.Subscript (.Name x p) b tpos] e pos.line X.env = pure false := by rfl) (hw : swappedStores [.Subscript (.Name x p) b tpos] e X.env = pure none := by rfl)
    (ha : ∀ v, assign (.Subscript (.Name x p) b tpos) X.env v = (do
      let ov ← holding [v] (eval (.Name x p) X.env)
      let iv ← holding [v, ov] (eval b X.env)
      standAt tpos
      holding [v, ov, iv] (setItem ov iv v)
      release [v, ov, iv] []) := by intro _; rfl) : SV X (.Assign [.Subscript (.Name x p) b tpos] e pos) (sPut i fk fv) :=
  PS.imp (ps_asg hv' (pg_sub (pe_var hN hv hd hcd) hb set_list ha) hs hw) fun D σ H h => by
    obtain ⟨H₀, Z₀, Z, δ, r, hh, e, k⟩ := h
    obtain ⟨v, e1, e⟩ := bind_some e
    obtain ⟨y, e2, e⟩ := bind_some e
    obtain ⟨ds, e3, e⟩ := bind_some e
    obtain ⟨ds', e4, e⟩ := bind_some e
    cases e
    refine ⟨H₀, Z₀, Z, δ, v, hh, e1, fun w Z1 H1 hh1 t1 r1 => ?_⟩
    obtain ⟨a, xs, h1, h4, h5⟩ := ow_at hh1 e3
    refine ⟨_, h1, H₀, Z₀, Z1, δ, y, hh1, e2, fun u Z2 H2 hh2 t2 r2 => ?_⟩
    obtain ⟨a', xs', g1, g4, g5⟩ := ow_at hh2 e3
    rw [h1] at g1
    cases g1
    cases r2 with
    | int j =>
      rw [putD_int] at e4
      cases q : ixN ds.length j with
      | none => rw [q] at e4; cases e4
      | some n =>
        rw [q] at e4
        cases e4
        refine ⟨a, xs', j, n, rfl, rfl, g4, by rw [g5.length]; exact q, ?_⟩
        exact k σ _ Z2 (hh2.chg (xs := xs') (slO_eq e3) h1 (g5.set (r1.same t2) n)) (t1.trans t2)
    | _ => cases e4
theorem sv_app (i : Nat) {x : Str} {cpos : Pos} (hv' : EV X e f) (hN : X.N[i]? = some x := by rfl) (hv : Vis X.env.scope x := by first | exact Or.inl rfl | exact Or.inr (Or.inl rfl) | exact Or.inr (Or.inr rfl)) (hd : (x == ("__debug__" : Str)) = false := by decide) (hcd : (x == ("__classdict__" : Str)) = false := by decide)
    (hbase : attributeBase (.Name x p) "append" X.env (eval (.Name x p) X.env) = eval (.Name x p) X.env := by rfl)
    (hfew : ((backTo cpos (starEach [e] X.env)).all (fun x => !x.1) && (backToKw cpos (keywordEach [] X.env)).all (fun x => x.1.isSome)
      && decide ([e].length + ([] : List Keyword).length + (if ([] : List Keyword).isEmpty then 0 else 1) < 30)) = true := by rfl)
    (hline : (apos.endLine == cpos.line) = true := by rfl) (hs : starEach [e] X.env = (false, eval e X.env) :: starEach [] X.env := by rfl) (hplain : (backTo cpos (starEach [] X.env)).any (·.1) = false := by rfl)
    (hsw : swapsWith (.Call (.Attribute (.Name x p) "append" apos) [e] [] cpos) none pos.line X.env = pure false := by rfl) : SV X (.Expr (.Call (.Attribute (.Name x p) "append" apos) [e] [] cpos) pos) (sApp i f) :=
  PS.imp (ps_expr (pe_bm PySem.F.plainAttrs_list PySem.F.slot_list_append PySem.F.type_list_append mt_append (pe_var hN hv hd hcd) (pa_cons hv' pa_nil hs) hbase hfew hline hs hplain) hsw) fun D σ H h => by
    obtain ⟨H₀, Z₀, Z, δ, r, hh, e, k⟩ := h
    obtain ⟨v, e1, e⟩ := bind_some e
    obtain ⟨ds, e2, e⟩ := bind_some e
    by_cases hl : ds.length < sizeLine
    · rw [if_pos hl] at e
      cases e
      obtain ⟨a, xs, h1, h4, h5⟩ := ow_at hh e2
      refine ⟨_, h1, .inl ⟨rfl, xs, SqL.of h4⟩, H₀, Z₀, Z, δ, v, hh, e1, fun w Z1 H1 hh1 t1 r1 => ?_⟩
      obtain ⟨a', xs', g1, g4, g5⟩ := ow_at hh1 e2
      rw [h1] at g1
      cases g1
      exact ⟨a, xs', w, rfl, rfl, g4, by rw [g5.length]; exact hl, k σ _ Z1 (hh1.chg (xs := xs') (slO_eq e2) h1 (g5.append (.cons r1 .nil))) t1⟩
    · rw [if_neg hl] at e; cases e
end
end VL

set_option Elab.async false
set_option linter.all false
set_option maxRecDepth 100000
set_option maxHeartbeats 4000000
namespace VL
open PySem PySem.Spec PyProof.Rows L2
/-! ### comprehensions with a test -/
section
def tCompI (wi : TI) (g : TG) (tt : TT) (te : TE) (vars : List Str) (caps : List (Nat × Str)) : TE := fun σ H Q => wi σ H fun J H1 => ∃ W : Nat → Nat → List V → Hp → Prop, (∃ m, W 0 m [] H1) ∧ ∀ i m ys H, W i m ys H →
  (J.stop i H ∧ ys.length ≤ sizeLine ∧ ∀ p, H p = none → Q (.ref p) (upd H p (.lst ys))) ∨
  (J.go i H ∧ ys.length < sizeLine ∧ ∀ x H', J.yld i H x H' → g x (vars.map (fun _ => none) ++ capV σ caps) H' fun σ2 H2 => KeepS (vars.map (fun _ => none) ++ capV σ caps) σ2 ∧ tt σ2 H2 fun b H3 => if b = true then te σ2 H3 fun y H4 => ∃ m', m' < m ∧ W (i + 1) m' (ys ++ [y]) H4 else ∃ m', m' < m ∧ W (i + 1) m' ys H3)
theorem codeAny_comp_goI {prog : Program} {w : World} {A : Around} {R : Result → Shared → Prop} {s : Shared} {elt target iter cnd : Expr} {scope : Scope} {pos : Pos} {it acc : Value} {env : Env} (I : Nat → Shared → Prop)
    (turn : ∀ n s, I n s → wpAny (model prog w) A (pyNext it) (fun r s₁ => match r with
      | none => R (.ok .next) s₁
      | some v => wpAny (model prog w) A (letOwnedTupleGo target it v) (fun _ s₁ => wpAny (model prog w) A (assign target env v) (fun _ s₂ => wpAny (model prog w) A (isTrue cnd env (eval cnd env)) (fun ok s₂ => if ok = true then wpAny (model prog w) A (eval elt env) (fun x s₃ =>
          wpAny (model prog w) A (call (.builtin "list.append") [acc, x]) (fun _ s₄ => ∃ m, m < n ∧ I m s₄) (fun _ _ => False) s₃) (fun _ _ => False) s₂ else ∃ m, m < n ∧ I m s₂) (fun _ _ => False) s₂) (fun _ _ => False) s₁) (fun _ _ => False) s₁) (fun _ _ => False) s)
    (n : Nat) (h : I n s) : codeAny (model prog w) A (.compLoop (.ListComp elt [⟨target, iter, [cnd], 0⟩] scope pos) 0 it acc env) R s := by
  refine codeAny_loop rfl I (fun n s hI => ?_) n h
  show wpAny _ _ ((compTurn (.ListComp elt [⟨target, iter, [cnd], 0⟩] scope pos) 0 it acc env).onRaise (fun x => do noteFrame x env; theTreesLotGoes x)) _ _ s
  refine wpAny_noted ?_
  rw [compTurn_list]
  refine wpAny_bind (wpAny_standAt (wpAny_bind (wpAny_mono (turn n s hI) (fun r s₁ h₁ => ?_) fun _ _ h' => h'.elim)))
  cases r with
  | none => exact wpAny_pure h₁
  | some v =>
    refine wpAny_bind (wpAny_mono h₁ (fun _ s₁ h₁ => ?_) fun _ _ h' => h'.elim)
    refine wpAny_bind (wpAny_mono h₁ (fun _ s₂ h₂ => ?_) fun _ _ h' => h'.elim)
    refine wpAny_bind (wpAny_tests_one (wpAny_mono h₂ (fun okb s₃ h₃ => ?_) fun _ _ h' => h'.elim))
    cases okb with
    | false => exact wpAny_pure ⟨rfl, h₃⟩
    | true => exact wpAny_bind (wpAny_bind (wpAny_mono h₃ (fun x s₄ h₄ => wpAny_bind (wpAny_mono h₄ (fun _ s₅ h₅ => wpAny_pure (wpAny_pure ⟨rfl, h₅⟩)) fun _ _ h' => h'.elim)) fun _ _ h' => h'.elim))
end
section
variable {X : Cx} {scope : Scope} {vars : List Str} {caps : List (Nat × Str)} {elt tg iter cnd : Expr} {pos : Pos} {wi : TI} {g : TG} {tt : TT} {te : TE}
/-- the walk of the block -/
theorem comp_blockI (B : BlkOk X.env.scope.names X.N scope vars caps) (hc : X.calm = true)
    (hg : ∀ C s₀ H₀ ex, PG (blk X scope (vars ++ caps.map (·.2)) C s₀ H₀ ex) tg g) (hb : ∀ C s₀ H₀ ex, PT (blk X scope (vars ++ caps.map (·.2)) C s₀ H₀ ex) cnd tt) (he : ∀ C s₀ H₀ ex, PE (blk X scope (vars ++ caps.map (·.2)) C s₀ H₀ ex) elt te)
    {pins : List (Addr × Obj)} {σ : St} {H2 : Hp} {s2 : Shared} {Q : VK} {it : Addr} {fp : List Addr} {tn : Nat → Heap → Prop} {J : It} (I2 : Inv X pins σ H2 s2) (T : Turn X.prog X.w X.K tg J fp it tn) (st2 : tn 0 s2.heap) (f2 : ∀ b ∈ fp, FpOk X pins H2 b)
    {W : Nat → Nat → List V → Hp → Prop} {m0 : Nat} (w0 : W 0 m0 [] H2) (turn : ∀ i m ys H, W i m ys H →
      (J.stop i H ∧ ys.length ≤ sizeLine ∧ ∀ p, H p = none → Q (.ref p) (upd H p (.lst ys))) ∨
      (J.go i H ∧ ys.length < sizeLine ∧ ∀ x H', J.yld i H x H' → g x (vars.map (fun _ => none) ++ capV σ caps) H' fun σ2 H2 => KeepS (vars.map (fun _ => none) ++ capV σ caps) σ2 ∧ tt σ2 H2 fun b H3 => if b = true then te σ2 H3 fun y H4 => ∃ m', m' < m ∧ W (i + 1) m' (ys ++ [y]) H4 else ∃ m', m' < m ∧ W (i + 1) m' ys H3))
    {RR : Value → Addr → Result → Shared → Prop} {E : Value → Shared → Prop}
    (hRR : ∀ D C s' m, s'.heap.Ns C m → D ≠ C → s2.heap.objs.size ≤ D → s2.heap.objs.size ≤ C → ∀ H', H' C = none → (∀ h', Heap.SameBut C s'.heap h' → Inv X pins σ H' { s' with heap := h' }) → Q (.ref D) H' → RR (.ref D) C (.ok .next) s') :
    wpAny (model X.prog X.w) X.A (newList []) (fun acc s₃ => wpAny (model X.prog X.w) X.A (newFunctionEnv scope X.env.globals (clos X.env scope.names []) [] X.env.qual none .none (some X.env)) (fun cenv s₄ =>
      codeAny (model X.prog X.w) X.A (.compStart (.ListComp elt [⟨tg, iter, [cnd], 0⟩] scope pos) 0 (.ref it) acc { cenv with scope := relabel scope X.env }) (RR acc cenv.locals) s₄) E s₃) E s2 := by
  refine wpAny_newObj_type (wpAny_newFunctionEnv B.cell (by intro y hy; simp at hy) (fun h₁ hns₁ hsb₁ => ?_) B.kind)
  dsimp only at hns₁ hsb₁ ⊢
  generalize hP : s2.heap.push { cls := .type "list", dict := none, data := .seq ([] : List Value).toArray } = HP at hns₁ hsb₁ ⊢
  have hCs : HP.objs.size = s2.heap.objs.size + 1 := by rw [← hP, Heap.size_push]
  have hDC : s2.heap.objs.size ≠ HP.objs.size := by rw [hCs]; exact Nat.ne_of_lt (Nat.lt_succ_self _)
  have hCle : s2.heap.objs.size ≤ HP.objs.size := by rw [hCs]; exact Nat.le_succ _
  have old : ∀ b o, s2.heap.get? b = some o → h₁.get? b = some o := fun b o e => hsb₁.extBut b o (Nat.ne_of_lt (Nat.lt_of_lt_of_le (Heap.lt_size e) hCle)) (Heap.get?_push_of_some _ (hP ▸ Heap.get?_push_of_some _ e))
  have hacc : h₁.PlainList s2.heap.objs.size #[] := ⟨_, hsb₁.extBut _ _ hDC (Heap.get?_push_of_some _ (hP ▸ Heap.get?_push_size _ rfl))⟩
  have flt : ∀ b ∈ fp, b < s2.heap.objs.size := fun b hb => by
    obtain ⟨o, e, _⟩ := T.obj _ _ st2 b hb
    exact Heap.lt_size e
  have st1 : tn 0 h₁ := T.keep _ _ _ st2 fun b _ o e => old b o e
  -- the loop
  have loop : ∀ s3 : Shared, s3 = { s2 with heap := h₁, toks := s2.toks + ([] : List (Str × Value)).length } →
      codeAny (model X.prog X.w) X.A (.compLoop (.ListComp elt [⟨tg, iter, [cnd], 0⟩] scope pos) 0 (.ref it) (.ref s2.heap.objs.size) (compEnvC scope (clos X.env scope.names []) HP.objs.size X.env))
        (RR (.ref s2.heap.objs.size) HP.objs.size) s3 := by
    rintro s3 rfl
    have X' := blk X scope (vars ++ caps.map (·.2)) HP.objs.size s2 H2 fp
    have fpo : ∀ {H' : Hp}, (∀ b ∈ fp, H' b = none) → ∀ b ∈ fp, FpOk (blk X scope (vars ++ caps.map (·.2)) HP.objs.size s2 H2 fp) [] H' b := fun hn b hb => by
      have ok := blk_ok B I2 f2 flt hCle
      exact ⟨hn b hb, (ok.exf b hb).1, ok.exfs b hb, .inl hb, (ok.exf b hb).2, fun p hp => absurd (show p ∈ ([] : List (Addr × Obj)) from hp) (by simp)⟩
    refine codeAny_comp_goI (fun n s => ∃ i ys H its, Inv (blk X scope (vars ++ caps.map (·.2)) HP.objs.size s2 H2 fp) [] (vars.map (fun _ => none) ++ capV σ caps) H s ∧ tn i s.heap ∧ (∀ b ∈ fp, H b = none) ∧ s.heap.PlainList s2.heap.objs.size (List.toArray its) ∧ H s2.heap.objs.size = none ∧ Vals ys its ∧ W i n ys H) ?_ m0
      ⟨0, [], H2, [], blk_inv B I2 f2 flt hCle hns₁ old, st1, fun b hb => (f2 b hb).1, hacc, I2.hok.fresh (Nat.le_refl _), .nil, w0⟩
    rintro n s4 ⟨i, ys, H4, its, I4, st4, fr4, pl4, nD4, v4, w4⟩
    obtain ⟨nn, eD⟩ := id pl4
    have DnL : s2.heap.objs.size ≠ (blk X scope (vars ++ caps.map (·.2)) HP.objs.size s2 H2 fp).env.locals := hDC
    have Dfs : s2.heap.objs.size ∉ (blk X scope (vars ++ caps.map (·.2)) HP.objs.size s2 H2 fp).fs := fun z => by
      rcases List.mem_cons.mp (I2.stkSub _ z) with q | q
      · have := I2.lt; rw [← q] at this; exact Nat.lt_irrefl _ this
      · exact I2.nofs (Nat.le_refl _) q
    have Dfp : ∀ b ∈ fp, s2.heap.objs.size ≠ b := fun b hb z => by have := flt b hb; rw [← z] at this; exact Nat.lt_irrefl _ this
    have DnC : ∀ x c, (blk X scope (vars ++ caps.map (·.2)) HP.objs.size s2 H2 fp).env.cells.lookup x = some c → c ≠ s2.heap.objs.size := fun x c e z => by
      rcases clos_lookup _ _ _ _ (B.cells I2) e with q | q
      · cases q
      · obtain ⟨v, o, ho, _⟩ := I2.cell x c q
        have := Heap.lt_size ho
        rw [z] at this
        exact Nat.lt_irrefl _ this
    have pinD : ∀ {σ' : St} {H' : Hp} {s' : Shared}, Inv (blk X scope (vars ++ caps.map (·.2)) HP.objs.size s2 H2 fp) [(s2.heap.objs.size, { cls := .type "list", data := .seq its.toArray nn })] σ' H' s' → s'.heap.PlainList s2.heap.objs.size its.toArray ∧ H' s2.heap.objs.size = none := fun {σ' H' s'} I' => by
      obtain ⟨q1, q2, _⟩ := I'.pin (s2.heap.objs.size, { cls := .type "list", data := .seq its.toArray nn }) (by simp [blk])
      exact ⟨⟨nn, q1⟩, q2⟩
    have I4p : Inv (blk X scope (vars ++ caps.map (·.2)) HP.objs.size s2 H2 fp) [(s2.heap.objs.size, { cls := .type "list", data := .seq its.toArray nn })] (vars.map (fun _ => none) ++ capV σ caps) H4 s4 :=
      I4.pins_of fun p hp => by
        have e : p = (s2.heap.objs.size, { cls := .type "list", data := .seq its.toArray nn }) := by simpa [blk] using hp
        subst e
        exact ⟨eD, nD4, DnL, Dfs, fun v z => by cases z⟩
    have fpo' : ∀ {H' : Hp}, (∀ b ∈ fp, H' b = none) → ∀ b ∈ fp, FpOk (blk X scope (vars ++ caps.map (·.2)) HP.objs.size s2 H2 fp) [(s2.heap.objs.size, { cls := .type "list", data := .seq its.toArray nn })] H' b := fun hn b hb => by
      obtain ⟨q1, q2, q3, q4, q5, _⟩ := fpo hn b hb
      exact ⟨q1, q2, q3, q4, q5, fun p hp => by
        have e : p = (s2.heap.objs.size, { cls := .type "list", data := .seq its.toArray nn }) := by simpa [blk] using hp
        subst e
        exact Dfp b hb⟩
    have unp : ∀ {pl : List (Addr × Obj)} {σ' : St} {H' : Hp} {s' : Shared}, Inv (blk X scope (vars ++ caps.map (·.2)) HP.objs.size s2 H2 fp) pl σ' H' s' → Inv (blk X scope (vars ++ caps.map (·.2)) HP.objs.size s2 H2 fp) [] σ' H' s' := fun {pl σ' H' s'} I' =>
      I'.pins_of fun p hp => absurd (show p ∈ ([] : List (Addr × Obj)) from hp) (by simp)
    rcases turn i n ys H4 w4 with ⟨stop, hz, qn⟩ | ⟨go, hz, step⟩
    · refine thn (T.done (blk X scope (vars ++ caps.map (·.2)) HP.objs.size s2 H2 fp) rfl rfl rfl hc i _ s4 _ H4 _ I4p (fpo' fr4) st4 stop) fun r s5 ⟨hr, I5⟩ => ?_
      subst hr
      obtain ⟨p5, n5⟩ := pinD I5
      obtain ⟨m5, ns5, _⟩ := I5.loc
      refine hRR _ _ s5 m5 ns5 hDC (Nat.le_refl _) hCle _ ?_ (fun h' hs' => blk_out I2 f2 hCle (Nat.le_refl _) hDC (unp I5) n5 p5 v4 hz hs') (qn _ n5)
      rw [upd_ne hDC.symm]
      exact I5.free
    · refine thn (T.item (blk X scope (vars ++ caps.map (·.2)) HP.objs.size s2 H2 fp) rfl rfl rfl hc i _ s4 _ H4 _ I4p (fpo' fr4) st4 go) fun r s5 ⟨u, hr, h5⟩ => ?_
      subst hr
      refine thn h5 fun _ s6 ⟨x, H6, I6, rx, yx, st6, fr6⟩ => ?_
      have I6p := I6.pinned (fpo' fr6) (T.obj _ _ st6)
      refine thn (hg _ _ _ _ _ s6 _ H6 x u _ I6p rx (step x H6 yx)) fun _ s7 ⟨σ7, H7, I7, kp, q7⟩ => ?_
      refine thn (hb _ _ _ _ _ s7 σ7 H7 _ I7 q7) fun okb s7' q7' => ?_
      obtain ⟨H7', I7', q7'⟩ := q7'
      cases okb with
      | false =>
        obtain ⟨m', hm, w8⟩ := q7'
        rw [if_neg (by decide)]
        obtain ⟨p8, n8⟩ := pinD I7'.unpinned
        have st8 : tn (i + 1) s7'.heap := T.keep _ _ _ st6 fun b hb o e => (I7'.pin (b, o) (List.mem_append_right _ (List.mem_append_right _ (mem_pinsAt hb e)))).1
        have fr8 : ∀ b ∈ fp, H7' b = none := fun b hb => by
          obtain ⟨o, e, d⟩ := T.obj _ _ st6 b hb
          exact (I7'.pin (b, o) (List.mem_append_right _ (List.mem_append_right _ (mem_pinsAt hb e)))).2.1
        exact ⟨m', hm, i + 1, ys, H7', its, (unp I7').weak kp.1 kp.2, st8, fr8, p8, n8, v4, w8⟩
      | true =>
      rw [if_pos rfl]
      rw [if_pos rfl] at q7'
      refine thn (he _ _ _ _ _ s7' σ7 H7' _ I7' q7') fun v s8 ⟨y, H8, I8, ry, m', hm, w8⟩ => ?_
      obtain ⟨p8, n8⟩ := pinD I8.unpinned
      have st8 : tn (i + 1) s8.heap := T.keep _ _ _ st6 fun b hb o e => (I8.pin (b, o) (List.mem_append_right _ (List.mem_append_right _ (mem_pinsAt hb e)))).1
      have fr8 : ∀ b ∈ fp, H8 b = none := fun b hb => by
        obtain ⟨o, e, d⟩ := T.obj _ _ st6 b hb
        exact (I8.pin (b, o) (List.mem_append_right _ (List.mem_append_right _ (mem_pinsAt hb e)))).2.1
      have hl := v4.length
      refine wpAny_list_append_plain p8 (fun h9 p9 sb9 => ⟨m', hm, i + 1, ys ++ [y], H8, its ++ [v], ?_, ?_, fr8, by simpa using p9, n8, v4.append (.cons ry .nil), w8⟩) (by simp; omega)
      · have I9 : Inv (blk X scope (vars ++ caps.map (·.2)) HP.objs.size s2 H2 fp) [] σ7 H8 { s8 with heap := h9, toks := s8.toks } :=
          (unp I8).turned (it := s2.heap.objs.size) (fun b o hb e => sb9.extBut b o hb e) n8 DnL (.inr (Nat.le_refl _)) DnC fun p hp => absurd (show p ∈ ([] : List (Addr × Obj)) from hp) (by simp)
        exact I9.weak kp.1 kp.2
      · exact T.keep _ _ _ st8 fun b hb o e => sb9.extBut b o (Dfp b hb).symm e
  exact codeAny_compStart_list (loop _ rfl) (T.self _ 0 _ _ _ st1 (loop _ rfl))
theorem pe_compI (B : BlkOk X.env.scope.names X.N scope vars caps) (hc : X.calm = true) (hi : PI X tg iter wi)
    (hg : ∀ C s₀ H₀ ex, PG (blk X scope (vars ++ caps.map (·.2)) C s₀ H₀ ex) tg g) (hb : ∀ C s₀ H₀ ex, PT (blk X scope (vars ++ caps.map (·.2)) C s₀ H₀ ex) cnd tt) (he : ∀ C s₀ H₀ ex, PE (blk X scope (vars ++ caps.map (·.2)) C s₀ H₀ ex) elt te) (hs : ∀ x, foldedSetIterable iter X.env x = pure x := by intro _; rfl) :
    PE X (.ListComp elt [⟨tg, iter, [cnd], 0⟩] scope pos) (tCompI wi g tt te vars caps) := by
  intro pins s σ H Q I h
  rw [eval_ListComp]
  refine wpAny_comprehension_free (use := none) rfl hs (closureFor_eq (B.cells I)) B.kind B.names ?_
  show wpAny _ _ (eval iter X.env) _ _ s
  refine thn (hi pins s σ H _ I h) fun v s1 h1 => thn h1 fun itv s2 h2 => ?_
  obtain ⟨it, fp, tn, J, H2, e, I2, T, st2, f2, W, ⟨m0, w0⟩, turn⟩ := h2
  subst e
  exact comp_blockI B hc hg hb he I2 T st2 f2 w0 turn (RR := fun acc C => compPost (model X.prog X.w) X.A X.xe none (EP X pins σ Q) acc C) fun D C s' m ns _ _ _ H' _ k q => ⟨m, ns, fun h' hs' => ⟨.ref D, H', k h' hs', rfl, q⟩⟩
/-- y = [..]: the store is exchanged with the block's own names -/
theorem ps_compI {i : Nat} {y : Str} {py spos : Pos} (B : BlkOk X.env.scope.names X.N scope vars caps) (hc : X.calm = true) (hi : PI X tg iter wi)
    (hg : ∀ C s₀ H₀ ex, PG (blk X scope (vars ++ caps.map (·.2)) C s₀ H₀ ex) tg g) (hb : ∀ C s₀ H₀ ex, PT (blk X scope (vars ++ caps.map (·.2)) C s₀ H₀ ex) cnd tt) (he : ∀ C s₀ H₀ ex, PE (blk X scope (vars ++ caps.map (·.2)) C s₀ H₀ ex) elt te)
    (hN : X.N.Nodup) (hy : X.N[i]? = some y) (hx : Loc X.env.scope y) (hsw : swapsWith (.ListComp elt [⟨tg, iter, [cnd], 0⟩] scope pos) (some (.Name y py)) spos.line X.env = pure true)
    (hf : X.fn y = true ∨ X.env.scope.names.lookup y = some .local) (hs : ∀ x, foldedSetIterable iter X.env x = pure x := by intro _; rfl) :
    PS X (.Assign [.Name y py] (.ListComp elt [⟨tg, iter, [cnd], 0⟩] scope pos) spos) (fun D σ H => tCompI wi g tt te vars caps σ H fun v H1 => D.nx (σ.set i (some v)) H1) := by
  intro pins s σ H DE I h
  rw [exec_Assign_Name_used _ _ _ _ hsw]
  refine wpAny_bind (wpAny_standAt (wpAny_bind ?_))
  show wpAny _ X.A (do let _ ← comprehension (.ListComp elt [⟨tg, iter, [cnd], 0⟩] scope pos) scope X.env _ (newList []) false (eval iter X.env) (some (assign (.Name y py) X.env))) _ _ s
  refine wpAny_bind (wpAny_mono (wpAny_comprehension_free (use := some (assign (.Name y py) X.env)) (Q := fun _ s' => SP X pins DE .next s') rfl hs (closureFor_eq (B.cells I)) B.kind B.names
    (thn (hi pins s σ H _ I h) fun v s1 h1 => thn h1 fun itv s2 h2 => ?_)) (fun _ s' hq => wpAny_pure (wpAny_pure hq)) fun _ _ e => e)
  obtain ⟨it, fp, tn, J, H2, e, I2, T, st2, f2, W, ⟨m0, w0⟩, turn⟩ := h2
  subst e
  refine comp_blockI (Q := fun v H1 => DE.nx (σ.set i (some v)) H1) B hc hg hb he I2 T st2 f2 w0 turn (RR := fun acc C => compPost (model X.prog X.w) X.A X.xe (some (assign (.Name y py) X.env)) (fun _ s' => SP X pins DE .next s') acc C) ?_
  intro D C s' m ns hDC hD hC H' hHC k q
  obtain ⟨oC, es, ep, eC, dC, rC⟩ := ns
  have I' : Inv X pins σ H' s' := k s'.heap (Heap.SameBut.refl ..)
  have nL : C ≠ X.env.locals := fun z => by have := I2.lt; rw [← z] at this; exact absurd (Nat.lt_of_lt_of_le this hC) (Nat.lt_irrefl _)
  have nF : C ∉ X.fs := I2.nofs hC
  have nCell : ∀ x c, X.env.cells.lookup x = some c → c ≠ C := fun x c e z => by
    obtain ⟨v, o, ho, _⟩ := I2.cell x c e
    have := Heap.lt_size ho
    rw [z] at this
    exact absurd (Nat.lt_of_lt_of_le this hC) (Nat.lt_irrefl _)
  have nPin : ∀ p ∈ X.pn ++ pins, p.1 ≠ C := fun p hp z => by
    have := Heap.lt_size (I2.pin p hp).1
    rw [z] at this
    exact absurd (Nat.lt_of_lt_of_le this hC) (Nat.lt_irrefl _)
  have Ip : Inv X (pins ++ [(C, oC)]) σ H' s' := I'.pins_of fun p hp => by
    rcases List.mem_append.mp hp with z | z
    · exact I'.pin p (List.mem_append_right _ z)
    · have e : p = (C, oC) := by simpa using z
      subst e
      exact ⟨eC, hHC, nL, nF, fun v z => by rw [dC] at z; cases z⟩
  refine thn (pg_name (pos := py) hN hy hx hf _ s' σ H' (.ref D) (.ref D) (fun σ' H'' => σ' = σ.set i (some (.ref D)) ∧ H'' = H' ∧ DE.nx σ' H'') Ip rfl ⟨rfl, rfl, q⟩) fun _ s'' ⟨σ'', H'', I'', e1, e2, q''⟩ => ?_
  subst e1 e2
  have eC'' : s''.heap.get? C = some oC := (I''.pin (C, oC) (List.mem_append_right _ (List.mem_append_right _ (by simp)))).1
  refine ⟨m, ⟨oC, es, ep, eC'', dC, rC⟩, fun h' hs' => ⟨_, H'', ?_, q''⟩⟩
  exact I''.unpinned.turned (t' := s''.toks) (it := C) (fun b o hb e => hs'.extBut b o hb e) hHC nL (.inr (Nat.le_trans I2.sz hC)) nCell nPin
end
/-! ### by plain functions -/
def filO (t : D → Option Bool) (f : D → Option D) : List D → Option (List D)
  | [] => some []
  | d :: ds => (t d).bind fun b => if b = true then (f d).bind fun e => (filO t f ds).bind fun es => some (e :: es) else filO t f ds
@[simp] theorem filO_nil {t : D → Option Bool} {f : D → Option D} : filO t f [] = some [] := rfl
def oCompI (fi : Dv → Option (List D)) (caps : List (Nat × Str)) (bv : D → Option (List D)) (ft : Dv → Option Bool) (fe : Dv → Option D) : Dv → Option D := fun δ => (fi δ).bind fun ds => if ds.length ≤ sizeLine then (filO (fun d => (bv d).bind fun vs => ft (vs.map .fz ++ capS δ caps)) (fun d => (bv d).bind fun vs => fe (vs.map .fz ++ capS δ caps)) ds).bind fun es => some (.list es) else none
theorem filO_snoc {t : D → Option Bool} {f : D → Option D} : ∀ {ds es : List D} {i : Nat} {d : D}, filO t f ds = some es → ds[i]? = some d → ∃ xs, filO t f (ds.take i) = some xs ∧ ∃ b, t d = some b ∧ (b = false → filO t f (ds.take (i + 1)) = some xs) ∧ (b = true → ∃ e, f d = some e ∧ filO t f (ds.take (i + 1)) = some (xs ++ [e]))
  | [], es, i, d, h, q => by simp at q
  | d :: ds, es, i, d', h, q => by
    obtain ⟨b, h1, h⟩ := bind_some h
    cases i with
    | zero =>
      simp at q; subst q
      refine ⟨[], rfl, b, h1, fun hb => ?_, fun hb => ?_⟩
      · subst hb; simp [filO, h1]
      · subst hb
        rw [if_pos rfl] at h
        obtain ⟨e, h2, h⟩ := bind_some h
        exact ⟨e, h2, by simp [filO, h1, h2]⟩
    | succ i =>
      simp at q
      cases b with
      | false =>
        rw [if_neg (by decide)] at h
        obtain ⟨xs, g1, b', g2, g3, g4⟩ := filO_snoc (i := i) h q
        refine ⟨xs, by simp [filO, h1, g1], b', g2, fun hb => by simpa [filO, h1] using g3 hb, fun hb => ?_⟩
        obtain ⟨e, k1, k2⟩ := g4 hb
        exact ⟨e, k1, by simpa [filO, h1] using k2⟩
      | true =>
        rw [if_pos rfl] at h
        obtain ⟨e0, h2, h⟩ := bind_some h
        obtain ⟨es', h3, h⟩ := bind_some h
        obtain ⟨xs, g1, b', g2, g3, g4⟩ := filO_snoc (i := i) h3 q
        refine ⟨e0 :: xs, by simp [filO, h1, h2, g1], b', g2, fun hb => by simp [filO, h1, h2, g3 hb], fun hb => ?_⟩
        obtain ⟨e, k1, k2⟩ := g4 hb
        exact ⟨e, k1, by simp [filO, h1, h2, k2]⟩
theorem filO_le {t : D → Option Bool} {f : D → Option D} : ∀ {ds es : List D}, filO t f ds = some es → es.length ≤ ds.length
  | [], es, h => by cases h; exact Nat.le_refl _
  | d :: ds, es, h => by
    obtain ⟨b, h1, h⟩ := bind_some h
    cases b with
    | false => rw [if_neg (by decide)] at h; exact Nat.le_succ_of_le (filO_le h)
    | true =>
      rw [if_pos rfl] at h
      obtain ⟨e0, h2, h⟩ := bind_some h
      obtain ⟨es', h3, h⟩ := bind_some h
      cases h
      exact Nat.succ_le_succ (filO_le h3)
section
variable {X : Cx} {scope : Scope} {vars : List Str} {caps : List (Nat × Str)} {elt tg iter cnd : Expr} {pos : Pos} {g : TG} {fi : Dv → Option (List D)} {ft : Dv → Option Bool} {fe : Dv → Option D} {bv : D → Option (List D)}
theorem comp_readI (tk : TgOk X.K g vars.length bv) {σ : St} {H : Hp} {Q : VK} (h : tV X.K (oCompI fi caps bv ft fe) σ H Q) : tCompI (tVI X.K fi) g (tVT X.K ft) (tV X.K fe) vars caps σ H Q := by
  obtain ⟨H₀, Z₀, Z, δ, d, hh, e, k⟩ := h
  obtain ⟨ds, e1, e⟩ := bind_some e
  by_cases hz : ds.length ≤ sizeLine
  · rw [if_pos hz] at e
    obtain ⟨es, e2, e⟩ := bind_some e
    cases e
    have hv : vars.map (fun _ => (none : Option V)) = List.replicate vars.length none := by rw [List.map_const']
    refine ⟨H₀, Z₀, Z, δ, ds, hh, e1, fun J Z1 H1 hh1 t1 ok => ?_⟩
    refine ⟨fun i m ys H => m = ds.length - i ∧ i ≤ ds.length ∧ ∃ Zc xs, Hold X.K H₀ Z₀ Zc δ σ H ∧ Same Z1 Zc ∧ filO (fun d => (bv d).bind fun vs => ft (vs.map .fz ++ capS δ caps)) (fun d => (bv d).bind fun vs => fe (vs.map .fz ++ capS δ caps)) (ds.take i) = some xs ∧ Reps X.K Zc ys xs, ⟨ds.length, by simp, Nat.zero_le _, Z1, [], hh1, Same.refl _, rfl, .nil⟩, ?_⟩
    rintro i m ys H2 ⟨rfl, hi2, Zc, xs, hhc, tc, fx, rc⟩
    have zh : Same Z1 H2 := tc.trans hhc.zh
    have ly := rc.length
    have lx := filO_le fx
    rw [List.length_take] at lx
    by_cases hlt : i < ds.length
    · refine .inr ⟨ok.go i H2 zh hlt, by omega, fun x H3 y => ?_⟩
      have ed : ds[i]? = some ds[i] := by simp [hlt]
      obtain ⟨rfl, rx⟩ := ok.yld i H2 x H3 _ zh ed y
      obtain ⟨xs', f0, b, fb, ff, ftr⟩ := filO_snoc e2 ed
      rw [fx] at f0
      cases f0
      obtain ⟨vs, f3, f1⟩ := bind_some fb
      rw [hv]
      refine tk x Zc ds[i] vs (capV σ caps) H3 _ (rx.same tc) hhc.zh f3 fun us ru hn => ⟨⟨by simp [hn], fun j v q => ?_⟩, ?_⟩
      · by_cases hj : j < vars.length
        · rw [List.getElem?_append_left (by simpa using hj), List.getElem?_replicate] at q
          split at q <;> cases q
        · rw [List.getElem?_append_right (by simpa using hj)] at q
          rw [List.getElem?_append_right (by simpa [hn] using hj)]
          simpa [hn] using q
      · refine ⟨H3, Zc, Zc, _, b, blk_hold hhc ru, f1, fun Z3 H3' h3 t3 => ?_⟩
        have hh3 := hhc.new ⟨t3, h3.h0, h3.zh, h3.zb⟩
        cases b with
        | false =>
          dsimp only
          rw [if_neg (by decide)]
          exact ⟨ds.length - (i + 1), by omega, rfl, hlt, Z3, xs, hh3, tc.trans t3, ff rfl, rc.same t3⟩
        | true =>
          dsimp only
          rw [if_pos rfl]
          obtain ⟨ei, f2, f4⟩ := ftr rfl
          rw [f3] at f2
          refine ⟨H3, Zc, Z3, _, ei, h3, f2, fun v Z4 H4 h4 t4 r4 => ⟨ds.length - (i + 1), by omega, rfl, hlt, Z4, xs ++ [ei], ?_, (tc.trans t3).trans t4, f4, ((rc.same t3).same t4).append (.cons r4 .nil)⟩⟩
          exact hhc.new ⟨t3.trans t4, h4.h0, h4.zh, h4.zb⟩
    · have hie : i = ds.length := by omega
      subst hie
      refine .inl ⟨ok.stop _ H2 zh (Nat.le_refl _), by omega, fun p hp => ?_⟩
      rw [List.take_length, e2] at fx
      cases fx
      have n := New.add hhc.zh hp (.lst ys)
      exact k _ _ _ (hhc.new n) ((t1.trans tc).trans n.z) (.lst (SqL.of upd_same) (rc.same n.z))
  · rw [if_neg hz] at e; cases e
theorem ev_compI (B : BlkOk X.env.scope.names X.N scope vars caps) (hc : X.calm = true) (hi : IV X tg iter fi) (tk : TgOk X.K g vars.length bv)
    (hg : ∀ C s₀ H₀ ex, PG (blk X scope (vars ++ caps.map (·.2)) C s₀ H₀ ex) tg g) (hb : ∀ C s₀ H₀ ex, TV (blk X scope (vars ++ caps.map (·.2)) C s₀ H₀ ex) cnd ft) (he : ∀ C s₀ H₀ ex, EV (blk X scope (vars ++ caps.map (·.2)) C s₀ H₀ ex) elt fe) (hs : ∀ x, foldedSetIterable iter X.env x = pure x := by intro _; rfl) :
    EV X (.ListComp elt [⟨tg, iter, [cnd], 0⟩] scope pos) (oCompI fi caps bv ft fe) :=
  PE.imp (pe_compI (tt := tVT X.K ft) (te := tV X.K fe) B hc hi hg hb he hs) fun _ _ _ h => comp_readI tk h
theorem sv_compI (i : Nat) {y : Str} {py spos : Pos} (hN : X.N.Nodup) (B : BlkOk X.env.scope.names X.N scope vars caps) (hc : X.calm = true) (hi : IV X tg iter fi) (tk : TgOk X.K g vars.length bv)
    (hg : ∀ C s₀ H₀ ex, PG (blk X scope (vars ++ caps.map (·.2)) C s₀ H₀ ex) tg g) (hb : ∀ C s₀ H₀ ex, TV (blk X scope (vars ++ caps.map (·.2)) C s₀ H₀ ex) cnd ft) (he : ∀ C s₀ H₀ ex, EV (blk X scope (vars ++ caps.map (·.2)) C s₀ H₀ ex) elt fe)
    (hy : X.N[i]? = some y := by rfl) (hx : Loc X.env.scope y := by first | exact Or.inl rfl | exact Or.inr rfl) (hsw : swapsWith (.ListComp elt [⟨tg, iter, [cnd], 0⟩] scope pos) (some (.Name y py)) spos.line X.env = pure true := by rfl)
    (hf : X.fn y = true ∨ X.env.scope.names.lookup y = some .local := by first | exact .inl rfl | exact .inr rfl | assumption) (hs : ∀ x, foldedSetIterable iter X.env x = pure x := by intro _; rfl) :
    SV X (.Assign [.Name y py] (.ListComp elt [⟨tg, iter, [cnd], 0⟩] scope pos) spos) (sSet i (oCompI fi caps bv ft fe)) :=
  PS.imp (ps_compI (tt := tVT X.K ft) (te := tV X.K fe) B hc hi hg hb he hN hy hx hsw hf hs) fun D σ H h => by
    obtain ⟨H₀, Z₀, Z, δ, r, hh, e, k⟩ := h
    obtain ⟨x, e1, e⟩ := bind_some e
    cases e
    exact comp_readI tk ⟨H₀, Z₀, Z, δ, x, hh, e1, fun v Z1 H1 hh1 s1 r1 => k _ H1 Z1 (hh1.set r1) s1⟩
end
end VL

set_option Elab.async false
set_option linter.all false
set_option maxRecDepth 100000
set_option maxHeartbeats 4000000
namespace VL
open PySem PySem.Spec PyProof.Rows L2
/-! ### a op b op c -/
def oCh (f1 f2 f3 : Dv → Option D) (g g' : D → D → Option D) : Dv → Option D := fun δ => (f1 δ).bind fun a => (f2 δ).bind fun b => (g a b).bind fun r => (asB r).bind fun k => if k = true then (f3 δ).bind fun c => g' b c else some (.bool false)
section
variable {X : Cx} {a b c : Expr} {pos : Pos} {f1 f2 f3 : Dv → Option D}
theorem chain_read {K : Fg} {g g' : D → D → Option D} {σ : St} {H : Hp} {Q : VK} (h : tV K (oCh f1 f2 f3 g g') σ H Q) : tChain (rD K g) (rD K g') (tV K f1) (tV K f2) (tV K f3) σ H Q := by
  obtain ⟨H₀, Z₀, Z, δ, d, hh, e, k⟩ := h
  obtain ⟨x, e1, ea⟩ := bind_some e
  obtain ⟨y, e2, eb⟩ := bind_some ea
  obtain ⟨r, e3, ec⟩ := bind_some eb
  obtain ⟨kk, e4, ed⟩ := bind_some ec
  clear e ea eb ec
  have er := asB_eq e4
  subst er
  refine ⟨H₀, Z₀, Z, δ, x, hh, e1, fun v1 Z1 H1 hh1 s1 r1 => ⟨H₀, Z₀, Z1, δ, y, hh1, e2, fun v2 Z2 H2 hh2 s2 r2 => ?_⟩⟩
  refine ⟨Z2, x, y, _, hh2.zh, r1.same s2, r2, e3, fun v3 Z3 H3 n r3 => ⟨kk, r3.bl_eq, ?_⟩⟩
  cases kk with
  | true =>
    rw [if_pos rfl] at ed ⊢
    obtain ⟨z, e5, e⟩ := bind_some ed
    refine ⟨H₀, Z₀, Z3, δ, z, hh2.new n, e5, fun v4 Z4 H4 hh4 s4 r4 => ⟨Z4, y, z, d, hh4.zh, (r2.same n.z).same s4, r4, e, fun v5 Z5 H5 n5 r5 => ?_⟩⟩
    exact k v5 Z5 H5 (hh4.new n5) ((((s1.trans s2).trans n.z).trans s4).trans n5.z) r5
  | false =>
    rw [if_neg (by decide)] at ed ⊢
    cases ed
    exact k _ Z3 H3 (hh2.new n) ((s1.trans s2).trans n.z) (.bl _)
theorem ev_chain {op op' : CmpOp} {g g' : D → D → Option D} (ho : OpR X (compareOp op) (rD X.K g)) (ho' : OpR X (compareOp op') (rD X.K g')) (ha : EV X a f1) (hb : EV X b f2) (hc : EV X c f3)
    (hm : lastMarks [op, op'] [b, c] = false := by with_unfolding_all rfl) : EV X (.Compare a [op, op'] [b, c] pos) (oCh f1 f2 f3 g g') :=
  PE.imp (pe_chain ho ho' ha hb hc hm) fun _ _ _ h => chain_read h
theorem tv_chain {op op' : CmpOp} {g g' : D → D → Option D} (ho : OpR X (compareOp op) (rD X.K g)) (ho' : OpR X (compareOp op') (rD X.K g')) (ha : EV X a f1) (hb : EV X b f2) (hc : EV X c f3)
    (hm : lastMarks [op, op'] [b, c] = false := by with_unfolding_all rfl) : TV X (.Compare a [op, op'] [b, c] pos) (ob (oCh f1 f2 f3 g g')) :=
  PT.imp (pt_chain ho ho' ha hb hc hm) fun _ _ _ h => chain_read (toB h)
end
/-! ### in, not in: flat items -/
def flD : D → Bool
  | .none => true
  | .bool _ => true
  | .int _ => true
  | .str _ => true
  | _ => false
def inL (x : D) (ds : List D) : Bool := ds.any fun y => PyData.eqv y x
def inD (neg : Bool) : D → D → Option D := fun a b => (itsD b).bind fun ds => if flD a = true ∧ ds.all flD = true then some (.bool (if neg = true then !inL a ds else inL a ds)) else none
theorem Rep.flat {K : Fg} {Z : Hp} {v : V} {d : D} (r : Rep K Z v d) : flatV v = flD d := by cases r <;> rfl
theorem Rep.eqF {K : Fg} {Z : Hp} {v u : V} {d e : D} (r : Rep K Z v d) (q : Rep K Z u e) (h1 : flD d = true) (h2 : flD e = true) : eqV v u = PyData.eqv d e := by
  cases r <;> first | (cases q <;> first | rfl | cases h2) | cases h1
theorem Reps.allF {K : Fg} {Z : Hp} : ∀ {vs : List V} {ds : List D}, Reps K Z vs ds → vs.all flatV = ds.all flD
  | _, _, .nil => rfl
  | _, _, .cons r t => by rw [List.all_cons, List.all_cons, r.flat, t.allF]
theorem Reps.inF {K : Fg} {Z : Hp} {x : V} {a : D} (q : Rep K Z x a) (h : flD a = true) : ∀ {vs : List V} {ds : List D}, Reps K Z vs ds → ds.all flD = true → inV x vs = inL a ds
  | _, _, .nil, _ => rfl
  | _, _, .cons r t, f => by
    rw [List.all_cons, Bool.and_eq_true] at f
    show (eqV _ x || inV x _) = (PyData.eqv _ a || inL a _)
    rw [r.eqF q f.1 h, t.inF q h f.2]
theorem in_read {K : Fg} {neg : Bool} {x y : V} {H : Hp} {Q : VK} (h : rD K (inD neg) x y H Q) : rIn K neg x y H Q := by
  obtain ⟨Z, a, b, d, zh, ra, rb, e, k⟩ := h
  obtain ⟨ds, e1, e⟩ := bind_some e
  by_cases c : flD a = true ∧ ds.all flD = true
  · rw [if_pos c] at e
    cases e
    have go : ∀ (xs : List V), Reps K Z xs ds → (∃ p, y = .ref p ∧ (SqL K H p xs ∨ SqT K H p xs)) → rIn K neg x y H Q := fun xs r ⟨p, ey, hq⟩ => by
      refine ⟨p, xs, ey, hq, by rw [ra.flat]; exact c.1, by rw [r.allF]; exact c.2, ?_⟩
      have := r.inF ra c.1 c.2
      rw [this]
      exact k _ Z H (New.refl zh) (.bl _)
    cases rb with
    | lst h q => cases e1; exact go _ q ⟨_, rfl, .inl (SqL.same h zh)⟩
    | tup h q => cases e1; exact go _ q ⟨_, rfl, .inr (SqT.same h zh)⟩
    | _ => cases e1
  · rw [if_neg c] at e; cases e
theorem d_in {X : Cx} : OpR X (compareOp .In) (rD X.K (inD false)) := OpR.imp op_in_seq fun _ _ _ _ h => in_read h
theorem d_notin {X : Cx} : OpR X (compareOp .NotIn) (rD X.K (inD true)) := OpR.imp op_notIn_seq fun _ _ _ _ h => in_read h
/-! ### targets that are tuples -/
def gT : List (D → Dv → Option Dv) → List D → Dv → Option Dv
  | [], [], δ => some δ
  | g :: gs, d :: ds, δ => (g d δ).bind fun δ1 => gT gs ds δ1
  | _, _, _ => none
def gTu (gs : List (D → Dv → Option Dv)) : D → Dv → Option Dv
  | .tuple ds, δ => gT gs ds δ
  | _, _ => none
@[simp] theorem gT_nil (δ : Dv) : gT [] [] δ = some δ := rfl
@[simp] theorem gT_cons (g : D → Dv → Option Dv) (gs : List (D → Dv → Option Dv)) (d : D) (ds : List D) (δ : Dv) : gT (g :: gs) (d :: ds) δ = (g d δ).bind fun δ1 => gT gs ds δ1 := rfl
@[simp] theorem gTu_tup (gs : List (D → Dv → Option Dv)) (ds : List D) (δ : Dv) : gTu gs (.tuple ds) δ = gT gs ds δ := rfl
theorem gT_len : ∀ {gs : List (D → Dv → Option Dv)} {ds : List D} {δ δ' : Dv}, gT gs ds δ = some δ' → ds.length = gs.length
  | [], [], _, _, _ => rfl
  | [], _ :: _, _, _, h => by cases h
  | _ :: _, [], _, _, h => by cases h
  | g :: gs, d :: ds, δ, δ', h => by
    obtain ⟨δ1, _, h⟩ := bind_some h
    exact congrArg (· + 1) (gT_len h)
def tVGs (K : Fg) (gs : List (D → Dv → Option Dv)) : TGs := fun vs σ H Q => ∃ H₀ Z₀ Z δ ds δ', Hold K H₀ Z₀ Z δ σ H ∧ Reps K Z vs ds ∧ gT gs ds δ = some δ' ∧ ∀ σ' H' Z', Hold K H₀ Z₀ Z' δ' σ' H' → Same Z Z' → Q σ' H'
def GVs (X : Cx) (es : List Expr) (gs : List (D → Dv → Option Dv)) : Prop := PGs X es (tVGs X.K gs)
section
variable {X : Cx} {pos : Pos} {e : Expr} {es : List Expr} {g : D → Dv → Option Dv} {gs : List (D → Dv → Option Dv)}
theorem PGs.imp {t t' : TGs} (h : PGs X es t) (i : ∀ v σ H Q, t' v σ H Q → t v σ H Q) : PGs X es t' := fun pins s σ H x v Q I r q => h pins s σ H x v Q I r (i _ _ _ _ q)
theorem gvs_nil : GVs X [] [] := PGs.imp pgs_nil fun vs σ H Q h => by
  obtain ⟨H₀, Z₀, Z, δ, ds, δ', hh, r, e, k⟩ := h
  cases r with
  | nil => cases e; exact ⟨rfl, k σ H Z hh (Same.refl _)⟩
  | cons _ _ => cases e
theorem gvs_cons (h1 : GV X e g) (h2 : GVs X es gs) (hs : (assignEach (e :: es) X.env).map (·.2) = assign e X.env :: (assignEach es X.env).map (·.2) := by rfl) : GVs X (e :: es) (g :: gs) :=
  PGs.imp (pgs_cons h1 h2 hs) fun vs σ H Q h => by
    obtain ⟨H₀, Z₀, Z, δ, ds, δ', hh, r, e, k⟩ := h
    cases r with
    | nil => cases e
    | cons r t =>
      obtain ⟨δ1, e1, e⟩ := bind_some e
      exact ⟨_, _, rfl, H₀, Z₀, Z, δ, _, δ1, hh, r, e1, fun σ1 H1 Z1 hh1 s1 => ⟨H₀, Z₀, Z1, δ1, _, δ', hh1, t.same s1, e, fun σ2 H2 Z2 hh2 s2 => k σ2 H2 Z2 hh2 (s1.trans s2)⟩⟩
theorem gv_tup {k : Nat} (hc : X.calm = true) (h : GVs X es gs) (hn : (assignEach es X.env).length = gs.length := by rfl) (hst : (assignEach es X.env).findIdx? (·.1) = none := by rfl) : GV X (.Tuple es k pos) (gTu gs) :=
  PG.imp (pg_tup hc h hn hst) fun v σ H Q h => by
    obtain ⟨H₀, Z₀, Z, δ, d, δ', hh, r, e, k⟩ := h
    cases r with
    | tup q t =>
      have el : _ = gs.length := gT_len (gs := gs) e
      exact ⟨_, _, rfl, SqT.same q hh.zh, by rw [t.length]; exact el, H₀, Z₀, Z, δ, _, δ', hh, t, e, k⟩
    | _ => cases e
def sAsg (f : Dv → Option D) (g : D → Dv → Option Dv) : Sf := fun δ => (f δ).bind fun d => (g d δ).bind fun δ' => some (.nx, δ')
theorem sv_asg {tg : Expr} {f : Dv → Option D} (he : EV X e f) (hg : GV X tg g) (hs : swapsWithSole [tg] e pos.line X.env = pure false := by rfl) (hw : swappedStores [tg] e X.env = pure none := by rfl)
    (h1 : (assignEach [tg] X.env).map (·.2) = [assign tg X.env] := by rfl) : SV X (.Assign [tg] e pos) (sAsg f g) :=
  PS.imp (ps_asg he hg hs hw h1) fun D σ H h => by
    obtain ⟨H₀, Z₀, Z, δ, r, hh, e, k⟩ := h
    obtain ⟨d, e1, e⟩ := bind_some e
    obtain ⟨δ', e2, e⟩ := bind_some e
    cases e
    exact ⟨H₀, Z₀, Z, δ, d, hh, e1, fun v Z1 H1 hh1 s1 r1 => ⟨H₀, Z₀, Z1, δ, d, δ', hh1, r1, e2, fun σ' H' Z' hh' s' => k σ' H' Z' hh' (s1.trans s')⟩⟩
end
/-! ### a block's target that is a tuple of names -/
def gNs : Nat → Nat → TGs
  | _, 0 => gNil
  | i, n + 1 => gCons (gName i) (gNs (i + 1) n)
theorem gNs_ok {Q : St → Hp → Prop} {H : Hp} {σc : St} : ∀ (us : List V) (ps : List V), Q ((ps ++ us).map some ++ σc) H → gNs ps.length us.length us (ps.map some ++ (List.replicate us.length none ++ σc)) H Q
  | [], ps, h => ⟨rfl, by simpa using h⟩
  | u :: us, ps, h => by
    refine ⟨u, us, rfl, ?_⟩
    have e : (ps.map some ++ (List.replicate (us.length + 1) none ++ σc)).set ps.length (some u) = (ps ++ [u]).map some ++ (List.replicate us.length none ++ σc) := by
      simp [List.replicate_succ, List.set_append]
    show gNs (ps.length + 1) us.length us ((ps.map some ++ (List.replicate (us.length + 1) none ++ σc)).set ps.length (some u)) H Q
    rw [e]
    have := gNs_ok (Q := Q) (H := H) (σc := σc) us (ps ++ [u]) (by simpa using h)
    simpa using this
theorem tg_tup {K : Fg} (n : Nat) : TgOk K (gTup K n (gNs 0 n)) n (bvT n) := fun x Z d vs σc H R r zh e k => by
  cases r with
  | @tup a xs ds q t =>
    have e' : (if ds.length = n then some ds else none) = some vs := e
    by_cases hn : ds.length = n
    · rw [if_pos hn] at e'
      cases e'
      have hl := t.length
      refine ⟨_, _, rfl, SqT.same q zh, by omega, ?_⟩
      have := gNs_ok (Q := R) (H := H) (σc := σc) xs [] (by simpa using k xs t (by omega))
      rw [hl, hn] at this
      simpa using this
    · rw [if_neg hn] at e'; cases e'
  | _ => simp [bvT] at e
/-! ### while -/
def wN : Nat := 1000000
theorem wloop_mono {t : Dv → Option Bool} {b : Sf} : ∀ {n m : Nat} {δ : Dv} {r : Fl × Dv}, wloop t b n δ = some r → n ≤ m → wloop t b m δ = some r
  | 0, _, _, _, h, _ => by cases h
  | n + 1, 0, _, _, _, hm => by omega
  | n + 1, m + 1, δ, r, h, hm => by
    have hm : n ≤ m := by omega
    obtain ⟨c, h1, h⟩ := bind_some h
    show ((t δ).bind fun c => _) = _
    rw [h1, Option.bind_some]
    cases c with
    | false => exact h
    | true =>
      rw [if_pos rfl] at h ⊢
      obtain ⟨⟨fl, δ2⟩, h2, h⟩ := bind_some h
      rw [h2, Option.bind_some]
      cases fl with
      | nx => exact wloop_mono h hm
      | ct => exact wloop_mono h hm
      | bk => exact h
      | rt d => exact h
theorem wloop_stop {t : Dv → Option Bool} {b : Sf} {δ : Dv} (n : Nat) (h : t δ = some false) : wloop t b (n + 1) δ = some (.nx, δ) := by
  show ((t δ).bind fun c => _) = _
  rw [h]; rfl
theorem wloop_go {t : Dv → Option Bool} {b : Sf} {δ δ2 : Dv} {r : Fl × Dv} (n : Nat) (h : t δ = some true) (h2 : b δ = some (.nx, δ2)) (h3 : wloop t b n δ2 = some r) : wloop t b (n + 1) δ = some r := by
  show ((t δ).bind fun c => _) = _
  rw [h, Option.bind_some, if_pos rfl, h2, Option.bind_some]
  exact h3
theorem loop_step {g : D → Dv → Option Dv} {b : Sf} {d : D} {ds : List D} {δ δ1 δ2 : Dv} (h1 : g d δ = some δ1) (h2 : b δ1 = some (.nx, δ2)) : loop g b (d :: ds) δ = loop g b ds δ2 := by
  show ((g d δ).bind fun δ1 => _) = _
  rw [h1, Option.bind_some, h2]; rfl
theorem loop_ret {g : D → Dv → Option Dv} {b : Sf} {d x : D} {ds : List D} {δ δ1 δ2 : Dv} (h1 : g d δ = some δ1) (h2 : b δ1 = some (.rt x, δ2)) : loop g b (d :: ds) δ = some (.rt x, δ2) := by
  show ((g d δ).bind fun δ1 => _) = _
  rw [h1, Option.bind_some, h2]; rfl
/-! ### a def that calls itself -/
theorem bv_no {X : Cx} {ss : List Stmt} : BV X ss (fun _ => none) := fun pins s σ H D I h => by
  obtain ⟨_, _, _, _, _, _, e, _⟩ := h
  cases e
end VL

set_option Elab.async false
set_option linter.all false
set_option maxRecDepth 100000
set_option maxHeartbeats 4000000
namespace VL
open PySem PySem.Spec PyProof.Rows L2
/-! ### an expression whose value is a list of one's own -/
def tO (K : Fg) (f : Dv → Option (List D)) : TE := fun σ H Q => ∃ H₀ Z₀ Z δ ds, Hold K H₀ Z₀ Z δ σ H ∧ f δ = some ds ∧ ∀ p vs Z' H', Hold K H₀ Z₀ Z' δ σ H' → Same Z Z' → H' p = none → Reps K Z' vs ds → Q (.ref p) (upd H' p (.lst vs))
def EO (X : Cx) (e : Expr) (f : Dv → Option (List D)) : Prop := PE X e (tO X.K f)
/-- the items of a list -/
def oLi (f : Dv → Option D) : Dv → Option (List D) := fun δ => (f δ).bind lstI
@[simp] def sOwnE (i : Nat) (f : Dv → Option (List D)) : Sf := fun δ => (f δ).bind fun ds => some (.nx, δ.set i (.ow ds))
section
variable {X : Cx} {e : Expr} {es : List Expr} {p pos : Pos} {f : Dv → Option (List D)} {fs : Dv → Option (List D)}
theorem own_read {K : Fg} {D : Ends} {i : Nat} {σ : St} {H : Hp} (h : tVS K (sOwnE i f) D σ H) : tO K f σ H fun v H1 => D.nx (σ.set i (some v)) H1 := by
  obtain ⟨H₀, Z₀, Z, δ, r, hh, e, k⟩ := h
  obtain ⟨ds, e1, e⟩ := bind_some e
  cases e
  exact ⟨H₀, Z₀, Z, δ, ds, hh, e1, fun p vs Z1 H1 hh1 t1 hp r1 => k _ _ Z1 (hh1.setO hp r1) t1⟩
theorem sv_ownE (i : Nat) {x : Str} {pos' : Pos} (hN : X.N.Nodup) (ha : EO X e f) (hi : X.N[i]? = some x := by rfl) (hx : Loc X.env.scope x := by first | exact Or.inl rfl | exact Or.inr rfl) (hs : swapsWith e (some (.Name x pos')) pos.line X.env = pure false := by rfl)
    (hf : X.fn x = true ∨ X.env.scope.names.lookup x = some .local := by first | exact .inl rfl | exact .inr rfl | assumption) : SV X (.Assign [.Name x pos'] e pos) (sOwnE i f) :=
  PS.imp (ps_set hN hi hx ha hs hf) fun D σ H h => own_read h
/-- list(x) -/
def oLs (fs : Dv → Option (List D)) : Dv → Option (List D) := fun δ => (fs δ).bind fun as => match as with
  | [d] => itsD d
  | _ => none
theorem eo_list (hg : Gl X "list") (hm : X.mg "list" = none) (ha : AV X (e :: es) fs) (he : starEach (e :: es) X.env = (false, eval e X.env) :: starEach es X.env := by rfl) (hpl : (backTo pos (starEach es X.env)).any (·.1) = false := by rfl) : EO X (.Call (.Name "list" p) (e :: es) [] pos) (oLs fs) :=
  PE.imp (pe_callTy call_list_of hg hm (by decide +kernel) ha (by decide) (by decide) he hpl) fun σ H Q h => by
    obtain ⟨H₀, Z₀, Z, δ, ds, hh, e, k⟩ := h
    obtain ⟨as, e1, e⟩ := bind_some e
    refine ⟨H₀, Z₀, Z, δ, as, hh, e1, fun vs Z1 H1 hh1 t1 r1 => ?_⟩
    cases r1 with
    | nil => cases e
    | cons r1 r2 =>
      cases r2 with
      | cons _ _ => cases e
      | nil =>
        cases r1 with
        | lst h1 q1 => cases e; exact ⟨_, _, rfl, .inl (SqL.same h1 hh1.zh), fun l hl => k l _ Z1 H1 hh1 t1 hl q1⟩
        | tup h1 q1 => cases e; exact ⟨_, _, rfl, .inr (SqT.same h1 hh1.zh), fun l hl => k l _ Z1 H1 hh1 t1 hl q1⟩
        | _ => cases e
end
section
variable {X : Cx} {scope : Scope} {vars : List Str} {caps : List (Nat × Str)} {elt tg iter cnd : Expr} {pos : Pos} {g : TG} {fi : Dv → Option (List D)} {ft : Dv → Option Bool} {fe : Dv → Option D} {bv : D → Option (List D)}
theorem comp_readO (tk : TgOk X.K g vars.length bv) {σ : St} {H : Hp} {Q : VK} (h : tO X.K (oLi (oComp fi caps bv fe)) σ H Q) : tComp (tVI X.K fi) g (tV X.K fe) vars caps σ H Q := by
  obtain ⟨H₀, Z₀, Z, δ, d0, hh, e0, k⟩ := h
  obtain ⟨d, e, e0⟩ := bind_some e0
  obtain ⟨ds, e1, e⟩ := bind_some e
  by_cases hz : ds.length ≤ sizeLine
  · rw [if_pos hz] at e
    obtain ⟨es, e2, e⟩ := bind_some e
    cases e
    obtain rfl : es = d0 := Option.some.inj e0
    have le := mapO_length e2
    have hv : vars.map (fun _ => (none : Option V)) = List.replicate vars.length none := by rw [List.map_const']
    refine ⟨H₀, Z₀, Z, δ, ds, hh, e1, fun J Z1 H1 hh1 t1 ok => ?_⟩
    refine ⟨fun i m ys H => m = ds.length - i ∧ i ≤ ds.length ∧ ∃ Zc, Hold X.K H₀ Z₀ Zc δ σ H ∧ Same Z1 Zc ∧ Reps X.K Zc ys (es.take i), ⟨ds.length, by simp, Nat.zero_le _, Z1, hh1, Same.refl _, by simpa using .nil⟩, ?_⟩
    rintro i m ys H2 ⟨rfl, hi2, Zc, hhc, tc, rc⟩
    have zh : Same Z1 H2 := tc.trans hhc.zh
    have ly := rc.length
    rw [List.length_take] at ly
    by_cases hlt : i < ds.length
    · refine .inr ⟨ok.go i H2 zh hlt, by omega, fun x H3 y => ?_⟩
      have ed : ds[i]? = some ds[i] := by simp [hlt]
      obtain ⟨rfl, rx⟩ := ok.yld i H2 x H3 _ zh ed y
      obtain ⟨ei, f1, f2⟩ := mapO_get e2 ed
      obtain ⟨vs, f3, f1⟩ := bind_some f1
      rw [hv]
      refine tk x Zc ds[i] vs (capV σ caps) H3 _ (rx.same tc) hhc.zh f3 fun us ru hn => ⟨⟨by simp [hn], fun j v q => ?_⟩, ?_⟩
      · by_cases hj : j < vars.length
        · rw [List.getElem?_append_left (by simpa using hj), List.getElem?_replicate] at q
          split at q <;> cases q
        · rw [List.getElem?_append_right (by simpa using hj)] at q
          rw [List.getElem?_append_right (by simpa [hn] using hj)]
          simpa [hn] using q
      · refine ⟨H3, Zc, Zc, _, ei, blk_hold hhc ru, f1, fun v Z4 H4 h4 t4 r4 => ⟨ds.length - (i + 1), by omega, rfl, hlt, Z4, hhc.new ⟨t4, h4.h0, h4.zh, h4.zb⟩, tc.trans t4, ?_⟩⟩
        have : es.take (i + 1) = es.take i ++ [ei] := by
          rw [List.take_add_one, f2]; rfl
        rw [this]
        exact (rc.same t4).append (.cons r4 .nil)
    · have hie : i = ds.length := by omega
      subst hie
      refine .inl ⟨ok.stop _ H2 zh (Nat.le_refl _), by omega, fun p hp => ?_⟩
      rw [← le, List.take_length] at rc
      exact k p ys Zc _ hhc (t1.trans tc) hp rc
  · rw [if_neg hz] at e; cases e
theorem comp_readIO (tk : TgOk X.K g vars.length bv) {σ : St} {H : Hp} {Q : VK} (h : tO X.K (oLi (oCompI fi caps bv ft fe)) σ H Q) : tCompI (tVI X.K fi) g (tVT X.K ft) (tV X.K fe) vars caps σ H Q := by
  obtain ⟨H₀, Z₀, Z, δ, d0, hh, e0, k⟩ := h
  obtain ⟨d, e, e0⟩ := bind_some e0
  obtain ⟨ds, e1, e⟩ := bind_some e
  by_cases hz : ds.length ≤ sizeLine
  · rw [if_pos hz] at e
    obtain ⟨es, e2, e⟩ := bind_some e
    cases e
    obtain rfl : es = d0 := Option.some.inj e0
    have hv : vars.map (fun _ => (none : Option V)) = List.replicate vars.length none := by rw [List.map_const']
    refine ⟨H₀, Z₀, Z, δ, ds, hh, e1, fun J Z1 H1 hh1 t1 ok => ?_⟩
    refine ⟨fun i m ys H => m = ds.length - i ∧ i ≤ ds.length ∧ ∃ Zc xs, Hold X.K H₀ Z₀ Zc δ σ H ∧ Same Z1 Zc ∧ filO (fun d => (bv d).bind fun vs => ft (vs.map .fz ++ capS δ caps)) (fun d => (bv d).bind fun vs => fe (vs.map .fz ++ capS δ caps)) (ds.take i) = some xs ∧ Reps X.K Zc ys xs, ⟨ds.length, by simp, Nat.zero_le _, Z1, [], hh1, Same.refl _, rfl, .nil⟩, ?_⟩
    rintro i m ys H2 ⟨rfl, hi2, Zc, xs, hhc, tc, fx, rc⟩
    have zh : Same Z1 H2 := tc.trans hhc.zh
    have ly := rc.length
    have lx := filO_le fx
    rw [List.length_take] at lx
    by_cases hlt : i < ds.length
    · refine .inr ⟨ok.go i H2 zh hlt, by omega, fun x H3 y => ?_⟩
      have ed : ds[i]? = some ds[i] := by simp [hlt]
      obtain ⟨rfl, rx⟩ := ok.yld i H2 x H3 _ zh ed y
      obtain ⟨xs', f0, b, fb, ff, ftr⟩ := filO_snoc e2 ed
      rw [fx] at f0
      cases f0
      obtain ⟨vs, f3, f1⟩ := bind_some fb
      rw [hv]
      refine tk x Zc ds[i] vs (capV σ caps) H3 _ (rx.same tc) hhc.zh f3 fun us ru hn => ⟨⟨by simp [hn], fun j v q => ?_⟩, ?_⟩
      · by_cases hj : j < vars.length
        · rw [List.getElem?_append_left (by simpa using hj), List.getElem?_replicate] at q
          split at q <;> cases q
        · rw [List.getElem?_append_right (by simpa using hj)] at q
          rw [List.getElem?_append_right (by simpa [hn] using hj)]
          simpa [hn] using q
      · refine ⟨H3, Zc, Zc, _, b, blk_hold hhc ru, f1, fun Z3 H3' h3 t3 => ?_⟩
        have hh3 := hhc.new ⟨t3, h3.h0, h3.zh, h3.zb⟩
        cases b with
        | false =>
          dsimp only
          rw [if_neg (by decide)]
          exact ⟨ds.length - (i + 1), by omega, rfl, hlt, Z3, xs, hh3, tc.trans t3, ff rfl, rc.same t3⟩
        | true =>
          dsimp only
          rw [if_pos rfl]
          obtain ⟨ei, f2, f4⟩ := ftr rfl
          rw [f3] at f2
          refine ⟨H3, Zc, Z3, _, ei, h3, f2, fun v Z4 H4 h4 t4 r4 => ⟨ds.length - (i + 1), by omega, rfl, hlt, Z4, xs ++ [ei], ?_, (tc.trans t3).trans t4, f4, ((rc.same t3).same t4).append (.cons r4 .nil)⟩⟩
          exact hhc.new ⟨t3.trans t4, h4.h0, h4.zh, h4.zb⟩
    · have hie : i = ds.length := by omega
      subst hie
      refine .inl ⟨ok.stop _ H2 zh (Nat.le_refl _), by omega, fun p hp => ?_⟩
      rw [List.take_length, e2] at fx
      cases fx
      exact k p ys Zc _ hhc (t1.trans tc) hp rc
  · rw [if_neg hz] at e; cases e
theorem eo_comp (B : BlkOk X.env.scope.names X.N scope vars caps) (hc : X.calm = true) (hi : IV X tg iter fi) (tk : TgOk X.K g vars.length bv)
    (hg : ∀ C s₀ H₀ ex, PG (blk X scope (vars ++ caps.map (·.2)) C s₀ H₀ ex) tg g) (he : ∀ C s₀ H₀ ex, EV (blk X scope (vars ++ caps.map (·.2)) C s₀ H₀ ex) elt fe) (hs : ∀ x, foldedSetIterable iter X.env x = pure x := by intro _; rfl) :
    EO X (.ListComp elt [⟨tg, iter, [], 0⟩] scope pos) (oLi (oComp fi caps bv fe)) :=
  PE.imp (pe_comp (te := tV X.K fe) B hc hi hg he hs) fun _ _ _ h => comp_readO tk h
theorem sv_compO (i : Nat) {y : Str} {py spos : Pos} (hN : X.N.Nodup) (B : BlkOk X.env.scope.names X.N scope vars caps) (hc : X.calm = true) (hi : IV X tg iter fi) (tk : TgOk X.K g vars.length bv)
    (hg : ∀ C s₀ H₀ ex, PG (blk X scope (vars ++ caps.map (·.2)) C s₀ H₀ ex) tg g) (he : ∀ C s₀ H₀ ex, EV (blk X scope (vars ++ caps.map (·.2)) C s₀ H₀ ex) elt fe)
    (hy : X.N[i]? = some y := by rfl) (hx : Loc X.env.scope y := by first | exact Or.inl rfl | exact Or.inr rfl) (hsw : swapsWith (.ListComp elt [⟨tg, iter, [], 0⟩] scope pos) (some (.Name y py)) spos.line X.env = pure true := by rfl)
    (hf : X.fn y = true ∨ X.env.scope.names.lookup y = some .local := by first | exact .inl rfl | exact .inr rfl | assumption) (hs : ∀ x, foldedSetIterable iter X.env x = pure x := by intro _; rfl) :
    SV X (.Assign [.Name y py] (.ListComp elt [⟨tg, iter, [], 0⟩] scope pos) spos) (sOwnE i (oLi (oComp fi caps bv fe))) :=
  PS.imp (ps_comp (te := tV X.K fe) B hc hi hg he hN hy hx hsw hf hs) fun D σ H h => comp_readO tk (own_read h)
theorem eo_compI (B : BlkOk X.env.scope.names X.N scope vars caps) (hc : X.calm = true) (hi : IV X tg iter fi) (tk : TgOk X.K g vars.length bv)
    (hg : ∀ C s₀ H₀ ex, PG (blk X scope (vars ++ caps.map (·.2)) C s₀ H₀ ex) tg g) (hb : ∀ C s₀ H₀ ex, TV (blk X scope (vars ++ caps.map (·.2)) C s₀ H₀ ex) cnd ft) (he : ∀ C s₀ H₀ ex, EV (blk X scope (vars ++ caps.map (·.2)) C s₀ H₀ ex) elt fe) (hs : ∀ x, foldedSetIterable iter X.env x = pure x := by intro _; rfl) :
    EO X (.ListComp elt [⟨tg, iter, [cnd], 0⟩] scope pos) (oLi (oCompI fi caps bv ft fe)) :=
  PE.imp (pe_compI (tt := tVT X.K ft) (te := tV X.K fe) B hc hi hg hb he hs) fun _ _ _ h => comp_readIO tk h
theorem sv_compIO (i : Nat) {y : Str} {py spos : Pos} (hN : X.N.Nodup) (B : BlkOk X.env.scope.names X.N scope vars caps) (hc : X.calm = true) (hi : IV X tg iter fi) (tk : TgOk X.K g vars.length bv)
    (hg : ∀ C s₀ H₀ ex, PG (blk X scope (vars ++ caps.map (·.2)) C s₀ H₀ ex) tg g) (hb : ∀ C s₀ H₀ ex, TV (blk X scope (vars ++ caps.map (·.2)) C s₀ H₀ ex) cnd ft) (he : ∀ C s₀ H₀ ex, EV (blk X scope (vars ++ caps.map (·.2)) C s₀ H₀ ex) elt fe)
    (hy : X.N[i]? = some y := by rfl) (hx : Loc X.env.scope y := by first | exact Or.inl rfl | exact Or.inr rfl) (hsw : swapsWith (.ListComp elt [⟨tg, iter, [cnd], 0⟩] scope pos) (some (.Name y py)) spos.line X.env = pure true := by rfl)
    (hf : X.fn y = true ∨ X.env.scope.names.lookup y = some .local := by first | exact .inl rfl | exact .inr rfl | assumption) (hs : ∀ x, foldedSetIterable iter X.env x = pure x := by intro _; rfl) :
    SV X (.Assign [.Name y py] (.ListComp elt [⟨tg, iter, [cnd], 0⟩] scope pos) spos) (sOwnE i (oLi (oCompI fi caps bv ft fe))) :=
  PS.imp (ps_compI (tt := tVT X.K ft) (te := tV X.K fe) B hc hi hg hb he hN hy hx hsw hf hs) fun D σ H h => comp_readIO tk (own_read h)
end
/-! ### evaluation without the dead ways -/
def seqK (t : Sf) : Fl × Dv → Option (Fl × Dv)
  | (.nx, δ) => t δ
  | r => some r
@[simp] theorem seqK_nx (t : Sf) (δ : Dv) : seqK t (.nx, δ) = t δ := rfl
@[simp] theorem seqK_rt (t : Sf) (d : D) (δ : Dv) : seqK t (.rt d, δ) = some (.rt d, δ) := rfl
@[simp] theorem seqK_bk (t : Sf) (δ : Dv) : seqK t (.bk, δ) = some (.bk, δ) := rfl
@[simp] theorem seqK_ct (t : Sf) (δ : Dv) : seqK t (.ct, δ) = some (.ct, δ) := rfl
def ifK (u w : Sf) (δ : Dv) : Bool → Option (Fl × Dv)
  | true => u δ
  | false => w δ
@[simp] theorem ifK_t (u w : Sf) (δ : Dv) : ifK u w δ true = u δ := rfl
@[simp] theorem ifK_f (u w : Sf) (δ : Dv) : ifK u w δ false = w δ := rfl
theorem sSeq_k (s t : Sf) (δ : Dv) : sSeq s t δ = (s δ).bind (seqK t) := by
  unfold sSeq seqK
  congr 1
theorem sIf_k (t : Dv → Option Bool) (u w : Sf) (δ : Dv) : sIf t u w δ = (t δ).bind (ifK u w δ) := by
  unfold sIf
  congr 1
  funext c
  cases c <;> rfl
end VL

set_option Elab.async false
set_option linter.all false
set_option maxRecDepth 100000
set_option maxHeartbeats 4000000
namespace VL
open PySem PySem.Spec PyProof.Rows L2
/-! ### all, any, sum of a list; reversed; raise; extend -/
def blsD : List D → Option (List Bool)
  | [] => some []
  | .bool b :: r => (blsD r).map (b :: ·)
  | _ => none
def allD : List D → Option D
  | [.list xs] => (blsD xs).map fun bs => .bool (bs.all id)
  | _ => none
def anyD : List D → Option D
  | [.list xs] => (blsD xs).map fun bs => .bool (bs.any id)
  | _ => none
def intsD : List D → Option (List Int)
  | [] => some []
  | .int b :: r => (intsD r).map (b :: ·)
  | _ => none
def sumD : List D → Option D
  | [.list xs] => (intsD xs).map fun bs => .int bs.sum
  | _ => none
theorem blsD_map {α : Type} (f : α → Bool) : ∀ xs : List α, blsD (xs.map fun a => .bool (f a)) = some (xs.map f)
  | [] => rfl
  | a :: r => by simp [blsD, blsD_map f r]
theorem allD_map {α : Type} (f : α → Bool) (xs : List α) : allD [.list (xs.map fun a => .bool (f a))] = some (.bool (xs.all f)) := by
  simp [allD, blsD_map, List.all_map]
theorem anyD_map {α : Type} (f : α → Bool) (xs : List α) : anyD [.list (xs.map fun a => .bool (f a))] = some (.bool (xs.any f)) := by
  simp [anyD, blsD_map, List.any_map]
theorem intsD_map {α : Type} (f : α → Int) : ∀ xs : List α, intsD (xs.map fun a => .int (f a)) = some (xs.map f)
  | [] => rfl
  | a :: r => by simp [intsD, intsD_map f r]
theorem sumD_map {α : Type} (f : α → Int) (xs : List α) : sumD [.list (xs.map fun a => .int (f a))] = some (.int (xs.map f).sum) := by
  simp [sumD, intsD_map]
/-- list(reversed(x)) -/
def revLD : D → Option D
  | .list xs => some (.list xs.reverse)
  | _ => none
@[simp] theorem revLD_list (xs : List D) : revLD (.list xs) = some (.list xs.reverse) := rfl
/-- for .. in reversed(x) -/
def revI : D → Option (List D)
  | .list xs => some xs.reverse
  | .tuple xs => some xs.reverse
  | _ => none
@[simp] theorem revI_list (xs : List D) : revI (.list xs) = some xs.reverse := rfl
@[simp] theorem revI_tuple (xs : List D) : revI (.tuple xs) = some xs.reverse := rfl
@[simp] def sNo : Sf := fun _ => none
/-- x.extend(v) -/
@[simp] def sExt (i : Nat) (f : Dv → Option D) : Sf := fun δ => (f δ).bind fun v => (itsD v).bind fun es => (slO δ[i]?).bind fun ds => if ds.length + es.length ≤ sizeLine then some (.nx, δ.set i (.ow (ds ++ es))) else none

section
variable {X : Cx} {e : Expr} {es : List Expr} {p pos tpos apos : Pos} {f : Dv → Option D} {st : Stmt}
theorem bls_get {K : Fg} {Z : Hp} : ∀ {xs : List V} {ds : List D} {bs : List Bool} {its : List Value}, Reps K Z xs ds → Vals xs its → blsD ds = some bs → its.length = bs.length ∧ ∀ (i : Nat) (v : Value), its[i]? = some v → ∃ b, bs[i]? = some b ∧ v = .bool b
  | _, _, bs, _, .nil, .nil, h => by cases h; exact ⟨rfl, fun i v q => by simp at q⟩
  | _, _, bs, _, .cons r t, .cons q u, h => by
    cases r with
    | bl b =>
      unfold blsD at h
      cases g : blsD _ with
      | none => rw [g] at h; cases h
      | some cs =>
        rw [g] at h
        cases h
        obtain ⟨h1, h2⟩ := bls_get t u g
        refine ⟨by simp [h1], fun i v e => ?_⟩
        cases i with
        | zero => simp at e; subst e; exact ⟨b, rfl, q⟩
        | succ i => simp at e; simpa using h2 i v e
    | _ => cases h
theorem ints_get {K : Fg} {Z : Hp} : ∀ {xs : List V} {ds : List D} {bs : List Int} {its : List Value}, Reps K Z xs ds → Vals xs its → intsD ds = some bs → IntsAre its bs
  | _, _, bs, _, .nil, .nil, h => by cases h; exact .nil
  | _, _, bs, _, .cons r t, .cons q u, h => by
    cases r with
    | int b =>
      unfold intsD at h
      cases g : intsD _ with
      | none => rw [g] at h; cases h
      | some cs =>
        rw [g] at h
        cases h
        obtain ⟨tk, rfl⟩ := q
        exact .cons _ _ (ints_get t u g)
    | _ => cases h
theorem c_all (hc : X.calm = true) : CallR X (.builtin "all") (rDs X.K allD) := by
  intro pins s σ H xs us Q I rs q
  obtain ⟨Z, as, d, zh, ra, e, k⟩ := q
  cases ra with
  | nil => cases e
  | cons r1 r2 =>
    cases r2 with
    | cons _ _ => cases r1 <;> cases e
    | nil =>
      cases r1 with
      | @lst l ys ds h1 q1 =>
        have e : (blsD ds).map (fun bs => PyData.bool (bs.all id)) = some d := e
        cases g : blsD ds with
        | none => rw [g] at e; cases e
        | some bs =>
          rw [g] at e
          cases e
          obtain ⟨u, rfl, ru⟩ := vals1 rs
          cases ru
          obtain ⟨its, rv, pl, hz⟩ := I.list (SqL.same h1 zh)
          obtain ⟨hlen, hget⟩ := bls_get q1 rv g
          have hl := pl.isList
          have hlt : l < s.heap.objs.size := by obtain ⟨_, e, _⟩ := hl; exact Heap.lt_size e
          refine call_all_walk (wpAny_pyIter_list hl ?_)
          refine ⟨s.heap.objs.size, [s.heap.objs.size, l], [s.heap.objs.size], its.toArray.size, _, _, fun i => (bs[i]?).getD true, rfl, Walks.list (A := X.A.in1) (I.ok.hd hc) _ l (Nat.ne_of_lt hlt) its.toArray,
            ⟨⟨_, Heap.get?_push_size _ rfl, rfl, rfl⟩, hl.push _⟩, fun i v s' Q' E' hP hQ => ?_, fun h' tk hk => ?_⟩
          · obtain ⟨b, e, rfl⟩ := hget i v (by simpa using hP)
            simp only [e, Option.getD_some] at hQ
            exact wpAny_truthy_bool hQ
          · have e : ((List.range its.toArray.size).all fun i => (bs[i]?).getD true) = bs.all id := by
              rw [List.size_toArray, hlen]; exact LSm.range_all bs
            rw [e]
            exact ⟨.bl _, H, I.kept (t' := tk) (LSm.kept_iter hk), rfl, k _ Z H (New.refl zh) (.bl _)⟩
      | _ => cases e
theorem c_any (hc : X.calm = true) : CallR X (.builtin "any") (rDs X.K anyD) := by
  intro pins s σ H xs us Q I rs q
  obtain ⟨Z, as, d, zh, ra, e, k⟩ := q
  cases ra with
  | nil => cases e
  | cons r1 r2 =>
    cases r2 with
    | cons _ _ => cases r1 <;> cases e
    | nil =>
      cases r1 with
      | @lst l ys ds h1 q1 =>
        have e : (blsD ds).map (fun bs => PyData.bool (bs.any id)) = some d := e
        cases g : blsD ds with
        | none => rw [g] at e; cases e
        | some bs =>
          rw [g] at e
          cases e
          obtain ⟨u, rfl, ru⟩ := vals1 rs
          cases ru
          obtain ⟨its, rv, pl, hz⟩ := I.list (SqL.same h1 zh)
          obtain ⟨hlen, hget⟩ := bls_get q1 rv g
          have hl := pl.isList
          have hlt : l < s.heap.objs.size := by obtain ⟨_, e, _⟩ := hl; exact Heap.lt_size e
          refine call_any_walk (wpAny_pyIter_list hl ?_)
          refine ⟨s.heap.objs.size, [s.heap.objs.size, l], [s.heap.objs.size], its.toArray.size, _, _, fun i => (bs[i]?).getD false, rfl, Walks.list (A := X.A.in1) (I.ok.hd hc) _ l (Nat.ne_of_lt hlt) its.toArray,
            ⟨⟨_, Heap.get?_push_size _ rfl, rfl, rfl⟩, hl.push _⟩, fun i v s' Q' E' hP hQ => ?_, fun h' tk hk => ?_⟩
          · obtain ⟨b, e, rfl⟩ := hget i v (by simpa using hP)
            simp only [e, Option.getD_some] at hQ
            exact wpAny_truthy_bool hQ
          · have e : ((List.range its.toArray.size).any fun i => (bs[i]?).getD false) = bs.any id := by
              rw [List.size_toArray, hlen]; exact LSm.range_any bs
            rw [e]
            exact ⟨.bl _, H, I.kept (t' := tk) (LSm.kept_iter hk), rfl, k _ Z H (New.refl zh) (.bl _)⟩
      | _ => cases e
theorem c_sum (hc : X.calm = true) : CallR X (.builtin "sum") (rDs X.K sumD) := by
  intro pins s σ H xs us Q I rs q
  obtain ⟨Z, as, d, zh, ra, e, k⟩ := q
  cases ra with
  | nil => cases e
  | cons r1 r2 =>
    cases r2 with
    | cons _ _ => cases r1 <;> cases e
    | nil =>
      cases r1 with
      | @lst l ys ds h1 q1 =>
        have e : (intsD ds).map (fun bs => PyData.int bs.sum) = some d := e
        cases g : intsD ds with
        | none => rw [g] at e; cases e
        | some bs =>
          rw [g] at e
          cases e
          obtain ⟨u, rfl, ru⟩ := vals1 rs
          cases ru
          obtain ⟨its, rv, pl, hz⟩ := I.list (SqL.same h1 zh)
          have hi := ints_get q1 rv g
          obtain ⟨zs, hx⟩ := hi.allInts.items
          have hl' : s.heap.IsList l (intItems zs) := hx ▸ pl.isList
          refine sum_intListG (I.ok.hd hc) hl' fun h' tk t' hk => ?_
          have e1 : bs = zs.toList.map (·.1) := by
            rw [← nums_intItems, ← hx]
            exact (show numsOf its.toArray.toList = bs from hi.numsOf).symm
          have e2 : preSum (numAt zs) zs.size = bs.sum := by
            rw [preSum_eq, List.take_of_length_le (by simp), e1]
          rw [e2]
          exact ⟨.int _, H, I.kept (t' := tk) hk, ⟨t', rfl⟩, k _ Z H (New.refl zh) (.int _)⟩
      | _ => cases e
theorem sv_no {st : Stmt} : SV X st sNo := fun pins s σ H D I h => by
  obtain ⟨_, _, _, _, _, _, e, _⟩ := h
  cases e
end
end VL

set_option Elab.async false
set_option linter.all false
set_option maxRecDepth 100000
set_option maxHeartbeats 4000000
namespace VL
open PySem PySem.Spec PyProof.Rows L2
/-! ### list(reversed(a list)) -/
theorem nolen_lr : typeLookup (.type "list_reverseiterator") "__len__" = pure none := by rw [typeLookup_type, builtinLookup_eq_fast]; kernel_rfl
theorem hint_lr : typeLookup (.type "list_reverseiterator") "__length_hint__" = pure (some (.builtin "list_reverseiterator.__length_hint__")) := by rw [typeLookup_type, builtinLookup_eq_fast]; kernel_rfl
section
variable {prog : Program} {w : World} {A : Around} {s : Shared} {R : Result → Shared → Prop}
variable {I : Addr} {fp wr : List Addr} {G : Array GenState → Array GenState → Prop} {n : Nat} {P : Nat → Value → Prop} {St : Nat → Shared → Prop}
theorem extend_rev (W : WalksS prog w A.in1 I fp wr G n P St) (hT : ∀ i s, St i s → s.TypeIs (.ref I) "list_reverseiterator") (S : Addr) (res : Value) (c₀ : Nat) (hst : St 0 s) (hSf : S ∉ fp) (hI : I ∈ fp)
    (hS : s.heap.get? S = some { cls := .type "list", data := .seq #[] c₀ })
    (hR : ∀ s' acc' c', Moved (S :: wr) G s s' → s'.heap.get? S = some { cls := .type "list", dict := none, data := .seq acc' c', slots := #[] } → ItemsOf P acc' n → R (.ok (.ret res)) s') (hn : n ≤ sizeLine) :
    wpAny (model prog w) A.in1 (Builtin.List.listExtendWith (.ref S) (.ref I) res)
      (fun fin s' => match fin with | .done f => R (.ok f) s' | .again c' => c'.quiet = true ∧ codeAny (model prog w) A c' R s') (fun e s' => R (.error e) s') s := by
  have hSI : S ≠ I := fun e => hSf (e ▸ hI)
  unfold Builtin.List.listExtendWith
  refine wpAny_bind (wpAny_typeOf (hT 0 _ hst) ?_)
  have h1 : Builtin.List.listSameRef (.ref S) (.ref I) = false := by simp [Builtin.List.listSameRef, hSI]
  rw [if_neg (by rw [h1]; decide)]
  refine wpAny_bind (W.self 0 _ _ _ hst ?_)
  refine wpAny_bind (wpAny_holding ?_)
  unfold Builtin.List.listLengthHint
  refine wpAny_bind (wpAny_specialOf (hT 0 _ hst) nolen_lr ?_)
  show wpAny _ A.in1 (specialOf (Value.ref I) (Str.ofString "__length_hint__") >>= _) _ _ _
  refine wpAny_bind (wpAny_specialOf (hT 0 _ hst) hint_lr ?_)
  generalize hid : ("list_reverseiterator.__length_hint__" : String) = id0
  wp_delta
  rw [show splitId id0 = some ("list_reverseiterator", "__length_hint__") from by subst hid; decide +kernel]
  subst hid
  refine wpAny_bind (wpAny_isInstance (b := true) (hT 0 _ hst) (by rw [isSubtype_type]; kernel_rfl) ?_)
  refine wpAny_pure ?_
  rw [if_neg (by decide)]
  exact wpAny_pure ⟨plainId_quiet F.plain_extend_loop _, codeAny_extend_loopS W hn _ hSf _ n 0 _ _ _ rfl (Nat.zero_le _) hst hS (ItemsOf.nil P) fun s' acc' c' hm hS' hacc => hR s' acc' c' hm hS' hacc⟩
theorem list_init_rev (W : WalksS prog w A.in1 I fp wr G n P St) (hT : ∀ i s, St i s → s.TypeIs (.ref I) "list_reverseiterator") (S : Addr) (hst : St 0 s) (hSf : S ∉ fp) (hI : I ∈ fp)
    (hS : s.heap.get? S = some { cls := .type "list", data := .seq #[] })
    (hR : ∀ s' acc' c', Moved (S :: wr) G s s' → s'.heap.get? S = some { cls := .type "list", dict := none, data := .seq acc' c', slots := #[] } → ItemsOf P acc' n → R (.ok (.ret .none)) s') (hn : n ≤ sizeLine) :
    wpAny (model prog w) A.in1 (Builtin.«list.__init__» ⟨[.ref S, .ref I], []⟩)
      (fun fin s' => match fin with | .done f => R (.ok f) s' | .again c' => c'.quiet = true ∧ codeAny (model prog w) A c' R s') (fun e s' => R (.error e) s') s := by
  show wpAny _ A.in1 (do let old ← Builtin.List.listItems (.ref S); Builtin.List.listUpdate (.ref S) (fun _ => #[]); letGo old.toList.reverse; Builtin.List.listExtendWith (.ref S) (.ref I) .none) _ _ s
  refine wpAny_bind ?_
  unfold Builtin.List.listItems
  refine wpAny_bind (wpAny_seqItems hS rfl (wpAny_pure ?_))
  show wpAny _ A.in1 (updateSeq S (fun _ => #[]) >>= fun _ => letGo (#[] : Array Value).toList.reverse >>= fun _ => Builtin.List.listExtendWith (.ref S) (.ref I) .none) _ _ s
  refine wpAny_bind (wpAny_updateSeq hS rfl ?_)
  have hS₂ := Heap.get?_update_self (Obj.mapSeq (fun _ => (#[] : Array Value))) hS rfl
  have oth : ∀ b o, b ≠ S → s.heap.get? b = some o → (s.heap.update S (Obj.mapSeq (fun _ => (#[] : Array Value)))).get? b = some o :=
    fun b o hb e => (Heap.get?_update_other _ _ (Ne.symm hb)).trans e
  refine wpAny_bind (wpAny_letGo ?_)
  refine extend_rev W hT S .none _ (W.frame 0 s _ s.toks hst (Nat.le_refl _) fun b hb o e => oth b o (fun h => hSf (h ▸ hb)) e) hSf hI hS₂ (fun s' acc' c' hm hS' hacc => ?_) hn
  exact hR s' acc' c' (Moved.trans W.gtrans ((Moved.refl W.grefl).then_heap (Nat.le_refl _) fun b o hb e => oth b o (fun h => hb (h ▸ List.mem_cons_self)) e) hm) hS' hacc
end
section
variable {prog : Program} {w : World} {A : Around} {E : Value → Shared → Prop} {s : Shared}
variable {I : Addr} {fp wr : List Addr} {G : Array GenState → Array GenState → Prop} {n : Nat} {P : Nat → Value → Prop} {St : Nat → Shared → Prop}
theorem call_list_rev {Q : Value → Shared → Prop} (W : WalksS prog w A.in1.in1 I fp wr G n P St) (hT : ∀ i s, St i s → s.TypeIs (.ref I) "list_reverseiterator") (hst : St 0 s) (hfp : ∀ b ∈ fp, b < s.heap.objs.size) (hI : I ∈ fp)
    (hQ : ∀ s' acc' c', Moved (s.heap.objs.size :: wr) G { s with heap := s.heap.push { cls := .type "list", data := .seq #[] } } s' →
      s'.heap.get? s.heap.objs.size = some { cls := .type "list", dict := none, data := .seq acc' c', slots := #[] } → ItemsOf P acc' n → Q (.ref s.heap.objs.size) s') (hn : n ≤ sizeLine) :
    wpAny (model prog w) A (call (.type "list") [.ref I]) Q E s := by
  have hSf : s.heap.objs.size ∉ fp := fun hm => Nat.lt_irrefl _ (hfp _ hm)
  refine callType_codes (Q₁ := fun obj s₁ => obj = .ref s.heap.objs.size ∧ s₁ = { s with heap := s.heap.push { cls := .type "list", data := .seq #[] } }) F.called_list (F.typeCall_list_1 _) F.entry_list_init
    (code_list_new _ ⟨rfl, rfl⟩) fun obj s₁ h₁ => ?_
  obtain ⟨rfl, rfl⟩ := h₁
  have hS : (s.heap.push { cls := .type "list", data := .seq #[] }).get? s.heap.objs.size = some { cls := .type "list", data := .seq #[] } := Heap.get?_push_size _ rfl
  refine ⟨⟨_, hS, rfl⟩, F.args_list_init_2 _ _, list_init_rev W hT _ (W.frame 0 s _ s.toks hst (Nat.le_refl _) fun b _ o e => Heap.get?_push_of_some _ e) hSf hI hS (fun s' acc' c' hm hS' hacc => ?_) hn⟩
  exact ⟨rfl, hQ s' acc' c' hm hS' hacc⟩
end
section
variable {X : Cx} {e : Expr} {p p2 pos pos2 : Pos} {te : TE} {f : Dv → Option D}
def tLrev (K : Fg) (te : TE) : TE := fun σ H Q => te σ H fun v H1 => ∃ a ys, [v] = [V.ref a] ∧ SqL K H1 a ys ∧ ∀ l, H1 l = none → Q (.ref l) (upd H1 l (.lst ys.reverse))
theorem Vals.rev : ∀ {xs : List V} {us : List Value}, Vals xs us → Vals xs.reverse us.reverse
  | _, _, .nil => .nil
  | _, _, .cons r t => by
    rw [List.reverse_cons, List.reverse_cons]
    exact (Vals.rev t).append (.cons r .nil)
theorem Reps.rev {K : Fg} {Z : Hp} : ∀ {xs : List V} {ds : List D}, Reps K Z xs ds → Reps K Z xs.reverse ds.reverse
  | _, _, .nil => .nil
  | _, _, .cons r t => by
    rw [List.reverse_cons, List.reverse_cons]
    exact (Reps.rev t).append (.cons r .nil)
theorem rev_acc {its : List Value} {acc : Array Value} (h : ItemsOf (fun i v => its.toArray[its.toArray.size - 1 - i]? = some v) acc its.toArray.size) : acc.toList = its.reverse := by
  obtain ⟨h1, h2⟩ := h
  simp only [List.size_toArray] at h1
  apply List.ext_getElem?
  intro j
  by_cases hj : j < its.length
  · have e : acc[j]? = some (acc[j]'(by omega)) := Array.getElem?_eq_getElem (by omega)
    have q := h2 j _ e
    rw [List.getElem?_reverse hj]
    simp only [List.size_toArray, List.getElem?_toArray] at q
    rw [q, Array.getElem?_toList, e]
  · rw [List.getElem?_eq_none (by simp; omega), List.getElem?_eq_none (by simp; omega)]
theorem pe_lrev (hc : X.calm = true) (hg : Gl X "list") (hm : X.mg "list" = none) (hg' : Gl X "reversed") (hm' : X.mg "reversed" = none) (ha : PE X e te)
    (he : starEach [.Call (.Name "reversed" p2) [e] [] pos2] X.env = (false, eval (.Call (.Name "reversed" p2) [e] [] pos2) X.env) :: starEach [] X.env := by rfl)
    (he2 : starEach [e] X.env = (false, eval e X.env) :: starEach [] X.env := by rfl) (hpl : (backTo pos (starEach [] X.env)).any (·.1) = false := by rfl) (hpl2 : (backTo pos2 (starEach [] X.env)).any (·.1) = false := by rfl) :
    PE X (.Call (.Name "list" p) [.Call (.Name "reversed" p2) [e] [] pos2] [] pos) (tLrev X.K te) := by
  intro pins s σ H Q I h
  refine wpAny_Call_Name_kw (ld_blt I hg hm (u := .type "list") (by decide +kernel) ?_ (by decide) (by decide))
  refine PyProof.Rows.callWith_type1 ?_ he hpl
  rw [he]
  show wpAny _ _ (spliced ((false, eval _ X.env) :: backTo pos (starEach [] X.env))) _ _ s
  refine Calls.spliced_cons ?_
  refine wpAny_Call_Name_kw (ld_blt I hg' hm' (u := .type "reversed") (by decide +kernel) ?_ (by decide) (by decide))
  refine PyProof.Rows.callWith_type1 (thn (pa_cons ha pa_nil he2 pos2 pins s σ H (fun xs H1 => ∃ a ys, xs = [V.ref a] ∧ SqL X.K H1 a ys ∧ ∀ l, H1 l = none → Q (.ref l) (upd H1 l (.lst ys.reverse))) I h) fun us s1 ⟨vs, H1, I1, r1, q1⟩ => ?_) he2 hpl2
  obtain ⟨a, ys, e1, hq, q⟩ := q1
  subst e1
  obtain ⟨u, rfl, rx⟩ := vals1 r1
  cases rx
  obtain ⟨its, r', pl, hz⟩ := I1.list hq
  have hlen := r'.length
  have hal : a < s1.heap.objs.size := let ⟨o, _, ho, _⟩ := pl; Heap.lt_size ho
  refine call_reversed_list pl.isList ?_
  refine Calls.spliced_nil ?_
  have W := (Walks.listRev (prog := X.prog) (w := X.w) (A := X.A.in1.in1) (I1.ok.hd hc) s1.heap.objs.size a (Nat.ne_of_lt hal) its.toArray).toS
  refine call_list_rev W (fun i s st => st.2.1.typeIs) ⟨Nat.zero_le _, ⟨_, Heap.get?_push_size _ rfl, rfl, ?_⟩, ?_⟩ (fun b hb => ?_) (by simp) (fun s' acc c hmv e hacc => ?_) (by simp only [List.size_toArray]; omega)
  · show Data.fields #[.ref a, rawInt _] = _
    simp
  · exact pl.isList.at fun o eo => Heap.get?_push_of_some _ eo
  · have hs : ({ s1 with heap := s1.heap.push (revObj a ((its.toArray.size : Int) - 1)) } : Shared).heap.objs.size = s1.heap.objs.size + 1 := by simp [Heap.push]
    simp only [List.mem_cons, List.not_mem_nil, or_false] at hb
    rw [hs]
    rcases hb with rfl | rfl
    · exact Nat.lt_succ_self _
    · exact Nat.lt_succ_of_lt hal
  · have hs : (s1.heap.push (revObj a ((its.toArray.size : Int) - 1))).objs.size = s1.heap.objs.size + 1 := by simp [Heap.push]
    have ea := rev_acc hacc
    have kp : ∀ b o, s1.heap.get? b = some o → s'.heap.get? b = some o := fun b o eo => by
      have hb := Heap.lt_size eo
      refine hmv.heap b o ?_ (Heap.get?_push_of_some _ (Heap.get?_push_of_some _ eo))
      simp only [List.mem_cons, List.not_mem_nil, or_false]
      rw [hs]
      rintro (z | z)
      · exact absurd hb (by rw [z]; exact Nat.not_lt.mpr (Nat.le_succ _))
      · exact absurd hb (by rw [z]; exact Nat.lt_irrefl _)
    have hz' : ys.reverse.length ≤ sizeLine := by simpa using hz
    have L := I1.laid (h' := s'.heap) (a := s1.heap.objs.size + 1) (o := .lst ys.reverse) (t' := s'.toks) kp (Nat.le_succ _) (show ObjOk X.prog X.w _ s'.heap _ (.lst ys.reverse) from ⟨hz', its.reverse, c, Vals.rev r', by rw [← ea]; exact hs ▸ e⟩)
    have es : ({ s1 with heap := s'.heap, toks := s'.toks } : Shared) = s' := by
      have g1 := hmv.gens
      have g2 := hmv.drawn
      have g3 := hmv.os
      cases s'
      simp only at g1 g2 g3
      subst g1 g2 g3
      rfl
    rw [es] at L
    refine ⟨.ref (s1.heap.objs.size + 1), _, L, ?_, q _ (I1.hok.fresh (Nat.le_succ _))⟩
    show Value.ref _ = _
    rw [hs]
/-- list(reversed(x)) of a list -/
theorem ev_lrev (hg : Gl X "list") (hm : X.mg "list" = none) (hg' : Gl X "reversed") (hm' : X.mg "reversed" = none) (ha : EV X e f) (hc : X.calm = true := by rfl)
    (he : starEach [.Call (.Name "reversed" p2) [e] [] pos2] X.env = (false, eval (.Call (.Name "reversed" p2) [e] [] pos2) X.env) :: starEach [] X.env := by rfl)
    (he2 : starEach [e] X.env = (false, eval e X.env) :: starEach [] X.env := by rfl) (hpl : (backTo pos (starEach [] X.env)).any (·.1) = false := by rfl) (hpl2 : (backTo pos2 (starEach [] X.env)).any (·.1) = false := by rfl) :
    EV X (.Call (.Name "list" p) [.Call (.Name "reversed" p2) [e] [] pos2] [] pos) (o1 f revLD) :=
  PE.imp (pe_lrev hc hg hm hg' hm' ha he he2 hpl hpl2) fun σ H Q h => by
    obtain ⟨H₀, Z₀, Z, δ, d, hh, e, k⟩ := h
    obtain ⟨d1, e1, e⟩ := bind_some e
    refine ⟨H₀, Z₀, Z, δ, d1, hh, e1, fun v Z1 H1 hh1 t1 r1 => ?_⟩
    cases r1 with
    | @lst a xs ds h1 q1 =>
      cases e
      refine ⟨_, _, rfl, SqL.same h1 hh1.zh, fun l hl => ?_⟩
      have n := New.add hh1.zh hl (.lst xs.reverse)
      exact k _ _ _ (hh1.new n) (t1.trans n.z) (.lst (SqL.of upd_same) (Reps.rev (q1.same n.z)))
    | _ => cases e
end
end VL

set_option Elab.async false
set_option linter.all false
set_option maxRecDepth 100000
set_option maxHeartbeats 4000000
namespace VL
open PySem PySem.Spec PyProof.Rows L2
theorem slot_reversed_init : Slot "reversed" "__init__" "object.__init__" :=
  .of (owner := "object") (n := "__init__") (by rw [typeLookup_type, builtinLookup_eq_fast]; kernel_rfl) (by decide +kernel) (by decide +kernel) (by decide +kernel)
    (by first | exact .inl (by decide +kernel) | exact .inr (by decide +kernel)) (by rw [isSubtype_type]; kernel_rfl)
theorem called_reversed : TypeCalled "reversed" "reversed.__new__" "object.__init__" :=
  ⟨by decide +kernel, by decide +kernel, ⟨_, _, F.mro_reversed⟩, F.made_reversed, by decide +kernel, F.sub_reversed_self, slot_reversed_init⟩
theorem norev_tuple : typeLookup (.type "tuple") "__reversed__" = pure none := by rw [typeLookup_type, builtinLookup_eq_fast]; kernel_rfl
theorem item_tuple : typeLookup (.type "tuple") "__getitem__" = pure (some (.builtin "tuple.__getitem__")) := by rw [typeLookup_type, builtinLookup_eq_fast]; kernel_rfl
theorem sub_tuple_dict : isSubtype (.type "tuple") (.type "dict") = pure false := by rw [isSubtype_type]; kernel_rfl
def rvObj (l : Addr) (i : Int) : Obj := { cls := .type "reversed", data := .fields #[.ref l, rawInt i] }
section
variable {prog : Program} {w : World} {A : Around} {E : Value → Shared → Prop} {s : Shared}
theorem meets_rev_new (l : Addr) (items : Array Value) :
    Meets (Builtin.«reversed.__new__» ⟨[.type "reversed", .ref l], []⟩) (fun _ R s => IsTup s.heap l items ∧ items.size ≤ sizeLine ∧ R (.ok (.ret (.ref s.heap.objs.size))) { s with heap := s.heap.push (rvObj l ((items.size : Int) - 1)), toks := s.toks + 1 + 1 }) :=
  .of_wp fun prog w A R s h => by
    obtain ⟨ht, hz, h⟩ := h
    have hn := line63
    unfold Builtin.«reversed.__new__»
    refine wpAny_bind (wpAny_of_eq (newClass_reversed _) ?_)
    try dsimp only
    refine wpAny_bind (wpAny_of_eq (a := ()) (by first | rfl | kernel_rfl) ?_)
    refine wpAny_bind (wpAny_of_eq (a := ()) (by first | rfl | kernel_rfl) ?_)
    try dsimp only
    refine wpAny_bind (wpAny_specialOf ht.typeIs norev_tuple ?_)
    try dsimp only
    refine wpAny_bind ?_
    wp_delta
    refine wpAny_bind (wpAny_isInstance (b := false) ht.typeIs sub_tuple_dict ?_)
    try dsimp only
    rw [if_neg (by decide)]
    refine wpAny_bind (wpAny_specialOf ht.typeIs item_tuple ?_)
    try dsimp only
    rw [if_pos (by decide +kernel)]
    refine wpAny_pure ?_
    try dsimp only
    rw [if_neg (by decide)]
    refine wpAny_bind (PyProof.Rows.len_tuple ht (by omega) ?_)
    refine wpAny_bind (wpAny_of_eq (a := some (items.size : Int)) (by first | rfl | kernel_rfl) ?_)
    try dsimp only
    show wpAny _ _ (newObj (.type "reversed") (.fields #[.ref l, rawInt ((items.size : Int) - 1)]) >>= fun v => ret v) _ _ _
    refine wpAny_bind (wpAny_newObj_type (wpAny_pure ⟨_, rfl, h⟩))
theorem call_reversed_tuple {l : Addr} {items : Array Value} {Q : Value → Shared → Prop} (ht : IsTup s.heap l items) (hz : items.size ≤ sizeLine)
    (h : Q (.ref s.heap.objs.size) { s with heap := s.heap.push (rvObj l ((items.size : Int) - 1)), toks := s.toks + 1 + 1 }) : wpAny (model prog w) A (call (.type "reversed") [.ref l]) Q E s :=
  callType_new called_reversed (by decide) (F.typeCall_reversed_1 _) (F.newCall_reversed_1 _) (fun obj => F.args_object_init_2 obj _) F.entry_reversed_new (meets_rev_new l items) ⟨ht, hz, ⟨_, Heap.get?_push_size _ rfl, rfl⟩, h⟩
/-! the walk -/
theorem owner_rv : Manifest.owners.lookup (String.ofList ['d', 'e', 's', 'r', 'e', 'v', 'e', 'r'].reverse) = some Manifest.sig_reversed := by kernel_rfl
theorem slot_rv_next : Slot "reversed" "__next__" "reversed.__next__" :=
  .of (owner := "reversed") (n := "__next__") (by rw [typeLookup_type, builtinLookup_eq_fast]; kernel_rfl) (by decide +kernel) (by decide +kernel) (by decide +kernel)
    (by first | exact .inl (by decide +kernel) | exact .inr (by decide +kernel)) (by rw [isSubtype_type]; kernel_rfl)
theorem entry_rv_next : entryFor table "reversed.__next__" = some Builtin.«reversed.__next__» := entryFor_of_tree (by kernel_rfl)
theorem args_rv_next_1 (a : Value) : argsOk "reversed.__next__" ⟨[a], []⟩ := by
  unfold argsOk; rw [signature?_of (id := "reversed.__next__") (n := ['_', '_', 't', 'x', 'e', 'n', '_', '_']) (o := ['d', 'e', 's', 'r', 'e', 'v', 'e', 'r']) (by kernel_rfl) owner_rv]; kernel_rfl
theorem slot_rv_iter : Slot "reversed" "__iter__" "reversed.__iter__" :=
  .of (owner := "reversed") (n := "__iter__") (by rw [typeLookup_type, builtinLookup_eq_fast]; kernel_rfl) (by decide +kernel) (by decide +kernel) (by decide +kernel)
    (by first | exact .inl (by decide +kernel) | exact .inr (by decide +kernel)) (by rw [isSubtype_type]; kernel_rfl)
theorem args_rv_iter_1 (a : Value) : argsOk "reversed.__iter__" ⟨[a], []⟩ := by
  unfold argsOk; rw [signature?_of (id := "reversed.__iter__") (n := ['_', '_', 'r', 'e', 't', 'i', '_', '_']) (o := ['d', 'e', 's', 'r', 'e', 'v', 'e', 'r']) (by kernel_rfl) owner_rv]; kernel_rfl
theorem entry_rv_iter : entryFor table "reversed.__iter__" = some Builtin.«dict_keyiterator.__iter__» :=
  entryFor_alias (id' := "dict_keyiterator.__iter__") (by kernel_rfl) (by first | rfl | decide +kernel | (unfold String.splitOn; simp +decide [String.splitOnAux])) (by decide +kernel) (by kernel_rfl)
def IsRv (h : Heap) (a l : Addr) (i : Int) : Prop := ∃ o, h.get? a = some o ∧ o.cls = .type "reversed" ∧ o.data = .fields #[.ref l, rawInt i]
theorem IsRv.typeIs {a l : Addr} {i : Int} (x : IsRv s.heap a l i) : s.TypeIs (.ref a) "reversed" := let ⟨o, ho, hc, _⟩ := x; ⟨o, ho, hc⟩
theorem IsRv.at {h h' : Heap} {a l : Addr} {i : Int} (x : IsRv h a l i) (e : ∀ o, h.get? a = some o → h'.get? a = some o) : IsRv h' a l i := let ⟨o, ho, r⟩ := x; ⟨o, e _ ho, r⟩
theorem rv_iter {it l : Addr} {i : Int} {Q : Value → Shared → Prop} (hit : IsRv s.heap it l i) (h : Q (.ref it) s) : wpAny (model prog w) A (pyIter (.ref it)) Q E s := by
  refine wpAny_pyIter_slot hit.typeIs slot_rv_iter (wpAny_call_entry slot_rv_iter hit.typeIs entry_rv_iter ?_ (args_rv_iter_1 _))
  show wpAny _ _ (ret (.ref it)) _ _ s
  exact wpAny_pure ⟨_, rfl, "reversed", _, hit.typeIs, slot_rv_next.lookup, h⟩
theorem rv_item {it l : Addr} {i : Nat} {items : Array Value} {x : Value} {Q : Option Value → Shared → Prop} (hit : IsRv s.heap it l (i : Int)) (hl : IsTup s.heap l items) (hz : items.size ≤ sizeLine) (hx : items[i]? = some x)
    (hQ : ∀ h' tk, IsRv h' it l ((i : Int) - 1) → Heap.SameBut it s.heap h' → Q (some x) { s with heap := h', toks := tk }) : wpAny (model prog w) A (pyNext (.ref it)) Q E s := by
  have hi : i < items.size := by
    cases Nat.lt_or_ge i items.size with
    | inl h => exact h
    | inr h => rw [Array.getElem?_eq_none h] at hx; cases hx
  have hn := line63
  obtain ⟨o, ho, hc, hd⟩ := id hit
  unfold pyNext
  refine wpAny_bind (wpAny_attempt (wpAny_callSpecial?_slot (name := Str.ofString "__next__") hit.typeIs slot_rv_next
    (wpAny_call_entry slot_rv_next hit.typeIs entry_rv_next ?_ (args_rv_next_1 _))))
  unfold Builtin.«reversed.__next__»
  refine wpAny_bind (wpAny_of_eq (a := (Value.ref it, [])) rfl ?_)
  try dsimp only
  refine wpAny_bind (wpAny_field ho hd (x := .ref l) rfl ?_)
  refine wpAny_bind (wpAny_field ho hd (x := rawInt (i : Int)) rfl ?_)
  show wpAny _ _ (if (i : Int) < 0 then _ else _) _ _ s
  rw [if_neg (by omega)]
  refine wpAny_bind (wpAny_specialOf hl.typeIs item_tuple ?_)
  try dsimp only
  rw [if_neg (by decide)]
  refine wpAny_bind (wpAny_mkInt ?_)
  have hl' : IsTup (Shared.heap { s with toks := s.toks + 1 }) l items := hl
  refine wpAny_bind (wpAny_attempt (PyProof.Rows.getItem_tuple (j := i) (x := x) hl (by omega) (by omega) (by simp [seqIndex?]; omega) hx ?_))
  try dsimp only
  refine wpAny_bind (wpAny_field ho hd (x := rawInt (i : Int)) rfl ?_)
  show wpAny _ _ (setField (.ref it) 1 (rawInt ((i : Int) - 1)) >>= fun _ => ret x) _ _ _
  refine wpAny_bind (wpAny_setField ho hd (by simp) ?_)
  refine wpAny_pure ⟨x, rfl, wpAny_pure (hQ _ _ ?_ (Heap.SameBut.update ..))⟩
  exact ⟨_, Heap.get?_update_self _ ho (Obj.isFreed_of_fields (Obj.data_mapFields hd _)), (Obj.cls_mapFields ..).trans hc, by
    rw [Obj.data_mapFields hd]; simp⟩
theorem rv_end {it l : Addr} {Q : Option Value → Shared → Prop} (hh : A.handled = none) (hit : IsRv s.heap it l (-1))
    (hQ : ∀ h', Heap.ExtBut it s.heap h' → Q none { s with heap := h' }) : wpAny (model prog w) A (pyNext (.ref it)) Q E s := by
  obtain ⟨o, ho, hc, hd⟩ := id hit
  unfold pyNext
  refine wpAny_bind (wpAny_attempt (wpAny_callSpecial?_slot (name := Str.ofString "__next__") hit.typeIs slot_rv_next
    (wpAny_call_entry slot_rv_next hit.typeIs entry_rv_next ?_ (args_rv_next_1 _))))
  unfold Builtin.«reversed.__next__»
  refine wpAny_bind (wpAny_of_eq (a := (Value.ref it, [])) rfl ?_)
  try dsimp only
  refine wpAny_bind (wpAny_field ho hd (x := .ref l) rfl ?_)
  refine wpAny_bind (wpAny_field ho hd (x := rawInt (-1)) rfl ?_)
  show wpAny _ _ (if (-1 : Int) < 0 then _ else _) _ _ s
  rw [if_pos (by decide)]
  refine wpAny_bind (wpAny_rule ?_)
  refine wpAny_bind ?_
  wp_delta
  refine wpAny_bind (wpAny_setField ho hd (by simp) ?_)
  have ho2 := Heap.get?_update_self (Obj.mapFields fun x => x.setIfInBounds 1 (rawInt (-1))) ho (Obj.isFreed_of_fields (Obj.data_mapFields hd _))
  refine wpAny_setField (s := { s with heap := s.heap.update it (Obj.mapFields fun x => x.setIfInBounds 1 (rawInt (-1))) }) ho2 (Obj.data_mapFields hd _) (by simp) ?_
  refine wpAny_bind ?_
  show wpAny _ _ (newExc (.type "StopIteration") [] >>= _) _ _ _
  refine wpAny_bind ?_
  simp only [newExc, newTuple]
  refine wpAny_bind (wpAny_newObj_type ?_ (by size_fits))
  refine wpAny_bind (m := firstArgMember _ _) (wpAny_of_eq (a := Value.none) (by first | rfl | (simp only [firstArgMember]; rfl)) ?_)
  refine wpAny_newObj_type ?_ (by size_fits)
  simp only [raiseNew]
  refine wpAny_bind (wpAny_handled ?_)
  first | rw [show A.in1.handled = none from hh] | rw [hh]
  refine wpAny_bind (wpAny_pure (wpAny_throw ?_))
  refine wpAny_bind (wpAny_isInstance (T := "StopIteration") (b := true) ⟨_, Heap.get?_push_size _ rfl, rfl⟩ isSubtype_stop ?_)
  exact wpAny_pure (hQ _ fun b o' hb eo => Heap.get?_push_of_some _ (Heap.get?_push_of_some _ ((Heap.get?_update_other _ _ (Ne.symm hb)).trans ((Heap.get?_update_other _ _ (Ne.symm hb)).trans eo))))
end
/-! ### for x in reversed(a tuple) -/
def revT : D → Option (List D)
  | .tuple xs => some xs.reverse
  | _ => none
@[simp] theorem revT_tuple (xs : List D) : revT (.tuple xs) = some xs.reverse := rfl
def Itv (K : PySem.W.Frag) (a : Addr) (n : Nat) : It :=
  ⟨fun i H => i < n ∧ ∃ xs, SqT K H a xs ∧ xs.length = n, fun i H x H' => H' = H ∧ ∀ xs, SqT K H a xs → xs[n - 1 - i]? = some x, fun i H => n ≤ i⟩
theorem turn_rv {P : Program} {w : World} {K : PySem.W.Frag} {tg : Expr} (a it : Addr) (n : Nat) : Turn P w K tg (Itv K a n) [it] it (fun i h => i ≤ n ∧ IsRv h it a ((n : Int) - 1 - (i : Int))) where
  mem := by simp
  obj := fun i h st b hb => by
    have e : b = it := by simpa using hb
    subst e
    obtain ⟨_, o, e, c, d⟩ := st
    exact ⟨o, e, fun v z => by rw [d] at z; cases z⟩
  keep := fun i h h' st k => ⟨st.1, st.2.at fun o e => k it (by simp) o e⟩
  item := by
    intro X hP hw hK hc i pins s σ H E I hf st hg
    subst hP hw hK
    obtain ⟨hi, xs, hq, hl⟩ := hg
    obtain ⟨its, rv, p, hz⟩ := I.tuple hq
    have hlen := rv.length
    have hx : xs[n - 1 - i]? = some (xs[n - 1 - i]'(by omega)) := by simp
    obtain ⟨u, hu, ru⟩ := rv.get hx
    obtain ⟨f0, f1, f2, f3, f4, f5⟩ := hf it (by simp)
    have e : (n : Int) - 1 - (i : Int) = ((n - 1 - i : Nat) : Int) := by omega
    have hit := st.2
    rw [e] at hit
    refine rv_item hit p (by simp only [List.size_toArray]; omega) (x := u) (by simpa using hu) fun h' tk st' sb => ?_
    have e2 : ((n - 1 - i : Nat) : Int) - 1 = (n : Int) - 1 - ((i + 1 : Nat) : Int) := by omega
    rw [e2] at st'
    have I1 : Inv X pins σ H { s with heap := h', toks := tk } := I.turned (t' := tk) (fun b o hb e => (sb.2 b hb).trans e) f0 f1 f3 f4 f5
    obtain ⟨o, e, c, d⟩ := id st'
    exact ⟨u, rfl, go_of (s := { s with heap := h', toks := tk }) e c d (by decide) ⟨_, H, I1, ru, ⟨rfl, fun ys hy => by rw [I.tuple_inj hy hq]; exact hx⟩, ⟨hi, st'⟩, fun b hb => (hf b hb).1⟩⟩
  done := by
    intro X hP hw hK hc i pins s σ H E I hf st hg
    subst hP hw hK
    obtain ⟨f0, f1, f2, f3, f4, f5⟩ := hf it (by simp)
    have hi : n ≤ i := hg
    have h1 := st.1
    have e : (n : Int) - 1 - (i : Int) = -1 := by omega
    have hit := st.2
    rw [e] at hit
    exact rv_end (I.ok.hd hc) hit fun h' eb => ⟨rfl, I.turned (t' := s.toks) (fun b o hb e => eb b o hb e) f0 f1 f3 f4 f5⟩
  self := fun _ _ _ _ _ st h => rv_iter st.2 h
section
variable {X : Cx} {tg e : Expr} {p pos : Pos} {te : TE} {f : Dv → Option D}
def iRv (K : PySem.W.Frag) (te : TE) : TI := fun σ H R => te σ H fun v H1 => ∃ a xs, [v] = [V.ref a] ∧ SqT K H1 a xs ∧ R (Itv K a xs.length) H1
theorem pi_rv (hg : Gl X "reversed") (hm : X.mg "reversed" = none) (ha : PE X e te)
    (he : starEach [e] X.env = (false, eval e X.env) :: starEach [] X.env := by rfl) (hpl : (backTo pos (starEach [] X.env)).any (·.1) = false := by rfl) :
    PI X tg (.Call (.Name "reversed" p) [e] [] pos) (iRv X.K te) := by
  intro pins s σ H R I h
  refine wpAny_Call_Name_kw (ld_blt I hg hm (u := .type "reversed") (by decide +kernel) ?_ (by decide) (by decide))
  refine PyProof.Rows.callWith_type1 (thn (pa_cons ha pa_nil he pos pins s σ H (fun xs H1 => ∃ a ys, xs = [V.ref a] ∧ SqT X.K H1 a ys ∧ R (Itv X.K a ys.length) H1) I h) fun us s1 ⟨vs, H1, I1, r1, q1⟩ => ?_) he hpl
  obtain ⟨a, ys, e1, hq, q⟩ := q1
  subst e1
  obtain ⟨u, rfl, rx⟩ := vals1 r1
  cases rx
  obtain ⟨its, r', pl, hz⟩ := I1.tuple hq
  have hlen := r'.length
  refine call_reversed_tuple pl (by simp only [List.size_toArray]; omega) ?_
  have hrv : IsRv (s1.heap.push (rvObj a ((its.toArray.size : Int) - 1))) s1.heap.objs.size a ((ys.length : Int) - 1 - ((0 : Nat) : Int)) := ⟨_, Heap.get?_push_size _ rfl, rfl, by
    have ez : ((its.toArray.size : Nat) : Int) - 1 = (ys.length : Int) - 1 - ((0 : Nat) : Int) := by simp only [List.size_toArray]; omega
    show Data.fields #[.ref a, rawInt _] = _
    rw [ez]⟩
  refine rv_iter (s := { s1 with heap := s1.heap.push (rvObj a ((its.toArray.size : Int) - 1)), toks := s1.toks + 1 + 1 }) hrv ?_
  refine ⟨s1.heap.objs.size, [s1.heap.objs.size], _, _, H1, rfl, I1.kept (t' := s1.toks + 1 + 1) fun b o e => Heap.get?_push_of_some _ e, turn_rv a _ ys.length, ⟨Nat.zero_le _, hrv⟩, fun b hb => ?_, q⟩
  have e : b = s1.heap.objs.size := by simpa using hb
  subst e
  exact I1.fpOk (Nat.le_refl _) (I1.hok.fresh (Nat.le_refl _))
theorem iv_revT (hg : Gl X "reversed") (hm : X.mg "reversed" = none) (ha : EV X e f)
    (he : starEach [e] X.env = (false, eval e X.env) :: starEach [] X.env := by rfl) (hpl : (backTo pos (starEach [] X.env)).any (·.1) = false := by rfl) :
    IV X tg (.Call (.Name "reversed" p) [e] [] pos) (oI f revT) :=
  PI.imp (pi_rv hg hm ha he hpl) fun σ H R h => by
    obtain ⟨H₀, Z₀, Z, δ, ds, hh, e, k⟩ := h
    obtain ⟨y, e1, e⟩ := bind_some e
    refine ⟨H₀, Z₀, Z, δ, y, hh, e1, fun v Z1 H1 hh1 t1 r1 => ?_⟩
    cases r1 with
    | @tup l xs ds' h1 q1 =>
      cases e
      have hl := q1.length
      refine ⟨l, xs, rfl, SqT.same h1 hh1.zh, k _ Z1 H1 hh1 t1 ⟨fun i H2 z hi => ?_, fun i H2 x H3 d z ed y => ?_, fun i H2 z hi => ?_⟩⟩
      · rw [List.length_reverse] at hi
        exact ⟨by omega, xs, SqT.same h1 z, rfl⟩
      · obtain ⟨rfl, y⟩ := y
        have hi : i < ds'.length := by
          rw [← List.length_reverse]
          exact (List.getElem?_eq_some_iff.mp ed).1
        rw [List.getElem?_reverse hi] at ed
        obtain ⟨v, ev, rv⟩ := q1.get ed
        have := y xs (SqT.same h1 z)
        rw [hl, ev] at this
        cases this
        exact ⟨rfl, rv⟩
      · rw [List.length_reverse] at hi
        show xs.length ≤ i
        omega
    | _ => cases e
end
end VL

set_option Elab.async false
set_option linter.all false
set_option maxRecDepth 100000
set_option maxHeartbeats 4000000
/-! Exceptions of the text's own classes: raised, passed on, caught, asked for their class. -/
namespace VL
open PySem PySem.Spec PyProof.Rows L2
/-! ### exceptions as plain data, and the functions of code that raises -/
def exD (n : Str) : D := .dict [(.str "exc", .str n)]
def fnD (n : Str) : D := .dict [(.str "fn", .str n)]
abbrev Xf := Dv → Option (Str × Dv)
@[simp] def xNo : Xf := fun _ => none
@[simp] def xRaise (n : Str) (f : Dv → Option D) : Xf := fun δ => (f δ).bind fun _ => some (n, δ)
@[simp] def xE (f : Dv → Option Str) : Xf := fun δ => (f δ).bind fun n => some (n, δ)
@[simp] def xIf (t : Dv → Option Bool) (u w : Xf) : Xf := fun δ => (t δ).bind fun c => if c = true then u δ else w δ
@[simp] def xSeq (s : Sf) (u : Xf) : Xf := fun δ => (s δ).bind fun r => match r with
  | (.nx, δ') => u δ'
  | _ => none
@[simp] def xBoth (u1 : Xf) (s : Sf) (u : Xf) : Xf := fun δ => match u1 δ with
  | some r => some r
  | none => xSeq s u δ
def runX (N : List Str) (m : Nat) (fx : Xf) : List D → Option Str := fun as => if as.length = m then (fx (startD N as)).bind fun r => some r.1 else none
@[simp] def osX (fs : Dv → Option (List D)) (g : List D → Option Str) : Dv → Option Str := fun δ => (fs δ).bind g
def sTry (i : Nat) (ns : List Str) (b : Sf) (bx : Xf) (bs : Sf) : Sf := fun δ => match bx δ with
  | some (n, δ') => if ns.contains n = true then (bs (δ'.set i (.fz (exD n)))).bind fun r => some (r.1, r.2.set i .un) else none
  | none => b δ
def isxL (t : List (Str × Bool)) (n : Str) : Option D := (t.lookup n).map .bool
def isxD (t : List (Str × Bool)) : D → Option D
  | .dict [(.str k, .str n)] => if k = "exc" then isxL t n else none
  | _ => none
theorem isxD_ex (t : List (Str × Bool)) (n : Str) : isxD t (exD n) = isxL t n := by simp [isxD, exD]
theorem objOk_there {P : Program} {w : World} {H : Hp} {h : Heap} {a : Addr} {o : HO} (x : ObjOk P w H h a o) : ∃ ob, h.get? a = some ob := by
  cases o with
  | lst xs => obtain ⟨_, _, _, _, e⟩ := x; exact ⟨_, e⟩
  | tup xs => obtain ⟨_, _, _, ob, e, _⟩ := x; exact ⟨_, e⟩
  | dK kvs => obtain ⟨_, _, _, _, o, _, _, e, _⟩ := x; exact ⟨_, e⟩
  | dT kvs => obtain ⟨_, _, _, _, o, _, _, e, _⟩ := x; exact ⟨_, e⟩
  | set S n => obtain ⟨o, _, _, _, e, _⟩ := x; exact ⟨_, e⟩
  | ins C dx fs => obtain ⟨_, _, _, e, _⟩ := x; exact ⟨_, e⟩
  | own y => exact x
  | xd fs => obtain ⟨_, ⟨_, _, _, e, _⟩, _⟩ := x; exact ⟨_, e⟩
  | rng lo hi => obtain ⟨_, _, _, e⟩ := x; exact ⟨_, e⟩
  | frz ob u => exact ⟨_, x.1⟩
  | tbl ps => exact ⟨_, x⟩
  | met f y => exact ⟨_, x⟩
  | ext φ => exact x.2.1
theorem exO_ok {P : Program} {w : World} {H : Hp} {h : Heap} {x C : Addr} {o : Obj} (e : h.get? x = some o) (c : o.cls = .ref C) : ObjOk P w H h x (exO x C) :=
  ⟨⟨o, e, c⟩, ⟨o, e⟩, fun h1 h2 ⟨o', e', c'⟩ k => ⟨o', k o' e', c'⟩⟩
/-- on its way out of a call: outer the frames that run -/
structure Thrown (P : Program) (w : World) (outer : List Env) (H : Hp) (s : Shared) (x C : Addr) (H' : Hp) (s' : Shared) : Prop where
  os : s'.os = s.os
  bare : AllBare s'.gens
  un : Un (frs outer) [] H H' s.heap s'.heap
  hok : HOk P w H' s'.heap
  sm : Same H H'
  is : H' x = some (exO x C)
  fly : ∃ B t, Heap.FlyingW B outer x (.ref C) t s'.heap ∧ (∀ b o, H' b = some o → b ≠ x → ∃ ob, B.get? b = some ob) ∧ (∀ b o, s.heap.get? b = some o → H b = none → b ∉ frs outer → B.get? b = some o)
def CXX (P : Program) (w : World) : CXT := fun outer H s E e s' => ∃ x C H', e = .ref x ∧ Thrown P w outer H s x C H' s' ∧ E (.ref C) (some x) H'
theorem hok_fly {P : Program} {w : World} {H2 : Hp} {B h2 h' : Heap} {l l' : List Env} {x C : Addr} {t t' : Value} (ok : HOk P w H2 h2) (is : H2 x = some (exO x C)) (k2 : B.StaysIn h2) (fl' : Heap.FlyingW B l' x (.ref C) t' h')
    (hB : ∀ b o, H2 b = some o → b ≠ x → ∃ ob, B.get? b = some ob) : HOk P w H2 h' := fun b o e => by
  by_cases hb : b = x
  · subst hb
    rw [is] at e; cases e
    obtain ⟨ob, h1, h2⟩ := fl'.there
    exact exO_ok h1 h2
  · refine (ok b o e).stay (fun c u hc q => ?_) (fun _ q => q) fun _ _ q => q
    have : ∃ ob, B.get? c = some ob := by
      rcases hc with rfl | hc
      · exact hB c o e hb
      · refine hB c _ hc fun z => ?_
        subst z; rw [is] at hc; cases hc
    obtain ⟨ob, hob⟩ := this
    have := k2 c ob hob
    rw [q] at this; cases this
    exact fl'.1 c _ hob
section
variable {P : Program} {w : World} {K : PySem.W.Frag} {mg : Str → Option Value} {base : Heap} {N : List Str} {qual : Str} {scope : Scope} {f : Addr} {cd : Value} {A : Around} {outer : List Env} {s : Shared} {H : Hp} {E : XK} {pins : List (Addr × Obj)} {σ : St} {H1 H2 : Hp} {s1 s2 : Shared} {x C : Addr}
/-- it leaves one frame more -/
theorem leave_on (I : Inv (cxOf (CXX P w) P w K mg base N qual scope f cd A outer s H E) pins σ H1 s1) (T : Thrown P w (cxOf (CXX P w) P w K mg base N qual scope f cd A outer s H E).stack H1 s1 x C H2 s2) (hE : E (.ref C) (some x) H2) (h0 : Same H H2) :
    (cxOf (CXX P w) P w K mg base N qual scope f cd A outer s H E).xe (.ref x) s2 := by
  obtain ⟨B, t, fl, hB1, hB2⟩ := T.fly
  have hfr := I.ok.frames
  have loc : ∀ b o, s.heap.get? b = some o → b ∉ frs outer → b ∉ frs (cxOf (CXX P w) P w K mg base N qual scope f cd A outer s H E).stack := fun b o q hb z => by
    rcases List.mem_cons.mp (I.stkSub b z) with e | e
    · exact absurd (Heap.lt_size q) (by rw [e]; exact Nat.not_lt.mpr I.ok.above)
    · exact hb e
  have keep : ∀ b o, s.heap.get? b = some o → H b = none → b ∉ frs outer → B.get? b = some o := fun b o q n hb =>
    hB2 b o (I.base.keep b o q n hb (fun z => nomatch z)) (I.base.free b o q n (fun z => nomatch z)) (loc b o q hb)
  refine wpAny_leaves_onW hfr rfl fl fun h' fl' sm => ?_
  have slot : ∀ b o, s.heap.get? b = some o → H b = none → b ∈ frs outer → ∃ sl, h'.get? b = some { o with slots := sl } := fun b o q n hb => by
    obtain ⟨sl, e1⟩ := I.base.slot b o q n hb (fun z => nomatch z)
    have hb' : b ∈ frs (cxOf (CXX P w) P w K mg base N qual scope f cd A outer s H E).stack := by
      show b ∈ List.filterMap _ (_ :: outer)
      exact List.mem_filterMap.mpr (by obtain ⟨env, he, hf⟩ := List.mem_filterMap.mp hb; exact ⟨env, List.mem_cons_of_mem _ he, hf⟩)
    obtain ⟨sl2, e2⟩ := T.un.slot b _ e1 (I.base.free b o q n (fun z => nomatch z)) hb' (fun z => nomatch z)
    obtain ⟨_, o', ho', hd⟩ := I.ok.funs.mem hb
    have ho2 : s.heap.get? b = some o' := ho'
    rw [q] at ho2; cases ho2
    obtain ⟨sl3, e3⟩ := sm b _ e2 hd
    exact ⟨sl3, e3⟩
  refine ⟨x, C, H2, rfl, ⟨T.os.trans I.os, T.bare, ⟨fun b o q n hb _ => fl'.1 b o (keep b o q n hb), fun b o q n hb _ => slot b o q n hb, fun b o q n _ => ?_, fun b o q _ => ?_, fun b xs e => T.un.tups b xs (I.base.tups b xs e), fun b o u e => T.un.frzs b o u (I.base.frzs b o u e), fun b ps e => ?_⟩, hok_fly (l := []) (t := t) T.hok T.is fl.1 fl' hB1, h0, T.is, ⟨B, t, fl', hB1, keep⟩⟩, hE⟩
  · obtain ⟨o1, e1⟩ := I.base.there b o q (fun z => nomatch z)
    exact T.un.free b o1 e1 (I.base.free b o q n (fun z => nomatch z)) (fun z => nomatch z)
  · cases q2 : H2 b with
    | some ho =>
      by_cases hb : b = x
      · subst hb; obtain ⟨ob, e1, _⟩ := fl'.there; exact ⟨ob, e1⟩
      · obtain ⟨ob, e1⟩ := hB1 b ho q2 hb; exact ⟨ob, fl'.1 b ob e1⟩
    | none =>
      have n : H b = none := by
        cases e : H b with
        | none => rfl
        | some z => rw [h0 b z e] at q2; cases q2
      by_cases hb : b ∈ frs outer
      · obtain ⟨sl, e⟩ := slot b o q n hb; exact ⟨_, e⟩
      · exact ⟨o, fl'.1 b o (keep b o q n hb)⟩
  · obtain ⟨m1, e1⟩ := I.base.tbls b ps e
    obtain ⟨m2, e2⟩ := T.un.tbls b _ e1
    exact ⟨m1 ++ m2, by rw [e2, Array.append_assoc]⟩
/-- it is made in this frame, and leaves it -/
theorem leave_made {vs : List Value} (I : Inv (cxOf (CXX P w) P w K mg base N qual scope f cd A outer s H E) pins σ H1 s1) (hs : s2 = { s1 with heap := s2.heap }) (hx : Heap.MadeExcOf s1.heap s2.heap x (.ref C) vs) (h0 : Same H H1) (hE : H1 x = none → E (.ref C) (some x) (upd H1 x (exO x C))) :
    (cxOf (CXX P w) P w K mg base N qual scope f cd A outer s H E).xe (.ref x) s2 := by
  have hfr := I.ok.frames
  have n1 : H1 x = none := by
    cases e : H1 x with
    | none => rfl
    | some o => obtain ⟨ob, h⟩ := objOk_there (I.hok x o e); rw [hx.new] at h; cases h
  have loc : ∀ b o, s.heap.get? b = some o → b ∉ frs outer → b ∉ frs (cxOf (CXX P w) P w K mg base N qual scope f cd A outer s H E).stack := fun b o q hb z => by
    rcases List.mem_cons.mp (I.stkSub b z) with e | e
    · exact absurd (Heap.lt_size q) (by rw [e]; exact Nat.not_lt.mpr I.ok.above)
    · exact hb e
  have hin : ∀ env ∈ (cxOf (CXX P w) P w K mg base N qual scope f cd A outer s H E).stack, ∀ b, env.frame = some b → b ∈ frs (cxOf (CXX P w) P w K mg base N qual scope f cd A outer s H E).stack := fun env he b hb => List.mem_filterMap.mpr ⟨env, he, hb⟩
  have keep : ∀ b o, s.heap.get? b = some o → H b = none → b ∉ frs outer → (PySem.W.hideAll s1.heap (frs (cxOf (CXX P w) P w K mg base N qual scope f cd A outer s H E).stack)).get? b = some o := fun b o q n hb =>
    PySem.W.hideAll_get _ (I.base.keep b o q n hb (fun z => nomatch z)) (loc b o q hb)
  have trk : ∀ b o, H1 b = some o → ∃ ob, (PySem.W.hideAll s1.heap (frs (cxOf (CXX P w) P w K mg base N qual scope f cd A outer s H E).stack)).get? b = some ob := fun b o e => by
    obtain ⟨ob, h⟩ := objOk_there (I.hok b o e)
    refine ⟨ob, PySem.W.hideAll_get _ h fun z => ?_⟩
    rw [I.stkFree b z] at e; cases e
  refine wpAny_leaves_madeW hfr rfl (fun b o q => PySem.W.of_hideAll _ q) (PySem.W.funFrames_hide I.stack hin) hx fun h' t fl _ _ sm => ?_
  have slot : ∀ b o, s.heap.get? b = some o → H b = none → b ∈ frs outer → ∃ sl, h'.get? b = some { o with slots := sl } := fun b o q n hb => by
    obtain ⟨sl, e1⟩ := I.base.slot b o q n hb (fun z => nomatch z)
    obtain ⟨_, o', ho', hd⟩ := I.ok.funs.mem hb
    have ho2 : s.heap.get? b = some o' := ho'
    rw [q] at ho2; cases ho2
    obtain ⟨sl3, e3⟩ := sm b _ (hx.keeps b _ e1) hd
    exact ⟨sl3, e3⟩
  have ne : ∀ b o, s1.heap.get? b = some o → b ≠ x := fun b o q z => by subst z; rw [hx.new] at q; cases q
  have os2 : s2.os = s1.os := by rw [hs]
  have g2 : s2.gens = s1.gens := by rw [hs]
  have hok2 : HOk P w (upd H1 x (exO x C)) h' := fun b o e => by
    by_cases hb : b = x
    · subst hb; rw [upd_same] at e; cases e; obtain ⟨ob, q1, q2⟩ := fl.there; exact exO_ok q1 q2
    · rw [upd_ne hb] at e
      refine (I.hok b o e).stay (fun c u hc q => ?_) (fun c q => ?_) fun c xs q => ?_
      · have : ∃ ho, H1 c = some ho := by rcases hc with rfl | hc; exact ⟨_, e⟩; exact ⟨_, hc⟩
        obtain ⟨ho, hc⟩ := this
        obtain ⟨ob, hob⟩ := trk c ho hc
        have := PySem.W.of_hideAll _ hob
        rw [q] at this; cases this
        exact fl.1 c _ hob
      · rw [upd_ne (ne_of_none q n1)]; exact q
      · rw [upd_ne (ne_of_none q n1)]; exact q
  refine ⟨x, C, upd H1 x (exO x C), rfl, ⟨os2.trans I.os, by rw [show ({ s2 with heap := h' } : Shared).gens = s1.gens from g2]; exact I.bare, ⟨fun b o q n hb _ => fl.1 b o (keep b o q n hb), fun b o q n hb _ => slot b o q n hb, fun b o q n _ => ?_, fun b o q _ => ?_, fun b xs e => ?_, fun b o u e => ?_, fun b ps e => ?_⟩, hok2, h0.trans (same_upd n1), upd_same, ⟨_, _, fl, fun b o e hb => ?_, keep⟩⟩, hE n1⟩
  · obtain ⟨o1, e1⟩ := I.base.there b o q (fun z => nomatch z)
    rw [upd_ne (ne b o1 e1)]
    exact I.base.free b o q n (fun z => nomatch z)
  · obtain ⟨o1, e1⟩ := I.base.there b o q (fun z => nomatch z)
    cases q2 : H1 b with
    | some ho => obtain ⟨ob, e⟩ := trk b ho q2; exact ⟨ob, fl.1 b ob e⟩
    | none =>
      have n : H b = none := by
        cases e : H b with
        | none => rfl
        | some z => rw [h0 b z e] at q2; cases q2
      by_cases hb : b ∈ frs outer
      · obtain ⟨sl, e⟩ := slot b o q n hb; exact ⟨_, e⟩
      · exact ⟨o, fl.1 b o (keep b o q n hb)⟩
  · have := I.base.tups b xs e
    rw [upd_ne (ne_of_none this n1)]; exact this
  · have := I.base.frzs b o u e
    rw [upd_ne (ne_of_none this n1)]; exact this
  · obtain ⟨m1, e1⟩ := I.base.tbls b ps e
    exact ⟨m1, by rw [upd_ne (ne_of_none e1 n1)]; exact e1⟩
  · rw [upd_ne hb] at e
    exact trk b o e
end
end VL

set_option Elab.async false
set_option linter.all false
set_option maxRecDepth 100000
set_option maxHeartbeats 4000000
namespace VL
open PySem PySem.Spec PyProof.Rows L2
/-! ### facts of a class -/
abbrev vMro : List Value := [.type "ValueError", .type "Exception", .type "BaseException", .type "object"]
structure ExcC (K : Fg) (n : Str) (C : Addr) : Prop where
  nm : PySem.W.nsIn K mainGlobals n = some (some (.ref C))
  ex : PySem.W.excIn K C vMro "ValueError.__new__" = true
  ga : PySem.W.findIn K (.ref C) "__getattribute__" = some (some (.builtin "BaseException.__getattribute__"))
  gt : PySem.W.findIn K (.ref C) "__getattr__" = some none
  cl : PySem.W.findIn K (.ref C) "__class__" = some (some (.builtin "object.__class__"))
  mo : PySem.W.mroIn K C (.type "object") = some true
  be : PySem.W.mroIn K C (.type "BaseException") = some true
theorem exc_obj {K : Fg} {h : Heap} {C : Addr} {mB : List Value} {newId : String} (kin : K.In h) (q : PySem.W.excIn K C mB newId = true) :
    ∃ mr ns nm qn bs hd sn sub ab col dd a0 a1 a2 a3 a5 mN, h.get? C = some (excClassObj nm qn C ns bs mr hd sn sub ab col dd a0 a1 a2 a3 a5 newId) ∧ h.Ns ns mN ∧ mN "__init__" = none ∧ OwnTail h mB mr := by
  unfold PySem.W.excIn at q
  split at q
  · rename_i dct cda slo lk
    split at q
    · rename_i C2 mr a0 a1 a2 a3 nw a5 em es
      simp only [Bool.and_eq_true, beq_iff_eq, Bool.not_eq_true'] at q
      obtain ⟨⟨⟨⟨⟨rfl, rfl⟩, nodel⟩, tl⟩, okn⟩, noini⟩ := q
      obtain ⟨nm, bs, mro, ns, qn, hd, sn, sub, ab, col, del⟩ := cda
      dsimp only at em nodel okn noini
      subst em nodel
      have esl : slo = #[a0, a1, a2, a3, some (.builtin nw), a5] := by
        obtain ⟨ll⟩ := slo
        simp only at es
        rw [es]
      subst esl
      exact ⟨mr, ns, nm, qn, bs, hd, sn, sub, ab, col, dct, a0, a1, a2, a3, a5, _, kin _ _ lk, Heap.Ns.of_isNs (PySem.W.isNs_of_in kin okn), PySem.W.nsMap_none_of_in kin okn noini, PySem.W.tail_of_in kin tl⟩
    · cases q
  · cases q
section
variable {K : Fg} {n : Str} {C x : Addr}
theorem looks_ty {M : Model} {h : Heap} {o : Obj} (e : h.get? x = some o) (c : o.cls = .ref C) : PySem.W.Looks M h (typeOf (.ref x)) (.ref C) := c ▸ (PySem.W.Looks.ld e).andThen .now
variable {prog : Program} {w : World} {A : Around} {E : Value → Shared → Prop}
open Builtin Builtin.ObjectAttr Builtin.Getset_descriptor in
theorem exc_get {R : Result → Shared → Prop} {tp : Value} {o : Obj} {s : Shared} (F : ExcC K n C) (kin : K.In s.heap) (e : s.heap.get? x = some o) (c : o.cls = .ref C) (h : R (.ok (.ret (.ref C))) s) :
    codeAny (model prog w) A (.call (.builtin "getset_descriptor.__get__") ⟨[.builtin "object.__class__", .ref x, tp], []⟩) R s := by
  obtain ⟨hh, g, dr, t, os⟩ := s
  have L0 := looks_ty (M := model prog w) e c
  have L1 := PySem.W.looks_mroIn (M := model prog w) kin F.mo
  refine codeAny_call_builtin PySem.W.KF.slot_gs.plain PySem.W.KF.entry_gs (PySem.W.KF.slot_gs.check _ _ _ _ _ _ _ _ PySem.W.KF.type_class (PySem.W.KF.args_gs _ _ _) ?_)
  unfold Builtin.«getset_descriptor.__get__» descrGet
  rw [PySem.W.dga_obj]
  refine wpAny_bind (wpAny_pure ?_)
  unfold descrGetter descrCheckInstance descrNameAndClass isInstance
  simp only [PySem.W.KF.owner_class]
  repeat lk
  refine ⟨Code.quiet_builtin _ (by decide +kernel), codeAny_builtin PySem.W.KF.entry_class ?_⟩
  unfold Builtin.«object.__class__» shownTypeOf
  repeat lk
  exact h
theorem exc_check {M : Model} {o : Obj} {s : Shared} {nameV : Value} {Q : Unit → Shared → Prop} (F : ExcC K n C) (kin : K.In s.heap) (e : s.heap.get? x = some o) (c : o.cls = .ref C) (h : Q () s) :
    wpAny M A (checkBuiltinCall "BaseException.__getattribute__" ⟨[.ref x, nameV], []⟩) Q E s := by
  obtain ⟨hh, g, dr, t, os⟩ := s
  have L0 := looks_ty (M := M) e c
  have L1 := PySem.W.looks_mroIn (M := M) kin F.be
  have kd : builtinKind "BaseException.__getattribute__" = some .slot := by decide +kernel
  have sp : splitId "BaseException.__getattribute__" = some ("BaseException", "__getattribute__") := by decide +kernel
  have ao := PySem.F.args_bexc_ga (.ref x) nameV
  simp only [checkBuiltinCall, kd, sp]
  refine wpAny_bind ?_
  unfold isInstance
  refine wpAny_bind (L0.at (L1.at ?_))
  repeat wp_step
  exact h
theorem exc_entry {tk : Tok} {o : Obj} {s : Shared} {Q : Fin → Shared → Prop} (F : ExcC K n C) (kin : K.In s.heap) (e : s.heap.get? x = some o) (c : o.cls = .ref C) (h : Q (.done (.ret (.ref C))) s) :
    wpAny (model prog w) A (Builtin.«object.__getattribute__» ⟨[.ref x, .str "__class__" tk], []⟩) Q E s := by
  obtain ⟨hh, g, dr, t, os⟩ := s
  have L0 := looks_ty (M := model prog w) e c
  have L1 := PySem.W.looks_findIn (M := model prog w) kin F.cl
  have t5 : (⟨hh, g, dr, t, os⟩ : Shared).TypeIs (.builtin "object.__class__") "getset_descriptor" := PySem.F.typeOf_object_class
  have f5 := PySem.F.typeOf_object_class
  have f6 := PySem.F.slot_gs_get.lookup
  have f7 := PySem.F.slot_gs_set.lookup
  repeat (any_goals (first | assumption | with_reducible refine L0.at ?_ | with_reducible refine L1.at ?_ | wp_step))
  refine exc_get F kin e c ?_
  repeat (any_goals (first | assumption | wp_step))
end
end VL

set_option Elab.async false
set_option linter.all false
set_option maxRecDepth 100000
set_option maxHeartbeats 4000000
namespace VL
open PySem PySem.Spec PyProof.Rows L2
section
variable {K : Fg} {n : Str} {C x : Addr} {prog : Program} {w : World} {A : Around} {E : Value → Shared → Prop}
theorem exc_class {o : Obj} {s : Shared} {Q : Option Value → Shared → Prop} (F : ExcC K n C) (kin : K.In s.heap) (e : s.heap.get? x = some o) (c : o.cls = .ref C) (h : Q (some (.ref C)) { s with toks := s.toks + 1 }) :
    wpAny (model prog w) A (getAttr? (.ref x) "__class__") Q E s := by
  obtain ⟨hh, g, dr, t, os⟩ := s
  have L0 := looks_ty (M := model prog w) e c
  have L1 := PySem.W.looks_findIn (M := model prog w) kin F.ga
  have L2 := PySem.W.looks_findIn (M := model prog w) kin F.gt
  have b3 := PySem.F.attr_ValueError.ga.bind (.ref x)
  have n2 : (Value.builtin "BaseException.__getattribute__" == Value.builtin "object.__getattribute__") = false := by decide +kernel
  have n1 : (onTheHeap (Value.ref C) && Value.builtin "BaseException.__getattribute__" == Value.builtin "object.__getattribute__") = false := by rw [n2]; rfl
  have go : ∀ {tk : Tok} {R : Result → Shared → Prop} {A' : Around}, R (.ok (.ret (.ref C))) ⟨hh, g, dr, t + 1, os⟩ → codeAny (model prog w) A' (.call (.builtin "BaseException.__getattribute__") ⟨[.ref x, .str "__class__" tk], []⟩) R ⟨hh, g, dr, t + 1, os⟩ := fun {tk R A'} q =>
    codeAny_call_builtin PySem.F.attr_ValueError.ga.plain PySem.F.entry_bexc_ga (exc_check (s := ⟨hh, g, dr, t + 1, os⟩) F kin e c (exc_entry (s := ⟨hh, g, dr, t + 1, os⟩) F kin e c q))
  unfold getAttr? getAttrBy? getAttrBy
  repeat (any_goals (first | assumption | with_reducible refine L0.at ?_ | with_reducible refine L1.at ?_ | with_reducible refine L2.at ?_ | wp_step))
  refine go ?_
  repeat (any_goals (first | assumption | wp_step))
theorem looks_isType {M : Model} {h : Heap} (F : ExcC K n C) (kin : K.In h) : PySem.W.Looks M h (isType (.ref C)) true := by
  obtain ⟨_, _, _, _, _, _, _, _, _, _, _, _, _, _, _, _, _, hC, _⟩ := exc_obj kin F.ex
  intro A' Q' E' s' k q
  unfold isType loadHead
  exact wpAny_bind (wpAny_loadPart (k _ _ hC) (wpAny_pure q))
theorem kitx_exc (F : ExcC K n C) : PySem.W.KitX K (.ref x) (.ref C) (fun h => ∃ o, h.get? x = some o ∧ o.cls = .ref C) where
  ty := fun M h _ ⟨o, e, c⟩ => looks_ty e c
  it := fun M h kin _ => looks_isType F kin
  ne := fun h tp dd its m sl kin htp => by
    obtain ⟨_, _, _, _, _, _, _, _, _, _, _, _, _, _, _, _, _, hC, _⟩ := exc_obj kin F.ex
    refine Bool.eq_false_iff.mpr fun q => ?_
    have z : C = tp := Value.ref.inj (beq_iff_eq.mp q)
    subst z
    rw [htp] at hC
    have z2 := congrArg (fun z : Option Obj => z.map (·.cls)) hC
    simp [excClassObj] at z2
  ca := fun {_ _ _ _ _ s} kin ⟨o, e, c⟩ k => exc_class F kin e c k
end
/-! ### isinstance of an exception -/
inductive IsX (K : Fg) (D : Str) : List (Str × Bool) → Prop
  | nil : IsX K D []
  | cons {n : Str} {b : Bool} {t : List (Str × Bool)} {C dC : Addr} : ExcC K n C → PySem.W.nsIn K mainGlobals D = some (some (.ref dC)) → PySem.W.kitOne K (.ref C) (.ref dC) = some b → IsX K D t → IsX K D ((n, b) :: t)
inductive IsT (K : Fg) (D : String) : List (Str × Bool) → Prop
  | nil : IsT K D []
  | cons {n : Str} {b : Bool} {t : List (Str × Bool)} {C : Addr} : ExcC K n C → PySem.W.kitOne K (.ref C) (.type D) = some b → IsT K D t → IsT K D ((n, b) :: t)
theorem lookup_cons_some {n m : Str} {b c : Bool} {t : List (Str × Bool)} (h : List.lookup m ((n, b) :: t) = some c) : (m = n ∧ c = b) ∨ List.lookup m t = some c := by
  rw [List.lookup_cons] at h
  split at h
  · rename_i q; cases h; exact .inl ⟨by simpa using q, rfl⟩
  · exact .inr h
theorem IsX.get {K : Fg} {D : Str} {t : List (Str × Bool)} (h : IsX K D t) {n : Str} {b : Bool} (e : t.lookup n = some b) : ∃ C dC, ExcC K n C ∧ PySem.W.nsIn K mainGlobals D = some (some (.ref dC)) ∧ PySem.W.kitOne K (.ref C) (.ref dC) = some b := by
  induction h with
  | nil => cases e
  | cons h1 h2 h3 _ ih =>
    rcases lookup_cons_some e with ⟨rfl, rfl⟩ | e
    · exact ⟨_, _, h1, h2, h3⟩
    · exact ih e
theorem IsT.get {K : Fg} {D : String} {t : List (Str × Bool)} (h : IsT K D t) {n : Str} {b : Bool} (e : t.lookup n = some b) : ∃ C, ExcC K n C ∧ PySem.W.kitOne K (.ref C) (.type D) = some b := by
  induction h with
  | nil => cases e
  | cons h1 h3 _ ih =>
    rcases lookup_cons_some e with ⟨rfl, rfl⟩ | e
    · exact ⟨_, h1, h3⟩
    · exact ih e
theorem isxD_some {t : List (Str × Bool)} {d r : D} (h : isxD t d = some r) : ∃ n b, d = .dict [(.str "exc", .str n)] ∧ t.lookup n = some b ∧ r = .bool b := by
  unfold isxD at h
  split at h
  · rename_i k n
    split at h
    · rename_i hk
      subst hk
      unfold isxL at h
      cases e : List.lookup n t with
      | none => rw [e] at h; cases h
      | some b => rw [e] at h; cases h; exact ⟨n, b, rfl, e, rfl⟩
    · cases h
  · cases h
section
variable {X : Cx} {a : Expr} {f : Dv → Option D} {p pos : Pos}
theorem isx_call {pins : List (Addr × Obj)} {σ : St} {H Z : Hp} {s : Shared} {x : Addr} {n : Str} {C : Addr} {c : Value} {b : Bool} {A : Around} {E : Value → Shared → Prop} {Q : Value → Shared → Prop} (I : Inv X pins σ H s) (zh : Same Z H) (r : Rep X.K Z (.ref x) (.dict [(.str "exc", .str n)])) (F : ExcC X.K n C) (ko : PySem.W.kitOne X.K (.ref C) c = some b)
    (h : ∀ tk, Q (.bool b) { s with toks := tk }) : wpAny (model X.prog X.w) A (call (.builtin "isinstance") [.ref x, c]) Q E s := by
  cases r with
  | opq q =>
    cases q with
    | @exc _ C' h1 h2 =>
      have : C' = C := by have := h1.symm.trans F.nm; simpa using this
      subst this
      exact PySem.W.kia_one (kitx_exc F) I.kIn (I.hok x _ (zh _ _ h2)).1 ko (fun z => nomatch z) h
theorem ev_isx {x : Str} {t : List (Str × Bool)} {p2 : Pos} (T : IsX X.K x t) (hg : Gl X "isinstance") (hm : X.mg "isinstance" = none) (hgT : Gl X x) (ha : EV X a f) (hdT : (x == ("__debug__" : Str)) = false := by decide)
    (he : starEach (a :: [.Name x p2]) X.env = (false, eval a X.env) :: starEach [.Name x p2] X.env := by rfl) (he2 : starEach ((.Name x p2) :: []) X.env = (false, eval (.Name x p2) X.env) :: starEach [] X.env := by rfl) (hpl : (backTo pos (starEach [.Name x p2] X.env)).any (·.1) = false := by rfl) :
    EV X (.Call (.Name "isinstance" p) [a, .Name x p2] [] pos) (o1 f (isxD t)) := by
  intro pins s σ H Q I h
  obtain ⟨H₀, Z₀, Z, δ, d, hh, e, k⟩ := h
  obtain ⟨y, e1, e⟩ := bind_some e
  obtain ⟨n, b, rfl, e2, rfl⟩ := isxD_some e
  obtain ⟨C, dC, F, hD, ko⟩ := T.get e2
  have hmT := PySem.W.mg_of I.ok.mod.kin I.ok.mod.glob hD
  have cr : CallR X (.builtin "isinstance") (fun xs H Q => ∃ z Z, xs = [z, .ref dC] ∧ Same Z H ∧ Rep X.K Z z (.dict [(.str "exc", .str n)]) ∧ Q (.bl b) H) := by
    intro pins s σ H xs us Q I rv h
    obtain ⟨z, Z, rfl, zh, r, q⟩ := h
    obtain ⟨u, w', rfl, r1, r2⟩ := vals2 rv
    cases (show w' = Value.ref dC from r2)
    cases r with
    | @opq a' _ q' =>
      cases (show u = Value.ref a' from r1)
      exact isx_call I zh (.opq q') F ko fun tk => ⟨.bl b, H, I.tok _, rfl, q⟩
  exact pe_callB cr hg hm PyProof.Rows.boot_isinstance (pa_cons ha (pa_cons (pe_glob (v := .ref dC) hgT hmT rfl hdT) pa_nil he2) he) (by decide) (by decide) he hpl pins s σ H Q I
    ⟨H₀, Z₀, Z, δ, _, hh, e1, fun v Z1 H1 hh1 s1 r1 => ⟨v, Z1, rfl, hh1.zh, r1, k _ Z1 H1 hh1 s1 (.bl b)⟩⟩
theorem ev_isxT {x : Str} {D : String} {t : List (Str × Bool)} {p2 : Pos} (T : IsT X.K D t) (hg : Gl X "isinstance") (hm : X.mg "isinstance" = none) (hgT : Gl X x) (hmT : X.mg x = none) (ha : EV X a f) (hvT : bootBuiltins x = some (.type D) := by decide +kernel) (hnT : x ≠ "__name__" := by decide) (hdT : (x == ("__debug__" : Str)) = false := by decide)
    (he : starEach (a :: [.Name x p2]) X.env = (false, eval a X.env) :: starEach [.Name x p2] X.env := by rfl) (he2 : starEach ((.Name x p2) :: []) X.env = (false, eval (.Name x p2) X.env) :: starEach [] X.env := by rfl) (hpl : (backTo pos (starEach [.Name x p2] X.env)).any (·.1) = false := by rfl) :
    EV X (.Call (.Name "isinstance" p) [a, .Name x p2] [] pos) (o1 f (isxD t)) := by
  intro pins s σ H Q I h
  obtain ⟨H₀, Z₀, Z, δ, d, hh, e, k⟩ := h
  obtain ⟨y, e1, e⟩ := bind_some e
  obtain ⟨n, b, rfl, e2, rfl⟩ := isxD_some e
  obtain ⟨C, F, ko⟩ := T.get e2
  have cr : CallR X (.builtin "isinstance") (fun xs H Q => ∃ z Z, xs = [z, .ty D] ∧ Same Z H ∧ Rep X.K Z z (.dict [(.str "exc", .str n)]) ∧ Q (.bl b) H) := by
    intro pins s σ H xs us Q I rv h
    obtain ⟨z, Z, rfl, zh, r, q⟩ := h
    obtain ⟨u, w', rfl, r1, r2⟩ := vals2 rv
    cases (show w' = Value.type D from r2)
    cases r with
    | @opq a' _ q' =>
      cases (show u = Value.ref a' from r1)
      exact isx_call I zh (.opq q') F ko fun tk => ⟨.bl b, H, I.tok _, rfl, q⟩
  exact pe_callB cr hg hm PyProof.Rows.boot_isinstance (pa_cons ha (pa_cons (pe_bltn (v := .ty D) hgT hmT hvT rfl hnT hdT) pa_nil he2) he) (by decide) (by decide) he hpl pins s σ H Q I
    ⟨H₀, Z₀, Z, δ, _, hh, e1, fun v Z1 H1 hh1 s1 r1 => ⟨v, Z1, rfl, hh1.zh, r1, k _ Z1 H1 hh1 s1 (.bl b)⟩⟩
end
end VL

set_option Elab.async false
set_option linter.all false
set_option maxRecDepth 100000
set_option maxHeartbeats 4000000
namespace VL
open PySem PySem.Spec PyProof.Rows L2
/-! ### code that raises -/
inductive Flung (m : Bool) (X : Cx) (n : Str) (Z H : Hp) (s : Shared) (e : Value) (s' : Shared) : Prop
  | made {x C : Addr} {vs : List Value} : m = true → PySem.W.nsIn X.K mainGlobals n = some (some (.ref C)) → e = .ref x → s' = { s with heap := s'.heap } → Heap.MadeExcOf s.heap s'.heap x (.ref C) vs → Flung m X n Z H s e s'
  | thrown {x C : Addr} {H' Z' : Hp} : PySem.W.nsIn X.K mainGlobals n = some (some (.ref C)) → e = .ref x → Thrown X.prog X.w X.stack H s x C H' s' → New Z H Z' H' → Z' x = some (exO x C) → Flung m X n Z H s e s'
def tVX (m : Bool) (X : Cx) (f : Xf) : TS := fun _ σ H => ∃ H₀ Z₀ Z δ r, Hold X.K H₀ Z₀ Z δ σ H ∧ f δ = some r ∧ ∀ pins σ' H' Z' s e s', Hold X.K H₀ Z₀ Z' r.2 σ' H' → Same Z Z' → Inv X pins σ' H' s → Flung m X r.1 Z' H' s e s' → X.xe e s'
def tEX (m : Bool) (X : Cx) (f : Dv → Option Str) : TE := fun σ H _ => ∃ H₀ Z₀ Z δ n, Hold X.K H₀ Z₀ Z δ σ H ∧ f δ = some n ∧ ∀ pins σ' H' Z' s e s', Hold X.K H₀ Z₀ Z' δ σ' H' → Same Z Z' → Inv X pins σ' H' s → Flung m X n Z' H' s e s' → X.xe e s'
def SX (m : Bool) (X : Cx) (st : Stmt) (f : Xf) : Prop := PS X st (tVX m X f)
def BX (m : Bool) (X : Cx) (st : List Stmt) (f : Xf) : Prop := PSs X st (tVX m X f)
def EX (m : Bool) (X : Cx) (e : Expr) (f : Dv → Option Str) : Prop := PE X e (tEX m X f)
section
variable {m : Bool} {X : Cx} {e c : Expr} {es : List Expr} {f : Dv → Option D} {fs : Dv → Option (List D)} {ft : Dv → Option Bool} {fx : Dv → Option Str} {st : Stmt} {sts body orelse : List Stmt} {s1 : Sf} {u u1 u2 : Xf} {pos p : Pos}
theorem SV.lift (h : SV X.nox st s1) : SV X st s1 := fun pins s σ H D I hw =>
  wpAny_mono (h pins s σ H D (I.wish _) hw) (fun _ _ q => q.unwish) fun _ _ z => False.elim z
theorem BV.lift (h : BV X.nox sts s1) : BV X sts s1 := PSs.nox h
theorem EV.lift (h : EV X.nox e f) : EV X e f := PE.nox h
theorem TV.lift (h : TV X.nox e ft) : TV X e ft := PT.nox h
theorem AV.lift (h : AV X.nox es fs) : AV X es fs := fun pos pins s σ H Q I hw =>
  wpAny_mono (h pos pins s σ H Q (I.wish _) hw) (fun _ _ ⟨vs, H', I', r, q⟩ => ⟨vs, H', I'.unwish, r, q⟩) fun _ _ z => False.elim z
theorem bx_no : BX m X sts xNo := fun _ _ _ _ _ _ ⟨_, _, _, _, _, _, e, _⟩ => nomatch e
theorem sx_ret (h : EX m X e fx) : SX m X (.Return (some e) pos) (xE fx) :=
  PS.imp (ps_ret h) fun D σ H q => by
    obtain ⟨H₀, Z₀, Z, δ, r, hh, e, k⟩ := q
    obtain ⟨n, e1, e⟩ := bind_some e
    cases e
    exact ⟨H₀, Z₀, Z, δ, n, hh, e1, k⟩
theorem sx_expr (h : EX m X e fx) (hs : swapsWith e none pos.line X.env = pure false := by rfl) : SX m X (.Expr e pos) (xE fx) :=
  PS.imp (ps_expr h hs) fun D σ H q => by
    obtain ⟨H₀, Z₀, Z, δ, r, hh, e, k⟩ := q
    obtain ⟨n, e1, e⟩ := bind_some e
    cases e
    exact ⟨H₀, Z₀, Z, δ, n, hh, e1, k⟩
theorem sx_set (i : Nat) {x : Str} {pos' : Pos} (hN : X.N.Nodup) (he : EX m X e fx) (hi : X.N[i]? = some x := by rfl) (hx : Loc X.env.scope x := by first | exact Or.inl rfl | exact Or.inr rfl) (hs : swapsWith e (some (.Name x pos')) pos.line X.env = pure false := by rfl)
    (hf : X.fn x = true ∨ X.env.scope.names.lookup x = some .local := by first | exact .inl rfl | exact .inr rfl | assumption) : SX m X (.Assign [.Name x pos'] e pos) (xE fx) :=
  PS.imp (ps_set hN hi hx he hs hf) fun D σ H q => by
    obtain ⟨H₀, Z₀, Z, δ, r, hh, e, k⟩ := q
    obtain ⟨n, e1, e⟩ := bind_some e
    cases e
    exact ⟨H₀, Z₀, Z, δ, n, hh, e1, k⟩
theorem bx_here (h : SX m X st u) : BX m X (st :: sts) u :=
  PSs.imp (pss_cons h (u := fun _ _ _ => False) fun _ _ _ _ _ _ z => z.elim) fun D σ H q => q
theorem bx_next (h1 : SV X st s1) (h2 : BX m X sts u) : BX m X (st :: sts) (xSeq s1 u) :=
  PSs.imp (pss_cons h1 h2) fun D σ H q => by
    obtain ⟨H₀, Z₀, Z, δ, r, hh, e, k⟩ := q
    obtain ⟨⟨fl, δ'⟩, e1, e⟩ := bind_some e
    cases fl with
    | nx => exact ⟨H₀, Z₀, Z, δ, (.nx, δ'), hh, e1, fun σ' H' Z' hh' t' => ⟨H₀, Z₀, Z', δ', r, hh', e, fun pins σ2 H2 Z2 s e s' hh2 t2 I fl => k pins σ2 H2 Z2 s e s' hh2 (t'.trans t2) I fl⟩⟩
    | bk => cases e
    | ct => cases e
    | rt d => cases e
theorem bx_both (h : SX m X st u1) (h1 : SV X st s1) (h2 : BX m X sts u2) : BX m X (st :: sts) (xBoth u1 s1 u2) := fun pins s σ H D I q => by
  obtain ⟨H₀, Z₀, Z, δ, r, hh, e, k⟩ := q
  have e : (match u1 δ with | some r => some r | none => xSeq s1 u2 δ) = some r := e
  cases q1 : u1 δ with
  | some r1 => rw [q1] at e; cases e; exact bx_here h pins s σ H D I ⟨H₀, Z₀, Z, δ, r, hh, q1, k⟩
  | none => rw [q1] at e; exact bx_next h1 h2 pins s σ H D I ⟨H₀, Z₀, Z, δ, r, hh, e, k⟩
theorem sx_if (hc : TV X c ft) (ha : BX m X body u1) (hb : BX m X orelse u2) : SX m X (.If c body orelse pos) (xIf ft u1 u2) :=
  PS.imp (ps_if hc ha hb) fun D σ H q => by
    obtain ⟨H₀, Z₀, Z, δ, r, hh, e, k⟩ := q
    obtain ⟨x, e1, e⟩ := bind_some e
    refine ⟨H₀, Z₀, Z, δ, x, hh, e1, fun Z1 H1 hh1 t1 => ?_⟩
    cases x with
    | true => exact ⟨H₀, Z₀, Z1, δ, r, hh1, e, fun pins σ2 H2 Z2 s e s' hh2 t2 I fl => k pins σ2 H2 Z2 s e s' hh2 (t1.trans t2) I fl⟩
    | false => exact ⟨H₀, Z₀, Z1, δ, r, hh1, e, fun pins σ2 H2 Z2 s e s' hh2 t2 I fl => k pins σ2 H2 Z2 s e s' hh2 (t1.trans t2) I fl⟩
/-! ### raise -/
structure ExcX (K : Fg) (n : Str) : Prop where
  ex : ∃ C, ExcC K n C
theorem sx_raise {x : Str} {np cpos : Pos} (O : ExcX X.K x) (hg : Gl X x) (hc : X.calm = true) (ha : EV X e f) (hdb : (x == ("__debug__" : Str)) = false := by decide)
    (he : starEach (e :: []) X.env = (false, eval e X.env) :: starEach [] X.env := by rfl) (hpl : (backTo cpos (starEach [] X.env)).any (·.1) = false := by rfl) :
    SX true X (.Raise (some (.Call (.Name x np) [e] [] cpos)) none pos) (xRaise x f) := by
  intro pins s σ H D I h
  obtain ⟨H₀, Z₀, Z, δ, r, hh, e0, k⟩ := h
  obtain ⟨d, e1, e0⟩ := bind_some e0
  cases e0
  obtain ⟨C, F⟩ := O.ex
  obtain ⟨mr, ns, nm, qn, bs, hd, sn, sub, ab, col, dd, a0, a1, a2, a3, a5, mN, hC, hN, hni, TL⟩ := exc_obj I.ok.mod.kin F.ex
  have hm := PySem.W.mg_of I.ok.mod.kin I.ok.mod.glob F.nm
  refine wpAny_Raise_call_subU (C := C) (nm := nm) (q := qn) (N := ns) (bs := bs) (bm := mr) (hdct := hd) (sn := sn) (sub := sub) (ab := ab) (col := col) (dd := dd) (k0 := a0) (k1 := a1) (k2 := a2) (k3 := a3) (k5 := a5) (bmB := vMro)
    PySem.F.excBase_ValueError (by decide +kernel) PySem.F.excBase_ValueError (mN := mN) (TL.hasType (by decide +kernel)) (I.ok.hd hc) (by rw [he]; show (false || (backTo cpos (starEach [] X.env)).any (·.1)) = false; rw [hpl]; rfl) hni (ld_glob I hg hm ⟨rfl, ?_⟩ hdb)
  rw [he]
  have one : wpAny (model X.prog X.w) X.A (spliced (backTo cpos (starEach (e :: []) X.env))) (AP X pins σ fun vs H1 => vs.length = 1 ∧ ∃ Z1, Hold X.K H₀ Z₀ Z1 δ σ H1 ∧ Same Z Z1) X.xe s :=
    (pa_cons ha pa_nil he) cpos pins s σ H _ I ⟨H₀, Z₀, Z, δ, d, hh, e1, fun v Z1 H1 hh1 t1 r1 => ⟨rfl, Z1, hh1, t1⟩⟩
  rw [he] at one
  refine Calls.evalArgs_plain (wpAny_mono one (fun us s2 z => ?_) fun _ _ y => y)
  obtain ⟨vs, H1, I1, rv, hl, Z1, hh1, t1⟩ := z
  have lu : us.length = 1 := by rw [← rv.length]; exact hl
  refine ⟨rfl, by show us.length ≤ sizeLine; rw [lu]; decide, I1.bk _ _ hC, hN.keeps I1.bk, TL.keeps I1.bk, fun h' ex hmd => ?_⟩
  exact k pins σ H1 Z1 s2 _ _ hh1 t1 I1 (.made rfl F.nm rfl rfl hmd)
/-! ### a call that raises -/
def spX (K : Fg) (g : List D → Option Str) : Sp := fun vs H _ E => ∃ Z as n, Same Z H ∧ Reps K Z vs as ∧ g as = some n ∧ ∀ C x Z' H', PySem.W.nsIn K mainGlobals n = some (some (.ref C)) → New Z H Z' H' → Z' x = some (exO x C) → E (.ref C) (some x) H'
structure CalX (P : Program) (w : World) (K : PySem.W.Frag) (mg : Str → Option Value) (base : Heap) (x : Str) (k : Nat) (g : List D → Option Str) (dd : List D) : Prop where
  ex : ∃ (fa : Addr) (fd : FuncData) (ps : List Str) (ds : List Value) (dv : List V), FnOk P w K mg base (CXX P w) k fa fd ps (spX K g) ∧ mg x = some (.ref fa) ∧ PySem.W.keepIn K (.ref fa) = true ∧ Binds K fd ps ds ∧ Vals dv ds ∧ ∀ Z, Reps K Z dv dd
theorem ex_def {k : Nat} {x : Str} {g : List D → Option Str} (Y : CalX X.prog X.w X.K X.mg X.base x k g []) (hr : Room k X.A) (hg : Gl X x) (ha : AV X (e :: es) fs) (hdb : (x == ("__debug__" : Str)) = false := by decide) (he : starEach (e :: es) X.env = (false, eval e X.env) :: starEach es X.env := by rfl)
    (hpl : (backTo pos (starEach es X.env)).any (·.1) = false := by rfl) : EX m X (.Call (.Name x p) (e :: es) [] pos) (osX fs g) := by
  obtain ⟨fa, fd, ps, ds, dv, F, hm, hk, hb, hd, hdd⟩ := Y.ex
  intro pins s σ H Q I h
  obtain ⟨H₀, Z₀, Z, δ, n, hh, e0, k⟩ := h
  obtain ⟨as, e1, e0⟩ := bind_some e0
  refine wpAny_Call_Name_kw (ld_glob I hg hm ?_ hdb)
  refine PySem.W.callWith_K (h₀ := X.base) I.ok.mod.kin hk (thn (ha pos pins s σ H (fun vs H1 => ∃ Z1, Hold X.K H₀ Z₀ Z1 δ σ H1 ∧ Same Z Z1 ∧ Reps X.K Z1 vs as) I ⟨H₀, Z₀, Z, δ, as, hh, e1, fun vs Z1 H1 hh1 t1 r1 => ⟨Z1, hh1, t1, r1⟩⟩) fun us s1 ⟨vs, H1, I1, r, Z1, hh1, t1, r1⟩ => ⟨I1.kIn, ?_⟩) he hpl
  have r2 : Vals (vs ++ dv) (us ++ ds) := r.append hd
  have sp : spX X.K g (vs ++ dv) H1 Q (fun c ox H2 => ∃ C xx Z2, c = .ref C ∧ ox = some xx ∧ PySem.W.nsIn X.K mainGlobals n = some (some (.ref C)) ∧ New Z1 H1 Z2 H2 ∧ Z2 xx = some (exO xx C)) := ⟨Z1, as ++ [], n, hh1.zh, r1.append (hdd Z1), by rw [List.append_nil]; exact e0, fun C xx Z2 H2 hC n2 h2 => ⟨C, xx, Z2, rfl, rfl, hC, n2, h2⟩⟩
  have hl : (us ++ ds).length = ps.length := by rw [← r2.length]; exact F.len _ _ _ _ sp
  refine wpAny_call (codeAny_mono (F.run X.A X.stack s1 H1 ⟨us, []⟩ (us ++ ds) (vs ++ dv) Q _ hr I1.env0 (hb s1 us I1.kIn hl) r2 sp) fun res s' hq => ?_)
  cases res with
  | error ee =>
    obtain ⟨xx, C', H2, rfl, T, C, xx', Z2, hC', hx', hC, n2, h2⟩ := hq
    cases hx'
    cases hC'
    exact k pins σ H1 Z1 s1 _ s' hh1 t1 I1 (.thrown hC rfl T n2 h2)
  | ok fl =>
    cases fl with
    | ret z => exact I1.after hq
    | next => exact False.elim hq
    | brk => exact False.elim hq
    | cont => exact False.elim hq
end
section
variable {P : Program} {w : World} {K : PySem.W.Frag} {mg : Str → Option Value} {base : Heap}
theorem fn_x {x qual : Str} {st : Stmt} {f : Addr} {fd : FuncData} {dV : Value} {N ps : List Str} {k : Nat} {fx : Xf} (F : FunV K x qual st f fd dV) (S : FnScope N ps (defScope st))
    (hb : ∀ (cdv : Value) (A : Around) (outer : List Env) (s : Shared) (H : Hp) (E : XK), Room k (A.deeper (envOfC qual (defScope st) s.heap.objs.size f cdv)) → BX true (cxOf (CXX P w) P w K mg base N qual (defScope st) f cdv A outer s H E) (defBody st) fx) :
    FnOk P w K mg base (CXX P w) (k + 1) f fd ps (spX K (runX N ps.length fx)) := by
  obtain ⟨oc, od, kV, doc, pm, an, cdv, ct, osl, rfl, lk, hcd⟩ := F.ex
  have some_of : ∀ {as : List D} {n : Str}, runX N ps.length fx as = some n → as.length = ps.length ∧ ∃ δ', fx (startD N as) = some (n, δ') := fun {as n} h => by
    unfold runX at h
    split at h
    · rename_i hl
      obtain ⟨⟨n', δ'⟩, e, h⟩ := bind_some h
      cases h
      exact ⟨hl, δ', e⟩
    · cases h
  refine fn_of lk hcd S (fun vs H Q E h => ?_) fun A outer s H vs Q E hr hsp => ?_
  · obtain ⟨Z, as, n, zh, r, e, _⟩ := h
    rw [r.length]
    exact (some_of e).1
  · refine ⟨_, hb cdv A outer s H E hr, ?_⟩
    obtain ⟨Z, as, n, zh, r, e, kk⟩ := hsp
    obtain ⟨_, δ', e2⟩ := some_of e
    have hh := hold_start (N := N) zh r
    refine ⟨H, Z, Z, _, (n, δ'), hh, e2, fun pins σ' H' Z' s1 ee s2 h' z' I fl => ?_⟩
    have nw : New Z H Z' H' := ⟨z', h'.h0, h'.zh, h'.zb⟩
    cases fl with
    | @made xx C' vs' _ hC' he hs hmd =>
      subst he
      exact leave_made I hs hmd h'.h0 fun hn => kk C' xx (upd Z' xx (exO xx C')) _ hC' (nw.trans (New.add h'.zh hn _)) upd_same
    | @thrown xx C' H2 Z2 hC' he T n2 hx =>
      subst he
      exact leave_on I T (kk C' xx Z2 H2 hC' (nw.trans n2) hx) (h'.h0.trans n2.h)
end
end VL

set_option Elab.async false
set_option linter.all false
set_option maxRecDepth 100000
set_option maxHeartbeats 4000000
namespace VL
open PySem PySem.Spec PyProof.Rows L2
/-! ### try: body except W as n: suite -/
/-- of two exceptions' classes the handler's one is asked -/
theorem exc_match {K : Fg} {n : Str} {M : Model} {A : Around} {E : Value → Shared → Prop} {s : Shared} {x C W : Addr} {o : Obj} {Q : Bool → Shared → Prop} (kin : K.In s.heap) (F : ExcC K n C) (FW : PySem.W.excIn K W vMro "ValueError.__new__" = true) (hs : PySem.W.subIn K (.ref C) (.ref W) = some true)
    (e : s.heap.get? x = some o) (c : o.cls = .ref C) (h : Q true s) : wpAny M A (excMatches (.ref x) (.ref W)) Q E s := by
  obtain ⟨mr, ns, nm, qn, bs, hd, sn, sub, ab, col, dd, a0, a1, a2, a3, a5, mN, hW, hN, hni, TL⟩ := exc_obj kin FW
  obtain ⟨hh, g, d, t, os⟩ := s
  have cB : (Value.ref W :: mr).contains (.type "BaseException") = true := by rw [List.contains_cons, TL.hasType (b := true) (by decide +kernel), Bool.or_true]
  have L := PySem.W.looks_subIn (M := M) kin hs
  have L0 := looks_ty (M := M) e c
  have nt := tc_notTuple
  unfold excMatches
  repeat (first | with_reducible refine L0.at ?_ | with_reducible refine L.at ?_ | with_reducible refine wpAny_loadPart_at hW ?_ | (with_reducible refine wpAny_isSubtype_exc hW ?_; rw [cB]) | wp_step)
  exact h
inductive HndL (K : Fg) (W : Addr) : List Str → Prop
  | nil : HndL K W []
  | cons {n : Str} {t : List Str} {C : Addr} : ExcC K n C → PySem.W.subIn K (.ref C) (.ref W) = some true → HndL K W t → HndL K W (n :: t)
theorem HndL.get {K : Fg} {W : Addr} {t : List Str} (h : HndL K W t) {n : Str} (e : t.contains n = true) : ∃ C, ExcC K n C ∧ PySem.W.subIn K (.ref C) (.ref W) = some true := by
  induction h with
  | nil => cases e
  | cons h1 h2 _ ih =>
    rw [List.contains_cons, Bool.or_eq_true] at e
    rcases e with e | e
    · have := eq_of_beq e; subst this; exact ⟨_, h1, h2⟩
    · exact ih e
structure Hnd (K : Fg) (W : Str) (ns : List Str) : Prop where
  ex : ∃ wC, PySem.W.nsIn K mainGlobals W = some (some (.ref wC)) ∧ PySem.W.excIn K wC vMro "ValueError.__new__" = true ∧ HndL K wC ns
/-- the exception's own record has changed, else nothing but slots of frames -/
theorem Thrown.move {P : Program} {w : World} {l : List Env} {H H2 : Hp} {s s2 : Shared} {x C : Addr} (T : Thrown P w l H s x C H2 s2) (hf : ∀ b ∈ frs l, ∃ o, s.heap.get? b = some o ∧ ∀ vs, o.data ≠ .fields vs) (hn : ∀ b ∈ frs l, H b = none) :
    ∃ B t, Heap.FlyingW B l x (.ref C) t s2.heap ∧ ∀ h' t', Heap.FlyingW B l x (.ref C) t' h' → s2.heap.UpToSlots h' → Thrown P w l H s x C H2 { s2 with heap := h' } := by
  obtain ⟨B, t, fl, hB1, hB2⟩ := T.fly
  refine ⟨B, t, fl, fun h' t' fl' sm => ?_⟩
  have slot : ∀ b o, s.heap.get? b = some o → H b = none → b ∈ frs l → ∃ sl, h'.get? b = some { o with slots := sl } := fun b o q n hb => by
    obtain ⟨sl2, e2⟩ := T.un.slot b o q n hb (fun z => nomatch z)
    obtain ⟨o', ho', hd⟩ := hf b hb
    rw [q] at ho'; cases ho'
    obtain ⟨sl3, e3⟩ := sm b _ e2 hd
    exact ⟨sl3, e3⟩
  refine ⟨T.os, T.bare, ⟨fun b o q n hb _ => fl'.1 b o (hB2 b o q n hb), fun b o q n hb _ => slot b o q n hb, fun b o q n z => T.un.free b o q n z, fun b o q _ => ?_, T.un.tups, T.un.frzs, T.un.tbls⟩, hok_fly (l := []) (t := t) T.hok T.is fl.1 fl' hB1, T.sm, T.is, ⟨B, t', fl', hB1, hB2⟩⟩
  cases q2 : H2 b with
  | some ho =>
    by_cases hb : b = x
    · subst hb; obtain ⟨ob, e1, _⟩ := fl'.there; exact ⟨ob, e1⟩
    · obtain ⟨ob, e1⟩ := hB1 b ho q2 hb; exact ⟨ob, fl'.1 b ob e1⟩
  | none =>
    have n : H b = none := by
      cases e : H b with
      | none => rfl
      | some z => rw [T.sm b z e] at q2; cases q2
    by_cases hb : b ∈ frs l
    · obtain ⟨sl, e⟩ := slot b o q n hb; exact ⟨_, e⟩
    · exact ⟨o, fl'.1 b o (hB2 b o q n hb)⟩
section
variable {X : Cx} {pins : List (Addr × Obj)} {σ : St} {H : Hp} {s : Shared}
/-- a name goes -/
theorem del_ok {M : Model} {A : Around} {E : Value → Shared → Prop} {i : Nat} {x : Str} {v : V} {Q : Unit → Shared → Prop} (I : Inv X pins σ H s) (hN : X.N.Nodup) (hi : X.N[i]? = some x) (hk : X.env.scope.names.lookup x = some .local) (hv : σ[i]? = some (some v))
    (h : ∀ s', Inv X pins (σ.set i none) H s' → Q () s') : wpAny M A (unbindName X.env x) Q E s := by
  obtain ⟨m, hn, hl⟩ := id I.loc
  have hcls : (X.env.scope.kind == .class || (X.env.scope.kind == .module && X.env.locals != X.env.globals)) = false := by rw [I.ok.kind]; rfl
  have hiσ : i < σ.length := by rw [I.len]; exact (List.getElem?_eq_some_iff.mp hi).1
  have cne := I.cne
  obtain ⟨u, rv, lk⟩ := hl i x v hi hv (.inl hk)
  have hmx : m x = some u := by
    rcases lk with ⟨_, q⟩ | ⟨q, _⟩
    · exact q
    · rcases q with q | q
      · rw [show X.env.kindOf x = some .local from hk] at q; cases q
      · rw [show X.env.kindOf x = some .local from hk] at q; cases q
  refine wpAny_unbindName_local hk hn hmx hcls fun h' u' hn' hs => ?_
  obtain ⟨oL, _, _, hoL, _⟩ := id hn
  have tracked : HOk X.prog X.w H h' := fun b ob e => by
    refine (I.hok b ob e).stay (fun c w' hc q => (hs.2 c ?_).trans q) (fun _ q => q) fun _ _ q => q
    rintro rfl
    rcases hc with z | hc
    · rw [← z, I.free] at e; cases e
    · rw [I.free] at hc; cases hc
  refine h _ ⟨I.ok, I.os, I.bare, ⟨fun b o e n hb hx => ?_, fun b o e n hb hx => ?_, I.base.free, fun b o e hx => ?_, I.base.tups, I.base.frzs, I.base.tbls⟩, ⟨_, hn', fun j y v' e1 e2 e3 => ?_⟩, fun y c e => ?_, I.free, I.freeC, fun p hp => ?_, tracked, by simpa using I.len⟩
  · exact (hs.2 b (Nat.ne_of_lt (Nat.lt_of_lt_of_le (Heap.lt_size e) I.ok.above))).trans (I.base.keep b o e n hb hx)
  · obtain ⟨sl, e1⟩ := I.base.slot b o e n hb hx
    exact ⟨sl, (hs.2 b (Nat.ne_of_lt (Nat.lt_of_lt_of_le (Heap.lt_size e) I.ok.above))).trans e1⟩
  · obtain ⟨o', e1⟩ := I.base.there b o e hx
    exact ⟨o', (hs.2 b (Nat.ne_of_lt (Nat.lt_of_lt_of_le (Heap.lt_size e) I.ok.above))).trans e1⟩
  · by_cases hj : j = i
    · subst hj
      rw [List.getElem?_set_self hiσ] at e2
      cases e2
    · rw [List.getElem?_set_ne (Ne.symm hj)] at e2
      obtain ⟨z', r', q⟩ := hl j y v' e1 e2 e3
      refine ⟨z', r', ?_⟩
      rcases q with ⟨k, e⟩ | ⟨k, c, e, z⟩
      · refine .inl ⟨k, ?_⟩
        have : y ≠ x := fun e => hj (nodup_ix hN e1 (e ▸ hi))
        simp [this, e]
      · exact .inr ⟨k, c, e, z.sameBut hs (cne y c e)⟩
  · obtain ⟨w', z⟩ := I.cell y c e
    exact ⟨w', z.sameBut hs (cne y c e)⟩
  · obtain ⟨e, n, ne, nf, d⟩ := I.pin p hp
    exact ⟨(hs.2 p.1 ne).trans e, n, ne, nf, d⟩
/-- behind an except suite: its name goes -/
theorem unb_ok {M : Model} {A : Around} {E : Value → Shared → Prop} {i : Nat} {x : Str} {pos : Pos} {Q : Unit → Shared → Prop} (I : Inv X pins σ H s) (hN : X.N.Nodup) (hi : X.N[i]? = some x) (hk : X.env.scope.names.lookup x = some .local)
    (h : ∀ s', Inv X pins (σ.set i none) H s' → Q () s') : wpAny M A (do bindName X.env x .none; unbindBehindTheSuite X.env x pos) Q E s := by
  have hiσ : i < σ.length := by rw [I.len]; exact (List.getElem?_eq_some_iff.mp hi).1
  refine wpAny_bind (wpAny_bindName (store_ok I hN hi (.inl hk) (v := .non) (u := .none) rfl (fun s1 I1 => ?_) (.inr hk)))
  unfold unbindBehindTheSuite
  refine wpAny_onRaise ?_
  refine del_ok (v := .non) I1 hN hi hk (List.getElem?_set_self hiσ) fun s2 I2 => ?_
  rw [List.set_set] at I2
  exact h s2 I2
end
theorem Hold.unset {K : Fg} {H₀ Z₀ Z H : Hp} {δ : Dv} {σ : St} (h : Hold K H₀ Z₀ Z δ σ H) (i : Nat) : Hold K H₀ Z₀ Z (δ.set i .un) (σ.set i none) H where
  zh := h.zh
  h0 := h.h0
  z0 := h.z0
  zb := h.zb
  len := by simp [h.len]
  fz := fun j e q => by
    by_cases hj : i = j
    · subst hj
      have hl : i < δ.length := by have := (List.getElem?_eq_some_iff.mp q).1; simpa using this
      rw [List.getElem?_set_self hl] at q
      cases q
    · rw [List.getElem?_set_ne hj] at q
      obtain ⟨u, a, b⟩ := h.fz j e q
      exact ⟨u, by rw [List.getElem?_set_ne hj]; exact a, b⟩
  ow := fun j es q => by
    by_cases hj : i = j
    · subst hj
      have hl : i < δ.length := by have := (List.getElem?_eq_some_iff.mp q).1; simpa using this
      rw [List.getElem?_set_self hl] at q
      cases q
    · rw [List.getElem?_set_ne hj] at q ⊢
      exact h.ow j es q
  dj := fun j k ds es a hjk q1 q2 => by
    have f : ∀ {m : Nat} {ds : List D}, (δ.set i .un)[m]? = some (.ow ds) → i ≠ m ∧ δ[m]? = some (.ow ds) := fun {m ds} q => by
      by_cases hm : i = m
      · subst hm
        have hl : i < δ.length := by have := (List.getElem?_eq_some_iff.mp q).1; simpa using this
        rw [List.getElem?_set_self hl] at q
        cases q
      · rw [List.getElem?_set_ne hm] at q; exact ⟨hm, q⟩
    obtain ⟨a1, b1⟩ := f q1
    obtain ⟨a2, b2⟩ := f q2
    rw [List.getElem?_set_ne a1, List.getElem?_set_ne a2]
    exact h.dj j k ds es a hjk b1 b2
/-- the context of a try's body, of an except suite -/
abbrev cxT (X : Cx) (pn : List (Addr × Obj)) (E : Value → Shared → Prop) : Cx := { X with pn := pn, xe := E }
abbrev cxH (X : Cx) (x : Addr) : Cx := { X with A := X.A.mark (some (.ref x)), calm := false, xe := fun _ _ => False }
theorem Inv.toT {X : Cx} {pins : List (Addr × Obj)} {σ : St} {H : Hp} {s : Shared} (I : Inv X pins σ H s) (E : Value → Shared → Prop) : Inv (cxT X (X.pn ++ pins) E) [] σ H s :=
  ⟨⟨I.ok.mod, I.ok.kind, I.ok.glob, I.ok.blt, I.ok.above, I.ok.inj, I.ok.has, I.ok.cab, I.ok.hd, I.ok.frames, I.ok.stk, I.ok.exf, I.ok.bs, I.ok.bsz, I.ok.noex, I.ok.exfs, I.ok.funs, I.ok.frf⟩, I.os, I.bare, I.base, I.loc, I.cell, I.free, I.freeC, fun p hp => I.pin p (by simpa using hp), I.hok, I.len⟩
theorem Inv.ofT {X : Cx} {pins pins' : List (Addr × Obj)} {σ : St} {H : Hp} {s : Shared} {E : Value → Shared → Prop} (I : Inv (cxT X (X.pn ++ pins) E) pins' σ H s) : Inv X pins σ H s :=
  ⟨⟨I.ok.mod, I.ok.kind, I.ok.glob, I.ok.blt, I.ok.above, I.ok.inj, I.ok.has, I.ok.cab, I.ok.hd, I.ok.frames, I.ok.stk, I.ok.exf, I.ok.bs, I.ok.bsz, I.ok.noex, I.ok.exfs, I.ok.funs, I.ok.frf⟩, I.os, I.bare, I.base, I.loc, I.cell, I.free, I.freeC, fun p hp => I.pin p (List.mem_append_left _ hp), I.hok, I.len⟩
theorem Inv.toH {X : Cx} {pins : List (Addr × Obj)} {σ : St} {H : Hp} {s : Shared} (I : Inv X pins σ H s) (x : Addr) : Inv (cxH X x) pins σ H s :=
  ⟨⟨I.ok.mod, I.ok.kind, I.ok.glob, I.ok.blt, I.ok.above, I.ok.inj, I.ok.has, I.ok.cab, (fun z => (nomatch z)), I.ok.frames, I.ok.stk, I.ok.exf, I.ok.bs, I.ok.bsz, I.ok.noex, I.ok.exfs, I.ok.funs, I.ok.frf⟩, I.os, I.bare, I.base, I.loc, I.cell, I.free, I.freeC, I.pin, I.hok, I.len⟩
theorem Inv.ofH {X : Cx} {pins : List (Addr × Obj)} {σ : St} {H : Hp} {s : Shared} {x : Addr} (hc : X.A.handled = none) (I : Inv (cxH X x) pins σ H s) : Inv X pins σ H s :=
  ⟨⟨I.ok.mod, I.ok.kind, I.ok.glob, I.ok.blt, I.ok.above, I.ok.inj, I.ok.has, I.ok.cab, fun _ => hc, I.ok.frames, I.ok.stk, I.ok.exf, I.ok.bs, I.ok.bsz, I.ok.noex, I.ok.exfs, I.ok.funs, I.ok.frf⟩, I.os, I.bare, I.base, I.loc, I.cell, I.free, I.freeC, I.pin, I.hok, I.len⟩
section
variable {X : Cx} {body suite : List Stmt} {b₀ : Stmt} {b bs : Sf} {bx : Xf} {np hpos pos : Pos}
theorem sv_try (i : Nat) {n W : Str} {ns : List Str} (O : Hnd X.K W ns) (hgW : Gl X W) (hN : X.N.Nodup) (hi : X.N[i]? = some n) (hloc : X.env.scope.names.lookup n = some .local) (hcalm : X.calm = true) (hstk : X.stack = X.env :: X.outer)
    (hb : BV X.nox body b) (hx : ∀ pn E', BX false (cxT X pn E') body bx) (hs : ∀ x, BV (cxH X x) (b₀ :: suite) bs) (hfrm : X.env.frame = some X.env.locals := by rfl) (hdb : (W == ("__debug__" : Str)) = false := by decide) :
    SV X (.Try body [.ExceptHandler (some (.Name W np)) (some n) (b₀ :: suite) hpos] [] [] pos) (sTry i ns b bx bs) := by
  intro pins s σ H D I h
  obtain ⟨H₀, Z₀, Z, δ, r, hh, e, k⟩ := h
  unfold sTry at e
  cases hbx : bx δ with
  | none =>
    rw [hbx] at e
    refine wpAny_Try_except (wpAny_mono (hb pins s σ H D (I.wish _) ⟨H₀, Z₀, Z, δ, r, hh, e, k⟩) (fun f s1 q => ?_) fun _ _ z => False.elim z)
    have q := q.unwish
    cases f with
    | next => exact wpAny_execs_nil q
    | brk => exact q
    | cont => exact q
    | ret u => exact q
  | some pr =>
    obtain ⟨nm, δ'⟩ := pr
    rw [hbx] at e
    dsimp only at e
    split at e
    rotate_left
    · cases e
    rename_i hcn
    obtain ⟨⟨fl, δ2⟩, e2, e⟩ := bind_some e
    cases e
    obtain ⟨wC, hW, FW, L⟩ := O.ex
    obtain ⟨C, F, hsub⟩ := L.get hcn
    have hhd := I.ok.hd hcalm
    refine wpAny_Try_except (wpAny_mono (hx (X.pn ++ pins) _ [] s σ H ⟨fun _ _ => False, fun _ _ => False, fun _ _ => False, fun _ _ => False⟩ (Inv.toT I _) ⟨H₀, Z₀, Z, δ, (nm, δ'), hh, hbx, ?_⟩) (fun f s1 q => ?_) fun _ _ z => z)
    rotate_left
    · cases f with
      | next => obtain ⟨_, _, _, q⟩ := q; exact q.elim
      | brk => obtain ⟨_, _, _, q⟩ := q; exact q.elim
      | cont => obtain ⟨_, _, _, q⟩ := q; exact q.elim
      | ret u => obtain ⟨_, _, _, _, _, q⟩ := q; exact q.elim
    intro pins' σ' H' Z' s1 e1 s2 hh' sm I1 fg
    cases fg with
    | made hm _ _ _ _ => cases hm
    | @thrown x C' H2 Z2 hC' he T nw hx2 =>
      subst he
      have : C' = C := by have := hC'.symm.trans F.nm; simpa using this
      subst this
      have I1 : Inv X pins σ' H' s1 := Inv.ofT I1
      have T : Thrown X.prog X.w X.stack H' s1 x C' H2 s2 := T
      have ff : ∀ b ∈ frs X.stack, ∃ o, s1.heap.get? b = some o ∧ ∀ vs, o.data ≠ .fields vs := fun b hb => (I1.stack.mem hb).2
      obtain ⟨B, t, fl0, mv⟩ := T.move ff I1.stkFree
      have fl1 := fl0
      rw [hstk] at fl1
      refine wpAny_looks_onW (by rw [I1.ok.frames, hstk]) hfrm fl1 fun h4 held4 sm4 => ?_
      refine wpAny_landsW held4 fun h5 fl5 sm5 => ?_
      have fl5' := fl5
      rw [← hstk] at fl5'
      have T5 := mv h5 t fl5' (sm4.trans sm5)
      have I5 : Inv X pins σ' H2 { s2 with heap := h5 } := I1.call' T5.os T5.un T5.hok T5.bare (fun _ z => nomatch z)
      have hmW := PySem.W.mg_of I.ok.mod.kin I.ok.mod.glob hW
      refine wpAny_handleBy_cons (codeAny_handlers_test (ld_glob (X := cxH X x) (Inv.toH I5 x) hgW hmW ?_ hdb)) (by intro q; cases q)
      obtain ⟨oe, hoe, hoec⟩ := fl5.there
      refine exc_match I5.kIn F FW hsub hoe hoec (codeAny_handlers_suite_as ?_)
      refine lands_againW fl5 fun h6 fl6 sm6 => ?_
      have fl6' := fl6
      rw [← hstk] at fl6'
      have T6 := mv h6 t fl6' ((sm4.trans sm5).trans sm6)
      have I6 : Inv X pins σ' H2 { s2 with heap := h6 } := I1.call' T6.os T6.un T6.hok T6.bare (fun _ z => nomatch z)
      refine store_ok (X := cxH X x) (v := .ref x) (u := .ref x) (Inv.toH I6 x) hN hi (.inl hloc) rfl (fun s7 I7 => ?_) (.inr hloc)
      have hh7 : Hold X.K H₀ Z₀ Z2 (δ'.set i (.fz (exD nm))) (σ'.set i (some (.ref x))) H2 := (hh'.new nw).set (.opq (.exc hC' hx2))
      refine wpAny_mono (hs x pins s7 _ H2 ⟨fun σ8 H8 => D.nx (σ8.set i none) H8, D.rt, fun σ8 H8 => D.bk (σ8.set i none) H8, fun σ8 H8 => D.ct (σ8.set i none) H8⟩ I7 ⟨H₀, Z₀, Z2, _, (fl, δ2), hh7, e2, fun σ8 H8 Z8 hh8 t8 => ?_⟩) (fun f s8 q => ?_) fun _ _ z => False.elim z
      · have := k (σ8.set i none) H8 Z8 (hh8.unset i) ((sm.trans nw.z).trans t8)
        cases fl <;> exact this
      · cases f with
        | next =>
          obtain ⟨σ8, H8, I8, q⟩ := q
          exact unb_ok (Inv.ofH hhd I8) hN hi hloc fun s9 I9 => ⟨_, H8, I9, q⟩
        | brk =>
          obtain ⟨σ8, H8, I8, q⟩ := q
          exact unb_ok (Inv.ofH hhd I8) hN hi hloc fun s9 I9 => ⟨_, H8, I9, q⟩
        | cont =>
          obtain ⟨σ8, H8, I8, q⟩ := q
          exact unb_ok (Inv.ofH hhd I8) hN hi hloc fun s9 I9 => ⟨_, H8, I9, q⟩
        | ret u =>
          obtain ⟨v, σ8, H8, I8, rv, q⟩ := q
          exact unb_ok (Inv.ofH hhd I8) hN hi hloc fun s9 I9 => ⟨v, _, H8, I9, rv, q⟩
end
end VL

set_option Elab.async false
set_option linter.all false
set_option maxRecDepth 100000
set_option maxHeartbeats 4000000
namespace VL
open PySem PySem.Spec PyProof.Rows L2
/-! ### a test that looks at the one list of one's own -/
--PURE
def isOw : Sl → Bool
  | .ow _ => true
  | _ => false
@[simp] theorem isOw_fz (d : D) : isOw (.fz d) = false := rfl
@[simp] theorem isOw_un : isOw .un = false := rfl
def sole : Nat → Dv → Bool
  | _, [] => true
  | 0, _ :: r => r.all fun s => !isOw s
  | n + 1, s :: r => !isOw s && sole n r
@[simp] theorem sole_nil (n : Nat) : sole n [] = true := by cases n <;> rfl
@[simp] theorem sole_zero (s : Sl) (r : Dv) : sole 0 (s :: r) = r.all fun s => !isOw s := rfl
@[simp] theorem sole_succ (n : Nat) (s : Sl) (r : Dv) : sole (n + 1) (s :: r) = (!isOw s && sole n r) := rfl
def oPeek (i : Nat) (ft : Dv → Option Bool) : Dv → Option Bool := fun δ => if sole i δ = true then ft (dFz i δ) else none
--END
theorem sole_get : ∀ (i : Nat) (δ : Dv), sole i δ = true → ∀ (j : Nat) (ds : List D), δ[j]? = some (.ow ds) → j = i
  | _, [], _, j, ds, e => by simp at e
  | 0, s :: r, h, 0, ds, e => rfl
  | 0, s :: r, h, j + 1, ds, e => by
    have := List.all_eq_true.mp h (.ow ds) (List.mem_of_getElem? (by simpa using e))
    cases this
  | i + 1, s :: r, h, 0, ds, e => by
    have h := (Bool.and_eq_true_iff.mp h).1
    have e : s = .ow ds := by simpa using e
    subst e; cases h
  | i + 1, s :: r, h, j + 1, ds, e => congrArg (· + 1) (sole_get i r (Bool.and_eq_true_iff.mp h).2 j ds (by simpa using e))
theorem tv_peek {X : Cx} {e : Expr} {ft : Dv → Option Bool} (i : Nat) (h : TV X e ft) : TV X e (oPeek i ft) :=
  PT.imp h fun σ H Q q => by
    obtain ⟨H₀, Z₀, Z, δ, b, hh, e, k⟩ := q
    unfold oPeek at e
    split at e
    rotate_left
    · cases e
    rename_i hso
    unfold dFz at e
    split at e
    · rename_i ds q
      obtain ⟨a, xs, h1, h2, h3, h4, h5⟩ := hh.ow i ds q
      have hl : i < δ.length := (List.getElem?_eq_some_iff.mp q).1
      have sz : Same Z (upd Z a (.lst xs)) := same_upd h3
      have hh1 : Hold X.K H₀ Z₀ (upd Z a (.lst xs)) (δ.set i (.fz (.list ds))) σ H := by
        refine ⟨fun b o q => ?_, hh.h0, hh.z0.trans sz, fun b hb => ?_, by simp [hh.len], fun j d q => ?_, fun j d q => ?_, fun j k d1 d2 b hjk q1 q2 => ?_⟩
        · by_cases hb : b = a
          · subst hb; rw [upd_same] at q; cases q; exact h4
          · rw [upd_ne hb] at q; exact hh.zh b o q
        · rw [upd_ne (fun z => hb (by rw [z]; exact h2))]; exact hh.zb b hb
        · by_cases hj : i = j
          · subst hj
            rw [List.getElem?_set_self hl] at q
            cases q
            exact ⟨.ref a, h1, .lst (SqL.of upd_same) (h5.same sz)⟩
          · rw [List.getElem?_set_ne hj] at q
            obtain ⟨v, g1, g2⟩ := hh.fz j d q
            exact ⟨v, g1, g2.same sz⟩
        · by_cases hj : i = j
          · subst hj
            rw [List.getElem?_set_self hl] at q
            cases q
          · rw [List.getElem?_set_ne hj] at q
            obtain ⟨b, ws, g1, g2, g3, g4, g5⟩ := hh.ow j d q
            have : b ≠ a := fun z => by subst z; rename_i q0; exact hh.dj i j ds d b hj q0 q h1 g1
            exact ⟨b, ws, g1, g2, by rw [upd_ne this]; exact g3, g4, g5.same sz⟩
        · by_cases hj : i = j
          · subst hj
            rw [List.getElem?_set_self hl] at q1
            cases q1
          · by_cases hk : i = k
            · subst hk
              rw [List.getElem?_set_self hl] at q2
              cases q2
            · rw [List.getElem?_set_ne hj] at q1
              rw [List.getElem?_set_ne hk] at q2
              exact hh.dj j k d1 d2 b hjk q1 q2
      refine ⟨H₀, Z₀, _, _, b, hh1, e, fun Z2 H2 hh2 t2 => ?_⟩
      have zl : Same Z (fun c => if c = a then none else Z2 c) := fun c o q => by
        have hc : c ≠ a := ne_of_none q h3
        show (if c = a then none else Z2 c) = some o
        rw [if_neg hc]
        exact t2 c o (sz c o q)
      have back : Hold X.K H₀ Z₀ (fun c => if c = a then none else Z2 c) δ σ H2 := by
        refine ⟨fun b o q => ?_, hh2.h0, hh.z0.trans zl, fun b hb => ?_, hh.len, fun j d q => ?_, fun j d q => ?_, hh.dj⟩
        · have q : (if b = a then none else Z2 b) = some o := q
          split at q
          · cases q
          · exact hh2.zh b o q
        · show (if b = a then none else Z2 b) = _
          rw [if_neg (fun z => hb (by rw [z]; exact h2))]
          exact hh2.zb b hb
        · obtain ⟨v, g1, g2⟩ := hh.fz j d q
          exact ⟨v, g1, g2.same zl⟩
        · by_cases hj : i = j
          · subst hj
            rename_i q0
            rw [q0] at q
            cases q
            refine ⟨a, xs, h1, h2, by simp, hh2.zh a _ (t2 a _ upd_same), h5.same zl⟩
          · exact absurd (sole_get i δ hso j d q) (Ne.symm hj)
      exact k _ H2 back zl
    · exact ⟨H₀, Z₀, Z, _, b, hh, e, k⟩
end VL

set_option Elab.async false
set_option linter.all false
set_option maxRecDepth 100000
set_option maxHeartbeats 4000000
namespace MA
open PySem
/-! ### or, the twos that are shared -/
theorem or_halves (x y : Int) : Builtin.bitOr x y = 2 * Builtin.bitOr (x / 2) (y / 2) + (if x % 2 = 0 ∧ y % 2 = 0 then 0 else 1) := by
  unfold Builtin.bitOr Builtin.bitNot
  have h := PySem.W.kbt_halves (-x - 1) (-y - 1)
  have hx : (-x - 1) / 2 = -(x / 2) - 1 := by omega
  have hy : (-y - 1) / 2 = -(y / 2) - 1 := by omega
  rw [hx, hy] at h
  rw [h]
  by_cases c : x % 2 = 0 ∧ y % 2 = 0
  · rw [if_pos c, if_pos (by omega)]; omega
  · rw [if_neg c, if_neg (by omega)]; omega
theorem pow_pos' (n : Nat) : (0 : Int) < 2 ^ n := by
  induction n with
  | zero => decide
  | succ n ih => rw [Int.pow_succ]; omega
theorem div_pow_succ (x : Int) (n : Nat) : x / 2 ^ (n + 1) = x / 2 / 2 ^ n := by
  rw [Int.pow_succ, Int.mul_comm, Int.ediv_ediv_of_nonneg (by decide)]
theorem dvd_pow_succ (x : Int) (n : Nat) : 2 ^ (n + 1) ∣ x ↔ x % 2 = 0 ∧ 2 ^ n ∣ x / 2 := by
  constructor
  · rintro ⟨c, rfl⟩
    rw [Int.pow_succ]
    refine ⟨?_, c, ?_⟩
    · rw [Int.mul_comm (2 ^ n) 2, Int.mul_assoc]; omega
    · rw [Int.mul_comm (2 ^ n) 2, Int.mul_assoc, Int.mul_ediv_cancel_left _ (by decide)]
  · rintro ⟨h, c, hc⟩
    refine ⟨c, ?_⟩
    rw [Int.pow_succ, Int.mul_comm (2 ^ n) 2, Int.mul_assoc, ← hc]
    omega
theorem or_pow (n : Nat) : ∀ x y : Int, (2 ^ n ∣ Builtin.bitOr x y ↔ 2 ^ n ∣ x ∧ 2 ^ n ∣ y) ∧ (2 ^ n ∣ Builtin.bitOr x y → Builtin.bitOr x y / 2 ^ n = Builtin.bitOr (x / 2 ^ n) (y / 2 ^ n)) := by
  induction n with
  | zero => intro x y; simp
  | succ n ih =>
    intro x y
    have h := or_halves x y
    have hd : Builtin.bitOr x y / 2 = Builtin.bitOr (x / 2) (y / 2) := by rw [h]; split <;> omega
    have hm : Builtin.bitOr x y % 2 = 0 ↔ x % 2 = 0 ∧ y % 2 = 0 := by
      rw [h]
      by_cases c : x % 2 = 0 ∧ y % 2 = 0
      · rw [if_pos c]; constructor
        · intro _; exact c
        · intro _; omega
      · rw [if_neg c]; constructor
        · intro z; omega
        · intro z; exact absurd z c
    obtain ⟨i1, i2⟩ := ih (x / 2) (y / 2)
    constructor
    · rw [dvd_pow_succ, dvd_pow_succ, dvd_pow_succ, hd, hm, i1]
      constructor
      · rintro ⟨⟨a, b⟩, c, d⟩; exact ⟨⟨a, c⟩, b, d⟩
      · rintro ⟨⟨a, c⟩, b, d⟩; exact ⟨⟨a, b⟩, c, d⟩
    · intro q
      rw [dvd_pow_succ, hd] at q
      rw [div_pow_succ, div_pow_succ, div_pow_succ, hd, i2 q.2]
theorem or_zero {x y : Int} (h : Builtin.bitOr x y = 0) : x = 0 ∧ y = 0 := by
  have key : ∀ n : Nat, (2 : Int) ^ n ∣ x ∧ (2 : Int) ^ n ∣ y := fun n => (or_pow n x y).1.mp (by rw [h]; exact Int.dvd_zero _)
  have z : ∀ u : Int, (∀ n : Nat, (2 : Int) ^ n ∣ u) → u = 0 := by
    intro u hu
    have h1 := hu u.natAbs
    rcases Int.eq_nat_or_neg u with ⟨m, e | e⟩
    all_goals
      subst e
      simp only [Int.natAbs_natCast, Int.natAbs_neg] at h1
      have h2 : (2 : Int) ^ m ∣ (m : Int) := by first | exact h1 | exact Int.dvd_neg.mp h1
      have h3 : (2 : Nat) ^ m ∣ m := by
        have e : ((2 ^ m : Nat) : Int) = (2 : Int) ^ m := by simp
        rw [← e] at h2
        exact Int.natCast_dvd_natCast.mp h2
      rcases Nat.eq_zero_or_pos m with h4 | h4
      · subst h4; rfl
      · have := Nat.le_of_dvd h4 h3
        have := Nat.lt_two_pow_self (n := m)
        omega
  exact ⟨z x fun n => (key n).1, z y fun n => (key n).2⟩
theorem split2 : ∀ (n : Nat) (j : Int), j.natAbs ≤ n → j ≠ 0 → ∃ (t : Nat) (a : Int), j = 2 ^ t * (2 * a + 1)
  | 0, j, h, h0 => by omega
  | n + 1, j, h, h0 => by
    by_cases c : j % 2 = 0
    · obtain ⟨t, a, e⟩ := split2 n (j / 2) (by omega) (by omega)
      refine ⟨t + 1, a, ?_⟩
      rw [Int.pow_succ, Int.mul_comm (2 ^ t) 2, Int.mul_assoc, ← e]
      omega
    · exact ⟨0, j / 2, by simp; omega⟩
theorem bits_pow (t : Nat) : Builtin.Int.intBits (2 ^ t) = t + 1 := by
  unfold Builtin.Int.intBits
  have h : (2 : Int) ^ t ≠ 0 := Int.ne_of_gt (pow_pos' t)
  have e : ((2 : Int) ^ t).natAbs = 2 ^ t := by
    have : ((2 ^ t : Nat) : Int) = (2 : Int) ^ t := by simp
    rw [← this, Int.natAbs_natCast]
  rw [if_neg (by simpa using h), e, Nat.log2_two_pow]
/-- the number of twos, bounded: what twos_shared tells -/
def twos (j most : Int) : Int := if j = 0 then most else if (Builtin.Int.intBits (Builtin.bitAnd j (-j)) : Int) - 1 < most then (Builtin.Int.intBits (Builtin.bitAnd j (-j)) : Int) - 1 else most
theorem twos_spec (j most : Int) (hm : 0 ≤ most) : ∃ t : Nat, twos j most = t ∧ (t : Int) ≤ most ∧ 2 ^ t ∣ j ∧ ((t : Int) < most → ¬ j / 2 ^ t % 2 = 0) := by
  unfold twos
  by_cases h : j = 0
  · subst h
    refine ⟨most.toNat, by rw [if_pos rfl]; omega, by omega, Int.dvd_zero _, fun z => by omega⟩
  · obtain ⟨t, a, e⟩ := split2 _ j (Nat.le_refl _) h
    have hb : Builtin.Int.intBits (Builtin.bitAnd j (-j)) = t + 1 := by rw [e, PySem.W.kbt_low, bits_pow]
    rw [if_neg h, hb]
    have q : ((t + 1 : Nat) : Int) - 1 = t := by omega
    rw [q]
    by_cases c : (t : Int) < most
    · refine ⟨t, by rw [if_pos c], by omega, ⟨_, e⟩, fun _ => ?_⟩
      rw [e, Int.mul_ediv_cancel_left _ (Int.ne_of_gt (pow_pos' t))]
      omega
    · refine ⟨most.toNat, by rw [if_neg c]; omega, by omega, ?_, fun z => by omega⟩
      refine Int.dvd_trans ?_ ⟨_, e⟩
      have : t = most.toNat + (t - most.toNat) := by omega
      rw [this, Int.pow_add]
      exact Int.dvd_mul_right _ _
/-- two parts -/
theorem twos_two (p q most : Int) (hm : 0 ≤ most) : ∃ t : Nat, twos (Builtin.bitOr p q) most = t ∧ (t : Int) ≤ most ∧ p = p / 2 ^ t * 2 ^ t ∧ q = q / 2 ^ t * 2 ^ t ∧ ((t : Int) < most → ¬ (p / 2 ^ t % 2 = 0 ∧ q / 2 ^ t % 2 = 0)) := by
  obtain ⟨t, e, h1, h2, h3⟩ := twos_spec (Builtin.bitOr p q) most hm
  have o := or_pow t p q
  have d := o.1.mp h2
  refine ⟨t, e, h1, (Int.ediv_mul_cancel d.1).symm, (Int.ediv_mul_cancel d.2).symm, fun z w => h3 z ?_⟩
  rw [o.2 h2, or_halves, if_pos w]
  omega
/-! ### sizes -/
theorem bits_le {a : Int} {m : Nat} (h : a.natAbs < 2 ^ m) : Builtin.Int.intBits a ≤ m := by
  unfold Builtin.Int.intBits
  split
  · exact Nat.zero_le _
  · rename_i h0
    have h0 : a ≠ 0 := by simpa using h0
    have : a.natAbs.log2 < m := (Nat.log2_lt (by omega)).mpr h
    omega
theorem mul_ok {a b : Int} (m n : Nat) (ha : a.natAbs < 2 ^ m) (hb : b.natAbs < 2 ^ n) (h : m + n ≤ 134217728) : IntMulOk a b := by
  have h1 := bits_le ha
  have h2 := bits_le hb
  have hc : Builtin.Int.intTooBig (Builtin.Int.intBits a + Builtin.Int.intBits b) = false := by
    unfold Builtin.Int.intTooBig bitsLine
    exact decide_eq_false (by omega)
  unfold IntMulOk
  rw [hc]
  simp
/-! ### four parts -/
structure Q4 where
  a : Int
  b : Int
  c : Int
  d : Int
namespace Q4
theorem ext' {x y : Q4} (h1 : x.a = y.a) (h2 : x.b = y.b) (h3 : x.c = y.c) (h4 : x.d = y.d) : x = y := by
  cases x; cases y; simp at h1 h2 h3 h4; subst h1 h2 h3 h4; rfl
def add (x y : Q4) : Q4 := ⟨x.a + y.a, x.b + y.b, x.c + y.c, x.d + y.d⟩
def neg (x : Q4) : Q4 := ⟨-x.a, -x.b, -x.c, -x.d⟩
def mul (x y : Q4) : Q4 := ⟨x.a * y.a - x.b * y.d - x.c * y.c - x.d * y.b, x.a * y.b + x.b * y.a - x.c * y.d - x.d * y.c, x.a * y.c + x.b * y.b + x.c * y.a - x.d * y.d, x.a * y.d + x.b * y.c + x.c * y.b + x.d * y.a⟩
/-- times the root of two -/
def rt (x : Q4) : Q4 := ⟨x.b - x.d, x.a + x.c, x.b + x.d, x.c - x.a⟩
def dbl (n : Int) (x : Q4) : Q4 := ⟨x.a * n, x.b * n, x.c * n, x.d * n⟩
def mir (x : Q4) : Q4 := ⟨x.a, -x.d, -x.c, -x.b⟩
/-- an eighth turn -/
def tn (x : Q4) : Q4 := ⟨-x.d, x.a, x.b, x.c⟩
def rtn : Nat → Q4 → Q4
  | 0, x => x
  | n + 1, x => rtn n (rt x)
theorem rtn_succ (n : Nat) (x : Q4) : rtn (n + 1) x = rt (rtn n x) := by
  induction n generalizing x with
  | zero => rfl
  | succ n ih => exact ih (rt x)
theorem rtn_add (m n : Nat) (x : Q4) : rtn (m + n) x = rtn m (rtn n x) := by
  induction n generalizing x with
  | zero => rfl
  | succ n ih => exact ih (rt x)
theorem rt_rt (x : Q4) : rt (rt x) = dbl 2 x := by
  apply ext' <;> simp [rt, dbl] <;> omega
theorem dbl_dbl (m n : Int) (x : Q4) : dbl m (dbl n x) = dbl (n * m) x := by
  apply ext' <;> simp [dbl, Int.mul_assoc]
theorem rtn_two (t : Nat) (x : Q4) : rtn (2 * t) x = dbl (2 ^ t) x := by
  induction t generalizing x with
  | zero => apply ext' <;> simp [rtn, dbl]
  | succ t ih =>
    have e : 2 * (t + 1) = 2 * t + 1 + 1 := by omega
    rw [e]
    show rtn (2 * t) (rt (rt x)) = _
    rw [ih, rt_rt, dbl_dbl, Int.pow_succ, Int.mul_comm]
theorem rt_inj {x y : Q4} (h : rt x = rt y) : x = y := by
  have h1 := congrArg rt h
  rw [rt_rt, rt_rt] at h1
  have h2 := congrArg Q4.a h1
  have h3 := congrArg Q4.b h1
  have h4 := congrArg Q4.c h1
  have h5 := congrArg Q4.d h1
  simp only [dbl] at h2 h3 h4 h5
  apply ext' <;> omega
theorem rtn_inj {n : Nat} {x y : Q4} (h : rtn n x = rtn n y) : x = y := by
  induction n generalizing x y with
  | zero => exact h
  | succ n ih => exact rt_inj (ih h)
theorem rt_add (x y : Q4) : rt (add x y) = add (rt x) (rt y) := by apply ext' <;> simp [rt, add] <;> omega
theorem rt_neg (x : Q4) : rt (neg x) = neg (rt x) := by apply ext' <;> simp [rt, neg] <;> omega
theorem rtn_addQ (n : Nat) (x y : Q4) : rtn n (add x y) = add (rtn n x) (rtn n y) := by
  induction n generalizing x y with
  | zero => rfl
  | succ n ih => show rtn n (rt (add x y)) = _; rw [rt_add, ih]; rfl
theorem rtn_neg (n : Nat) (x : Q4) : rtn n (neg x) = neg (rtn n x) := by
  induction n generalizing x with
  | zero => rfl
  | succ n ih => show rtn n (rt (neg x)) = _; rw [rt_neg, ih]; rfl
theorem rt_mul (x y : Q4) : rt (mul x y) = mul (rt x) y := by apply ext' <;> simp only [rt, mul] <;> grind
theorem rtn_mul (n : Nat) (x y : Q4) : rtn n (mul x y) = mul (rtn n x) y := by
  induction n generalizing x with
  | zero => rfl
  | succ n ih => show rtn n (rt (mul x y)) = _; rw [rt_mul, ih]; rfl
theorem mul_comm (x y : Q4) : mul x y = mul y x := by apply ext' <;> simp only [mul] <;> grind
theorem mul_assoc (x y z : Q4) : mul (mul x y) z = mul x (mul y z) := by apply ext' <;> simp only [mul] <;> grind
theorem mul_add (x y z : Q4) : mul x (add y z) = add (mul x y) (mul x z) := by apply ext' <;> simp only [mul, add] <;> grind
theorem add_comm (x y : Q4) : add x y = add y x := by apply ext' <;> simp only [add] <;> omega
theorem add_assoc (x y z : Q4) : add (add x y) z = add x (add y z) := by apply ext' <;> simp only [add] <;> omega
theorem rtn_mul2 (m n : Nat) (x y : Q4) : rtn (m + n) (mul x y) = mul (rtn m x) (rtn n y) := by
  rw [rtn_add, mul_comm, rtn_mul, mul_comm, rtn_mul]
theorem mir_mul (x y : Q4) : mir (mul x y) = mul (mir x) (mir y) := by apply ext' <;> simp only [mul, mir] <;> grind
theorem mir_add (x y : Q4) : mir (add x y) = add (mir x) (mir y) := by apply ext' <;> simp only [add, mir] <;> omega
theorem mir_mir (x : Q4) : mir (mir x) = x := by apply ext' <;> simp [mir]
theorem mir_rt (x : Q4) : mir (rt x) = rt (mir x) := by apply ext' <;> simp only [rt, mir] <;> omega
theorem mir_rtn (n : Nat) (x : Q4) : mir (rtn n x) = rtn n (mir x) := by
  induction n generalizing x with
  | zero => rfl
  | succ n ih => show mir (rtn n (rt x)) = rtn n (rt (mir x)); rw [ih, mir_rt]
theorem tn_mul (x y : Q4) : tn (mul x y) = mul x (tn y) := by apply ext' <;> simp only [mul, tn] <;> grind
theorem tn_rt (x : Q4) : tn (rt x) = rt (tn x) := by apply ext' <;> simp only [rt, tn] <;> omega
/-- no root can be taken out -/
def Odd (x : Q4) : Prop := ¬ ((x.a - x.c) % 2 = 0 ∧ (x.b - x.d) % 2 = 0)
theorem rt_even (x : Q4) : ¬ Odd (rt x) := by
  unfold Odd rt
  simp only
  omega
/-- least form -/
def Least (x : Q4) (k : Int) : Prop := 0 ≤ k ∧ (0 < k → Odd x)
theorem Least.one {x y : Q4} {k l m : Nat} (hx : Least x k) (hy : Least y l) (h1 : k ≤ m) (h2 : l ≤ m) (h : rtn (m - k) x = rtn (m - l) y) : x = y ∧ k = l := by
  have key : ∀ {x y : Q4} {k l : Nat}, Least y l → k ≤ m → l ≤ m → k < l → rtn (m - k) x = rtn (m - l) y → False := by
    intro x y k l hy h1 h2 hlt h
    have e : m - k = (m - l) + (l - k) := by omega
    rw [e, rtn_add] at h
    have h3 := rtn_inj h
    obtain ⟨n, hn⟩ : ∃ n, l - k = n + 1 := ⟨l - k - 1, by omega⟩
    rw [hn, rtn_succ] at h3
    have := hy.2 (by omega)
    rw [← h3] at this
    exact rt_even _ this
  rcases Nat.lt_trichotomy k l with q | q | q
  · exact (key hy h1 h2 q h).elim
  · subst q; exact ⟨rtn_inj h, rfl⟩
  · exact (key hx h2 h1 q h.symm).elim
end Q4
/-- the four parts' twos -/
theorem twos_four (a b c d most : Int) (hm : 0 ≤ most) : ∃ t : Nat, twos (Builtin.bitOr (Builtin.bitOr (Builtin.bitOr a b) c) d) most = t ∧ (t : Int) ≤ most ∧ a = a / 2 ^ t * 2 ^ t ∧ b = b / 2 ^ t * 2 ^ t ∧ c = c / 2 ^ t * 2 ^ t ∧ d = d / 2 ^ t * 2 ^ t ∧
    ((t : Int) < most → ¬ (a / 2 ^ t % 2 = 0 ∧ b / 2 ^ t % 2 = 0 ∧ c / 2 ^ t % 2 = 0 ∧ d / 2 ^ t % 2 = 0)) := by
  obtain ⟨t, e, h1, h2, h3⟩ := twos_spec (Builtin.bitOr (Builtin.bitOr (Builtin.bitOr a b) c) d) most hm
  have o1 := or_pow t (Builtin.bitOr (Builtin.bitOr a b) c) d
  have d1 := o1.1.mp h2
  have o2 := or_pow t (Builtin.bitOr a b) c
  have d2 := o2.1.mp d1.1
  have o3 := or_pow t a b
  have d3 := o3.1.mp d2.1
  refine ⟨t, e, h1, (Int.ediv_mul_cancel d3.1).symm, (Int.ediv_mul_cancel d3.2).symm, (Int.ediv_mul_cancel d2.2).symm, (Int.ediv_mul_cancel d1.2).symm, fun z w => h3 z ?_⟩
  have ev : ∀ x y : Int, x % 2 = 0 → y % 2 = 0 → Builtin.bitOr x y % 2 = 0 := fun x y hx hy => by
    rw [or_halves, if_pos ⟨hx, hy⟩]; omega
  rw [o1.2 h2, o2.2 d1.1, o3.2 d2.1]
  exact ev _ _ (ev _ _ (ev _ _ w.1 w.2.1) w.2.2.1) w.2.2.2
/-- what number tells -/
def num (x : Q4) (k : Int) : Q4 × Int :=
  let t := (twos (Builtin.bitOr (Builtin.bitOr (Builtin.bitOr x.a x.b) x.c) x.d) (k / 2)).toNat
  let y : Q4 := ⟨x.a / 2 ^ t, x.b / 2 ^ t, x.c / 2 ^ t, x.d / 2 ^ t⟩
  if k - 2 * t = 0 ∨ (y.a - y.c) % 2 = 1 ∨ (y.b - y.d) % 2 = 1 then (y, k - 2 * t) else (⟨(y.b - y.d) / 2, (y.a + y.c) / 2, (y.b + y.d) / 2, (y.c - y.a) / 2⟩, k - 2 * t - 1)
theorem num_spec (x : Q4) (k : Int) (hk : 0 ≤ k) : Q4.Least (num x k).1 (num x k).2 ∧ (num x k).2 ≤ k ∧ Q4.rtn (k - (num x k).2).toNat (num x k).1 = x := by
  obtain ⟨t, e, h1, ha, hb, hc, hd, h3⟩ := twos_four x.a x.b x.c x.d (k / 2) (by omega)
  unfold num
  simp only [e, Int.toNat_natCast]
  generalize x.a / 2 ^ t = a at *
  generalize x.b / 2 ^ t = b at *
  generalize x.c / 2 ^ t = c at *
  generalize x.d / 2 ^ t = d at *
  have e2 : Q4.dbl (2 ^ t) ⟨a, b, c, d⟩ = x := by
    apply Q4.ext' <;> simp only [Q4.dbl] <;> omega
  split
  · rename_i h
    refine ⟨⟨by simp only; omega, fun z => ?_⟩, by simp only; omega, ?_⟩
    · simp only at z
      unfold Q4.Odd
      simp only
      omega
    · have : (k - (k - 2 * (t : Int))).toNat = 2 * t := by omega
      simp only [this]
      rw [Q4.rtn_two, e2]
  · rename_i h
    have h' : k - 2 * (t : Int) ≠ 0 ∧ (a - c) % 2 = 0 ∧ (b - d) % 2 = 0 := by omega
    obtain ⟨g0, g1, g2⟩ := h'
    refine ⟨⟨by simp only; omega, fun z => ?_⟩, by simp only; omega, ?_⟩
    · simp only at z
      have := h3 (by omega)
      unfold Q4.Odd
      simp only
      omega
    · have : (k - (k - 2 * (t : Int) - 1)).toNat = 2 * t + 1 := by omega
      simp only [this]
      show Q4.rtn (2 * t) (Q4.rt _) = x
      rw [Q4.rtn_two]
      have e3 : Q4.rt ⟨(b - d) / 2, (a + c) / 2, (b + d) / 2, (c - a) / 2⟩ = ⟨a, b, c, d⟩ := by
        apply Q4.ext' <;> simp only [Q4.rt] <;> omega
      rw [e3, e2]
/-- no part above a bound -/
def Q4.Le (M : Nat) (x : Q4) : Prop := x.a.natAbs ≤ M ∧ x.b.natAbs ≤ M ∧ x.c.natAbs ≤ M ∧ x.d.natAbs ≤ M
theorem div_le (a : Int) (t : Nat) (h : a = a / 2 ^ t * 2 ^ t) : (a / 2 ^ t).natAbs ≤ a.natAbs := by
  have pw := pow_pos' t
  have : a.natAbs = (a / 2 ^ t).natAbs * ((2 : Int) ^ t).natAbs := by rw [← Int.natAbs_mul, ← h]
  rw [this]
  exact Nat.le_mul_of_pos_right _ (by omega)
theorem num_le (x : Q4) (k : Int) (hk : 0 ≤ k) (M : Nat) (h : Q4.Le M x) : Q4.Le M (num x k).1 := by
  obtain ⟨t, e, h1, ha, hb, hc, hd, h3⟩ := twos_four x.a x.b x.c x.d (k / 2) (by omega)
  have la := div_le _ _ ha
  have lb := div_le _ _ hb
  have lc := div_le _ _ hc
  have ld := div_le _ _ hd
  obtain ⟨g1, g2, g3, g4⟩ := h
  unfold num Q4.Le
  simp only [e, Int.toNat_natCast]
  generalize x.a / 2 ^ t = a at *
  generalize x.b / 2 ^ t = b at *
  generalize x.c / 2 ^ t = c at *
  generalize x.d / 2 ^ t = d at *
  split
  · simp only; omega
  · rename_i q
    simp only
    omega
theorem rt_le {x : Q4} {M : Nat} (h : Q4.Le M x) : Q4.Le (2 * M) (Q4.rt x) := by
  obtain ⟨g1, g2, g3, g4⟩ := h
  unfold Q4.Le Q4.rt
  simp only
  omega
theorem rtn_le {x : Q4} {M : Nat} : ∀ (n : Nat), Q4.Le M x → Q4.Le (2 ^ n * M) (Q4.rtn n x)
  | 0, h => by simpa [Q4.rtn] using h
  | n + 1, h => by
    have := rt_le (rtn_le n h)
    rw [Q4.rtn_succ]
    rw [Nat.pow_succ, Nat.mul_comm (2 ^ n) 2, Nat.mul_assoc]
    exact this
theorem Q4.Le.mono {x : Q4} {M N : Nat} (h : Q4.Le M x) (hl : M ≤ N) : Q4.Le N x := ⟨Nat.le_trans h.1 hl, Nat.le_trans h.2.1 hl, Nat.le_trans h.2.2.1 hl, Nat.le_trans h.2.2.2 hl⟩
theorem add_le {x y : Q4} {M N : Nat} (h : Q4.Le M x) (h' : Q4.Le N y) : Q4.Le (M + N) (Q4.add x y) := by
  obtain ⟨g1, g2, g3, g4⟩ := h
  obtain ⟨k1, k2, k3, k4⟩ := h'
  unfold Q4.Le Q4.add
  simp only
  omega
theorem four_le {a b c d : Int} {M : Nat} (ha : a.natAbs ≤ M) (hb : b.natAbs ≤ M) (hc : c.natAbs ≤ M) (hd : d.natAbs ≤ M) (s t u : Int) (hs : s = b ∨ s = -b) (ht : t = c ∨ t = -c) (hu : u = d ∨ u = -d) : (a + s + t + u).natAbs ≤ 4 * M := by
  have h1 := Int.natAbs_add_le (a + s + t) u
  have h2 := Int.natAbs_add_le (a + s) t
  have h3 := Int.natAbs_add_le a s
  have e1 : s.natAbs = b.natAbs := by rcases hs with rfl | rfl <;> simp
  have e2 : t.natAbs = c.natAbs := by rcases ht with rfl | rfl <;> simp
  have e3 : u.natAbs = d.natAbs := by rcases hu with rfl | rfl <;> simp
  rw [e1] at h3
  rw [e2] at h2
  rw [e3] at h1
  generalize (a + s + t + u).natAbs = A at *
  generalize (a + s + t).natAbs = B at *
  generalize (a + s).natAbs = C at *
  generalize a.natAbs = a' at *
  generalize b.natAbs = b' at *
  generalize c.natAbs = c' at *
  generalize d.natAbs = d' at *
  omega
theorem mul_le {x y : Q4} {M N : Nat} (h : Q4.Le M x) (h' : Q4.Le N y) : Q4.Le (4 * (M * N)) (Q4.mul x y) := by
  obtain ⟨g1, g2, g3, g4⟩ := h
  obtain ⟨k1, k2, k3, k4⟩ := h'
  have m : ∀ a b : Int, a.natAbs ≤ M → b.natAbs ≤ N → (a * b).natAbs ≤ M * N := fun a b ha hb => by rw [Int.natAbs_mul]; exact Nat.mul_le_mul ha hb
  refine ⟨?_, ?_, ?_, ?_⟩
  · have := four_le (m _ _ g1 k1) (m _ _ g2 k4) (m _ _ g3 k3) (m _ _ g4 k2) _ _ _ (.inr rfl) (.inr rfl) (.inr rfl)
    simpa [Q4.mul, Int.sub_eq_add_neg] using this
  · have := four_le (m _ _ g1 k2) (m _ _ g2 k1) (m _ _ g3 k4) (m _ _ g4 k3) _ _ _ (.inl rfl) (.inr rfl) (.inr rfl)
    simpa [Q4.mul, Int.sub_eq_add_neg] using this
  · have := four_le (m _ _ g1 k3) (m _ _ g2 k2) (m _ _ g3 k1) (m _ _ g4 k4) _ _ _ (.inl rfl) (.inl rfl) (.inr rfl)
    simpa [Q4.mul, Int.sub_eq_add_neg] using this
  · have := four_le (m _ _ g1 k4) (m _ _ g2 k3) (m _ _ g3 k2) (m _ _ g4 k1) _ _ _ (.inl rfl) (.inl rfl) (.inl rfl)
    simpa [Q4.mul] using this
/-- the sum and the product, as the program tells them -/
def plusQ (x : Q4) (c : Int) (y : Q4) (d : Int) : Q4 × Int := num (Q4.add (Q4.rtn (max c d - c).toNat x) (Q4.rtn (max c d - d).toNat y)) (max c d)
def timesQ (x : Q4) (c : Int) (y : Q4) (d : Int) : Q4 × Int := num (Q4.mul x y) (c + d)
theorem plusQ_comm (x : Q4) (c : Int) (y : Q4) (d : Int) : plusQ x c y d = plusQ y d x c := by
  unfold plusQ
  rw [Int.max_comm, Q4.add_comm]
/-- turned by eighths -/
def tnn : Nat → Q4 → Q4
  | 0, x => x
  | n + 1, x => Q4.tn (tnn n x)
theorem tnn_le {x : Q4} {M : Nat} : ∀ n : Nat, Q4.Le M x → Q4.Le M (tnn n x)
  | 0, h => h
  | n + 1, h => by
    obtain ⟨a, b, c, d⟩ := tnn_le n h
    exact ⟨by simpa [tnn, Q4.tn] using d, a, b, c⟩
theorem tn_odd {x : Q4} : Q4.Odd (Q4.tn x) ↔ Q4.Odd x := by
  unfold Q4.Odd Q4.tn
  simp only
  omega
theorem tnn_odd {x : Q4} : ∀ n : Nat, Q4.Odd (tnn n x) ↔ Q4.Odd x
  | 0 => Iff.rfl
  | n + 1 => tn_odd.trans (tnn_odd n)
theorem tnn_least {x : Q4} {c : Int} (n : Nat) (h : Q4.Least x c) : Q4.Least (tnn n x) c := ⟨h.1, fun z => (tnn_odd n).mpr (h.2 z)⟩
theorem mir_least {x : Q4} {c : Int} (h : Q4.Least x c) : Q4.Least (Q4.mir x) c := ⟨h.1, fun z => by
  have := h.2 z
  unfold Q4.Odd Q4.mir at *
  simp only at *
  omega⟩
theorem neg_least {x : Q4} {c : Int} (h : Q4.Least x c) : Q4.Least (Q4.neg x) c := ⟨h.1, fun z => by
  have := h.2 z
  unfold Q4.Odd Q4.neg at *
  simp only at *
  omega⟩
theorem mir_le {x : Q4} {M : Nat} (h : Q4.Le M x) : Q4.Le M (Q4.mir x) := by
  obtain ⟨a, b, c, d⟩ := h
  exact ⟨a, by simpa [Q4.mir] using d, by simpa [Q4.mir] using c, by simpa [Q4.mir] using b⟩
theorem neg_le {x : Q4} {M : Nat} (h : Q4.Le M x) : Q4.Le M (Q4.neg x) := by
  obtain ⟨a, b, c, d⟩ := h
  exact ⟨by simpa [Q4.neg] using a, by simpa [Q4.neg] using b, by simpa [Q4.neg] using c, by simpa [Q4.neg] using d⟩
/-- x over c roots is u over k roots, and it is in least form -/
def Is (x : Q4) (c : Nat) (u : Q4) (k : Nat) : Prop := Q4.Least x c ∧ Q4.rtn k x = Q4.rtn c u
theorem rtn_swap (m n : Nat) (x : Q4) : Q4.rtn m (Q4.rtn n x) = Q4.rtn n (Q4.rtn m x) := by rw [← Q4.rtn_add, ← Q4.rtn_add, Nat.add_comm]
theorem Is.self {x : Q4} {c : Nat} (h : Q4.Least x c) : Is x c x c := ⟨h, rfl⟩
theorem Is.one {x y u v : Q4} {c d k l : Nat} (hx : Is x c u k) (hy : Is y d v l) (h : Q4.rtn l u = Q4.rtn k v) : x = y ∧ c = d := by
  have e : Q4.rtn d x = Q4.rtn c y := by
    refine Q4.rtn_inj (n := k + l) ?_
    rw [Q4.rtn_add, Q4.rtn_add, rtn_swap l d x, rtn_swap k d, rtn_swap k l, hx.2, rtn_swap l c u, h, rtn_swap l c y, hy.2, rtn_swap k c, rtn_swap k d v, rtn_swap d c]
  exact Q4.Least.one (m := c + d) hx.1 hy.1 (by omega) (by omega) (by rw [show c + d - c = d by omega, show c + d - d = c by omega]; exact e)
theorem num_is (u : Q4) (k : Nat) : ∃ c : Nat, (num u k).2 = c ∧ c ≤ k ∧ Is (num u k).1 c u k := by
  obtain ⟨s1, s2, s3⟩ := num_spec u k (by omega)
  obtain ⟨c, hc⟩ : ∃ c : Nat, (num u k).2 = c := ⟨(num u k).2.toNat, by have := s1.1; omega⟩
  rw [hc] at s1 s2 s3
  refine ⟨c, hc, by omega, s1, ?_⟩
  have e : ((k : Int) - c).toNat = k - c := by omega
  rw [e] at s3
  conv => rhs; rw [← s3]
  rw [← Q4.rtn_add]
  congr 1
  omega
theorem Is.trans {x u v : Q4} {c k l : Nat} (h : Is x c u k) (e : Q4.rtn l u = Q4.rtn k v) : Is x c v l := by
  refine ⟨h.1, Q4.rtn_inj (n := k) ?_⟩
  rw [rtn_swap, h.2, rtn_swap, e, rtn_swap]
theorem plus_is {x y u v : Q4} {c d k l : Nat} (hx : Is x c u k) (hy : Is y d v l) : ∃ s : Nat, (plusQ x c y d).2 = s ∧ s ≤ max c d ∧ Is (plusQ x c y d).1 s (Q4.add (Q4.rtn l u) (Q4.rtn k v)) (k + l) := by
  unfold plusQ
  have em : max (c : Int) d = ((max c d : Nat) : Int) := by omega
  have e1 : (max (c : Int) d - c).toNat = max c d - c := by omega
  have e2 : (max (c : Int) d - d).toNat = max c d - d := by omega
  rw [e1, e2, em]
  obtain ⟨s, hs, hl, is⟩ := num_is (Q4.add (Q4.rtn (max c d - c) x) (Q4.rtn (max c d - d) y)) (max c d)
  refine ⟨s, hs, hl, is.trans ?_⟩
  generalize hm : max c d = m at *
  have h1 : Q4.rtn (k + l) (Q4.rtn (m - c) x) = Q4.rtn m (Q4.rtn l u) := by
    rw [Q4.rtn_add, rtn_swap l (m - c), rtn_swap k (m - c), rtn_swap k l, hx.2, rtn_swap (m - c) l, ← Q4.rtn_add (m - c) c, rtn_swap l, show m - c + c = m by omega]
  have h2 : Q4.rtn (k + l) (Q4.rtn (m - d) y) = Q4.rtn m (Q4.rtn k v) := by
    rw [Q4.rtn_add, rtn_swap l (m - d), hy.2, ← Q4.rtn_add (m - d) d, show m - d + d = m by omega, rtn_swap k m]
  rw [Q4.rtn_addQ, Q4.rtn_addQ, h1, h2]
theorem times_is {x y u v : Q4} {c d k l : Nat} (hx : Is x c u k) (hy : Is y d v l) : ∃ s : Nat, (timesQ x c y d).2 = s ∧ s ≤ c + d ∧ Is (timesQ x c y d).1 s (Q4.mul u v) (k + l) := by
  unfold timesQ
  have em : (c : Int) + d = ((c + d : Nat) : Int) := by omega
  rw [em]
  obtain ⟨s, hs, hl, is⟩ := num_is (Q4.mul x y) (c + d)
  refine ⟨s, hs, hl, is.trans ?_⟩
  rw [Q4.rtn_mul2, Q4.rtn_mul2, hx.2, hy.2]
theorem half_is {x u : Q4} {c k : Nat} (hx : Is x c u k) : ∃ s : Nat, (num x ((c : Int) + 1)).2 = s ∧ s ≤ c + 1 ∧ Is (num x ((c : Int) + 1)).1 s u (k + 1) := by
  have em : (c : Int) + 1 = ((c + 1 : Nat) : Int) := by omega
  rw [em]
  obtain ⟨s, hs, hl, is⟩ := num_is x (c + 1)
  refine ⟨s, hs, hl, is.trans ?_⟩
  rw [Q4.rtn_succ, Q4.rtn_succ, hx.2]
theorem neg_is {x u : Q4} {c k : Nat} (hx : Is x c u k) : Is (Q4.neg x) c (Q4.neg u) k := ⟨neg_least hx.1, by rw [Q4.rtn_neg, Q4.rtn_neg, hx.2]⟩
theorem mir_is {x u : Q4} {c k : Nat} (hx : Is x c u k) : Is (Q4.mir x) c (Q4.mir u) k := ⟨mir_least hx.1, by rw [← Q4.mir_rtn, ← Q4.mir_rtn, hx.2]⟩
theorem tn_rtn (n : Nat) (x : Q4) : Q4.tn (Q4.rtn n x) = Q4.rtn n (Q4.tn x) := by
  induction n generalizing x with
  | zero => rfl
  | succ n ih => show Q4.tn (Q4.rtn n (Q4.rt x)) = Q4.rtn n (Q4.rt (Q4.tn x)); rw [ih, Q4.tn_rt]
theorem tnn_rtn (m n : Nat) (x : Q4) : tnn m (Q4.rtn n x) = Q4.rtn n (tnn m x) := by
  induction m with
  | zero => rfl
  | succ m ih => show Q4.tn (tnn m (Q4.rtn n x)) = _; rw [ih, tn_rtn]; rfl
theorem tnn_is {x u : Q4} {c k : Nat} (n : Nat) (hx : Is x c u k) : Is (tnn n x) c (tnn n u) k := ⟨tnn_least n hx.1, by rw [← tnn_rtn, ← tnn_rtn, hx.2]⟩
theorem tnn_add (m n : Nat) (x : Q4) : tnn (m + n) x = tnn m (tnn n x) := by
  induction m with
  | zero => rw [Nat.zero_add]; rfl
  | succ m ih => rw [Nat.succ_add]; show Q4.tn (tnn (m + n) x) = _; rw [ih]; rfl
theorem tnn8 (x : Q4) : tnn 8 x = x := by simp [tnn, Q4.tn]
theorem tnn_mod (n : Nat) (x : Q4) : tnn (n % 8) x = tnn n x := by
  conv => rhs; rw [← Nat.mod_add_div n 8]
  rw [tnn_add]
  congr 1
  generalize n / 8 = q
  induction q with
  | zero => rfl
  | succ q ih => rw [Nat.mul_succ, tnn_add, tnn8]; exact ih
theorem tnn_mul (n : Nat) (x y : Q4) : tnn n (Q4.mul x y) = Q4.mul x (tnn n y) := by
  induction n with
  | zero => rfl
  | succ n ih => show Q4.tn (tnn n (Q4.mul x y)) = _; rw [ih, Q4.tn_mul]; rfl
theorem plusQ_le {x y : Q4} {c d : Nat} {p r : Nat} (hx : Q4.Le (2 ^ p) x) (hy : Q4.Le (2 ^ p) y) (hc : c ≤ r) (hd : d ≤ r) : Q4.Le (2 ^ (p + r + 1)) (plusQ x c y d).1 := by
  have em : max (c : Int) d = ((max c d : Nat) : Int) := by omega
  unfold plusQ
  refine num_le _ _ (by omega) _ ?_
  have up : ∀ (n : Nat) (z : Q4), n ≤ r → Q4.Le (2 ^ p) z → Q4.Le (2 ^ (p + r)) (Q4.rtn n z) := fun n z hn hz => by
    refine (rtn_le n hz).mono ?_
    rw [← Nat.pow_add]
    exact Nat.pow_le_pow_right (by decide) (by omega)
  have := add_le (up (max (c : Int) d - c).toNat x (by omega) hx) (up (max (c : Int) d - d).toNat y (by omega) hy)
  rw [Nat.pow_succ, Nat.mul_two]
  exact this
theorem timesQ_le {x y : Q4} {c d : Nat} {p q : Nat} (hx : Q4.Le (2 ^ p) x) (hy : Q4.Le (2 ^ q) y) : Q4.Le (2 ^ (p + q + 2)) (timesQ x c y d).1 := by
  unfold timesQ
  refine num_le _ _ (by omega) _ ?_
  have := mul_le hx hy
  rw [← Nat.pow_add, show (4 : Nat) = 2 ^ 2 from rfl, ← Nat.pow_add, Nat.add_comm 2] at this
  exact this
/-! ### shares -/
structure S2 where
  p : Int
  q : Int
namespace S2
theorem ext' {x y : S2} (h1 : x.p = y.p) (h2 : x.q = y.q) : x = y := by
  cases x; cases y; simp at h1 h2; subst h1 h2; rfl
def add (x y : S2) : S2 := ⟨x.p + y.p, x.q + y.q⟩
def mul (x y : S2) : S2 := ⟨x.p * y.p + 2 * x.q * y.q, x.p * y.q + x.q * y.p⟩
def sc (n : Nat) (x : S2) : S2 := ⟨x.p * 2 ^ n, x.q * 2 ^ n⟩
theorem sc_add (m n : Nat) (x : S2) : sc (m + n) x = sc m (sc n x) := by
  apply ext' <;> simp only [sc, Int.pow_add] <;> rw [Int.mul_assoc, Int.mul_comm (2 ^ n)]
theorem sc_swap (m n : Nat) (x : S2) : sc m (sc n x) = sc n (sc m x) := by rw [← sc_add, ← sc_add, Nat.add_comm]
theorem sc_inj {n : Nat} {x y : S2} (h : sc n x = sc n y) : x = y := by
  have pw := pow_pos' n
  have h1 := congrArg S2.p h
  have h2 := congrArg S2.q h
  simp only [sc] at h1 h2
  exact ext' (Int.eq_of_mul_eq_mul_right (by omega) h1) (Int.eq_of_mul_eq_mul_right (by omega) h2)
theorem sc_addS (n : Nat) (x y : S2) : sc n (add x y) = add (sc n x) (sc n y) := by apply ext' <;> simp only [sc, add, Int.add_mul]
theorem sc_mul (m n : Nat) (x y : S2) : sc (m + n) (mul x y) = mul (sc m x) (sc n y) := by
  apply ext' <;> simp only [sc, mul, Int.pow_add] <;> generalize (2 : Int) ^ m = A <;> generalize (2 : Int) ^ n = B <;> grind
def Odd (x : S2) : Prop := ¬ (x.p % 2 = 0 ∧ x.q % 2 = 0)
theorem sc_even (n : Nat) (x : S2) : ¬ Odd (sc (n + 1) x) := by
  unfold Odd sc
  rw [Int.pow_succ, ← Int.mul_assoc, ← Int.mul_assoc]
  simp only
  omega
def Least (x : S2) (c : Nat) : Prop := 0 < c → Odd x
theorem Least.one {x y : S2} {k l m : Nat} (hx : Least x k) (hy : Least y l) (h1 : k ≤ m) (h2 : l ≤ m) (h : sc (m - k) x = sc (m - l) y) : x = y ∧ k = l := by
  have key : ∀ {x y : S2} {k l : Nat}, Least y l → k ≤ m → l ≤ m → k < l → sc (m - k) x = sc (m - l) y → False := by
    intro x y k l hy h1 h2 hlt h
    have e : m - k = (m - l) + (l - k) := by omega
    rw [e, sc_add] at h
    have h3 := sc_inj h
    obtain ⟨n, hn⟩ : ∃ n, l - k = n + 1 := ⟨l - k - 1, by omega⟩
    rw [hn] at h3
    have := hy (by omega)
    rw [← h3] at this
    exact sc_even _ _ this
  rcases Nat.lt_trichotomy k l with q | q | q
  · exact (key hy h1 h2 q h).elim
  · subst q; exact ⟨sc_inj h, rfl⟩
  · exact (key hx h2 h1 q h.symm).elim
def Le (M : Nat) (x : S2) : Prop := x.p.natAbs ≤ M ∧ x.q.natAbs ≤ M
theorem Le.mono {x : S2} {M N : Nat} (h : Le M x) (hl : M ≤ N) : Le N x := ⟨Nat.le_trans h.1 hl, Nat.le_trans h.2 hl⟩
theorem add_le {x y : S2} {M N : Nat} (h : Le M x) (h' : Le N y) : Le (M + N) (add x y) :=
  ⟨Nat.le_trans (Int.natAbs_add_le _ _) (Nat.add_le_add h.1 h'.1), Nat.le_trans (Int.natAbs_add_le _ _) (Nat.add_le_add h.2 h'.2)⟩
theorem sc_le {x : S2} {p : Nat} (n : Nat) (h : Le (2 ^ p) x) : Le (2 ^ (p + n)) (sc n x) := by
  have e : ((2 : Int) ^ n).natAbs = 2 ^ n := by
    have : ((2 ^ n : Nat) : Int) = (2 : Int) ^ n := by simp
    rw [← this, Int.natAbs_natCast]
  constructor
  · show (x.p * 2 ^ n).natAbs ≤ _
    rw [Int.natAbs_mul, e, Nat.pow_add]; exact Nat.mul_le_mul_right _ h.1
  · show (x.q * 2 ^ n).natAbs ≤ _
    rw [Int.natAbs_mul, e, Nat.pow_add]; exact Nat.mul_le_mul_right _ h.2
theorem mul_le {x y : S2} {M N : Nat} (h : Le M x) (h' : Le N y) : Le (4 * (M * N)) (mul x y) := by
  have m : ∀ a b : Int, a.natAbs ≤ M → b.natAbs ≤ N → (a * b).natAbs ≤ M * N := fun a b ha hb => by rw [Int.natAbs_mul]; exact Nat.mul_le_mul ha hb
  have m1 := m _ _ h.1 h'.1
  have m2 := m _ _ h.2 h'.2
  have m3 := m _ _ h.1 h'.2
  have m4 := m _ _ h.2 h'.1
  constructor
  · show (x.p * y.p + 2 * x.q * y.q).natAbs ≤ _
    have h1 := Int.natAbs_add_le (x.p * y.p) (2 * x.q * y.q)
    have h2 : (2 * x.q * y.q).natAbs = 2 * (x.q * y.q).natAbs := by rw [Int.mul_assoc, Int.natAbs_mul]; rfl
    rw [h2] at h1
    generalize (x.p * y.p + 2 * x.q * y.q).natAbs = A at *
    generalize (x.p * y.p).natAbs = B at *
    generalize (x.q * y.q).natAbs = C at *
    generalize M * N = MN at *
    omega
  · show (x.p * y.q + x.q * y.p).natAbs ≤ _
    have h1 := Int.natAbs_add_le (x.p * y.q) (x.q * y.p)
    generalize (x.p * y.q + x.q * y.p).natAbs = A at *
    generalize (x.p * y.q).natAbs = B at *
    generalize (x.q * y.p).natAbs = C at *
    generalize M * N = MN at *
    omega
/-- x over c twos is u over k twos, in least form -/
def Is (x : S2) (c : Nat) (u : S2) (k : Nat) : Prop := Least x c ∧ sc k x = sc c u
theorem Is.one {x y u v : S2} {c d k l : Nat} (hx : Is x c u k) (hy : Is y d v l) (h : sc l u = sc k v) : x = y ∧ c = d := by
  have e : sc d x = sc c y := by
    refine sc_inj (n := k + l) ?_
    rw [sc_add, sc_add, sc_swap l d x, sc_swap k d, sc_swap k l, hx.2, sc_swap l c u, h, sc_swap l c y, hy.2, sc_swap k c, sc_swap k d v, sc_swap d c]
  exact Least.one (m := c + d) hx.1 hy.1 (by omega) (by omega) (by rw [show c + d - c = d by omega, show c + d - d = c by omega]; exact e)
theorem Is.trans {x u v : S2} {c k l : Nat} (h : Is x c u k) (e : sc l u = sc k v) : Is x c v l := by
  refine ⟨h.1, sc_inj (n := k) ?_⟩
  rw [sc_swap, h.2, sc_swap, e, sc_swap]
end S2
/-- the size of four parts -/
def nrm (x : Q4) : S2 := ⟨x.a * x.a + x.b * x.b + x.c * x.c + x.d * x.d, x.a * x.b + x.b * x.c + x.c * x.d - x.d * x.a⟩
theorem nrm_rt (x : Q4) : nrm (Q4.rt x) = S2.sc 1 (nrm x) := by apply S2.ext' <;> simp only [nrm, Q4.rt, S2.sc] <;> grind
theorem nrm_rtn (n : Nat) (x : Q4) : nrm (Q4.rtn n x) = S2.sc n (nrm x) := by
  induction n generalizing x with
  | zero => apply S2.ext' <;> simp [Q4.rtn, S2.sc]
  | succ n ih => show nrm (Q4.rtn n (Q4.rt x)) = _; rw [ih, nrm_rt, ← S2.sc_add]
theorem nrm_mul (x y : Q4) : nrm (Q4.mul x y) = S2.mul (nrm x) (nrm y) := by apply S2.ext' <;> simp only [nrm, Q4.mul, S2.mul] <;> grind
theorem nrm_neg (x : Q4) : nrm (Q4.neg x) = nrm x := by apply S2.ext' <;> simp only [nrm, Q4.neg] <;> grind
theorem nrm_mir (x : Q4) : nrm (Q4.mir x) = nrm x := by apply S2.ext' <;> simp only [nrm, Q4.mir] <;> grind
theorem nrm_tn (x : Q4) : nrm (Q4.tn x) = nrm x := by apply S2.ext' <;> simp only [nrm, Q4.tn] <;> grind
theorem nrm_tnn (n : Nat) (x : Q4) : nrm (tnn n x) = nrm x := by
  induction n with
  | zero => rfl
  | succ n ih => show nrm (Q4.tn (tnn n x)) = _; rw [nrm_tn, ih]
theorem nrm_two (x y : Q4) : S2.add (nrm (Q4.add x y)) (nrm (Q4.add x (Q4.neg y))) = S2.add (S2.add (nrm x) (nrm y)) (S2.add (nrm x) (nrm y)) := by
  apply S2.ext' <;> simp only [nrm, Q4.add, Q4.neg, S2.add] <;> grind
/-- a share as a number -/
def emb (s : S2) : Q4 := ⟨s.p, s.q, 0, -s.q⟩
theorem mul_mir (x : Q4) : Q4.mul x (Q4.mir x) = emb (nrm x) := by apply Q4.ext' <;> simp only [Q4.mul, Q4.mir, emb, nrm] <;> grind
theorem emb_sc (n : Nat) (s : S2) : Q4.rtn (2 * n) (emb s) = emb (S2.sc n s) := by
  rw [Q4.rtn_two]
  apply Q4.ext' <;> simp [Q4.dbl, emb, S2.sc, Int.neg_mul]
theorem nrm_le {x : Q4} {M : Nat} (h : Q4.Le M x) : S2.Le (4 * (M * M)) (nrm x) := by
  obtain ⟨g1, g2, g3, g4⟩ := h
  have m : ∀ a b : Int, a.natAbs ≤ M → b.natAbs ≤ M → (a * b).natAbs ≤ M * M := fun a b ha hb => by rw [Int.natAbs_mul]; exact Nat.mul_le_mul ha hb
  constructor
  · have := four_le (m _ _ g1 g1) (m _ _ g2 g2) (m _ _ g3 g3) (m _ _ g4 g4) _ _ _ (.inl rfl) (.inl rfl) (.inl rfl)
    simpa [nrm] using this
  · have := four_le (m _ _ g1 g2) (m _ _ g2 g3) (m _ _ g3 g4) (m _ _ g4 g1) _ _ _ (.inl rfl) (.inl rfl) (.inr rfl)
    simpa [nrm, Int.sub_eq_add_neg] using this
theorem sq_nn (a : Int) : 0 ≤ a * a := by
  rcases Int.le_total 0 a with h | h
  · exact Int.mul_nonneg h h
  · have := Int.mul_nonneg (Int.neg_nonneg.mpr h) (Int.neg_nonneg.mpr h)
    rwa [Int.neg_mul_neg] at this
/-- a size is not below nought -/
theorem nrm_nn (x : Q4) : 0 ≤ (nrm x).p ∧ 2 * (nrm x).q * (nrm x).q ≤ (nrm x).p * (nrm x).p := by
  constructor
  · have := sq_nn x.a; have := sq_nn x.b; have := sq_nn x.c; have := sq_nn x.d
    simp only [nrm]
    omega
  · have e : (nrm x).p * (nrm x).p - 2 * (nrm x).q * (nrm x).q = (x.a * x.a - x.c * x.c + 2 * x.b * x.d) * (x.a * x.a - x.c * x.c + 2 * x.b * x.d) + (2 * x.a * x.c - x.b * x.b + x.d * x.d) * (2 * x.a * x.c - x.b * x.b + x.d * x.d) := by
      simp only [nrm]
      grind
    have h1 := sq_nn (x.a * x.a - x.c * x.c + 2 * x.b * x.d)
    have h2 := sq_nn (2 * x.a * x.c - x.b * x.b + x.d * x.d)
    omega
theorem nrm_zero {x : Q4} (h : (nrm x).p = 0) : x = ⟨0, 0, 0, 0⟩ := by
  have h1 := sq_nn x.a; have h2 := sq_nn x.b; have h3 := sq_nn x.c; have h4 := sq_nn x.d
  simp only [nrm] at h
  have z : ∀ a : Int, a * a = 0 → a = 0 := fun a e => by rcases Int.mul_eq_zero.mp e with q | q <;> exact q
  exact Q4.ext' (z _ (by omega)) (z _ (by omega)) (z _ (by omega)) (z _ (by omega))
/-- a share that is a size's is not below nought -/
theorem Is_nn {s : S2} {e : Nat} {x : Q4} {k : Nat} (h : S2.Is s e (nrm x) k) : 0 ≤ s.p ∧ 2 * s.q * s.q ≤ s.p * s.p := by
  obtain ⟨n1, n2⟩ := nrm_nn x
  have e1 := congrArg S2.p h.2
  have e2 := congrArg S2.q h.2
  simp only [S2.sc] at e1 e2
  have pk := pow_pos' k
  have pe := pow_pos' e
  generalize (nrm x).p = P at *
  generalize (nrm x).q = Q at *
  generalize (2 : Int) ^ k = K at *
  generalize (2 : Int) ^ e = E at *
  constructor
  · have : 0 ≤ s.p * K := by rw [e1]; exact Int.mul_nonneg n1 (by omega)
    rcases Int.lt_or_le s.p 0 with z | z
    · have := Int.mul_neg_of_neg_of_pos z pk
      omega
    · exact z
  · have a1 : s.p * s.p * (K * K) = P * P * (E * E) := by
      have : s.p * s.p * (K * K) = (s.p * K) * (s.p * K) := by grind
      rw [this, e1]; grind
    have a2 : 2 * s.q * s.q * (K * K) = 2 * Q * Q * (E * E) := by
      have : 2 * s.q * s.q * (K * K) = 2 * ((s.q * K) * (s.q * K)) := by grind
      rw [this, e2]; grind
    have a3 : 2 * Q * Q * (E * E) ≤ P * P * (E * E) := Int.mul_le_mul_of_nonneg_right n2 (sq_nn E)
    rw [← a1, ← a2] at a3
    exact Int.le_of_mul_le_mul_right a3 (Int.mul_pos pk pk)
theorem Is_size {x u : Q4} {c k : Nat} (h : Is x c u k) : S2.sc k (nrm x) = S2.sc c (nrm u) := by
  rw [← nrm_rtn, ← nrm_rtn, h.2]
/-! ### states -/
abbrev Nu := Q4 × Nat
inductive Row where
  | swing (j : Nat) | turn (j : Nat) (e : Nat) | flip (j : Nat) | tie (i j : Nat) | sign (i j : Nat) | cross (i j : Nat)
def plusN (u v : Nu) : Nu := ((plusQ u.1 u.2 v.1 v.2).1, (plusQ u.1 u.2 v.1 v.2).2.toNat)
def halfN (u : Nu) : Nu := ((num u.1 ((u.2 + 1 : Nat) : Int)).1, (num u.1 ((u.2 + 1 : Nat) : Int)).2.toNat)
def turnN (e : Nat) (u : Nu) : Nu := (tnn (e % 8) u.1, u.2)
/-- what wire j's bit is worth -/
def wt (n j : Nat) : Nat := 2 ^ (n - 1 - j)
def bit (w p : Nat) : Nat := p / w % 2
def flp (w p : Nat) : Nat := if bit w p = 0 then p + w else p - w
/-- where a flip, a tie, a cross take the number from -/
def from_ (n : Nat) : Row → Nat → Nat
  | .flip j, p => flp (wt n j) p
  | .tie i j, p => if bit (wt n i) p = 0 then p else flp (wt n j) p
  | .cross i j, p => if bit (wt n i) p = bit (wt n j) p then p else flp (wt n j) (flp (wt n i) p)
  | _, p => p
def doneAt (n : Nat) (f : Nat → Nu) : Row → Nat → Nu
  | .swing j, p => if bit (wt n j) p = 0 then halfN (plusN (f p) (f (p + wt n j))) else halfN (plusN (f (p - wt n j)) (turnN 4 (f p)))
  | .turn j e, p => turnN (e * bit (wt n j) p) (f p)
  | .sign i j, p => turnN (4 * bit (wt n i) p * bit (wt n j) p) (f p)
  | r, p => f (from_ n r p)
def Row.ok (n : Nat) : Row → Prop
  | .swing j => j < n
  | .turn j e => j < n ∧ 1 ≤ e ∧ e ≤ 7
  | .flip j => j < n
  | .tie i j => i < n ∧ j < n ∧ i ≠ j
  | .sign i j => i < n ∧ j < n ∧ i ≠ j
  | .cross i j => i < n ∧ j < n ∧ i ≠ j
theorem wt_pos (n j : Nat) : 0 < wt n j := Nat.pow_pos (by decide)
theorem wt_two {n j : Nat} (h : j < n) : 2 ^ n = wt n j * 2 ^ (j + 1) := by
  unfold wt
  rw [← Nat.pow_add]; congr 1; omega
theorem wt_le {n j : Nat} (h : j < n) : 2 * wt n j ≤ 2 ^ n := by
  unfold wt
  rw [show 2 * 2 ^ (n - 1 - j) = 2 ^ (n - 1 - j + 1) by rw [Nat.pow_succ, Nat.mul_comm]]
  exact Nat.pow_le_pow_right (by decide) (by omega)
theorem bit_lt (w p : Nat) : bit w p < 2 := Nat.mod_lt _ (by decide)
/-- p = (2 q + bit) w + rest -/
theorem bit_split (w p : Nat) (hw : 0 < w) : ∃ q r, p = (2 * q + bit w p) * w + r ∧ r < w := by
  refine ⟨p / w / 2, p % w, ?_, Nat.mod_lt _ hw⟩
  unfold bit
  rw [Nat.div_add_mod, Nat.div_add_mod']
theorem bit_of {w q b r : Nat} (hb : b < 2) (hr : r < w) : bit w ((2 * q + b) * w + r) = b := by
  unfold bit
  rw [Nat.mul_comm, Nat.mul_add_div (by omega), Nat.div_eq_of_lt hr]
  omega
theorem bit1_le {w p : Nat} (hw : 0 < w) (h : bit w p = 1) : w ≤ p := by
  obtain ⟨q, r, e, _⟩ := bit_split w p hw
  rw [h] at e
  have : (2 * q + 1) * w = 2 * q * w + w := by rw [Nat.add_mul, Nat.one_mul]
  omega
theorem bit0_lt {n j p : Nat} (hj : j < n) (hp : p < 2 ^ n) (h : bit (wt n j) p = 0) : p + wt n j < 2 ^ n := by
  obtain ⟨q, r, e, hr⟩ := bit_split (wt n j) p (wt_pos n j)
  rw [h] at e
  have h2 := wt_two hj
  have hq : q < 2 ^ j := by
    refine Nat.lt_of_not_le fun z => ?_
    have : 2 * 2 ^ j * wt n j ≤ 2 * q * wt n j := Nat.mul_le_mul_right _ (by omega)
    have e2 : wt n j * 2 ^ (j + 1) = 2 * 2 ^ j * wt n j := by rw [Nat.pow_succ, Nat.mul_comm, Nat.mul_comm (2 ^ j) 2]
    rw [Nat.add_zero] at e
    omega
  have : (2 * q + 2) * wt n j ≤ 2 * 2 ^ j * wt n j := Nat.mul_le_mul_right _ (by omega)
  have e2 : wt n j * 2 ^ (j + 1) = 2 * 2 ^ j * wt n j := by rw [Nat.pow_succ, Nat.mul_comm, Nat.mul_comm (2 ^ j) 2]
  have e3 : (2 * q + 2) * wt n j = 2 * q * wt n j + 2 * wt n j := Nat.add_mul ..
  rw [Nat.add_zero] at e
  omega
theorem flp_lt {n j p : Nat} (hj : j < n) (hp : p < 2 ^ n) : flp (wt n j) p < 2 ^ n := by
  unfold flp
  split
  · exact bit0_lt hj hp (by assumption)
  · omega
theorem from_lt {n p : Nat} {r : Row} (hr : r.ok n) (hp : p < 2 ^ n) : from_ n r p < 2 ^ n := by
  cases r with
  | flip j => exact flp_lt hr hp
  | tie i j => show (if _ then _ else _) < _; split; exact hp; exact flp_lt hr.2.1 hp
  | cross i j => show (if _ then _ else _) < _; split; exact hp; exact flp_lt hr.2.1 (flp_lt hr.1 hp)
  | _ => exact hp
theorem flp_div {w p : Nat} (hw : 0 < w) : flp w p / (2 * w) = p / (2 * w) := by
  obtain ⟨q, r, e, hr⟩ := bit_split w p hw
  have h2 := bit_lt w p
  have e1 : (2 * q + bit w p) * w = 2 * w * q + bit w p * w := by rw [Nat.add_mul, Nat.mul_right_comm]
  have one : ∀ x, x < 2 * w → (2 * w * q + x) / (2 * w) = q := fun x hx => by rw [Nat.mul_add_div (by omega), Nat.div_eq_of_lt hx, Nat.add_zero]
  unfold flp
  split
  · rename_i h
    rw [h] at e e1
    have a := one (r + w) (by omega)
    have b := one r (by omega)
    rw [show p + w = 2 * w * q + (r + w) by omega, a, show p = 2 * w * q + r by omega, b]
  · rename_i h
    have h1 : bit w p = 1 := by omega
    rw [h1] at e e1
    have a := one (r + w) (by omega)
    have b := one r (by omega)
    rw [show p - w = 2 * w * q + r by omega, b, show p = 2 * w * q + (r + w) by omega, a]
theorem bit_shift (x p m : Nat) (hx : 0 < x) : bit x (p + 2 * x * m) = bit x p := by
  unfold bit
  rw [show p + 2 * x * m = p + x * (2 * m) by rw [Nat.mul_comm 2 x, Nat.mul_assoc], Nat.add_mul_div_left _ _ hx]
  omega
/-- the other bits stay -/
theorem bit_flp {n i j p : Nat} (hi : i < n) (hj : j < n) (hij : i ≠ j) : bit (wt n j) (flp (wt n i) p) = bit (wt n j) p := by
  have hw := wt_pos n i
  by_cases h : j < i
  · -- the flipped bit is worth less
    have e : wt n j = 2 * wt n i * 2 ^ (i - j - 1) := by
      unfold wt
      rw [show 2 * 2 ^ (n - 1 - i) = 2 ^ (n - 1 - i + 1) by rw [Nat.pow_succ, Nat.mul_comm], ← Nat.pow_add]
      congr 1; omega
    unfold bit
    rw [e, ← Nat.div_div_eq_div_mul (flp (wt n i) p) (2 * wt n i), ← Nat.div_div_eq_div_mul p (2 * wt n i), flp_div hw]
  · have e : wt n i = 2 * wt n j * 2 ^ (j - i - 1) := by
      unfold wt
      rw [show 2 * 2 ^ (n - 1 - j) = 2 ^ (n - 1 - j + 1) by rw [Nat.pow_succ, Nat.mul_comm], ← Nat.pow_add]
      congr 1; omega
    unfold flp
    split
    · rw [e]; exact bit_shift _ _ _ (wt_pos n j)
    · rename_i hb
      have h2 := bit_lt (wt n i) p
      have := bit1_le (w := wt n i) (p := p) hw (by omega)
      have := bit_shift (wt n j) (p - wt n i) (2 ^ (j - i - 1)) (wt_pos n j)
      rw [← this, ← e, Nat.sub_add_cancel (by assumption)]
theorem bit_flp_same {w p : Nat} (hw : 0 < w) : bit w (flp w p) = 1 - bit w p := by
  obtain ⟨q, r, e, hr⟩ := bit_split w p hw
  have h2 := bit_lt w p
  unfold flp
  split
  · rename_i h
    rw [h] at e
    rw [h, show p + w = (2 * q + 1) * w + r by rw [Nat.add_mul] at e ⊢; omega]
    exact bit_of (by decide) hr
  · rename_i h
    have h1 : bit w p = 1 := by omega
    rw [h1] at e
    rw [h1, show p - w = (2 * q + 0) * w + r by rw [Nat.add_mul] at e ⊢; omega]
    exact bit_of (by decide) hr
theorem flp_flp {w p : Nat} (hw : 0 < w) : flp w (flp w p) = p := by
  have h := bit_flp_same (p := p) hw
  have h2 := bit_lt w p
  by_cases c : bit w p = 0
  · have e : flp w p = p + w := if_pos c
    rw [c] at h
    rw [e] at h ⊢
    unfold flp
    rw [if_neg (by omega)]; omega
  · have c1 : bit w p = 1 := by omega
    have e : flp w p = p - w := if_neg c
    have := bit1_le hw c1
    rw [c1] at h
    rw [e] at h ⊢
    unfold flp
    rw [if_pos (by omega)]; omega
/-! ### bits of a whole number -/
theorem band (a b : Nat) : Builtin.bitAnd (a : Int) (b : Int) = ((a &&& b : Nat) : Int) := by
  unfold Builtin.bitAnd
  simp
theorem and_or_nat : ∀ (k a b : Nat), a < 2 ^ k → b < 2 ^ k → (a ||| b) = (a ^^^ b) + (a &&& b)
  | 0, a, b, ha, hb => by
    have : a = 0 := by simpa using ha
    have : b = 0 := by simpa using hb
    subst a; subst b; rfl
  | k + 1, a, b, ha, hb => by
    have ih := and_or_nat k (a / 2) (b / 2) (by rw [Nat.pow_succ] at ha; omega) (by rw [Nat.pow_succ] at hb; omega)
    have h1 := @Nat.or_div_two a b
    have h2 := @Nat.xor_div_two a b
    have h3 := @Nat.and_div_two a b
    have m1 := @Nat.or_mod_two_eq_one a b
    have m2 := @Nat.xor_mod_two_eq_one a b
    have m3 := @Nat.and_mod_two_eq_one a b
    rw [← h1, ← h2, ← h3] at ih
    omega
theorem bor (a b : Nat) : Builtin.bitOr (a : Int) (b : Int) = ((a ||| b : Nat) : Int) := by
  have h1 : ¬ (0 : Int) ≤ Builtin.bitNot (a : Int) := by unfold Builtin.bitNot; omega
  have h2 : ¬ (0 : Int) ≤ Builtin.bitNot (b : Int) := by unfold Builtin.bitNot; omega
  have e1 : (Builtin.bitNot (Builtin.bitNot (a : Int))).toNat = a := by unfold Builtin.bitNot; omega
  have e2 : (Builtin.bitNot (Builtin.bitNot (b : Int))).toNat = b := by unfold Builtin.bitNot; omega
  unfold Builtin.bitOr Builtin.bitAnd
  rw [decide_eq_false h1, decide_eq_false h2]
  dsimp only
  rw [e1, e2]
  unfold Builtin.bitNot
  omega
theorem bxor (a b : Nat) : Builtin.bitXor (a : Int) (b : Int) = ((a ^^^ b : Nat) : Int) := by
  unfold Builtin.bitXor
  rw [bor, band]
  have h : ∀ n : Nat, n < 2 ^ n := fun n => Nat.lt_two_pow_self
  have := and_or_nat (max a b) a b (Nat.lt_of_lt_of_le (h a) (Nat.pow_le_pow_right (by decide) (by omega))) (Nat.lt_of_lt_of_le (h b) (Nat.pow_le_pow_right (by decide) (by omega)))
  omega
/-- how many bits are 1 -/
def cnt (n : Nat) : Nat := if n = 0 then 0 else n % 2 + cnt (n / 2)
termination_by n
decreasing_by omega
theorem cnt_zero : cnt 0 = 0 := by unfold cnt; simp
theorem cnt_step (n : Nat) : cnt n = n % 2 + cnt (n / 2) := by
  by_cases h : n = 0
  · subst h; simp [cnt_zero]
  · rw [cnt, if_neg h]
theorem cnt_le : ∀ (k n : Nat), n < 2 ^ k → cnt n ≤ k
  | 0, n, h => by
    have : n = 0 := by simpa using h
    subst this; rw [cnt_zero]; omega
  | k + 1, n, h => by
    have := cnt_le k (n / 2) (by rw [Nat.pow_succ] at h; omega)
    rw [cnt_step]; omega
theorem cnt_xor_k : ∀ (k a b : Nat), a < 2 ^ k → b < 2 ^ k → cnt (a ^^^ b) % 2 = (cnt a + cnt b) % 2
  | 0, a, b, ha, hb => by
    have : a = 0 := by simpa using ha
    have : b = 0 := by simpa using hb
    subst a; subst b; simp [cnt_zero]
  | k + 1, a, b, ha, hb => by
    have ih := cnt_xor_k k (a / 2) (b / 2) (by rw [Nat.pow_succ] at ha; omega) (by rw [Nat.pow_succ] at hb; omega)
    have h2 := @Nat.xor_div_two a b
    have m2 := @Nat.xor_mod_two_eq_one a b
    rw [cnt_step (a ^^^ b), cnt_step a, cnt_step b, h2]
    omega
theorem lt_pow_both (a b : Nat) : ∃ k, a < 2 ^ k ∧ b < 2 ^ k := by
  have h : ∀ n : Nat, n < 2 ^ n := fun n => Nat.lt_two_pow_self
  exact ⟨max a b, Nat.lt_of_lt_of_le (h a) (Nat.pow_le_pow_right (by decide) (by omega)), Nat.lt_of_lt_of_le (h b) (Nat.pow_le_pow_right (by decide) (by omega))⟩
theorem cnt_xor (a b : Nat) : cnt (a ^^^ b) % 2 = (cnt a + cnt b) % 2 := by
  obtain ⟨k, h1, h2⟩ := lt_pow_both a b
  exact cnt_xor_k k a b h1 h2
theorem cnt_clear : ∀ (k n : Nat), n < 2 ^ k → n ≠ 0 → cnt (n &&& (n - 1)) + 1 = cnt n
  | 0, n, h, h0 => by
    have : n = 0 := by simpa using h
    exact absurd this h0
  | k + 1, n, h, h0 => by
    have h3 := @Nat.and_div_two n (n - 1)
    have m3 := @Nat.and_mod_two_eq_one n (n - 1)
    rw [cnt_step (n &&& (n - 1)), cnt_step n, h3]
    by_cases o : n % 2 = 1
    · have e : (n - 1) / 2 = n / 2 := by omega
      rw [e, Nat.and_self]
      omega
    · have ih := cnt_clear k (n / 2) (by rw [Nat.pow_succ] at h; omega) (by omega)
      have e : (n - 1) / 2 = n / 2 - 1 := by omega
      rw [e]
      omega
/-- is an odd number of bits 1? -/
def par (n : Nat) : Nat := cnt n % 2
theorem par_lt (n : Nat) : par n < 2 := Nat.mod_lt _ (by decide)
theorem par_xor (a b : Nat) : par (a ^^^ b) = (par a + par b) % 2 := by
  unfold par
  rw [cnt_xor]; omega
theorem par_zero : par 0 = 0 := by unfold par; rw [cnt_zero]
theorem par64 {n : Nat} (h : n < 64) : par n = (n % 2 + n / 2 % 2 + n / 4 % 2 + n / 8 % 2 + n / 16 % 2 + n / 32 % 2) % 2 := by
  unfold par
  rw [cnt_step n, cnt_step (n / 2), cnt_step (n / 2 / 2), cnt_step (n / 2 / 2 / 2), cnt_step (n / 2 / 2 / 2 / 2), cnt_step (n / 2 / 2 / 2 / 2 / 2), show n / 2 / 2 / 2 / 2 / 2 / 2 = 0 by omega, cnt_zero]
  simp only [Nat.div_div_eq_div_mul]
  omega
/-! ### words -/
structure Wd where
  x : Nat
  z : Nat
  s : Nat
def Wd.ok (n : Nat) (w : Wd) : Prop := w.x < 2 ^ n ∧ w.z < 2 ^ n ∧ w.s < 4
def wtimes (u v : Wd) : Wd := ⟨u.x ^^^ v.x, u.z ^^^ v.z, (u.s + v.s + 2 * par (u.z &&& v.x)) % 4⟩
theorem wtimes_ok {n : Nat} {u v : Wd} (hu : u.ok n) (hv : v.ok n) : (wtimes u v).ok n := ⟨Nat.xor_lt_two_pow hu.1 hv.1, Nat.xor_lt_two_pow hu.2.1 hv.2.1, Nat.mod_lt _ (by decide)⟩
/-! ### shapes: == of a thing with itself -/
def Sh (k : Nat) (d : PyData) : Prop := d.canLay0 = true ∧ d.depth ≤ k
theorem Sh.int (k : Nat) (i : Int) : Sh k (.int i) := ⟨by simp [PyData.canLay0], by simp [PyData.depth]⟩
theorem Sh.all {k : Nat} : ∀ (xs : List PyData), (∀ x ∈ xs, Sh k x) → PyData.canLayAll0 xs = true ∧ PyData.depthAll xs ≤ k
  | [], _ => ⟨by simp [PyData.canLayAll0], by simp [PyData.depthAll]⟩
  | x :: xs, h => by
    obtain ⟨a, b⟩ := Sh.all xs fun y hy => h y (List.mem_cons_of_mem _ hy)
    obtain ⟨c, d⟩ := h x List.mem_cons_self
    refine ⟨by simp [PyData.canLayAll0, a, c], ?_⟩
    simp only [PyData.depthAll]
    omega
theorem Sh.tuple {k : Nat} {xs : List PyData} (h : ∀ x ∈ xs, Sh k x) : Sh (k + 1) (.tuple xs) := by
  obtain ⟨a, b⟩ := Sh.all xs h
  exact ⟨by simp [PyData.canLay0, a], by simp only [PyData.depth]; omega⟩
theorem Sh.list {k : Nat} {xs : List PyData} (h : ∀ x ∈ xs, Sh k x) : Sh (k + 1) (.list xs) := by
  obtain ⟨a, b⟩ := Sh.all xs h
  exact ⟨by simp [PyData.canLay0, a], by simp only [PyData.depth]; omega⟩
mutual
theorem eqv_self : ∀ d : PyData, d.canLay0 = true → PyData.eqv d d = true
  | .none, _ => by simp [PyData.eqv]
  | .bool _, _ => by simp [PyData.eqv]
  | .int _, _ => by simp [PyData.eqv]
  | .str _, _ => by simp [PyData.eqv]
  | .list xs, h => by
    simp only [PyData.eqv]
    exact eqvAll_self xs (by simpa [PyData.canLay0] using h)
  | .tuple xs, h => by
    simp only [PyData.eqv]
    exact eqvAll_self xs (by simpa [PyData.canLay0] using h)
  | .dict _, h => by simp [PyData.canLay0] at h
theorem eqvAll_self : ∀ xs : List PyData, PyData.canLayAll0 xs = true → PyData.eqvAll xs xs = true
  | [], _ => by simp [PyData.eqvAll]
  | x :: xs, h => by
    have h' : x.canLay0 = true ∧ PyData.canLayAll0 xs = true := by simpa [PyData.canLayAll0] using h
    simp only [PyData.eqvAll, eqv_self x h'.1, eqvAll_self xs h'.2, Bool.and_self]
end
/-! ### all numbers over one great r**M -/
def val (M : Nat) (u : Nu) : Q4 := Q4.rtn (M - u.2) u.1
theorem num_rtn (x : Q4) (k M : Nat) (h : k ≤ M) : Q4.rtn (M - (num x k).2.toNat) (num x k).1 = Q4.rtn (M - k) x := by
  obtain ⟨s1, s2, s3⟩ := num_spec x k (by omega)
  have h0 := s1.1
  have e : M - (num x (k : Int)).2.toNat = (M - k) + ((k : Int) - (num x (k : Int)).2).toNat := by omega
  rw [e, Q4.rtn_add, s3]
theorem val_turn (M e : Nat) (u : Nu) : val M (turnN e u) = tnn (e % 8) (val M u) := by
  unfold val turnN
  rw [tnn_rtn]
theorem val_plus {M : Nat} {u v : Nu} (hu : u.2 ≤ M) (hv : v.2 ≤ M) : val M (plusN u v) = Q4.add (val M u) (val M v) := by
  unfold val plusN plusQ
  have hk : max (u.2 : Int) v.2 = ((max u.2 v.2 : Nat) : Int) := by omega
  rw [hk]
  simp only
  rw [num_rtn _ _ M (by omega), Q4.rtn_addQ, ← Q4.rtn_add, ← Q4.rtn_add]
  congr 2 <;> congr 1 <;> omega
theorem val_half {M : Nat} {u : Nu} (hu : u.2 + 1 ≤ M) : Q4.rt (val M (halfN u)) = val M u := by
  unfold val halfN
  rw [num_rtn _ _ M hu, ← Q4.rtn_succ]
  congr 1
  omega
theorem val_neg (M : Nat) (u : Nu) : val M (turnN 4 u) = Q4.neg (val M u) := by
  rw [val_turn]
  show Q4.tn (Q4.tn (Q4.tn (Q4.tn (val M u)))) = _
  unfold Q4.tn Q4.neg
  rfl
def LeastN (u : Nu) : Prop := Q4.Least u.1 u.2
theorem val_inj {M : Nat} {u v : Nu} (hu : LeastN u) (hv : LeastN v) (h1 : u.2 ≤ M) (h2 : v.2 ≤ M) (h : val M u = val M v) : u = v := by
  obtain ⟨a, b⟩ := Q4.Least.one hu hv h1 h2 h
  exact Prod.ext a b
theorem num_least (x : Q4) (k : Nat) : LeastN ((num x k).1, (num x k).2.toNat) := by
  obtain ⟨s1, s2, s3⟩ := num_spec x k (by omega)
  show Q4.Least (num x k).1 ((num x k).2.toNat : Int)
  rw [Int.toNat_of_nonneg s1.1]; exact s1
theorem plus_least (u v : Nu) : LeastN (plusN u v) := by
  have hk : max (u.2 : Int) v.2 = ((max u.2 v.2 : Nat) : Int) := by omega
  unfold plusN plusQ
  rw [hk]
  exact num_least _ _
theorem half_least (u : Nu) : LeastN (halfN u) := num_least _ _
theorem turn_least {u : Nu} (e : Nat) (h : LeastN u) : LeastN (turnN e u) := tnn_least _ h
theorem done_least {f : Nat → Nu} (h : ∀ p, LeastN (f p)) (n : Nat) (r : Row) (p : Nat) : LeastN (doneAt n f r p) := by
  cases r with
  | swing j =>
    show LeastN (if bit (wt n j) p = 0 then _ else _)
    split <;> exact half_least _
  | turn j e => exact turn_least _ (h p)
  | sign i j => exact turn_least _ (h p)
  | flip j => exact h _
  | tie i j => exact h _
  | cross i j => exact h _
/-! ### sums over places -/
def sumI : Nat → (Nat → Int) → Int
  | 0, _ => 0
  | n + 1, F => sumI n F + F n
theorem sumI_congr {F G : Nat → Int} : ∀ (n : Nat), (∀ p, p < n → F p = G p) → sumI n F = sumI n G
  | 0, _ => rfl
  | n + 1, h => by
    show sumI n F + F n = sumI n G + G n
    rw [sumI_congr n fun p hp => h p (by omega), h n (by omega)]
theorem sumI_add (F G : Nat → Int) : ∀ n : Nat, sumI n (fun p => F p + G p) = sumI n F + sumI n G
  | 0 => rfl
  | n + 1 => by
    show sumI n _ + (F n + G n) = sumI n F + F n + (sumI n G + G n)
    rw [sumI_add F G n]; omega
theorem sumI_split (F : Nat → Int) (a : Nat) : ∀ b : Nat, sumI (a + b) F = sumI a F + sumI b (fun r => F (a + r))
  | 0 => by show sumI a F = sumI a F + 0; omega
  | b + 1 => by
    show sumI (a + b) F + F (a + b) = _ + (sumI b _ + F (a + b))
    rw [sumI_split F a b]; omega
theorem sumI_mul (F : Nat → Int) (b : Nat) : ∀ a : Nat, sumI (a * b) F = sumI a (fun q => sumI b (fun r => F (q * b + r)))
  | 0 => by rw [Nat.zero_mul]; rfl
  | a + 1 => by
    rw [Nat.succ_mul, sumI_split, sumI_mul F b a]; rfl
theorem sum_pair {n j : Nat} (hj : j < n) {F G : Nat → Int} (h : ∀ p, p < 2 ^ n → bit (wt n j) p = 0 → G p + G (p + wt n j) = F p + F (p + wt n j)) : sumI (2 ^ n) G = sumI (2 ^ n) F := by
  have hw := wt_pos n j
  have e : 2 ^ n = 2 ^ j * (wt n j + wt n j) := by
    rw [wt_two hj, Nat.pow_succ, Nat.mul_comm, Nat.mul_assoc, Nat.mul_comm 2, Nat.mul_two]
  have two : ∀ H : Nat → Int, sumI (2 ^ n) H = sumI (2 ^ j) (fun q => sumI (wt n j) (fun r => H (q * (wt n j + wt n j) + r) + H (q * (wt n j + wt n j) + r + wt n j))) := fun H => by
    rw [e, sumI_mul]
    refine sumI_congr _ fun q _ => ?_
    rw [sumI_split, ← sumI_add]
    refine sumI_congr _ fun r _ => ?_
    rw [← Nat.add_assoc, Nat.add_right_comm]
  rw [two G, two F]
  refine sumI_congr _ fun q hq => sumI_congr _ fun r hr => ?_
  have e2 : q * (wt n j + wt n j) + r = (2 * q + 0) * wt n j + r := by
    rw [Nat.add_zero, Nat.mul_add, ← Nat.add_mul, ← Nat.two_mul]
  have hb : bit (wt n j) (q * (wt n j + wt n j) + r) = 0 := by rw [e2]; exact bit_of (by decide) hr
  have hl : q * (wt n j + wt n j) + r < 2 ^ n := by
    have : (q + 1) * (wt n j + wt n j) ≤ 2 ^ j * (wt n j + wt n j) := Nat.mul_le_mul_right _ hq
    rw [Nat.succ_mul] at this
    omega
  exact h _ hl hb
/-- a flip where some condition that does not see the bit holds -/
theorem sum_flip {n j : Nat} (hj : j < n) (c : Nat → Bool) (hc : ∀ p, c (flp (wt n j) p) = c p) (F : Nat → Int) : sumI (2 ^ n) (fun p => F (if c p = true then flp (wt n j) p else p)) = sumI (2 ^ n) F := by
  refine sum_pair hj fun p hp hb => ?_
  have e : flp (wt n j) p = p + wt n j := if_pos hb
  have hc := hc p
  rw [e] at hc
  have hw := wt_pos n j
  have e2 : flp (wt n j) (p + wt n j) = p := by rw [← e]; exact flp_flp hw
  rw [hc, e, e2]
  by_cases h : c p = true
  · rw [if_pos h, if_pos h]; omega
  · rw [if_neg h, if_neg h]
theorem sum_tie {n i j : Nat} (hi : i < n) (hj : j < n) (hij : i ≠ j) (F : Nat → Int) : sumI (2 ^ n) (fun p => F (from_ n (.tie i j) p)) = sumI (2 ^ n) F := by
  have := sum_flip hj (fun p => !(bit (wt n i) p == 0)) (fun p => by rw [bit_flp hj hi (Ne.symm hij)]) F
  rw [← this]
  refine sumI_congr _ fun p _ => ?_
  show F (if bit (wt n i) p = 0 then p else flp (wt n j) p) = _
  by_cases h : bit (wt n i) p = 0 <;> simp [h]
theorem flpZ {w p : Nat} (hw : 0 < w) : ((flp w p : Nat) : Int) = (p : Int) + w - 2 * ((w * bit w p : Nat) : Int) := by
  have h2 := bit_lt w p
  unfold flp
  by_cases h : bit w p = 0
  · rw [if_pos h, h]; omega
  · have h1 : bit w p = 1 := by omega
    have := bit1_le hw h1
    rw [if_neg h, h1]; omega
theorem flp_comm {n i j p : Nat} (hi : i < n) (hj : j < n) (hij : i ≠ j) : flp (wt n j) (flp (wt n i) p) = flp (wt n i) (flp (wt n j) p) := by
  have a := flpZ (p := flp (wt n i) p) (wt_pos n j)
  have b := flpZ (p := flp (wt n j) p) (wt_pos n i)
  rw [bit_flp hi hj hij, flpZ (wt_pos n i)] at a
  rw [bit_flp hj hi (Ne.symm hij), flpZ (wt_pos n j)] at b
  omega
theorem sum_cross {n i j : Nat} (hi : i < n) (hj : j < n) (hij : i ≠ j) (F : Nat → Int) : sumI (2 ^ n) (fun p => F (from_ n (.cross i j) p)) = sumI (2 ^ n) F := by
  have h1 := sum_tie hi hj hij (fun p => F (from_ n (.tie i j) (from_ n (.tie j i) p)))
  have h2 := sum_tie hj hi (Ne.symm hij) (fun p => F (from_ n (.tie i j) p))
  have h3 := sum_tie hi hj hij F
  rw [← h3, ← h2, ← h1]
  refine sumI_congr _ fun p _ => ?_
  have hwi := wt_pos n i
  have hwj := wt_pos n j
  have a1 := bit_lt (wt n i) p
  have a2 := bit_lt (wt n j) p
  have f1 := bit_flp (p := p) hj hi (Ne.symm hij)
  have f2 := bit_flp_same (p := p) hwj
  have f3 := bit_flp (p := p) hi hj hij
  have f4 := bit_flp_same (p := p) hwi
  congr 1
  show (if bit (wt n i) p = bit (wt n j) p then p else flp (wt n j) (flp (wt n i) p)) = _
  have b1 : bit (wt n i) p = 0 ∨ bit (wt n i) p = 1 := by omega
  have b2 : bit (wt n j) p = 0 ∨ bit (wt n j) p = 1 := by omega
  have comm : flp (wt n j) (flp (wt n i) p) = flp (wt n i) (flp (wt n j) p) := flp_comm hi hj hij
  have on : ∀ {i j p : Nat}, bit (wt n i) p = 1 → from_ n (.tie i j) p = flp (wt n j) p := fun {i j p} h => by
    show (if bit (wt n i) p = 0 then p else flp (wt n j) p) = _
    rw [h]; rfl
  have off : ∀ {i j p : Nat}, bit (wt n i) p = 0 → from_ n (.tie i j) p = p := fun {i j p} h => if_pos h
  rcases b1 with b1 | b1 <;> rcases b2 with b2 | b2
  · rw [if_pos (by rw [b1, b2]), off b1, off b2, off b1]
  · rw [if_neg (by rw [b1, b2]; decide), off b1, on b2, on (by rw [f4, b1])]
  · rw [if_neg (by rw [b1, b2]; decide), on b1, on (i := j) (by rw [f2, b2]), off (by rw [bit_flp_same hwi, f1, b1]), comm]
  · rw [if_pos (by rw [b1, b2]), on b1, off (i := j) (by rw [f2, b2]), on (by rw [f1, b1]), flp_flp hwj]
theorem plusN_le' (u v : Nu) : (plusN u v).2 ≤ max u.2 v.2 := by
  have hk : max (u.2 : Int) v.2 = ((max u.2 v.2 : Nat) : Int) := by omega
  unfold plusN plusQ
  rw [hk]
  obtain ⟨s1, s2, s3⟩ := num_spec (Q4.add (Q4.rtn (((max u.2 v.2 : Nat) : Int) - u.2).toNat u.1) (Q4.rtn (((max u.2 v.2 : Nat) : Int) - v.2).toNat v.1)) ((max u.2 v.2 : Nat) : Int) (by omega)
  show (num _ _).2.toNat ≤ _
  omega
/-! ### the whole and the inner number stay -/
theorem nrm_pair {x y s t : Q4} (h1 : Q4.rt x = Q4.add s t) (h2 : Q4.rt y = Q4.add s (Q4.neg t)) : S2.add (nrm x) (nrm y) = S2.add (nrm s) (nrm t) := by
  apply S2.sc_inj (n := 1)
  rw [S2.sc_addS, ← nrm_rt, ← nrm_rt, h1, h2, nrm_two]
  apply S2.ext' <;> simp only [S2.add, S2.sc] <;> omega
def nsum (M n : Nat) (f : Nat → Nu) : S2 := ⟨sumI (2 ^ n) (fun p => (nrm (val M (f p))).p), sumI (2 ^ n) (fun p => (nrm (val M (f p))).q)⟩
/-- what a plain row does to a sum over places: F of the new state's place -/
theorem sum_done {n M : Nat} (r : Row) (hr : r.ok n) (f : Nat → Nu) (hf : ∀ p, (f p).2 + 1 ≤ M) (F : Q4 → Int) (ht : ∀ e x, F (tnn e x) = F x) (hp : ∀ x y s t, Q4.rt x = Q4.add s t → Q4.rt y = Q4.add s (Q4.neg t) → F x + F y = F s + F t) : sumI (2 ^ n) (fun p => F (val M (doneAt n f r p))) = sumI (2 ^ n) (fun p => F (val M (f p))) := by
  cases r with
  | swing j =>
    refine sum_pair hr fun p hp' hb => ?_
    have hw := wt_pos n j
    have hb1 : bit (wt n j) (p + wt n j) = 1 := by
      have := bit_flp_same (p := p) hw
      rw [show flp (wt n j) p = p + wt n j from if_pos hb, hb] at this
      exact this
    have e1 : doneAt n f (.swing j) p = halfN (plusN (f p) (f (p + wt n j))) := if_pos hb
    have e2 : doneAt n f (.swing j) (p + wt n j) = halfN (plusN (f (p + wt n j - wt n j)) (turnN 4 (f (p + wt n j)))) := if_neg (by rw [hb1]; decide)
    rw [Nat.add_sub_cancel] at e2
    rw [e1, e2]
    have a := hf p
    have b := hf (p + wt n j)
    have l1 : (plusN (f p) (f (p + wt n j))).2 ≤ max (f p).2 (f (p + wt n j)).2 := plusN_le' _ _
    have l2 : (plusN (f p) (turnN 4 (f (p + wt n j)))).2 ≤ max (f p).2 (f (p + wt n j)).2 := plusN_le' _ _
    refine hp _ _ _ _ ?_ ?_
    · rw [val_half (by omega), val_plus (by omega) (by omega)]
    · rw [val_half (by omega), val_plus (by omega) (by show (f (p + wt n j)).2 ≤ M; omega), val_neg]
  | turn j e => exact sumI_congr _ fun p _ => by show F (val M (turnN _ (f p))) = _; rw [val_turn, ht]
  | sign i j => exact sumI_congr _ fun p _ => by show F (val M (turnN _ (f p))) = _; rw [val_turn, ht]
  | flip j =>
    have := sum_flip hr (fun _ => true) (fun _ => rfl) (fun p => F (val M (f p)))
    exact this
  | tie i j => exact sum_tie hr.1 hr.2.1 hr.2.2 (fun p => F (val M (f p)))
  | cross i j => exact sum_cross hr.1 hr.2.1 hr.2.2 (fun p => F (val M (f p)))
theorem nsum_done {n M : Nat} (r : Row) (hr : r.ok n) (f : Nat → Nu) (hf : ∀ p, (f p).2 + 1 ≤ M) : nsum M n (doneAt n f r) = nsum M n f := by
  apply S2.ext'
  · exact sum_done r hr f hf (fun x => (nrm x).p) (fun e x => by rw [nrm_tnn]) fun x y s t h1 h2 => by
      have := congrArg S2.p (nrm_pair h1 h2); exact this
  · exact sum_done r hr f hf (fun x => (nrm x).q) (fun e x => by rw [nrm_tnn]) fun x y s t h1 h2 => by
      have := congrArg S2.q (nrm_pair h1 h2); exact this
/-! ### inner numbers -/
def sumQ (N : Nat) (F : Nat → Q4) : Q4 := ⟨sumI N (fun p => (F p).a), sumI N (fun p => (F p).b), sumI N (fun p => (F p).c), sumI N (fun p => (F p).d)⟩
theorem sumQ_succ (N : Nat) (F : Nat → Q4) : sumQ (N + 1) F = Q4.add (sumQ N F) (F N) := rfl
theorem sumQ_congr {F G : Nat → Q4} (N : Nat) (h : ∀ p, p < N → F p = G p) : sumQ N F = sumQ N G := by
  apply Q4.ext'
  · exact sumI_congr N fun p hp => by rw [h p hp]
  · exact sumI_congr N fun p hp => by rw [h p hp]
  · exact sumI_congr N fun p hp => by rw [h p hp]
  · exact sumI_congr N fun p hp => by rw [h p hp]
theorem sumQ_mir (F : Nat → Q4) : ∀ N : Nat, Q4.mir (sumQ N F) = sumQ N (fun p => Q4.mir (F p))
  | 0 => by apply Q4.ext' <;> rfl
  | N + 1 => by rw [sumQ_succ, Q4.mir_add, sumQ_mir F N]; rfl
theorem sum_done2 {n M : Nat} (r : Row) (hr : r.ok n) (f g : Nat → Nu) (hf : ∀ p, (f p).2 + 1 ≤ M) (hg : ∀ p, (g p).2 + 1 ≤ M) (F : Q4 → Q4 → Int) (ht : ∀ e x y, F (tnn e x) (tnn e y) = F x y)
    (hp : ∀ x y s t x' y' s' t', Q4.rt x = Q4.add s t → Q4.rt y = Q4.add s (Q4.neg t) → Q4.rt x' = Q4.add s' t' → Q4.rt y' = Q4.add s' (Q4.neg t') → F x x' + F y y' = F s s' + F t t') : sumI (2 ^ n) (fun p => F (val M (doneAt n f r p)) (val M (doneAt n g r p))) = sumI (2 ^ n) (fun p => F (val M (f p)) (val M (g p))) := by
  cases r with
  | swing j =>
    refine sum_pair hr fun p hp' hb => ?_
    have hw := wt_pos n j
    have hb1 : bit (wt n j) (p + wt n j) = 1 := by
      have := bit_flp_same (p := p) hw
      rw [show flp (wt n j) p = p + wt n j from if_pos hb, hb] at this
      exact this
    have e1 : ∀ f : Nat → Nu, doneAt n f (.swing j) p = halfN (plusN (f p) (f (p + wt n j))) := fun f => if_pos hb
    have e2 : ∀ f : Nat → Nu, doneAt n f (.swing j) (p + wt n j) = halfN (plusN (f p) (turnN 4 (f (p + wt n j)))) := fun f => by
      have : doneAt n f (.swing j) (p + wt n j) = halfN (plusN (f (p + wt n j - wt n j)) (turnN 4 (f (p + wt n j)))) := if_neg (by rw [hb1]; decide)
      rw [Nat.add_sub_cancel] at this
      exact this
    rw [e1, e2, e1, e2]
    have k1 : ∀ f : Nat → Nu, (∀ p, (f p).2 + 1 ≤ M) → Q4.rt (val M (halfN (plusN (f p) (f (p + wt n j))))) = Q4.add (val M (f p)) (val M (f (p + wt n j))) := fun f hf => by
      have a := hf p
      have b := hf (p + wt n j)
      have l1 := plusN_le' (f p) (f (p + wt n j))
      rw [val_half (by omega), val_plus (by omega) (by omega)]
    have k2 : ∀ f : Nat → Nu, (∀ p, (f p).2 + 1 ≤ M) → Q4.rt (val M (halfN (plusN (f p) (turnN 4 (f (p + wt n j)))))) = Q4.add (val M (f p)) (Q4.neg (val M (f (p + wt n j)))) := fun f hf => by
      have a := hf p
      have b := hf (p + wt n j)
      have l2 : (plusN (f p) (turnN 4 (f (p + wt n j)))).2 ≤ max (f p).2 (f (p + wt n j)).2 := plusN_le' _ _
      rw [val_half (by omega), val_plus (by omega) (by show (f (p + wt n j)).2 ≤ M; omega), val_neg]
    exact hp _ _ _ _ _ _ _ _ (k1 f hf) (k2 f hf) (k1 g hg) (k2 g hg)
  | turn j e => exact sumI_congr _ fun p _ => by show F (val M (turnN _ (f p))) (val M (turnN _ (g p))) = _; rw [val_turn, val_turn, ht]
  | sign i j => exact sumI_congr _ fun p _ => by show F (val M (turnN _ (f p))) (val M (turnN _ (g p))) = _; rw [val_turn, val_turn, ht]
  | flip j => exact sum_flip hr (fun _ => true) (fun _ => rfl) (fun p => F (val M (f p)) (val M (g p)))
  | tie i j => exact sum_tie hr.1 hr.2.1 hr.2.2 (fun p => F (val M (f p)) (val M (g p)))
  | cross i j => exact sum_cross hr.1 hr.2.1 hr.2.2 (fun p => F (val M (f p)) (val M (g p)))
theorem mir_tn (x y : Q4) : Q4.mul (Q4.mir (Q4.tn x)) (Q4.tn y) = Q4.mul (Q4.mir x) y := by apply Q4.ext' <;> simp only [Q4.mul, Q4.mir, Q4.tn] <;> grind
theorem mir_tnn (x y : Q4) : ∀ e : Nat, Q4.mul (Q4.mir (tnn e x)) (tnn e y) = Q4.mul (Q4.mir x) y
  | 0 => rfl
  | e + 1 => by
    have := mir_tnn (Q4.tn x) (Q4.tn y) e
    rw [mir_tn] at this
    have e1 : ∀ z, tnn (e + 1) z = tnn e (Q4.tn z) := fun z => by rw [tnn_add e 1 z]; rfl
    rw [e1, e1]; exact this
theorem rt2_mul (x y : Q4) : Q4.rt (Q4.rt (Q4.mul x y)) = Q4.mul (Q4.rt x) (Q4.rt y) := by
  rw [Q4.rt_mul, Q4.mul_comm, Q4.rt_mul, Q4.mul_comm]
theorem mul_two (s t s' t' : Q4) : Q4.add (Q4.mul (Q4.mir (Q4.add s t)) (Q4.add s' t')) (Q4.mul (Q4.mir (Q4.add s (Q4.neg t))) (Q4.add s' (Q4.neg t'))) = Q4.dbl 2 (Q4.add (Q4.mul (Q4.mir s) s') (Q4.mul (Q4.mir t) t')) := by
  apply Q4.ext' <;> simp only [Q4.mul, Q4.mir, Q4.add, Q4.neg, Q4.dbl] <;> grind
theorem inner_pair {x y s t x' y' s' t' : Q4} (h1 : Q4.rt x = Q4.add s t) (h2 : Q4.rt y = Q4.add s (Q4.neg t)) (h3 : Q4.rt x' = Q4.add s' t') (h4 : Q4.rt y' = Q4.add s' (Q4.neg t')) : Q4.add (Q4.mul (Q4.mir x) x') (Q4.mul (Q4.mir y) y') = Q4.add (Q4.mul (Q4.mir s) s') (Q4.mul (Q4.mir t) t') := by
  apply Q4.rt_inj
  apply Q4.rt_inj
  rw [Q4.rt_add, Q4.rt_add, rt2_mul, rt2_mul, ← Q4.mir_rt, ← Q4.mir_rt, h1, h2, h3, h4, mul_two, Q4.rt_rt]
def isum (M n : Nat) (f g : Nat → Nu) : Q4 := sumQ (2 ^ n) (fun p => Q4.mul (Q4.mir (val M (f p))) (val M (g p)))
theorem isum_done {n M : Nat} (r : Row) (hr : r.ok n) (f g : Nat → Nu) (hf : ∀ p, (f p).2 + 1 ≤ M) (hg : ∀ p, (g p).2 + 1 ≤ M) : isum M n (doneAt n f r) (doneAt n g r) = isum M n f g := by
  apply Q4.ext'
  · exact sum_done2 r hr f g hf hg (fun x y => (Q4.mul (Q4.mir x) y).a) (fun e x y => by rw [mir_tnn]) fun x y s t x' y' s' t' h1 h2 h3 h4 => congrArg Q4.a (inner_pair h1 h2 h3 h4)
  · exact sum_done2 r hr f g hf hg (fun x y => (Q4.mul (Q4.mir x) y).b) (fun e x y => by rw [mir_tnn]) fun x y s t x' y' s' t' h1 h2 h3 h4 => congrArg Q4.b (inner_pair h1 h2 h3 h4)
  · exact sum_done2 r hr f g hf hg (fun x y => (Q4.mul (Q4.mir x) y).c) (fun e x y => by rw [mir_tnn]) fun x y s t x' y' s' t' h1 h2 h3 h4 => congrArg Q4.c (inner_pair h1 h2 h3 h4)
  · exact sum_done2 r hr f g hf hg (fun x y => (Q4.mul (Q4.mir x) y).d) (fun e x y => by rw [mir_tnn]) fun x y s t x' y' s' t' h1 h2 h3 h4 => congrArg Q4.d (inner_pair h1 h2 h3 h4)
theorem isum_mir (M n : Nat) (f g : Nat → Nu) : isum M n g f = Q4.mir (isum M n f g) := by
  unfold isum
  rw [sumQ_mir]
  refine sumQ_congr _ fun p _ => ?_
  rw [Q4.mir_mul, Q4.mir_mir, Q4.mul_comm]
def timesN (u v : Nu) : Nu := ((timesQ u.1 u.2 v.1 v.2).1, (timesQ u.1 u.2 v.1 v.2).2.toNat)
def mirN (u : Nu) : Nu := (Q4.mir u.1, u.2)
theorem times_cast (u v : Nu) : (u.2 : Int) + v.2 = ((u.2 + v.2 : Nat) : Int) := by omega
theorem times_least (u v : Nu) : LeastN (timesN u v) := by
  unfold timesN timesQ
  rw [times_cast]
  exact num_least _ _
theorem mirN_least {u : Nu} (h : LeastN u) : LeastN (mirN u) := mir_least h
theorem timesN_le (u v : Nu) : (timesN u v).2 ≤ u.2 + v.2 := by
  unfold timesN timesQ
  rw [times_cast]
  obtain ⟨s1, s2, s3⟩ := num_spec (Q4.mul u.1 v.1) ((u.2 + v.2 : Nat) : Int) (by omega)
  show (num _ _).2.toNat ≤ _
  omega
theorem val_times {M N : Nat} {u v : Nu} (hu : u.2 ≤ M) (hv : v.2 ≤ N) : val (M + N) (timesN u v) = Q4.mul (val M u) (val N v) := by
  unfold val timesN timesQ
  rw [times_cast]
  simp only
  rw [num_rtn _ _ (M + N) (by omega), show M + N - (u.2 + v.2) = (M - u.2) + (N - v.2) by omega, Q4.rtn_mul2]
theorem val_mir (M : Nat) (u : Nu) : val M (mirN u) = Q4.mir (val M u) := by
  unfold val mirN
  rw [← Q4.mir_rtn]
/-- the inner number of the first i places -/
def innN (f g : Nat → Nu) : Nat → Nu
  | 0 => (⟨0, 0, 0, 0⟩, 0)
  | i + 1 => plusN (innN f g i) (timesN (mirN (f i)) (g i))
theorem innN_le {f g : Nat → Nu} {k : Nat} (hf : ∀ p, (f p).2 ≤ k) (hg : ∀ p, (g p).2 ≤ k) : ∀ i, (innN f g i).2 ≤ 2 * k
  | 0 => Nat.zero_le _
  | i + 1 => by
    have a := plusN_le' (innN f g i) (timesN (mirN (f i)) (g i))
    have b := timesN_le (mirN (f i)) (g i)
    have c : (mirN (f i)).2 = (f i).2 := rfl
    have := innN_le hf hg i
    have := hf i
    have := hg i
    show (plusN _ _).2 ≤ _
    omega
theorem innN_least {f g : Nat → Nu} : ∀ i, LeastN (innN f g i)
  | 0 => ⟨Int.le_refl 0, fun z => absurd z (Int.lt_irrefl 0)⟩
  | i + 1 => plus_least _ _
theorem rtn_zero : ∀ k, Q4.rtn k ⟨0, 0, 0, 0⟩ = ⟨0, 0, 0, 0⟩
  | 0 => rfl
  | k + 1 => by rw [Q4.rtn_succ, rtn_zero k]; rfl
theorem val_innN {f g : Nat → Nu} {M : Nat} (hf : ∀ p, (f p).2 ≤ M) (hg : ∀ p, (g p).2 ≤ M) : ∀ i, val (M + M) (innN f g i) = sumQ i (fun p => Q4.mul (Q4.mir (val M (f p))) (val M (g p)))
  | 0 => rtn_zero _
  | i + 1 => by
    have a := innN_le hf hg i
    have b := timesN_le (mirN (f i)) (g i)
    have c : (mirN (f i)).2 = (f i).2 := rfl
    have d := hf i
    have e := hg i
    show val (M + M) (plusN _ _) = _
    rw [val_plus (by omega) (by omega), val_innN hf hg i, val_times (M := M) (N := M) (by omega) (hg i), val_mir]
    rfl
theorem innN_Le {f g : Nat → Nu} {k p : Nat} (hf : ∀ q, (f q).2 ≤ k ∧ Q4.Le (2 ^ p) (f q).1) (hg : ∀ q, (g q).2 ≤ k ∧ Q4.Le (2 ^ p) (g q).1) : ∀ i, Q4.Le (2 ^ (2 * p + 2 + (2 * k + 1) * i)) (innN f g i).1
  | 0 => ⟨Nat.zero_le _, Nat.zero_le _, Nat.zero_le _, Nat.zero_le _⟩
  | i + 1 => by
    have ih := innN_Le hf hg i
    have t : Q4.Le (2 ^ (p + p + 2)) (timesN (mirN (f i)) (g i)).1 := timesQ_le (mir_le (hf i).2) (hg i).2
    have a := innN_le (fun q => (hf q).1) (fun q => (hg q).1) i
    have b := timesN_le (mirN (f i)) (g i)
    have c : (mirN (f i)).2 = (f i).2 := rfl
    have d := (hf i).1
    have e := (hg i).1
    have := plusQ_le (r := 2 * k) ih (t.mono (Nat.pow_le_pow_right (by decide) (show p + p + 2 ≤ 2 * p + 2 + (2 * k + 1) * i by omega))) a (show (timesN (mirN (f i)) (g i)).2 ≤ 2 * k by omega)
    show Q4.Le _ (plusQ _ _ _ _).1
    refine this.mono (Nat.pow_le_pow_right (by decide) ?_)
    rw [Nat.mul_succ]; omega
/-! ### columns: the state of a sum is the sum of the states -/
theorem sumQ_rt (F : Nat → Q4) : ∀ N : Nat, Q4.rt (sumQ N F) = sumQ N (fun p => Q4.rt (F p))
  | 0 => by apply Q4.ext' <;> rfl
  | N + 1 => by rw [sumQ_succ, Q4.rt_add, sumQ_rt F N]; rfl
theorem tn_add (x y : Q4) : Q4.tn (Q4.add x y) = Q4.add (Q4.tn x) (Q4.tn y) := by apply Q4.ext' <;> simp only [Q4.tn, Q4.add] <;> omega
theorem tnn_addQ (e : Nat) : ∀ (x y : Q4), tnn e (Q4.add x y) = Q4.add (tnn e x) (tnn e y) := by
  induction e with
  | zero => intro x y; rfl
  | succ e ih =>
    intro x y
    have e1 : ∀ z, tnn (e + 1) z = tnn e (Q4.tn z) := fun z => by rw [tnn_add e 1 z]; rfl
    rw [e1, e1, e1, tn_add, ih]
theorem tnn_zero (e : Nat) : tnn e ⟨0, 0, 0, 0⟩ = ⟨0, 0, 0, 0⟩ := by
  induction e with
  | zero => rfl
  | succ e ih =>
    have e1 : ∀ z, tnn (e + 1) z = tnn e (Q4.tn z) := fun z => by rw [tnn_add e 1 z]; rfl
    rw [e1]
    exact ih
theorem sumQ_tnn (e : Nat) (F : Nat → Q4) : ∀ N : Nat, tnn e (sumQ N F) = sumQ N (fun p => tnn e (F p))
  | 0 => tnn_zero e
  | N + 1 => by rw [sumQ_succ, tnn_addQ, sumQ_tnn e F N]; rfl
theorem sumQ_add (F G : Nat → Q4) (N : Nat) : sumQ N (fun p => Q4.add (F p) (G p)) = Q4.add (sumQ N F) (sumQ N G) := by
  apply Q4.ext'
  · exact sumI_add (fun p => (F p).a) (fun p => (G p).a) N
  · exact sumI_add (fun p => (F p).b) (fun p => (G p).b) N
  · exact sumI_add (fun p => (F p).c) (fun p => (G p).c) N
  · exact sumI_add (fun p => (F p).d) (fun p => (G p).d) N
theorem val_swing {n M j : Nat} {f : Nat → Nu} (hf : ∀ p, (f p).2 + 1 ≤ M) (x : Nat) : Q4.rt (val M (doneAt n f (.swing j) x)) = if bit (wt n j) x = 0 then Q4.add (val M (f x)) (val M (f (x + wt n j))) else Q4.add (val M (f (x - wt n j))) (tnn 4 (val M (f x))) := by
  show Q4.rt (val M (if bit (wt n j) x = 0 then halfN (plusN (f x) (f (x + wt n j))) else halfN (plusN (f (x - wt n j)) (turnN 4 (f x))))) = _
  split
  · have a := hf x
    have b := hf (x + wt n j)
    have l := plusN_le' (f x) (f (x + wt n j))
    rw [val_half (by omega), val_plus (by omega) (by omega)]
  · have a := hf x
    have b := hf (x - wt n j)
    have l : (plusN (f (x - wt n j)) (turnN 4 (f x))).2 ≤ max (f (x - wt n j)).2 (f x).2 := plusN_le' _ _
    rw [val_half (by omega), val_plus (by omega) (by show (f x).2 ≤ M; omega), val_turn]
/-- g is the sum of the c p, each times a p -/
def Sup (N M K : Nat) (a : Nat → Q4) (c : Nat → Nat → Nu) (g : Nat → Nu) : Prop := ∀ x, val N (g x) = sumQ K (fun p => Q4.mul (a p) (val M (c p x)))
theorem Sup.done {n N M K : Nat} {a : Nat → Q4} {c : Nat → Nat → Nu} {g : Nat → Nu} (h : Sup N M K a c g) (hg : ∀ p, (g p).2 + 1 ≤ N) (hc : ∀ p x, (c p x).2 + 1 ≤ M) (r : Row) : Sup N M K a (fun p => doneAt n (c p) r) (doneAt n g r) := by
  have tm : ∀ (e : Nat) (x : Nat), val N (turnN e (g x)) = sumQ K (fun p => Q4.mul (a p) (val M (turnN e (c p x)))) := fun e x => by
    rw [val_turn, h x, sumQ_tnn]
    refine sumQ_congr _ fun p _ => ?_
    rw [tnn_mul, val_turn]
  intro x
  cases r with
  | swing j =>
    apply Q4.rt_inj
    rw [val_swing hg x, sumQ_rt]
    have e : ∀ p, Q4.rt (Q4.mul (a p) (val M (doneAt n (c p) (.swing j) x))) = Q4.mul (a p) (if bit (wt n j) x = 0 then Q4.add (val M (c p x)) (val M (c p (x + wt n j))) else Q4.add (val M (c p (x - wt n j))) (tnn 4 (val M (c p x)))) := fun p => by
      rw [← val_swing (hc p) x, Q4.mul_comm, Q4.rt_mul, Q4.mul_comm]
    simp only [e]
    split
    · rw [h x, h (x + wt n j), ← sumQ_add]
      exact sumQ_congr _ fun p _ => by rw [Q4.mul_add]
    · rw [h x, h (x - wt n j), sumQ_tnn, ← sumQ_add]
      exact sumQ_congr _ fun p _ => by rw [Q4.mul_add, tnn_mul]
  | turn j e => exact tm _ x
  | sign i j => exact tm _ x
  | flip j => exact h _
  | tie i j => exact h _
  | cross i j => exact h _
/-- one at p, nought elsewhere -/
def oneAt (p : Nat) : Nat → Nu := fun q => if q = p then (⟨1, 0, 0, 0⟩, 0) else (⟨0, 0, 0, 0⟩, 0)
theorem sumQ_one {F : Nat → Q4} {x : Nat} (hF : ∀ p, p ≠ x → F p = ⟨0, 0, 0, 0⟩) : ∀ N : Nat, sumQ N F = if x < N then F x else ⟨0, 0, 0, 0⟩
  | 0 => by rw [if_neg (by omega)]; apply Q4.ext' <;> rfl
  | N + 1 => by
    rw [sumQ_succ, sumQ_one hF N]
    by_cases h : x < N
    · rw [if_pos h, if_pos (by omega), hF N (by omega)]
      apply Q4.ext' <;> simp [Q4.add]
    · by_cases h2 : x = N
      · subst h2
        rw [if_neg h, if_pos (by omega)]
        apply Q4.ext' <;> simp [Q4.add]
      · rw [if_neg h, if_neg (by omega), hF N (Ne.symm h2)]
        apply Q4.ext' <;> simp [Q4.add]
theorem mul_zero' (x : Q4) : Q4.mul x ⟨0, 0, 0, 0⟩ = ⟨0, 0, 0, 0⟩ := by apply Q4.ext' <;> simp [Q4.mul]
theorem mul_one' (x : Q4) : Q4.mul x ⟨1, 0, 0, 0⟩ = x := by apply Q4.ext' <;> simp [Q4.mul]
theorem val_zero (M : Nat) : val M (⟨0, 0, 0, 0⟩, 0) = ⟨0, 0, 0, 0⟩ := rtn_zero _
theorem Sup.start {n M : Nat} (s : Nat → Nu) (hs : ∀ p, (s p).2 ≤ M) (hz : ∀ p, 2 ^ n ≤ p → s p = (⟨0, 0, 0, 0⟩, 0)) : Sup (M + M) M (2 ^ n) (fun p => val M (s p)) oneAt s := by
  intro x
  have hF : ∀ p, p ≠ x → Q4.mul (val M (s p)) (val M (oneAt p x)) = ⟨0, 0, 0, 0⟩ := fun p hp => by
    unfold oneAt
    rw [if_neg (Ne.symm hp), val_zero, mul_zero']
  rw [sumQ_one hF]
  by_cases h : x < 2 ^ n
  · rw [if_pos h]
    unfold oneAt
    rw [if_pos rfl]
    unfold val
    have := hs x
    show Q4.rtn (M + M - (s x).2) (s x).1 = Q4.mul (Q4.rtn (M - (s x).2) (s x).1) (Q4.rtn (M - 0) ⟨1, 0, 0, 0⟩)
    rw [← Q4.rtn_mul2, mul_one']
    congr 1
    omega
  · rw [if_neg h, hz x (by omega), val_zero]
theorem one_least (p x : Nat) : LeastN (oneAt p x) := by
  unfold oneAt
  split
  · exact ⟨Int.le_refl 0, fun z => absurd z (Int.lt_irrefl 0)⟩
  · exact ⟨Int.le_refl 0, fun z => absurd z (Int.lt_irrefl 0)⟩
theorem mirN_mirN (u : Nu) : mirN (mirN u) = u := by
  unfold mirN
  simp only [Q4.mir_mir]
theorem isum_one {M n p q : Nat} (hp : p < 2 ^ n) : isum M n (oneAt p) (oneAt q) = if p = q then Q4.rtn (M + M) ⟨1, 0, 0, 0⟩ else ⟨0, 0, 0, 0⟩ := by
  have hF : ∀ x, x ≠ p → Q4.mul (Q4.mir (val M (oneAt p x))) (val M (oneAt q x)) = ⟨0, 0, 0, 0⟩ := fun x hx => by
    have : oneAt p x = (⟨0, 0, 0, 0⟩, 0) := if_neg hx
    rw [this, val_zero, show Q4.mir ⟨0, 0, 0, 0⟩ = ⟨0, 0, 0, 0⟩ from rfl, Q4.mul_comm, mul_zero']
  unfold isum
  rw [sumQ_one hF, if_pos hp]
  have e1 : oneAt p p = (⟨1, 0, 0, 0⟩, 0) := if_pos rfl
  rw [e1]
  by_cases h : p = q
  · subst h
    rw [e1, if_pos rfl]
    show Q4.mul (Q4.mir (Q4.rtn (M - 0) ⟨1, 0, 0, 0⟩)) (Q4.rtn (M - 0) ⟨1, 0, 0, 0⟩) = _
    rw [Q4.mir_rtn, ← Q4.rtn_mul2]
    rfl
  · have : oneAt q p = (⟨0, 0, 0, 0⟩, 0) := if_neg h
    rw [this, val_zero, mul_zero', if_neg h]

end MA
namespace GN
open PySem L2 VL
def top (i : Nat) : Stmt := PySem.Challenge.pw_wavewires_k68_looks_put_off.main.body.getD i (.Pass ⟨0, 0, 0, 0⟩)
def tt_WaveError : List (Str × Bool) := [("TooGreat", true)]
def tt_HasLooks : List (Str × Bool) := [("TooGreat", false)]
def tt_OddTurn : List (Str × Bool) := [("TooGreat", false)]
def tt_UnlikeWires : List (Str × Bool) := [("TooGreat", false)]
def tt_TooGreat : List (Str × Bool) := [("TooGreat", true)]
def tt_ValueError : List (Str × Bool) := [("TooGreat", true)]
def hs_WaveError : List Str := ["TooGreat"]
abbrev s_looks_in : Stmt := top 9
abbrev N_looks_in : List Str := ["circuit"]
def p1_looks_in : Dv → Option D := oCompI (oI (o2 (oV 0) (oC (.int 1)) ixD) itsD) [] bv1 (ob (o2 (o2 (oV 0) (oC (.int 0)) ixD) (oC (.str "look")) eqD)) (oV 0)
def b_looks_in : Sf := sRet (os (oCons (p1_looks_in) (oNil)) lenD)
def g_looks_in : List D → Option D := runB N_looks_in 1 b_looks_in
abbrev s_where_put_off : Stmt := top 11
abbrev N_where_put_off : List Str := ["row", "wires", "kind"]
def b_where_put_off : Sf := sSeq (sSet 2 (oIf (ob (o2 (o2 (o2 (oV 0) (oC (.int 2)) ixD) (oC (.int 0)) ixD) (oC (.str "flip")) eqD)) (oC (.str "tie")) (oC (.str "sign")))) (sRet (os (oCons (oV 2) (oCons (o2 (oV 1) (o2 (oV 0) (oC (.int 1)) ixD) addD) (oCons (o2 (o2 (oV 0) (oC (.int 2)) ixD) (oC (.int 1)) ixD) (oNil)))) tupD))
def g_where_put_off : List D → Option D := runB N_where_put_off 2 b_where_put_off
abbrev s_rows_put_off : Stmt := top 12
abbrev N_rows_put_off : List Str := ["rows", "wires", "told", "mark", "row"]
def l1_rows_put_off : Sf := sIf (ob (o2 (o2 (oV 4) (oC (.int 0)) ixD) (oC (.str "look")) eqD)) (sSeq (sApp 2 (os (oCons (oC (.str "tie")) (oCons (o2 (oV 4) (oC (.int 1)) ixD) (oCons (o2 (oV 1) (oV 3) addD) (oNil)))) tupD)) (sSet 3 (o2 (oV 3) (oC (.int 1)) addD))) (sIf (ob (o2 (o2 (oV 4) (oC (.int 0)) ixD) (oC (.str "where")) eqD)) (sApp 2 (os (oCons (oV 4) (oCons (oV 1) (oNil))) g_where_put_off)) (sApp 2 (oV 4)))
def b_rows_put_off : Sf := sSeq (sOwn 2 (oNil)) (sSeq (sSet 3 (oC (.int 0))) (sSeq (sFor (oI (oV 0) itsD) (gN 4) (l1_rows_put_off)) (fun δ => (sRet (oV 2)) (dFz 2 δ))))
def g_rows_put_off : List D → Option D := runB N_rows_put_off 2 b_rows_put_off
abbrev s_put_off : Stmt := top 13
abbrev N_put_off : List Str := ["circuit", "wires", "looks", "behind_all"]
def p1_put_off : Dv → Option D := oComp (oL (oCons (oV 2) (oNil)) rng1D) [(1, "wires")] bv1 (os (oCons (oC (.str "look")) (oCons (o2 (oV 1) (oV 0) addD) (oNil))) tupD)
def b_put_off : Sf := sSeq (sSet 1 (o2 (oV 0) (oC (.int 0)) ixD)) (sSeq (sSet 2 (os (oCons (oV 0) (oNil)) g_looks_in)) (sSeq (sIf (oOr (ob (o2 (o2 (oV 1) (oV 2) addD) (oC (.int 6)) gtD)) (ob (o2 (o2 (os (oCons (o2 (oV 0) (oC (.int 1)) ixD) (oNil)) lenD) (oV 2) addD) (oC (.int 60)) gtD))) (sNo) (sNx)) (sSeq (sSet 3 (p1_put_off)) (sRet (os (oCons (o2 (oV 1) (oV 2) addD) (oCons (os (oCons (o2 (os (oCons (o2 (oV 0) (oC (.int 1)) ixD) (oCons (oV 1) (oNil))) g_rows_put_off) (oV 3) addD) (oNil)) tupleD) (oNil))) tupD)))))
def g_put_off : List D → Option D := runB N_put_off 1 b_put_off
def bx_put_off : Xf := xSeq (sSet 1 (o2 (oV 0) (oC (.int 0)) ixD)) (xSeq (sSet 2 (os (oCons (oV 0) (oNil)) g_looks_in)) (xIf (oOr (ob (o2 (o2 (oV 1) (oV 2) addD) (oC (.int 6)) gtD)) (ob (o2 (o2 (os (oCons (o2 (oV 0) (oC (.int 1)) ixD) (oNil)) lenD) (oV 2) addD) (oC (.int 60)) gtD))) (xRaise "TooGreat" (oC (.str "there would be too many wires or rows"))) (xNo)))
def x_put_off : List D → Option Str := runX N_put_off 1 bx_put_off
abbrev s__law_cell_at : Stmt := top 15
abbrev N__law_cell_at : List Str := ["script", "k"]
def b__law_cell_at : Sf := sSeq (sIf (ob (o2 (oV 1) (os (oCons (oV 0) (oNil)) lenD) ltD)) (sRet (o2 (oV 0) (oV 1) ixD)) (sNx)) (sRet (oC (.int 0)))
def g__law_cell_at : List D → Option D := runB N__law_cell_at 2 b__law_cell_at
abbrev s__law_row : Stmt := top 16
abbrev N__law_row : List Str := ["cell", "wires", "kind", "j", "i"]
def b__law_row : Sf := sSeq (sSet 2 (o2 (oV 0) (oC (.int 6)) modD)) (sSeq (sSet 3 (o2 (o2 (oV 0) (oC (.int 6)) divD) (oV 1) modD)) (sSeq (sIf (oAnd (ob (o2 (oV 1) (oC (.int 1)) eqD)) (ob (o2 (oV 2) (oC (.int 2)) gtD))) (sSet 2 (o2 (oV 2) (oC (.int 2)) modD)) (sNx)) (sSeq (sIf (ob (o2 (oV 2) (oC (.int 1)) eqD)) (sRet (os (oCons (oC (.str "turn")) (oCons (oV 3) (oCons (o2 (oC (.int 1)) (o2 (o2 (oV 0) (oC (.int 18)) divD) (oC (.int 7)) modD) addD) (oNil)))) tupD)) (sNx)) (sSeq (sIf (oOr (ob (o2 (oV 2) (oC (.int 0)) eqD)) (ob (o2 (oV 2) (oC (.int 2)) eqD))) (sRet (os (oCons (o2 (os (oCons (oC (.str "swing")) (oCons (oC (.str "")) (oCons (oC (.str "flip")) (oNil)))) lstD) (oV 2) ixD) (oCons (oV 3) (oNil))) tupD)) (sNx)) (sSeq (sSet 4 (o2 (o2 (o2 (oV 3) (oC (.int 1)) addD) (o2 (o2 (oV 0) (oC (.int 18)) divD) (o2 (oV 1) (oC (.int 1)) subD) modD) addD) (oV 1) modD)) (sRet (os (oCons (o2 (os (oCons (oC (.str "tie")) (oCons (oC (.str "sign")) (oCons (oC (.str "cross")) (oNil)))) lstD) (o2 (oV 2) (oC (.int 3)) subD) ixD) (oCons (oV 4) (oCons (oV 3) (oNil)))) tupD)))))))
def g__law_row : List D → Option D := runB N__law_row 2 b__law_row
abbrev s__law_rows : Stmt := top 17
abbrev N__law_rows : List Str := ["cells", "wires", "most", "rows", "looks", "cell", "kind", "rest", "inner_row"]
def l1__law_rows : Sf := sSeq (sSet 6 (o2 (oV 5) (oC (.int 5)) modD)) (sSeq (sSet 7 (o2 (oV 5) (oC (.int 5)) divD)) (sIf (oAnd (ob (o2 (oV 6) (oC (.int 3)) eqD)) (ob (o2 (oV 4) (oV 2) ltD))) (sSeq (sApp 3 (os (oCons (oC (.str "look")) (oCons (o2 (oV 7) (oV 1) modD) (oNil))) tupD)) (sSet 4 (o2 (oV 4) (oC (.int 1)) addD))) (sIf (oAnd (ob (o2 (oV 6) (oC (.int 4)) eqD)) (ob (o2 (oV 4) (oC (.int 0)) gtD))) (sSeq (sSet 8 (o2 (os (oCons (os (oCons (oC (.str "flip")) (oCons (o2 (o2 (oV 7) (oC (.int 2)) divD) (oV 1) modD) (oNil))) tupD) (oCons (os (oCons (oC (.str "turn")) (oCons (o2 (o2 (oV 7) (oC (.int 2)) divD) (oV 1) modD) (oCons (oC (.int 4)) (oNil)))) tupD) (oNil))) lstD) (o2 (oV 7) (oC (.int 2)) modD) ixD)) (sApp 3 (os (oCons (oC (.str "where")) (oCons (o2 (o2 (oV 7) (oC (.int 6)) divD) (oV 4) modD) (oCons (oV 8) (oNil)))) tupD))) (sApp 3 (os (oCons (oV 7) (oCons (oV 1) (oNil))) g__law_row)))))
def b__law_rows : Sf := sSeq (sOwn 3 (oNil)) (sSeq (sSet 4 (oC (.int 0))) (sSeq (sFor (oI (oV 0) itsD) (gN 5) (l1__law_rows)) (fun δ => (sRet (os (oCons (oV 3) (oNil)) tupleD)) (dFz 3 δ))))
def g__law_rows : List D → Option D := runB N__law_rows 3 b__law_rows
abbrev s__law_looks : Stmt := top 18
abbrev N__law_looks : List Str := ["rows"]
def p1__law_looks : Dv → Option D := oCompI (oI (oV 0) itsD) [] bv1 (ob (o2 (o2 (oV 0) (oC (.int 0)) ixD) (oC (.str "look")) eqD)) (oV 0)
def b__law_looks : Sf := sRet (os (oCons (p1__law_looks) (oNil)) lenD)
def g__law_looks : List D → Option D := runB N__law_looks 1 b__law_looks
abbrev s__law_due : Stmt := top 19
abbrev N__law_due : List Str := ["wires", "rows", "made", "mark", "row"]
def p1__law_due : Dv → Option D := oComp (oL (oCons (oV 3) (oNil)) rng1D) [(0, "wires")] bv1 (os (oCons (oC (.str "look")) (oCons (o2 (oV 1) (oV 0) addD) (oNil))) tupD)
def l1__law_due : Sf := sIf (ob (o2 (o2 (oV 4) (oC (.int 0)) ixD) (oC (.str "look")) eqD)) (sSeq (sApp 2 (os (oCons (oC (.str "tie")) (oCons (o2 (oV 4) (oC (.int 1)) ixD) (oCons (o2 (oV 0) (oV 3) addD) (oNil)))) tupD)) (sSet 3 (o2 (oV 3) (oC (.int 1)) addD))) (sIf (oAnd (ob (o2 (o2 (oV 4) (oC (.int 0)) ixD) (oC (.str "where")) eqD)) (ob (o2 (o2 (o2 (oV 4) (oC (.int 2)) ixD) (oC (.int 0)) ixD) (oC (.str "flip")) eqD))) (sApp 2 (os (oCons (oC (.str "tie")) (oCons (o2 (oV 0) (o2 (oV 4) (oC (.int 1)) ixD) addD) (oCons (o2 (o2 (oV 4) (oC (.int 2)) ixD) (oC (.int 1)) ixD) (oNil)))) tupD)) (sIf (ob (o2 (o2 (oV 4) (oC (.int 0)) ixD) (oC (.str "where")) eqD)) (sApp 2 (os (oCons (oC (.str "sign")) (oCons (o2 (oV 0) (o2 (oV 4) (oC (.int 1)) ixD) addD) (oCons (o2 (o2 (oV 4) (oC (.int 2)) ixD) (oC (.int 1)) ixD) (oNil)))) tupD)) (sApp 2 (oV 4))))
def b__law_due : Sf := sSeq (sOwn 2 (oNil)) (sSeq (sSet 3 (oC (.int 0))) (sSeq (sFor (oI (oV 1) itsD) (gN 4) (l1__law_due)) (fun δ => (sRet (os (oCons (o2 (oV 0) (oV 3) addD) (oCons (os (oCons (o2 (oV 2) (p1__law_due) addD) (oNil)) tupleD) (oNil))) tupD)) (dFz 2 δ))))
def g__law_due : List D → Option D := runB N__law_due 2 b__law_due
abbrev s__law_kinds : Stmt := top 20
abbrev N__law_kinds : List Str := ["found", "row", "part"]
def l1__law_kinds : Sf := sIf (oOr (oNot (ob (o1 (oV 2) (isiD "int")))) (ob (o1 (oV 2) (isiD "bool")))) (sRet (oC (.bool false))) (sNx)
def l2__law_kinds : Sf := sSeq (sIf (oNot (ob (o1 (oV 1) (isiD "tuple")))) (sRet (oC (.bool false))) (sNx)) (sFor (oI (oSl (oV 1) (oP (oC (.int 1))) (oNo)) itsD) (gN 2) (l1__law_kinds))
def b__law_kinds : Sf := sSeq (sIf (oOr (oNot (ob (o1 (oV 0) (isiD "tuple")))) (oOr (ob (o2 (os (oCons (oV 0) (oNil)) lenD) (oC (.int 2)) neD)) (oOr (oNot (ob (o1 (o2 (oV 0) (oC (.int 1)) ixD) (isiD "tuple")))) (ob (o1 (o2 (oV 0) (oC (.int 0)) ixD) (isiD "bool")))))) (sRet (oC (.bool false))) (sNx)) (sSeq (sFor (oI (o2 (oV 0) (oC (.int 1)) ixD) itsD) (gN 1) (l2__law_kinds)) (sRet (oC (.bool true))))
def g__law_kinds : List D → Option D := runB N__law_kinds 1 b__law_kinds
abbrev s_law : Stmt := top 21
abbrev N_law : List Str := ["script", "head", "wires", "rows", "looks", "found", "caught", "e", "others"]
def b_law : Sf := sSeq (sSet 1 (os (oCons (oV 0) (oCons (oC (.int 0)) (oNil))) g__law_cell_at)) (sSeq (sSet 2 (o2 (oC (.int 1)) (o2 (oV 1) (oC (.int 6)) modD) addD)) (sSeq (sSet 3 (os (oCons (oSl (oV 0) (oP (oC (.int 1))) (oP (oC (.int 61)))) (oCons (oV 2) (oCons (o2 (o2 (oV 1) (oC (.int 6)) divD) (oC (.int 7)) modD) (oNil)))) g__law_rows)) (sSeq (sSet 4 (os (oCons (oV 3) (oNil)) g__law_looks)) (sSeq (sSet 5 (oC .none)) (sSeq (sSet 6 (oC .none)) (sSeq (sTry 7 hs_WaveError (sSet 5 (os (oCons (os (oCons (oV 2) (oCons (oV 3) (oNil))) tupD) (oNil)) g_put_off)) (xE (osX (oCons (os (oCons (oV 2) (oCons (oV 3) (oNil))) tupD) (oNil)) x_put_off)) (sSet 6 (oV 7))) (sSeq (sIf (oOr (ob (o2 (o2 (oV 2) (oV 4) addD) (oC (.int 6)) gtD)) (ob (o2 (o2 (os (oCons (oV 3) (oNil)) lenD) (oV 4) addD) (oC (.int 60)) gtD))) (sSeq (sSet 8 (oOrV (o1 (oV 6) (isxD tt_HasLooks)) (oOrV (o1 (oV 6) (isxD tt_OddTurn)) (o1 (oV 6) (isxD tt_UnlikeWires))))) (sRet (oAndV (o1 (oV 6) (isxD tt_TooGreat)) (oAndV (o1 (oV 6) (isxD tt_ValueError)) (o1 (oV 8) notD))))) (sNx)) (sRet (oAndV (o2 (oV 6) (oC .none) isD) (oAndV (os (oCons (oV 5) (oNil)) g__law_kinds) (o2 (oV 5) (os (oCons (oV 2) (oCons (oV 3) (oNil))) g__law_due) eqD)))))))))))
def g_law : List D → Option D := runB N_law 1 b_law

open MA (Row)
/-- any row -/
inductive Rw where
  | pl (r : Row) | look (j : Nat) | wflip (m j : Nat) | wsign (m j : Nat)
def rowD : Row → D
  | .swing j => .tuple [.str "swing", .int j]
  | .turn j e => .tuple [.str "turn", .int j, .int e]
  | .flip j => .tuple [.str "flip", .int j]
  | .tie i j => .tuple [.str "tie", .int i, .int j]
  | .sign i j => .tuple [.str "sign", .int i, .int j]
  | .cross i j => .tuple [.str "cross", .int i, .int j]
def rwD : Rw → D
  | .pl r => rowD r
  | .look j => .tuple [.str "look", .int j]
  | .wflip m j => .tuple [.str "where", .int m, .tuple [.str "flip", .int j]]
  | .wsign m j => .tuple [.str "where", .int m, .tuple [.str "turn", .int j, .int 4]]
/-- a row of w wires behind l looks -/
def Rw.ok (w l : Nat) : Rw → Prop
  | .pl r => r.ok w
  | .look j => j < w ∧ l < 6
  | .wflip m j => m < l ∧ j < w
  | .wsign m j => m < l ∧ j < w
def Rw.isLook : Rw → Bool
  | .look _ => true
  | _ => false
def Rw.isPl : Rw → Bool
  | .pl _ => true
  | _ => false
/-! ### the words of rows -/
def okS (a : Str) : Bool := shp (.str a)
theorem eqS {a b : Str} (ha : okS a = true) (hb : okS b = true) : eqD (.str a) (.str b) = some (.bool (a == b)) := if_pos ⟨ha, hb⟩
theorem neS {a b : Str} (ha : okS a = true) (hb : okS b = true) : neD (.str a) (.str b) = some (.bool (!(a == b))) := if_pos ⟨ha, hb⟩
theorem ok_w_swing : okS "swing" = true := by decide +kernel
theorem ok_w_turn : okS "turn" = true := by decide +kernel
theorem ok_w_flip : okS "flip" = true := by decide +kernel
theorem ok_w_tie : okS "tie" = true := by decide +kernel
theorem ok_w_sign : okS "sign" = true := by decide +kernel
theorem ok_w_cross : okS "cross" = true := by decide +kernel
theorem ok_w_look : okS "look" = true := by decide +kernel
theorem ok_w_where : okS "where" = true := by decide +kernel
@[simp] theorem kw_swing_swing : eqD (.str "swing") (.str "swing") = some (.bool true) := (eqS ok_w_swing ok_w_swing).trans (congrArg (fun z => some (PyData.bool z)) (show (("swing" : Str) == ("swing" : Str)) = true by decide +kernel))
@[simp] theorem kw_swing_turn : eqD (.str "swing") (.str "turn") = some (.bool false) := (eqS ok_w_swing ok_w_turn).trans (congrArg (fun z => some (PyData.bool z)) (show (("swing" : Str) == ("turn" : Str)) = false by decide +kernel))
@[simp] theorem kw_swing_flip : eqD (.str "swing") (.str "flip") = some (.bool false) := (eqS ok_w_swing ok_w_flip).trans (congrArg (fun z => some (PyData.bool z)) (show (("swing" : Str) == ("flip" : Str)) = false by decide +kernel))
@[simp] theorem kw_swing_tie : eqD (.str "swing") (.str "tie") = some (.bool false) := (eqS ok_w_swing ok_w_tie).trans (congrArg (fun z => some (PyData.bool z)) (show (("swing" : Str) == ("tie" : Str)) = false by decide +kernel))
@[simp] theorem kw_swing_sign : eqD (.str "swing") (.str "sign") = some (.bool false) := (eqS ok_w_swing ok_w_sign).trans (congrArg (fun z => some (PyData.bool z)) (show (("swing" : Str) == ("sign" : Str)) = false by decide +kernel))
@[simp] theorem kw_swing_cross : eqD (.str "swing") (.str "cross") = some (.bool false) := (eqS ok_w_swing ok_w_cross).trans (congrArg (fun z => some (PyData.bool z)) (show (("swing" : Str) == ("cross" : Str)) = false by decide +kernel))
@[simp] theorem kw_swing_look : eqD (.str "swing") (.str "look") = some (.bool false) := (eqS ok_w_swing ok_w_look).trans (congrArg (fun z => some (PyData.bool z)) (show (("swing" : Str) == ("look" : Str)) = false by decide +kernel))
@[simp] theorem kw_swing_where : eqD (.str "swing") (.str "where") = some (.bool false) := (eqS ok_w_swing ok_w_where).trans (congrArg (fun z => some (PyData.bool z)) (show (("swing" : Str) == ("where" : Str)) = false by decide +kernel))
@[simp] theorem kw_turn_swing : eqD (.str "turn") (.str "swing") = some (.bool false) := (eqS ok_w_turn ok_w_swing).trans (congrArg (fun z => some (PyData.bool z)) (show (("turn" : Str) == ("swing" : Str)) = false by decide +kernel))
@[simp] theorem kw_turn_turn : eqD (.str "turn") (.str "turn") = some (.bool true) := (eqS ok_w_turn ok_w_turn).trans (congrArg (fun z => some (PyData.bool z)) (show (("turn" : Str) == ("turn" : Str)) = true by decide +kernel))
@[simp] theorem kw_turn_flip : eqD (.str "turn") (.str "flip") = some (.bool false) := (eqS ok_w_turn ok_w_flip).trans (congrArg (fun z => some (PyData.bool z)) (show (("turn" : Str) == ("flip" : Str)) = false by decide +kernel))
@[simp] theorem kw_turn_tie : eqD (.str "turn") (.str "tie") = some (.bool false) := (eqS ok_w_turn ok_w_tie).trans (congrArg (fun z => some (PyData.bool z)) (show (("turn" : Str) == ("tie" : Str)) = false by decide +kernel))
@[simp] theorem kw_turn_sign : eqD (.str "turn") (.str "sign") = some (.bool false) := (eqS ok_w_turn ok_w_sign).trans (congrArg (fun z => some (PyData.bool z)) (show (("turn" : Str) == ("sign" : Str)) = false by decide +kernel))
@[simp] theorem kw_turn_cross : eqD (.str "turn") (.str "cross") = some (.bool false) := (eqS ok_w_turn ok_w_cross).trans (congrArg (fun z => some (PyData.bool z)) (show (("turn" : Str) == ("cross" : Str)) = false by decide +kernel))
@[simp] theorem kw_turn_look : eqD (.str "turn") (.str "look") = some (.bool false) := (eqS ok_w_turn ok_w_look).trans (congrArg (fun z => some (PyData.bool z)) (show (("turn" : Str) == ("look" : Str)) = false by decide +kernel))
@[simp] theorem kw_turn_where : eqD (.str "turn") (.str "where") = some (.bool false) := (eqS ok_w_turn ok_w_where).trans (congrArg (fun z => some (PyData.bool z)) (show (("turn" : Str) == ("where" : Str)) = false by decide +kernel))
@[simp] theorem kw_flip_swing : eqD (.str "flip") (.str "swing") = some (.bool false) := (eqS ok_w_flip ok_w_swing).trans (congrArg (fun z => some (PyData.bool z)) (show (("flip" : Str) == ("swing" : Str)) = false by decide +kernel))
@[simp] theorem kw_flip_turn : eqD (.str "flip") (.str "turn") = some (.bool false) := (eqS ok_w_flip ok_w_turn).trans (congrArg (fun z => some (PyData.bool z)) (show (("flip" : Str) == ("turn" : Str)) = false by decide +kernel))
@[simp] theorem kw_flip_flip : eqD (.str "flip") (.str "flip") = some (.bool true) := (eqS ok_w_flip ok_w_flip).trans (congrArg (fun z => some (PyData.bool z)) (show (("flip" : Str) == ("flip" : Str)) = true by decide +kernel))
@[simp] theorem kw_flip_tie : eqD (.str "flip") (.str "tie") = some (.bool false) := (eqS ok_w_flip ok_w_tie).trans (congrArg (fun z => some (PyData.bool z)) (show (("flip" : Str) == ("tie" : Str)) = false by decide +kernel))
@[simp] theorem kw_flip_sign : eqD (.str "flip") (.str "sign") = some (.bool false) := (eqS ok_w_flip ok_w_sign).trans (congrArg (fun z => some (PyData.bool z)) (show (("flip" : Str) == ("sign" : Str)) = false by decide +kernel))
@[simp] theorem kw_flip_cross : eqD (.str "flip") (.str "cross") = some (.bool false) := (eqS ok_w_flip ok_w_cross).trans (congrArg (fun z => some (PyData.bool z)) (show (("flip" : Str) == ("cross" : Str)) = false by decide +kernel))
@[simp] theorem kw_flip_look : eqD (.str "flip") (.str "look") = some (.bool false) := (eqS ok_w_flip ok_w_look).trans (congrArg (fun z => some (PyData.bool z)) (show (("flip" : Str) == ("look" : Str)) = false by decide +kernel))
@[simp] theorem kw_flip_where : eqD (.str "flip") (.str "where") = some (.bool false) := (eqS ok_w_flip ok_w_where).trans (congrArg (fun z => some (PyData.bool z)) (show (("flip" : Str) == ("where" : Str)) = false by decide +kernel))
@[simp] theorem kw_tie_swing : eqD (.str "tie") (.str "swing") = some (.bool false) := (eqS ok_w_tie ok_w_swing).trans (congrArg (fun z => some (PyData.bool z)) (show (("tie" : Str) == ("swing" : Str)) = false by decide +kernel))
@[simp] theorem kw_tie_turn : eqD (.str "tie") (.str "turn") = some (.bool false) := (eqS ok_w_tie ok_w_turn).trans (congrArg (fun z => some (PyData.bool z)) (show (("tie" : Str) == ("turn" : Str)) = false by decide +kernel))
@[simp] theorem kw_tie_flip : eqD (.str "tie") (.str "flip") = some (.bool false) := (eqS ok_w_tie ok_w_flip).trans (congrArg (fun z => some (PyData.bool z)) (show (("tie" : Str) == ("flip" : Str)) = false by decide +kernel))
@[simp] theorem kw_tie_tie : eqD (.str "tie") (.str "tie") = some (.bool true) := (eqS ok_w_tie ok_w_tie).trans (congrArg (fun z => some (PyData.bool z)) (show (("tie" : Str) == ("tie" : Str)) = true by decide +kernel))
@[simp] theorem kw_tie_sign : eqD (.str "tie") (.str "sign") = some (.bool false) := (eqS ok_w_tie ok_w_sign).trans (congrArg (fun z => some (PyData.bool z)) (show (("tie" : Str) == ("sign" : Str)) = false by decide +kernel))
@[simp] theorem kw_tie_cross : eqD (.str "tie") (.str "cross") = some (.bool false) := (eqS ok_w_tie ok_w_cross).trans (congrArg (fun z => some (PyData.bool z)) (show (("tie" : Str) == ("cross" : Str)) = false by decide +kernel))
@[simp] theorem kw_tie_look : eqD (.str "tie") (.str "look") = some (.bool false) := (eqS ok_w_tie ok_w_look).trans (congrArg (fun z => some (PyData.bool z)) (show (("tie" : Str) == ("look" : Str)) = false by decide +kernel))
@[simp] theorem kw_tie_where : eqD (.str "tie") (.str "where") = some (.bool false) := (eqS ok_w_tie ok_w_where).trans (congrArg (fun z => some (PyData.bool z)) (show (("tie" : Str) == ("where" : Str)) = false by decide +kernel))
@[simp] theorem kw_sign_swing : eqD (.str "sign") (.str "swing") = some (.bool false) := (eqS ok_w_sign ok_w_swing).trans (congrArg (fun z => some (PyData.bool z)) (show (("sign" : Str) == ("swing" : Str)) = false by decide +kernel))
@[simp] theorem kw_sign_turn : eqD (.str "sign") (.str "turn") = some (.bool false) := (eqS ok_w_sign ok_w_turn).trans (congrArg (fun z => some (PyData.bool z)) (show (("sign" : Str) == ("turn" : Str)) = false by decide +kernel))
@[simp] theorem kw_sign_flip : eqD (.str "sign") (.str "flip") = some (.bool false) := (eqS ok_w_sign ok_w_flip).trans (congrArg (fun z => some (PyData.bool z)) (show (("sign" : Str) == ("flip" : Str)) = false by decide +kernel))
@[simp] theorem kw_sign_tie : eqD (.str "sign") (.str "tie") = some (.bool false) := (eqS ok_w_sign ok_w_tie).trans (congrArg (fun z => some (PyData.bool z)) (show (("sign" : Str) == ("tie" : Str)) = false by decide +kernel))
@[simp] theorem kw_sign_sign : eqD (.str "sign") (.str "sign") = some (.bool true) := (eqS ok_w_sign ok_w_sign).trans (congrArg (fun z => some (PyData.bool z)) (show (("sign" : Str) == ("sign" : Str)) = true by decide +kernel))
@[simp] theorem kw_sign_cross : eqD (.str "sign") (.str "cross") = some (.bool false) := (eqS ok_w_sign ok_w_cross).trans (congrArg (fun z => some (PyData.bool z)) (show (("sign" : Str) == ("cross" : Str)) = false by decide +kernel))
@[simp] theorem kw_sign_look : eqD (.str "sign") (.str "look") = some (.bool false) := (eqS ok_w_sign ok_w_look).trans (congrArg (fun z => some (PyData.bool z)) (show (("sign" : Str) == ("look" : Str)) = false by decide +kernel))
@[simp] theorem kw_sign_where : eqD (.str "sign") (.str "where") = some (.bool false) := (eqS ok_w_sign ok_w_where).trans (congrArg (fun z => some (PyData.bool z)) (show (("sign" : Str) == ("where" : Str)) = false by decide +kernel))
@[simp] theorem kw_cross_swing : eqD (.str "cross") (.str "swing") = some (.bool false) := (eqS ok_w_cross ok_w_swing).trans (congrArg (fun z => some (PyData.bool z)) (show (("cross" : Str) == ("swing" : Str)) = false by decide +kernel))
@[simp] theorem kw_cross_turn : eqD (.str "cross") (.str "turn") = some (.bool false) := (eqS ok_w_cross ok_w_turn).trans (congrArg (fun z => some (PyData.bool z)) (show (("cross" : Str) == ("turn" : Str)) = false by decide +kernel))
@[simp] theorem kw_cross_flip : eqD (.str "cross") (.str "flip") = some (.bool false) := (eqS ok_w_cross ok_w_flip).trans (congrArg (fun z => some (PyData.bool z)) (show (("cross" : Str) == ("flip" : Str)) = false by decide +kernel))
@[simp] theorem kw_cross_tie : eqD (.str "cross") (.str "tie") = some (.bool false) := (eqS ok_w_cross ok_w_tie).trans (congrArg (fun z => some (PyData.bool z)) (show (("cross" : Str) == ("tie" : Str)) = false by decide +kernel))
@[simp] theorem kw_cross_sign : eqD (.str "cross") (.str "sign") = some (.bool false) := (eqS ok_w_cross ok_w_sign).trans (congrArg (fun z => some (PyData.bool z)) (show (("cross" : Str) == ("sign" : Str)) = false by decide +kernel))
@[simp] theorem kw_cross_cross : eqD (.str "cross") (.str "cross") = some (.bool true) := (eqS ok_w_cross ok_w_cross).trans (congrArg (fun z => some (PyData.bool z)) (show (("cross" : Str) == ("cross" : Str)) = true by decide +kernel))
@[simp] theorem kw_cross_look : eqD (.str "cross") (.str "look") = some (.bool false) := (eqS ok_w_cross ok_w_look).trans (congrArg (fun z => some (PyData.bool z)) (show (("cross" : Str) == ("look" : Str)) = false by decide +kernel))
@[simp] theorem kw_cross_where : eqD (.str "cross") (.str "where") = some (.bool false) := (eqS ok_w_cross ok_w_where).trans (congrArg (fun z => some (PyData.bool z)) (show (("cross" : Str) == ("where" : Str)) = false by decide +kernel))
@[simp] theorem kw_look_swing : eqD (.str "look") (.str "swing") = some (.bool false) := (eqS ok_w_look ok_w_swing).trans (congrArg (fun z => some (PyData.bool z)) (show (("look" : Str) == ("swing" : Str)) = false by decide +kernel))
@[simp] theorem kw_look_turn : eqD (.str "look") (.str "turn") = some (.bool false) := (eqS ok_w_look ok_w_turn).trans (congrArg (fun z => some (PyData.bool z)) (show (("look" : Str) == ("turn" : Str)) = false by decide +kernel))
@[simp] theorem kw_look_flip : eqD (.str "look") (.str "flip") = some (.bool false) := (eqS ok_w_look ok_w_flip).trans (congrArg (fun z => some (PyData.bool z)) (show (("look" : Str) == ("flip" : Str)) = false by decide +kernel))
@[simp] theorem kw_look_tie : eqD (.str "look") (.str "tie") = some (.bool false) := (eqS ok_w_look ok_w_tie).trans (congrArg (fun z => some (PyData.bool z)) (show (("look" : Str) == ("tie" : Str)) = false by decide +kernel))
@[simp] theorem kw_look_sign : eqD (.str "look") (.str "sign") = some (.bool false) := (eqS ok_w_look ok_w_sign).trans (congrArg (fun z => some (PyData.bool z)) (show (("look" : Str) == ("sign" : Str)) = false by decide +kernel))
@[simp] theorem kw_look_cross : eqD (.str "look") (.str "cross") = some (.bool false) := (eqS ok_w_look ok_w_cross).trans (congrArg (fun z => some (PyData.bool z)) (show (("look" : Str) == ("cross" : Str)) = false by decide +kernel))
@[simp] theorem kw_look_look : eqD (.str "look") (.str "look") = some (.bool true) := (eqS ok_w_look ok_w_look).trans (congrArg (fun z => some (PyData.bool z)) (show (("look" : Str) == ("look" : Str)) = true by decide +kernel))
@[simp] theorem kw_look_where : eqD (.str "look") (.str "where") = some (.bool false) := (eqS ok_w_look ok_w_where).trans (congrArg (fun z => some (PyData.bool z)) (show (("look" : Str) == ("where" : Str)) = false by decide +kernel))
@[simp] theorem kw_where_swing : eqD (.str "where") (.str "swing") = some (.bool false) := (eqS ok_w_where ok_w_swing).trans (congrArg (fun z => some (PyData.bool z)) (show (("where" : Str) == ("swing" : Str)) = false by decide +kernel))
@[simp] theorem kw_where_turn : eqD (.str "where") (.str "turn") = some (.bool false) := (eqS ok_w_where ok_w_turn).trans (congrArg (fun z => some (PyData.bool z)) (show (("where" : Str) == ("turn" : Str)) = false by decide +kernel))
@[simp] theorem kw_where_flip : eqD (.str "where") (.str "flip") = some (.bool false) := (eqS ok_w_where ok_w_flip).trans (congrArg (fun z => some (PyData.bool z)) (show (("where" : Str) == ("flip" : Str)) = false by decide +kernel))
@[simp] theorem kw_where_tie : eqD (.str "where") (.str "tie") = some (.bool false) := (eqS ok_w_where ok_w_tie).trans (congrArg (fun z => some (PyData.bool z)) (show (("where" : Str) == ("tie" : Str)) = false by decide +kernel))
@[simp] theorem kw_where_sign : eqD (.str "where") (.str "sign") = some (.bool false) := (eqS ok_w_where ok_w_sign).trans (congrArg (fun z => some (PyData.bool z)) (show (("where" : Str) == ("sign" : Str)) = false by decide +kernel))
@[simp] theorem kw_where_cross : eqD (.str "where") (.str "cross") = some (.bool false) := (eqS ok_w_where ok_w_cross).trans (congrArg (fun z => some (PyData.bool z)) (show (("where" : Str) == ("cross" : Str)) = false by decide +kernel))
@[simp] theorem kw_where_look : eqD (.str "where") (.str "look") = some (.bool false) := (eqS ok_w_where ok_w_look).trans (congrArg (fun z => some (PyData.bool z)) (show (("where" : Str) == ("look" : Str)) = false by decide +kernel))
@[simp] theorem kw_where_where : eqD (.str "where") (.str "where") = some (.bool true) := (eqS ok_w_where ok_w_where).trans (congrArg (fun z => some (PyData.bool z)) (show (("where" : Str) == ("where" : Str)) = true by decide +kernel))
@[simp] theorem inp_swing : inD false (.str "swing") (.tuple [.str "swing", .str "turn", .str "flip", .str "tie", .str "sign", .str "cross"]) = some (.bool true) := by rfl
@[simp] theorem int_swing : inD false (.str "swing") (.tuple [.str "tie", .str "sign", .str "cross"]) = some (.bool false) := by rfl
@[simp] theorem inp_turn : inD false (.str "turn") (.tuple [.str "swing", .str "turn", .str "flip", .str "tie", .str "sign", .str "cross"]) = some (.bool true) := by rfl
@[simp] theorem int_turn : inD false (.str "turn") (.tuple [.str "tie", .str "sign", .str "cross"]) = some (.bool false) := by rfl
@[simp] theorem inp_flip : inD false (.str "flip") (.tuple [.str "swing", .str "turn", .str "flip", .str "tie", .str "sign", .str "cross"]) = some (.bool true) := by rfl
@[simp] theorem int_flip : inD false (.str "flip") (.tuple [.str "tie", .str "sign", .str "cross"]) = some (.bool false) := by rfl
@[simp] theorem inp_tie : inD false (.str "tie") (.tuple [.str "swing", .str "turn", .str "flip", .str "tie", .str "sign", .str "cross"]) = some (.bool true) := by rfl
@[simp] theorem int_tie : inD false (.str "tie") (.tuple [.str "tie", .str "sign", .str "cross"]) = some (.bool true) := by rfl
@[simp] theorem inp_sign : inD false (.str "sign") (.tuple [.str "swing", .str "turn", .str "flip", .str "tie", .str "sign", .str "cross"]) = some (.bool true) := by rfl
@[simp] theorem int_sign : inD false (.str "sign") (.tuple [.str "tie", .str "sign", .str "cross"]) = some (.bool true) := by rfl
@[simp] theorem inp_cross : inD false (.str "cross") (.tuple [.str "swing", .str "turn", .str "flip", .str "tie", .str "sign", .str "cross"]) = some (.bool true) := by rfl
@[simp] theorem int_cross : inD false (.str "cross") (.tuple [.str "tie", .str "sign", .str "cross"]) = some (.bool true) := by rfl
@[simp] theorem inp_look : inD false (.str "look") (.tuple [.str "swing", .str "turn", .str "flip", .str "tie", .str "sign", .str "cross"]) = some (.bool false) := by rfl
@[simp] theorem int_look : inD false (.str "look") (.tuple [.str "tie", .str "sign", .str "cross"]) = some (.bool false) := by rfl
@[simp] theorem inp_where : inD false (.str "where") (.tuple [.str "swing", .str "turn", .str "flip", .str "tie", .str "sign", .str "cross"]) = some (.bool false) := by rfl
@[simp] theorem int_where : inD false (.str "where") (.tuple [.str "tie", .str "sign", .str "cross"]) = some (.bool false) := by rfl
@[simp] theorem ifK_beq (u w : Sf) (δ : Dv) (a b : Int) : ifK u w δ (a == b) = if a = b then u δ else w δ := by
  by_cases h : a = b
  · subst h; simp
  · have : (a == b) = false := by simpa using h
    rw [this, if_neg h]; rfl
theorem mapO_map {α : Type} {f : D → Option D} {h k : α → D} : ∀ (xs : List α), (∀ x ∈ xs, f (h x) = some (k x)) → mapO f (xs.map h) = some (xs.map k)
  | [], _ => rfl
  | x :: xs, H => by
    show ((f (h x)).bind fun y => _) = _
    rw [H x List.mem_cons_self]
    show ((mapO f (xs.map h)).bind fun ys => _) = _
    rw [mapO_map xs fun y hy => H y (List.mem_cons_of_mem _ hy)]
    rfl
theorem filO_map {α : Type} {t : D → Option Bool} {f : D → Option D} {h k : α → D} {b : α → Bool} : ∀ (xs : List α), (∀ x ∈ xs, t (h x) = some (b x)) → (∀ x ∈ xs, b x = true → f (h x) = some (k x)) → filO t f (xs.map h) = some ((xs.filter b).map k)
  | [], _, _ => rfl
  | x :: xs, H, G => by
    have ih := filO_map (k := k) xs (fun y hy => H y (List.mem_cons_of_mem _ hy)) (fun y hy => G y (List.mem_cons_of_mem _ hy))
    show ((t (h x)).bind fun c => _) = _
    rw [H x List.mem_cons_self, Option.bind_some]
    cases e : b x with
    | false => simp [e, ih]
    | true => simp [e, ih, G x List.mem_cons_self e]
theorem comp_map {α : Type} {fi : Dv → Option (List D)} {caps : List (Nat × Str)} {fe : Dv → Option D} {δ : Dv} {h k : α → D} {xs : List α} (e : fi δ = some (xs.map h)) (hl : xs.length ≤ 16777216) (H : ∀ x ∈ xs, fe (.fz (h x) :: capS δ caps) = some (k x)) : oComp fi caps bv1 fe δ = some (.list (xs.map k)) := by
  unfold oComp
  rw [e, Option.bind_some, if_pos (by rw [List.length_map]; exact hl), mapO_map xs (k := k) fun x hx => by
    show fe _ = _
    exact H x hx]
  rfl
theorem compI_map {α : Type} {fi : Dv → Option (List D)} {caps : List (Nat × Str)} {ft : Dv → Option Bool} {fe : Dv → Option D} {δ : Dv} {h k : α → D} {b : α → Bool} {xs : List α} (e : fi δ = some (xs.map h)) (hl : xs.length ≤ 16777216) (H : ∀ x ∈ xs, ft (.fz (h x) :: capS δ caps) = some (b x)) (G : ∀ x ∈ xs, b x = true → fe (.fz (h x) :: capS δ caps) = some (k x)) : oCompI fi caps bv1 ft fe δ = some (.list ((xs.filter b).map k)) := by
  unfold oCompI
  rw [e, Option.bind_some, if_pos (by rw [List.length_map]; exact hl), filO_map xs (b := b) (k := k) (fun x hx => by
    show ft _ = _
    exact H x hx) (fun x hx hb => by
    show fe _ = _
    exact G x hx hb)]
  rfl
theorem islook_eq (r : Rw) : ∃ s : Str, ixD (rwD r) (.int 0) = some (.str s) ∧ eqD (.str s) (.str "look") = some (.bool r.isLook) ∧ eqD (.str s) (.str "where") = some (.bool (!r.isLook && !r.isPl)) ∧ inD false (.str s) (.tuple [.str "swing", .str "turn", .str "flip", .str "tie", .str "sign", .str "cross"]) = some (.bool r.isPl) := by
  cases r with
  | pl r => cases r <;> exact ⟨_, at0 _ _, by simp [Rw.isLook], by simp [Rw.isLook, Rw.isPl], by simp [Rw.isPl]⟩
  | look j => exact ⟨_, at0 _ _, by simp [Rw.isLook], by simp [Rw.isLook, Rw.isPl], by simp [Rw.isPl]⟩
  | wflip m j => exact ⟨_, at0 _ _, by simp [Rw.isLook], by simp [Rw.isLook, Rw.isPl], by simp [Rw.isPl]⟩
  | wsign m j => exact ⟨_, at0 _ _, by simp [Rw.isLook], by simp [Rw.isLook, Rw.isPl], by simp [Rw.isPl]⟩
theorem comp_r0 {fi : Dv → Option (List D)} {caps : List (Nat × Str)} {fe : Dv → Option D} {δ : Dv} {N : Nat} {y : Nat → D} (e : fi δ = some ((List.range N).map fun k : Nat => PyData.int (0 + (k : Int)))) (hl : N ≤ 16777216) (H : ∀ p : Nat, p < N → fe (.fz (.int p) :: capS δ caps) = some (y p)) : oComp fi caps bv1 fe δ = some (.list ((List.range N).map y)) := by
  refine comp_map e (by rw [List.length_range]; exact hl) fun p hp => ?_
  rw [Int.zero_add]
  exact H p (List.mem_range.mp hp)
theorem eq_self {d : D} {k : Nat} (h : MA.Sh k d) (hk : k ≤ 64) : eqD d d = some (.bool true) := by
  have hs : shp d = true := by
    show (d.canLay0 && decide (d.depth ≤ 64)) = true
    rw [h.1, decide_eq_true (Nat.le_trans h.2 hk)]; rfl
  unfold eqD
  rw [if_pos ⟨hs, hs⟩, MA.eqv_self d h.1]
theorem ne_self {d : D} {k : Nat} (h : MA.Sh k d) (hk : k ≤ 64) : neD d d = some (.bool false) := by
  have hs : shp d = true := by
    show (d.canLay0 && decide (d.depth ≤ 64)) = true
    rw [h.1, decide_eq_true (Nat.le_trans h.2 hk)]; rfl
  unfold neD
  rw [if_pos ⟨hs, hs⟩, MA.eqv_self d h.1]
  rfl
theorem e00 : ("" : Str) = "" := rfl
/-! ### the law's rows -/
theorem pick3s (k : Int) (h : k = 0 ∨ k = 2) : ∃ s : Str, atI [PyData.str "swing", .str "", .str "flip"] k = some (.str s) ∧ (s = "swing" ∨ s = "flip") := by
  rcases h with rfl | rfl
  · exact ⟨"swing", at0 _ _, .inl rfl⟩
  · exact ⟨"flip", at2 _ _ _ _, .inr rfl⟩
theorem pick3t (k : Int) (h : k = 0 ∨ k = 1 ∨ k = 2) : ∃ s : Str, atI [PyData.str "tie", .str "sign", .str "cross"] k = some (.str s) ∧ (s = "tie" ∨ s = "sign" ∨ s = "cross") := by
  rcases h with rfl | rfl | rfl
  · exact ⟨"tie", at0 _ _, .inl rfl⟩
  · exact ⟨"sign", at1 _ _ _, .inr (.inl rfl)⟩
  · exact ⟨"cross", at2 _ _ _ _, .inr (.inr rfl)⟩
section
variable (c w k j : Int) (hk0 : c % 6 = k) (hj : modD (.int (c / 6)) (.int w) = some (.int j))
include hj
theorem lr_a (kk : Int) (hk : (if w = 1 ∧ 2 < c % 6 then c % 6 % 2 else c % 6) = kk) : (kk = 1 → g__law_row [.int c, .int w] = some (.tuple [.str "turn", .int j, .int (1 + c / 18 % 7)])) ∧ (∀ x : D, kk ≠ 1 → (kk = 0 ∨ kk = 2) → atI [PyData.str "swing", .str "", .str "flip"] kk = some x → g__law_row [.int c, .int w] = some (.tuple [x, .int j])) := by
  by_cases h1 : w = 1
  · by_cases h2 : 2 < c % 6
    · rw [if_pos ⟨h1, h2⟩] at hk
      refine ⟨fun z => ?_, fun x z z2 hx => ?_⟩
      · have z' : c % 6 % 2 = 1 := hk.trans z
        subst h1
        simp [-sSeq, -sIf, sSeq_k, sIf_k, g__law_row, runB, b__law_row, startD, hj, h2, z']
      · have z' : ¬ c % 6 % 2 = 1 := fun q => z (hk.symm.trans q)
        have z2' : c % 6 % 2 = 0 := by omega
        have hx' : atI [PyData.str "swing", .str "", .str "flip"] 0 = some x := by rw [← hk, z2'] at hx; exact hx
        subst h1
        simp [-sSeq, -sIf, sSeq_k, sIf_k, g__law_row, runB, b__law_row, startD, hj, h2, z2', hx']
    · rw [if_neg (fun q => h2 q.2)] at hk
      refine ⟨fun z => ?_, fun x z z2 hx => ?_⟩
      · have z' : c % 6 = 1 := hk.trans z
        subst h1
        simp [-sSeq, -sIf, sSeq_k, sIf_k, g__law_row, runB, b__law_row, startD, hj, z']
      · have z' : ¬ c % 6 = 1 := fun q => z (hk.symm.trans q)
        rcases z2 with z2 | z2
        · have z2' : c % 6 = 0 := hk.trans z2
          rw [z2] at hx
          subst h1
          simp [-sSeq, -sIf, sSeq_k, sIf_k, g__law_row, runB, b__law_row, startD, hj, z2', hx]
        · have z2' : c % 6 = 2 := hk.trans z2
          rw [z2] at hx
          subst h1
          simp [-sSeq, -sIf, sSeq_k, sIf_k, g__law_row, runB, b__law_row, startD, hj, z2', hx]
  · rw [if_neg (fun q => h1 q.1)] at hk
    have h1' : (w == 1) = false := by simpa using h1
    refine ⟨fun z => ?_, fun x z z2 hx => ?_⟩
    · have z' : c % 6 = 1 := hk.trans z
      simp [-sSeq, -sIf, sSeq_k, sIf_k, g__law_row, runB, b__law_row, startD, hj, h1, z']
    · rcases z2 with z2 | z2
      · have z2' : c % 6 = 0 := hk.trans z2
        rw [z2] at hx
        simp [-sSeq, -sIf, sSeq_k, sIf_k, g__law_row, runB, b__law_row, startD, hj, h1, z2', hx]
      · have z2' : c % 6 = 2 := hk.trans z2
        rw [z2] at hx
        simp [-sSeq, -sIf, sSeq_k, sIf_k, g__law_row, runB, b__law_row, startD, hj, h1, z2', hx]
theorem lr_b (h1 : ¬ w = 1) (h2 : 2 < c % 6) (t i : Int) (ht : modD (.int (c / 18)) (.int (w - 1)) = some (.int t)) (hi : modD (.int (j + 1 + t)) (.int w) = some (.int i)) (x : D) (hx : atI [PyData.str "tie", .str "sign", .str "cross"] (c % 6 - 3) = some x) : g__law_row [.int c, .int w] = some (.tuple [x, .int i, .int j]) := by
  have a : ¬ c % 6 = 0 := by omega
  have b : ¬ c % 6 = 1 := by omega
  have d : ¬ c % 6 = 2 := by omega
  simp [-sSeq, -sIf, sSeq_k, sIf_k, g__law_row, runB, b__law_row, startD, hj, h1, a, b, d, ht, hi, hx]
end
theorem lrow_eq (c : Int) (w : Nat) (hw : 1 ≤ w) : ∃ r : Row, g__law_row [.int c, .int w] = some (rowD r) := by
  have hw0 : (0 : Int) < w := by omega
  have hj := modD_int (i := c / 6) hw0
  have a1 := Int.emod_nonneg (c / 6) (show (w : Int) ≠ 0 by omega)
  obtain ⟨j, ej⟩ : ∃ j : Nat, c / 6 % (w : Int) = j := ⟨_, (Int.toNat_of_nonneg a1).symm⟩
  rw [ej] at hj
  have m0 : 0 ≤ c % 6 := Int.emod_nonneg _ (by decide)
  have m1 : c % 6 < 6 := Int.emod_lt_of_pos _ (by decide)
  by_cases hb : ¬ (w : Int) = 1 ∧ 2 < c % 6
  · have ht := modD_int (i := c / 18) (show (0 : Int) < (w : Int) - 1 by omega)
    have b1 := Int.emod_nonneg (c / 18) (show (w : Int) - 1 ≠ 0 by omega)
    generalize c / 18 % ((w : Int) - 1) = t at *
    have hi := modD_int (i := (j : Int) + 1 + t) hw0
    have c1 := Int.emod_nonneg ((j : Int) + 1 + t) (show (w : Int) ≠ 0 by omega)
    obtain ⟨i, ei⟩ : ∃ i : Nat, ((j : Int) + 1 + t) % (w : Int) = i := ⟨_, (Int.toNat_of_nonneg c1).symm⟩
    rw [ei] at hi
    obtain ⟨s, hs, h⟩ := pick3t (c % 6 - 3) (by omega)
    have := lr_b c w j hj hb.1 hb.2 t i ht hi _ hs
    rcases h with rfl | rfl | rfl
    · exact ⟨.tie i j, this⟩
    · exact ⟨.sign i j, this⟩
    · exact ⟨.cross i j, this⟩
  · obtain ⟨kk, hk⟩ : ∃ kk, (if (w : Int) = 1 ∧ 2 < c % 6 then c % 6 % 2 else c % 6) = kk := ⟨_, rfl⟩
    have hkk : kk = 0 ∨ kk = 1 ∨ kk = 2 := by
      rw [← hk]
      split
      · omega
      · rename_i h; omega
    obtain ⟨q1, q2⟩ := lr_a c w j hj kk hk
    by_cases h1 : kk = 1
    · obtain ⟨e, he⟩ : ∃ e : Nat, 1 + c / 18 % 7 = e := ⟨(1 + c / 18 % 7).toNat, by omega⟩
      have := q1 h1
      rw [he] at this
      exact ⟨.turn j e, this⟩
    · obtain ⟨s, hs, h⟩ := pick3s kk (by omega)
      have := q2 _ h1 (by omega) hs
      rcases h with rfl | rfl
      · exact ⟨.swing j, this⟩
      · exact ⟨.flip j, this⟩
theorem lrs_look (z0 z8 : Sl) (w mo l c j : Int) (ds : List D) (z6 z7 : Sl) (hs : ds.length < sizeLine) (h1 : c % 5 = 3) (h2 : l < mo) (hj : modD (.int (c / 5)) (.int w) = some (.int j)) : l1__law_rows [z0, .fz (.int w), .fz (.int mo), .ow ds, .fz (.int l), .fz (.int c), z6, z7, z8] = some (.nx, [z0, .fz (.int w), .fz (.int mo), .ow (ds ++ [.tuple [.str "look", .int j]]), .fz (.int (l + 1)), .fz (.int c), .fz (.int (c % 5)), .fz (.int (c / 5)), z8]) := by
  simp [-sSeq, -sIf, sSeq_k, sIf_k, l1__law_rows, h1, h2, hj, hs]
theorem lrs_where (z0 z8 : Sl) (w mo l c j m : Int) (I : D) (ds : List D) (z6 z7 : Sl) (hs : ds.length < sizeLine) (h1 : c % 5 = 4) (h2 : 0 < l) (hj : modD (.int (c / 5 / 2)) (.int w) = some (.int j)) (hm : modD (.int (c / 5 / 6)) (.int l) = some (.int m)) (hI : atI [PyData.tuple [.str "flip", .int j], .tuple [.str "turn", .int j, .int 4]] (c / 5 % 2) = some I) : l1__law_rows [z0, .fz (.int w), .fz (.int mo), .ow ds, .fz (.int l), .fz (.int c), z6, z7, z8] = some (.nx, [z0, .fz (.int w), .fz (.int mo), .ow (ds ++ [.tuple [.str "where", .int m, I]]), .fz (.int l), .fz (.int c), .fz (.int (c % 5)), .fz (.int (c / 5)), .fz I]) := by
  simp [-sSeq, -sIf, sSeq_k, sIf_k, l1__law_rows, h1, h2, hj, hm, hI, hs]
theorem lrs_plain (z0 z8 : Sl) (w mo l c : Int) (R : D) (ds : List D) (z6 z7 : Sl) (hs : ds.length < sizeLine) (h1 : ¬ (c % 5 = 3 ∧ l < mo)) (h2 : ¬ (c % 5 = 4 ∧ 0 < l)) (hR : g__law_row [.int (c / 5), .int w] = some R) : l1__law_rows [z0, .fz (.int w), .fz (.int mo), .ow ds, .fz (.int l), .fz (.int c), z6, z7, z8] = some (.nx, [z0, .fz (.int w), .fz (.int mo), .ow (ds ++ [R]), .fz (.int l), .fz (.int c), .fz (.int (c % 5)), .fz (.int (c / 5)), z8]) := by
  by_cases a : c % 5 = 3
  · have b : ¬ l < mo := fun z => h1 ⟨a, z⟩
    simp [-sSeq, -sIf, sSeq_k, sIf_k, l1__law_rows, a, b, hR, hs]
  · by_cases d : c % 5 = 4
    · have b : ¬ 0 < l := fun z => h2 ⟨d, z⟩
      simp [-sSeq, -sIf, sSeq_k, sIf_k, l1__law_rows, d, b, hR, hs]
    · simp [-sSeq, -sIf, sSeq_k, sIf_k, l1__law_rows, a, d, hR, hs]
theorem lrs_loop (C : Sl) (w : Nat) (hw : 1 ≤ w) (mo : Int) (hmo : mo ≤ 6) : ∀ (cs : List Int) (l : Nat) (ds : List D) (z5 z6 z7 z8 : Sl), (l : Int) ≤ 6 → ds.length + cs.length ≤ 1000 → ∃ rs : List Rw, rs.length = cs.length ∧ l + (rs.filter Rw.isLook).length ≤ 6 ∧ ∃ y4 y5 y6 y7 y8, loop (gN 5) l1__law_rows (cs.map .int) [C, .fz (.int w), .fz (.int mo), .ow ds, .fz (.int l), z5, z6, z7, z8] = some (.nx, [C, .fz (.int w), .fz (.int mo), .ow (ds ++ rs.map rwD), y4, y5, y6, y7, y8])
  | [], l, ds, z5, z6, z7, z8, h6, _ => ⟨[], rfl, by simp; omega, .fz (.int l), z5, z6, z7, z8, by simp⟩
  | c :: cs, l, ds, z5, z6, z7, z8, h6, hl => by
    simp only [List.length_cons] at hl
    have hs : ds.length < sizeLine := by show _ < 16777216; omega
    have hw0 : (0 : Int) < w := by omega
    by_cases h1 : c % 5 = 3 ∧ (l : Int) < mo
    · have a1 := Int.emod_nonneg (c / 5) (show (w : Int) ≠ 0 by omega)
      have hj := modD_int (i := c / 5) hw0
      obtain ⟨j, ej⟩ : ∃ j : Nat, c / 5 % (w : Int) = j := ⟨_, (Int.toNat_of_nonneg a1).symm⟩
      rw [ej] at hj
      have st := lrs_look C z8 w mo l c j ds z6 z7 hs h1.1 h1.2 hj
      obtain ⟨rs, e1, e2, y4, y5, y6, y7, y8, e⟩ := lrs_loop C w hw mo hmo cs (l + 1) (ds ++ [rwD (.look j)]) (.fz (.int c)) (.fz (.int (c % 5))) (.fz (.int (c / 5))) z8 (by omega) (by simp; omega)
      refine ⟨.look j :: rs, by simp [e1], by show l + ((rs.filter Rw.isLook).length + 1) ≤ 6; omega, y4, y5, y6, y7, y8, ?_⟩
      rw [List.map_cons, loop_step (δ1 := [C, .fz (.int w), .fz (.int mo), .ow ds, .fz (.int l), .fz (.int c), z6, z7, z8]) (by simp) st]
      rw [show ((l : Int) + 1) = ((l + 1 : Nat) : Int) by omega]
      rw [show (PyData.tuple [.str "look", .int (j : Int)]) = rwD (.look j) from rfl, e]
      simp
    · by_cases h2 : c % 5 = 4 ∧ (0 : Int) < l
      · have a1 := Int.emod_nonneg (c / 5 / 2) (show (w : Int) ≠ 0 by omega)
        have hj := modD_int (i := c / 5 / 2) hw0
        obtain ⟨j, ej⟩ : ∃ j : Nat, c / 5 / 2 % (w : Int) = j := ⟨_, (Int.toNat_of_nonneg a1).symm⟩
        rw [ej] at hj
        have a2 := Int.emod_nonneg (c / 5 / 6) (show (l : Int) ≠ 0 by omega)
        have hm := modD_int (i := c / 5 / 6) h2.2
        obtain ⟨m, em⟩ : ∃ m : Nat, c / 5 / 6 % (l : Int) = m := ⟨_, (Int.toNat_of_nonneg a2).symm⟩
        rw [em] at hm
        have h3 : c / 5 % 2 = 0 ∨ c / 5 % 2 = 1 := by omega
        obtain ⟨q, hq1, I, hq2, hI⟩ : ∃ q : Rw, q.isLook = false ∧ ∃ I, rwD q = .tuple [.str "where", .int (m : Int), I] ∧ atI [PyData.tuple [.str "flip", .int (j : Int)], .tuple [.str "turn", .int (j : Int), .int 4]] (c / 5 % 2) = some I := by
          rcases h3 with h3 | h3
          · exact ⟨.wflip m j, rfl, _, rfl, by rw [h3]; exact at0 _ _⟩
          · exact ⟨.wsign m j, rfl, _, rfl, by rw [h3]; exact at1 _ _ _⟩
        have st := lrs_where C z8 w mo l c j m I ds z6 z7 hs h2.1 h2.2 hj hm hI
        rw [← hq2] at st
        obtain ⟨rs, e1, e2, y4, y5, y6, y7, y8, e⟩ := lrs_loop C w hw mo hmo cs l (ds ++ [rwD q]) (.fz (.int c)) (.fz (.int (c % 5))) (.fz (.int (c / 5))) (.fz I) h6 (by simp; omega)
        refine ⟨q :: rs, by simp [e1], by simp [hq1]; omega, y4, y5, y6, y7, y8, ?_⟩
        rw [List.map_cons, loop_step (δ1 := [C, .fz (.int w), .fz (.int mo), .ow ds, .fz (.int l), .fz (.int c), z6, z7, z8]) (by simp) st, e]
        simp
      · obtain ⟨r, hr⟩ := lrow_eq (c / 5) w hw
        have st := lrs_plain C z8 w mo l c _ ds z6 z7 hs h1 h2 hr
        obtain ⟨rs, e1, e2, y4, y5, y6, y7, y8, e⟩ := lrs_loop C w hw mo hmo cs l (ds ++ [rwD (.pl r)]) (.fz (.int c)) (.fz (.int (c % 5))) (.fz (.int (c / 5))) z8 h6 (by simp; omega)
        refine ⟨.pl r :: rs, by simp [e1], by show l + (rs.filter Rw.isLook).length ≤ 6; omega, y4, y5, y6, y7, y8, ?_⟩
        rw [List.map_cons, loop_step (δ1 := [C, .fz (.int w), .fz (.int mo), .ow ds, .fz (.int l), .fz (.int c), z6, z7, z8]) (by simp) st, show rowD r = rwD (.pl r) from rfl, e]
        simp
theorem lrs_eq (w : Nat) (hw : 1 ≤ w) (mo : Int) (hmo : mo ≤ 6) (cs : List Int) (hl : cs.length ≤ 1000) : ∃ rs : List Rw, rs.length = cs.length ∧ (rs.filter Rw.isLook).length ≤ 6 ∧ g__law_rows [.list (cs.map .int), .int w, .int mo] = some (.tuple (rs.map rwD)) := by
  obtain ⟨rs, e1, e2, y4, y5, y6, y7, y8, e⟩ := lrs_loop (.fz (.list (cs.map .int))) w hw mo hmo cs 0 [] .un .un .un .un (by decide) (by simpa using hl)
  refine ⟨rs, e1, by omega, ?_⟩
  have e' : loop (gN 5) l1__law_rows (cs.map .int) [.fz (.list (cs.map .int)), .fz (.int w), .fz (.int mo), .ow [], .fz (.int 0), .un, .un, .un, .un] = _ := e
  simp [-sSeq, -sIf, sSeq_k, sIf_k, g__law_rows, runB, b__law_rows, startD, e', dFz]
/-! ### put off -/
def offR (w m : Nat) : Rw → D
  | .pl r => rowD r
  | .look j => .tuple [.str "tie", .int j, .int ((w : Int) + m)]
  | .wflip k j => .tuple [.str "tie", .int ((w : Int) + k), .int j]
  | .wsign k j => .tuple [.str "sign", .int ((w : Int) + k), .int j]
def nxt (m : Nat) (r : Rw) : Nat := m + if r.isLook then 1 else 0
def offL (w : Nat) : Nat → List Rw → List D
  | _, [] => []
  | m, r :: rs => offR w m r :: offL w (nxt m r) rs
theorem off_x (z0 : Sl) (w m : Nat) (r : Rw) (ds : List D) (hs : ds.length < sizeLine) : l1_rows_put_off [z0, .fz (.int w), .ow ds, .fz (.int m), .fz (rwD r)] = some (.nx, [z0, .fz (.int w), .ow (ds ++ [offR w m r]), .fz (.int (nxt m r)), .fz (rwD r)]) := by
  cases r with
  | pl r => cases r <;> simp [-sSeq, -sIf, sSeq_k, sIf_k, l1_rows_put_off, rwD, rowD, offR, nxt, Rw.isLook, hs]
  | look j => simp [-sSeq, -sIf, sSeq_k, sIf_k, l1_rows_put_off, rwD, offR, nxt, Rw.isLook, hs]
  | wflip k j => simp [-sSeq, -sIf, sSeq_k, sIf_k, l1_rows_put_off, rwD, offR, nxt, Rw.isLook, hs, g_where_put_off, runB, b_where_put_off, startD]
  | wsign k j => simp [-sSeq, -sIf, sSeq_k, sIf_k, l1_rows_put_off, rwD, offR, nxt, Rw.isLook, hs, g_where_put_off, runB, b_where_put_off, startD]
theorem due_x (z1 : Sl) (w m : Nat) (r : Rw) (ds : List D) (hs : ds.length < sizeLine) : l1__law_due [.fz (.int w), z1, .ow ds, .fz (.int m), .fz (rwD r)] = some (.nx, [.fz (.int w), z1, .ow (ds ++ [offR w m r]), .fz (.int (nxt m r)), .fz (rwD r)]) := by
  cases r with
  | pl r => cases r <;> simp [-sSeq, -sIf, sSeq_k, sIf_k, l1__law_due, rwD, rowD, offR, nxt, Rw.isLook, hs]
  | look j => simp [-sSeq, -sIf, sSeq_k, sIf_k, l1__law_due, rwD, offR, nxt, Rw.isLook, hs]
  | wflip k j => simp [-sSeq, -sIf, sSeq_k, sIf_k, l1__law_due, rwD, offR, nxt, Rw.isLook, hs]
  | wsign k j => simp [-sSeq, -sIf, sSeq_k, sIf_k, l1__law_due, rwD, offR, nxt, Rw.isLook, hs]
theorem looks_cons (r : Rw) (rs : List Rw) (m : Nat) : nxt m r + (rs.filter Rw.isLook).length = m + ((r :: rs).filter Rw.isLook).length := by
  unfold nxt
  cases h : r.isLook <;> simp [h] <;> omega
theorem off_loop (z0 : Sl) (w : Nat) : ∀ (rs : List Rw) (m : Nat) (ds : List D) (z : Sl), ds.length + rs.length ≤ 1000 → ∃ y, loop (gN 4) l1_rows_put_off (rs.map rwD) [z0, .fz (.int w), .ow ds, .fz (.int m), z] = some (.nx, [z0, .fz (.int w), .ow (ds ++ offL w m rs), .fz (.int ((m + (rs.filter Rw.isLook).length : Nat) : Int)), y])
  | [], m, ds, z, _ => ⟨z, by simp [offL]⟩
  | r :: rs, m, ds, z, hl => by
    simp only [List.length_cons] at hl
    have st := off_x z0 w m r ds (by show _ < 16777216; omega)
    obtain ⟨y, e⟩ := off_loop z0 w rs (nxt m r) (ds ++ [offR w m r]) (.fz (rwD r)) (by simp; omega)
    refine ⟨y, ?_⟩
    rw [List.map_cons, loop_step (δ1 := [z0, .fz (.int w), .ow ds, .fz (.int m), .fz (rwD r)]) (by simp) st, e, looks_cons]
    simp [offL]
theorem due_loop (z1 : Sl) (w : Nat) : ∀ (rs : List Rw) (m : Nat) (ds : List D) (z : Sl), ds.length + rs.length ≤ 1000 → ∃ y, loop (gN 4) l1__law_due (rs.map rwD) [.fz (.int w), z1, .ow ds, .fz (.int m), z] = some (.nx, [.fz (.int w), z1, .ow (ds ++ offL w m rs), .fz (.int ((m + (rs.filter Rw.isLook).length : Nat) : Int)), y])
  | [], m, ds, z, _ => ⟨z, by simp [offL]⟩
  | r :: rs, m, ds, z, hl => by
    simp only [List.length_cons] at hl
    have st := due_x z1 w m r ds (by show _ < 16777216; omega)
    obtain ⟨y, e⟩ := due_loop z1 w rs (nxt m r) (ds ++ [offR w m r]) (.fz (rwD r)) (by simp; omega)
    refine ⟨y, ?_⟩
    rw [List.map_cons, loop_step (δ1 := [.fz (.int w), z1, .ow ds, .fz (.int m), .fz (rwD r)]) (by simp) st, e, looks_cons]
    simp [offL]
theorem offL_len (w : Nat) : ∀ (rs : List Rw) (m : Nat), (offL w m rs).length = rs.length
  | [], _ => rfl
  | r :: rs, m => by simp [offL, offL_len w rs]
def lkL (w k : Nat) : List D := (List.range k).map fun i : Nat => .tuple [.str "look", .int ((w : Int) + i)]
theorem rng_l (L : Int) (k : Nat) (hk : k ≤ 1000) (h : L = (k : Int)) : rng1D [.int L] = some ((List.range k).map fun i : Nat => PyData.int (0 + (i : Int))) := by
  subst h
  exact rng1D_int (j := (k : Int)) (by omega) (by omega)
theorem ol_1 (z0 z1 z3 : Sl) (k : Int) (L : List D) (h : rng1D [.int k] = some L) : (oL (oCons (oV 2) (oNil)) rng1D) [z0, z1, .fz (.int k), z3] = some L := by
  simp only [oL, oCons, oV, oNil, List.getElem?_cons_succ, List.getElem?_cons_zero, slV_fz, Option.bind_some, h]
theorem ol_2 (z0 z1 z2 z4 : Sl) (k : Int) (L : List D) (h : rng1D [.int k] = some L) : (oL (oCons (oV 3) (oNil)) rng1D) [z0, z1, z2, .fz (.int k), z4] = some L := by
  simp only [oL, oCons, oV, oNil, List.getElem?_cons_succ, List.getElem?_cons_zero, slV_fz, Option.bind_some, h]
theorem p1o_x (z0 z3 : Sl) (w k : Int) (N : Nat) (hN : N ≤ 16777216) (h : rng1D [.int k] = some ((List.range N).map fun i : Nat => PyData.int (0 + (i : Int)))) : p1_put_off [z0, .fz (.int w), .fz (.int k), z3] = some (.list ((List.range N).map fun i : Nat => PyData.tuple [.str "look", .int (w + i)])) :=
  comp_r0 (N := N) (y := fun i => PyData.tuple [.str "look", .int (w + i)]) (ol_1 z0 _ z3 k _ h) hN (fun i _ => by simp [capS])
theorem p1d_x (z1 z2 z4 : Sl) (w k : Int) (N : Nat) (hN : N ≤ 16777216) (h : rng1D [.int k] = some ((List.range N).map fun i : Nat => PyData.int (0 + (i : Int)))) : p1__law_due [.fz (.int w), z1, z2, .fz (.int k), z4] = some (.list ((List.range N).map fun i : Nat => PyData.tuple [.str "look", .int (w + i)])) :=
  comp_r0 (N := N) (y := fun i => PyData.tuple [.str "look", .int (w + i)]) (ol_2 _ z1 z2 z4 k _ h) hN (fun i _ => by simp [capS])
theorem p1o (z0 z3 : Sl) (w k : Nat) (hk : k ≤ 1000) : p1_put_off [z0, .fz (.int w), .fz (.int k), z3] = some (.list (lkL w k)) := p1o_x z0 z3 w k k (Nat.le_trans hk (by decide)) (rng_l k k hk rfl)
theorem p1d (z1 z2 z4 : Sl) (w k : Nat) (hk : k ≤ 1000) : p1__law_due [.fz (.int w), z1, z2, .fz (.int k), z4] = some (.list (lkL w k)) := p1d_x z1 z2 z4 w k k (Nat.le_trans hk (by decide)) (rng_l k k hk rfl)
theorem rows_off (w : Nat) (rs : List Rw) (hl : rs.length ≤ 1000) : g_rows_put_off [.tuple (rs.map rwD), .int w] = some (.list (offL w 0 rs)) := by
  obtain ⟨y, e⟩ := off_loop (.fz (.tuple (rs.map rwD))) w rs 0 [] .un (by simpa using hl)
  have e' : loop (gN 4) l1_rows_put_off (rs.map rwD) [.fz (.tuple (rs.map rwD)), .fz (.int w), .ow [], .fz (.int 0), .un] = _ := e
  simp [-sSeq, -sIf, sSeq_k, sIf_k, g_rows_put_off, runB, b_rows_put_off, startD, e', dFz]
def resD (w k : Nat) (rs : List Rw) : D := .tuple [.int ((w : Int) + k), .tuple (offL w 0 rs ++ lkL w k)]
theorem lcon (w k : Nat) (rs : List Rw) (hl : rs.length ≤ 1000) (hk : k ≤ 1000) : addD (.list (offL w 0 rs)) (.list (lkL w k)) = some (.list (offL w 0 rs ++ lkL w k)) := addD_list (by rw [offL_len]; simp [lkL]; omega)
theorem put_x (C Rs : D) (w k n : Int) (L1 L2 L3 : List D) (c0 : ixD C (.int 0) = some (.int w)) (c1 : ixD C (.int 1) = some Rs) (lk : g_looks_in [C] = some (.int k)) (ln : lenD [Rs] = some (.int n)) (h1 : ¬ 6 < w + k) (h2 : ¬ 60 < n + k) (p : p1_put_off [.fz C, .fz (.int w), .fz (.int k), .un] = some (.list L2)) (g : g_rows_put_off [Rs, .int w] = some (.list L1)) (ad : addD (.list L1) (.list L2) = some (.list L3)) : g_put_off [C] = some (.tuple [.int (w + k), .tuple L3]) ∧ x_put_off [C] = none := by
  constructor
  · simp [-sSeq, -sIf, sSeq_k, sIf_k, g_put_off, runB, b_put_off, startD, c0, c1, lk, ln, h1, h2, p, g, ad]
  · simp [x_put_off, runX, bx_put_off, startD, c0, c1, lk, ln, h1, h2]
theorem put_no (C Rs : D) (w k n : Int) (c0 : ixD C (.int 0) = some (.int w)) (c1 : ixD C (.int 1) = some Rs) (lk : g_looks_in [C] = some (.int k)) (ln : lenD [Rs] = some (.int n)) (h : 6 < w + k ∨ 60 < n + k) : x_put_off [C] = some ("TooGreat" : Str) := by
  by_cases h1 : 6 < w + k
  · simp [x_put_off, runX, bx_put_off, startD, c0, c1, lk, ln, h1]
  · have h2 : 60 < n + k := by rcases h with h | h; exact absurd h h1; exact h
    simp [x_put_off, runX, bx_put_off, startD, c0, c1, lk, ln, h1, h2]
theorem due_y (Rs : D) (w k : Int) (L L1 L2 L3 : List D) (y : Sl) (it : itsD Rs = some L) (e : loop (gN 4) l1__law_due L [.fz (.int w), .fz Rs, .ow [], .fz (.int 0), .un] = some (.nx, [.fz (.int w), .fz Rs, .ow L1, .fz (.int k), y])) (p : ∀ z2, p1__law_due [.fz (.int w), .fz Rs, z2, .fz (.int k), y] = some (.list L2)) (ad : addD (.list L1) (.list L2) = some (.list L3)) : g__law_due [.int w, Rs] = some (.tuple [.int (w + k), .tuple L3]) := by
  simp [-sSeq, -sIf, sSeq_k, sIf_k, g__law_due, runB, b__law_due, startD, it, e, dFz, p, ad]
theorem due_eq (w : Nat) (rs : List Rw) (hl : rs.length ≤ 1000) : g__law_due [.int w, .tuple (rs.map rwD)] = some (resD w (rs.filter Rw.isLook).length rs) := by
  have hk : (rs.filter Rw.isLook).length ≤ 1000 := Nat.le_trans (List.length_filter_le _ _) hl
  obtain ⟨y, e⟩ := due_loop (.fz (.tuple (rs.map rwD))) w rs 0 [] .un (by simpa using hl)
  simp only [Nat.zero_add, List.nil_append] at e
  exact due_y _ w _ (rs.map rwD) _ _ _ y rfl e (fun z2 => p1d _ z2 y w _ hk) (lcon w _ rs hl hk)
theorem looks_eq (w : Nat) (rs : List Rw) (hl : rs.length ≤ 100000) : g_looks_in [.tuple [.int w, .tuple (rs.map rwD)]] = some (.int (rs.filter Rw.isLook).length) := by
  have e : p1_looks_in [.fz (.tuple [.int w, .tuple (rs.map rwD)])] = some (.list ((rs.filter Rw.isLook).map rwD)) := compI_map (h := rwD) (b := Rw.isLook) (by simp) (by omega) (fun r _ => by
    obtain ⟨s, h0, h1, _, h3⟩ := islook_eq r
    simp [h0, h1]) fun r _ _ => by simp
  simp [g_looks_in, runB, b_looks_in, startD, e]
theorem llooks_eq (rs : List Rw) (hl : rs.length ≤ 100000) : g__law_looks [.tuple (rs.map rwD)] = some (.int (rs.filter Rw.isLook).length) := by
  have e : p1__law_looks [.fz (.tuple (rs.map rwD))] = some (.list ((rs.filter Rw.isLook).map rwD)) := compI_map (h := rwD) (b := Rw.isLook) (by simp) (by omega) (fun r _ => by
    obtain ⟨s, h0, h1, _, h3⟩ := islook_eq r
    simp [h0, h1]) fun r _ _ => by simp
  simp [g__law_looks, runB, b__law_looks, startD, e]
/-! ### kinds, == -/
theorem sh_str (k : Nat) {s : Str} (h : okS s = true) : MA.Sh k (.str s) := ⟨(Bool.and_eq_true_iff.mp h).1, by simp [PyData.depth]⟩
def rowF (d : D) : Prop := ∃ (s : Str) (ns : List Int), d = .tuple (.str s :: ns.map .int) ∧ okS s = true ∧ ns.length ≤ 2
theorem rowF_row (r : Row) : rowF (rowD r) := by
  cases r with
  | swing j => exact ⟨_, [j], rfl, ok_w_swing, by simp⟩
  | turn j e => exact ⟨_, [j, e], rfl, ok_w_turn, by simp⟩
  | flip j => exact ⟨_, [j], rfl, ok_w_flip, by simp⟩
  | tie i j => exact ⟨_, [i, j], rfl, ok_w_tie, by simp⟩
  | sign i j => exact ⟨_, [i, j], rfl, ok_w_sign, by simp⟩
  | cross i j => exact ⟨_, [i, j], rfl, ok_w_cross, by simp⟩
theorem rowF_off (w m : Nat) (r : Rw) : rowF (offR w m r) := by
  cases r with
  | pl r => exact rowF_row r
  | look j => exact ⟨_, [j, (w : Int) + m], rfl, ok_w_tie, by simp⟩
  | wflip k j => exact ⟨_, [(w : Int) + k, j], rfl, ok_w_tie, by simp⟩
  | wsign k j => exact ⟨_, [(w : Int) + k, j], rfl, ok_w_sign, by simp⟩
theorem rowF_all (w : Nat) : ∀ (rs : List Rw) (m : Nat), ∀ d ∈ offL w m rs, rowF d
  | [], _, _, h => nomatch h
  | r :: rs, m, d, h => by
    rcases List.mem_cons.mp h with rfl | h
    · exact rowF_off w m r
    · exact rowF_all w rs _ d h
theorem rowF_lk (w k : Nat) : ∀ d ∈ lkL w k, rowF d := fun d h => by
  obtain ⟨i, _, rfl⟩ := List.mem_map.mp h
  exact ⟨_, [(w : Int) + i], rfl, ok_w_look, by simp⟩
theorem rowF_res (w k : Nat) (rs : List Rw) : ∀ d ∈ offL w 0 rs ++ lkL w k, rowF d := fun d h => (List.mem_append.mp h).elim (rowF_all w rs 0 d) (rowF_lk w k d)
theorem sh_res (w k : Nat) (rs : List Rw) : MA.Sh 3 (resD w k rs) := by
  refine MA.Sh.tuple fun x hx => ?_
  simp only [List.mem_cons, List.not_mem_nil, or_false] at hx
  rcases hx with rfl | rfl
  · exact MA.Sh.int 2 _
  · refine MA.Sh.tuple fun y hy => ?_
    obtain ⟨s, ns, rfl, hs, _⟩ := rowF_res w k rs y hy
    refine MA.Sh.tuple fun z hz => ?_
    rcases List.mem_cons.mp hz with rfl | hz
    · exact sh_str 0 hs
    · obtain ⟨i, _, rfl⟩ := List.mem_map.mp hz
      exact MA.Sh.int 0 i
theorem kd_one (z0 z1 : Sl) (i : Int) : l1__law_kinds [z0, z1, .fz (.int i)] = some (.nx, [z0, z1, .fz (.int i)]) := by
  simp [-sSeq, -sIf, sSeq_k, sIf_k, l1__law_kinds]
theorem kd_parts (z0 z1 : Sl) : ∀ (ns : List Int) (z : Sl), ∃ y, loop (gN 2) l1__law_kinds (ns.map .int) [z0, z1, z] = some (.nx, [z0, z1, y])
  | [], z => ⟨z, rfl⟩
  | n :: ns, z => by
    obtain ⟨y, e⟩ := kd_parts z0 z1 ns (.fz (.int n))
    exact ⟨y, by rw [List.map_cons, loop_step (δ1 := [z0, z1, .fz (.int n)]) (by simp) (kd_one z0 z1 n), e]⟩
theorem cut1 (s : Str) (ns : List Int) : slD (.tuple (.str s :: ns.map .int)) (some 1) none = some (.tuple (ns.map .int)) := by
  show some (PyData.tuple (cutD _ _ _)) = _
  unfold cutD
  have e1 : HT.sIx (PyData.str s :: ns.map PyData.int).length 0 (some 1) = 1 := by
    show min 1 _ = 1
    simp
  have e2 : HT.sIx (PyData.str s :: ns.map PyData.int).length (PyData.str s :: ns.map PyData.int).length none = (PyData.str s :: ns.map PyData.int).length := rfl
  rw [e1, e2]
  simp [List.take_of_length_le]
theorem kd_row (z0 z2 : Sl) (d : D) (h : rowF d) : ∃ y, l2__law_kinds [z0, .fz d, z2] = some (.nx, [z0, .fz d, y]) := by
  obtain ⟨s, ns, rfl, _, _⟩ := h
  obtain ⟨y, e⟩ := kd_parts z0 (.fz (.tuple (.str s :: ns.map .int))) ns z2
  refine ⟨y, ?_⟩
  have c := cut1 s ns
  simp [-sSeq, -sIf, sSeq_k, sIf_k, l2__law_kinds, c, e]
theorem kd_rows (z0 : Sl) : ∀ (ds : List D), (∀ d ∈ ds, rowF d) → ∀ z1 z2, ∃ y1 y2, loop (gN 1) l2__law_kinds ds [z0, z1, z2] = some (.nx, [z0, y1, y2])
  | [], _, z1, z2 => ⟨z1, z2, rfl⟩
  | d :: ds, h, z1, z2 => by
    obtain ⟨y, e⟩ := kd_row z0 z2 d (h d List.mem_cons_self)
    obtain ⟨y1, y2, e2⟩ := kd_rows z0 ds (fun q hq => h q (List.mem_cons_of_mem _ hq)) (.fz d) y
    exact ⟨y1, y2, by rw [loop_step (δ1 := [z0, .fz d, z2]) (by simp) e, e2]⟩
theorem kd_x (F : D) (L : List D) (n : Int) (y1 y2 : Sl) (t : isiD "tuple" F = some (.bool true)) (ln : lenD [F] = some (.int 2)) (f0 : ixD F (.int 0) = some (.int n)) (f1 : ixD F (.int 1) = some (.tuple L)) (e : loop (gN 1) l2__law_kinds L [.fz F, .un, .un] = some (.nx, [.fz F, y1, y2])) : g__law_kinds [F] = some (.bool true) := by
  simp [-sSeq, -sIf, sSeq_k, sIf_k, g__law_kinds, runB, b__law_kinds, startD, t, ln, f0, f1, e]
theorem kinds_eq (w k : Nat) (rs : List Rw) : g__law_kinds [resD w k rs] = some (.bool true) := by
  obtain ⟨y1, y2, e⟩ := kd_rows (.fz (resD w k rs)) _ (rowF_res w k rs) .un .un
  exact kd_x _ _ _ y1 y2 rfl rfl (at0 _ _) (at1 _ _ _) e
/-! ### the law -/
theorem hs_has : ("TooGreat" : Str) ∈ hs_WaveError := List.mem_cons_self
theorem isl (t : List (Str × Bool)) (n : Str) (b : Bool) (h : t.lookup n = some b) : isxD t (exD n) = some (.bool b) := by
  rw [isxD_ex]; unfold isxL; rw [h]; rfl
theorem i1 : isxD tt_HasLooks (exD "TooGreat") = some (.bool false) := isl _ _ _ (by decide +kernel)
theorem i2 : isxD tt_OddTurn (exD "TooGreat") = some (.bool false) := isl _ _ _ (by decide +kernel)
theorem i3 : isxD tt_TooGreat (exD "TooGreat") = some (.bool true) := isl _ _ _ (by decide +kernel)
theorem i4 : isxD tt_UnlikeWires (exD "TooGreat") = some (.bool false) := isl _ _ _ (by decide +kernel)
theorem i6 : isxD tt_ValueError (exD "TooGreat") = some (.bool true) := isl _ _ _ (by decide +kernel)
theorem lcell_eq (ns : List Int) (k : Int) (hk : 0 ≤ k) : ∃ c, g__law_cell_at [.list (ns.map .int), .int k] = some (.int c) := by
  by_cases h : k < ns.length
  · have hk' : k.toNat < ns.length := by omega
    refine ⟨ns[k.toNat], ?_⟩
    have e : atI (ns.map PyData.int) k = some (.int ns[k.toNat]) := atI_of (j := k.toNat) (by omega) (by simp [hk'])
    simp [g__law_cell_at, runB, b__law_cell_at, startD, h, e]
  · exact ⟨0, by simp [g__law_cell_at, runB, b__law_cell_at, startD, h]⟩
theorem cut_any (ns : List Int) (lo hi : Option Int) : ∃ cs : List Int, cs.length ≤ ns.length ∧ slD (.list (ns.map .int)) lo hi = some (.list (cs.map .int)) := by
  refine ⟨(ns.drop (HT.sIx ns.length 0 lo)).take (HT.sIx ns.length ns.length hi - HT.sIx ns.length 0 lo), ?_, ?_⟩
  · rw [List.length_take, List.length_drop]; omega
  · show some (PyData.list (cutD _ _ _)) = _
    unfold cutD
    rw [List.length_map, ← List.map_drop, ← List.map_take]
theorem law_no (S B Rs : D) (c w k n : Int) (h0 : g__law_cell_at [S, .int 0] = some (.int c)) (hw : 1 + c % 6 = w) (sl : slD S (some 1) (some 61) = some B) (k1 : g__law_rows [B, .int w, .int (c / 6 % 7)] = some Rs) (lk : g__law_looks [Rs] = some (.int k)) (ln : lenD [Rs] = some (.int n)) (x : x_put_off [.tuple [.int w, Rs]] = some ("TooGreat" : Str)) (h : 6 < w + k ∨ 60 < n + k) : g_law [S] = some (.bool true) := by
  by_cases h1 : 6 < w + k
  · simp [-sSeq, -sIf, sSeq_k, sIf_k, g_law, runB, b_law, startD, h0, hw, sl, k1, lk, ln, sTry, x, hs_has, h1, i1, i2, i3, i4, i6]
  · have h2 : 60 < n + k := by rcases h with h | h; exact absurd h h1; exact h
    simp [-sSeq, -sIf, sSeq_k, sIf_k, g_law, runB, b_law, startD, h0, hw, sl, k1, lk, ln, sTry, x, hs_has, h1, h2, i1, i2, i3, i4, i6]
theorem law_yes (S B Rs F : D) (c w k n : Int) (h0 : g__law_cell_at [S, .int 0] = some (.int c)) (hw : 1 + c % 6 = w) (sl : slD S (some 1) (some 61) = some B) (k1 : g__law_rows [B, .int w, .int (c / 6 % 7)] = some Rs) (lk : g__law_looks [Rs] = some (.int k)) (ln : lenD [Rs] = some (.int n)) (x : x_put_off [.tuple [.int w, Rs]] = none) (g : g_put_off [.tuple [.int w, Rs]] = some F) (h1 : ¬ 6 < w + k) (h2 : ¬ 60 < n + k) (kd : g__law_kinds [F] = some (.bool true)) (du : g__law_due [.int w, Rs] = some F) (eq : eqD F F = some (.bool true)) : g_law [S] = some (.bool true) := by
  simp [-sSeq, -sIf, sSeq_k, sIf_k, g_law, runB, b_law, startD, h0, hw, sl, k1, lk, ln, sTry, x, g, h1, h2, kd, du, eq]
theorem law_true (ns : List Int) (hl : ns.length ≤ 63) : g_law [.list (ns.map .int)] = some (.bool true) := by
  obtain ⟨c, hc⟩ := lcell_eq ns 0 (by decide)
  obtain ⟨w, hw⟩ : ∃ w : Nat, 1 + c % 6 = (w : Int) := ⟨(1 + c % 6).toNat, by omega⟩
  obtain ⟨cs, hcl, hsl⟩ := cut_any ns (some 1) (some 61)
  obtain ⟨rs, e1, e2, e3⟩ := lrs_eq w (by omega) (c / 6 % 7) (by omega) cs (by omega)
  have lk := llooks_eq rs (by omega)
  have lk2 := looks_eq w rs (by omega)
  have ln : lenD [.tuple (rs.map rwD)] = some (.int (rs.length : Int)) := by simp
  have hk : (rs.filter Rw.isLook).length ≤ 1000 := by omega
  by_cases h : 6 < (w : Int) + (rs.filter Rw.isLook).length ∨ 60 < (rs.length : Int) + (rs.filter Rw.isLook).length
  · exact law_no _ _ _ c w _ _ hc hw hsl e3 lk ln (put_no _ _ w _ _ (at0 _ _) (at1 _ _ _) lk2 ln h) h
  · have h1 : ¬ 6 < (w : Int) + (rs.filter Rw.isLook).length := fun z => h (.inl z)
    have h2 : ¬ 60 < (rs.length : Int) + (rs.filter Rw.isLook).length := fun z => h (.inr z)
    obtain ⟨g, x⟩ := put_x (.tuple [.int w, .tuple (rs.map rwD)]) _ w _ _ _ _ _ (at0 _ _) (at1 _ _ _) lk2 ln h1 h2 (p1o _ _ w _ hk) (rows_off w rs (by omega)) (lcon w _ rs (by omega) hk)
    exact law_yes _ _ _ (resD w (rs.filter Rw.isLook).length rs) c w _ _ hc hw hsl e3 lk ln x g h1 h2 (kinds_eq w _ rs) (due_eq w rs (by omega)) (eq_self (sh_res w _ rs) (by decide))

end GN
namespace GN
open PySem PySem.Spec PyProof.Rows L2 VL
structure Txt (mg : Str → Option Value) : Prop where
  len : mg "len" = none
  tuple : mg "tuple" = none
  range : mg "range" = none
  isinstance : mg "isinstance" = none
  bool : mg "bool" = none
  int : mg "int" = none
  ValueError : mg "ValueError" = none
section
variable {P : Program} {w : World} {K : PySem.W.Frag} {mg : Str → Option Value} {base : Heap}
theorem sc_looks_in : FnScope N_looks_in ["circuit"] (defScope s_looks_in) := ⟨rfl, rfl, rfl, by decide +kernel, rfl, by decide +kernel, by decide +kernel⟩
theorem ok_looks_in {f : Addr} {fd : FuncData} {dV : Value} (F : FunV K "looks_in" "looks_in" s_looks_in f fd dV) (T : Txt mg) : FnOk P w K mg base CX0 1 f fd ["circuit"] (spD K g_looks_in) :=
  fn_b (k := 0) (b := b_looks_in) F sc_looks_in fun cdv A outer s H E hr => (bv_one (sv_ret (ev_callB c_len rfl T.len (by decide +kernel) (av_cons (ev_compI (vars := ["row"]) (caps := []) (by change BlkOk (defScope s_looks_in).names N_looks_in _ _ _; exact ⟨rfl, by decide +kernel, by decide +kernel, by decide +kernel, by decide +kernel⟩) rfl (iv_seq (ev_ix d_ix (ev_var 0) ev_int (fun _ _ => rfl))) tg_one (fun _ _ _ _ => pg_name (i := 0) (show (["row"] : List Str).Nodup by decide +kernel) rfl (Or.inl rfl) (.inr rfl)) (fun _ _ _ _ => (tv_cmp (d_eq hr.units) (ev_ix d_ix (ev_var 0) ev_int (fun _ _ => rfl)) ev_str (nomark _))) (fun _ _ _ _ => (ev_var 0))) av_nil))))
theorem sc_where_put_off : FnScope N_where_put_off ["row", "wires"] (defScope s_where_put_off) := ⟨rfl, rfl, rfl, by decide +kernel, rfl, by decide +kernel, by decide +kernel⟩
theorem ok_where_put_off {f : Addr} {fd : FuncData} {dV : Value} (F : FunV K "where_put_off" "where_put_off" s_where_put_off f fd dV) (T : Txt mg) : FnOk P w K mg base CX0 1 f fd ["row", "wires"] (spD K g_where_put_off) :=
  fn_b (k := 0) (b := b_where_put_off) F sc_where_put_off fun cdv A outer s H E hr => (bv_cons (sv_set 2 sc_where_put_off.nd (ev_ifx (tv_cmp (d_eq hr.units) (ev_ix d_ix (ev_ix d_ix (ev_var 0) ev_int (fun _ _ => rfl)) ev_int (fun _ _ => rfl)) ev_str (nomark _)) ev_str ev_str)) (bv_one (sv_ret (ev_tup (av_cons (ev_var 2) (av_cons (ev_op d_add (ev_var 1) (ev_ix d_ix (ev_var 0) ev_int (fun _ _ => rfl))) (av_cons (ev_ix d_ix (ev_ix d_ix (ev_var 0) ev_int (fun _ _ => rfl)) ev_int (fun _ _ => rfl)) av_nil)))))))
theorem sc_rows_put_off : FnScope N_rows_put_off ["rows", "wires"] (defScope s_rows_put_off) := ⟨rfl, rfl, rfl, by decide +kernel, rfl, by decide +kernel, by decide +kernel⟩
theorem ok_rows_put_off {f : Addr} {fd : FuncData} {dV : Value} (F : FunV K "rows_put_off" "rows_put_off" s_rows_put_off f fd dV) (T : Txt mg) (C_where_put_off : Cal P w K mg base "where_put_off" 1 g_where_put_off []) : FnOk P w K mg base CX0 2 f fd ["rows", "wires"] (spD K g_rows_put_off) :=
  fn_b (k := 1) (b := b_rows_put_off) F sc_rows_put_off fun cdv A outer s H E hr => (bv_cons (sv_own 2 sc_rows_put_off.nd av_nil) (bv_cons (sv_set 3 sc_rows_put_off.nd ev_int) (bv_cons (sv_for PassesOwn.never rfl (iv_seq (ev_var 0)) (gv_name 4 sc_rows_put_off.nd) (bv_one (sv_if (tv_cmp (d_eq hr.units) (ev_ix d_ix (ev_var 4) ev_int (fun _ _ => rfl)) ev_str (nomark _)) (bv_cons (sv_app 2 (ev_tup (av_cons ev_str (av_cons (ev_ix d_ix (ev_var 4) ev_int (fun _ _ => rfl)) (av_cons (ev_op d_add (ev_var 1) (ev_var 3)) av_nil))))) (bv_one (sv_set 3 sc_rows_put_off.nd (ev_op d_add (ev_var 3) ev_int)))) (bv_one (sv_if (tv_cmp (d_eq hr.units) (ev_ix d_ix (ev_var 4) ev_int (fun _ _ => rfl)) ev_str (nomark _)) (bv_one (sv_app 2 (ev_def0 C_where_put_off (hr.mono (by decide)) rfl (av_cons (ev_var 4) (av_cons (ev_var 1) av_nil))))) (bv_one (sv_app 2 (ev_var 4)))))))) (bv_one (sv_fz 2 (sv_ret (ev_var 2)))))))
theorem sc_put_off : FnScope N_put_off ["circuit"] (defScope s_put_off) := ⟨rfl, rfl, rfl, by decide +kernel, rfl, by decide +kernel, by decide +kernel⟩
theorem okx_put_off {f : Addr} {fd : FuncData} {dV : Value} (F : FunV K "put_off" "put_off" s_put_off f fd dV) (T : Txt mg) (T_MOST_WIRES : TopV K mg "MOST_WIRES" (.int 6)) (T_MOST_ROWS : TopV K mg "MOST_ROWS" (.int 60)) (C_looks_in : Cal P w K mg base "looks_in" 1 g_looks_in []) (C_rows_put_off : Cal P w K mg base "rows_put_off" 2 g_rows_put_off []) (E_TooGreat : ExcX K "TooGreat") : FnOk P w K mg base (CXX P w) 3 f fd ["circuit"] (spX K x_put_off) :=
  fn_x (k := 2) (fx := bx_put_off) F sc_put_off fun cdv A outer s H E hr => (bx_next (SV.lift (sv_set 1 sc_put_off.nd (ev_ix d_ix (ev_var 0) ev_int (fun _ _ => rfl)))) (bx_next (SV.lift (sv_set 2 sc_put_off.nd (ev_def0 C_looks_in (hr.mono (by decide)) rfl (av_cons (ev_var 0) av_nil)))) (bx_here (sx_if (TV.lift (WV.tv (wv_or (tv_cmp d_gt (ev_op d_add (ev_var 1) (ev_var 2)) (ev_topV T_MOST_WIRES rfl) (nomark _)) (wv_or1 (tv_cmp d_gt (ev_op d_add (ev_callB c_len rfl T.len (by decide +kernel) (av_cons (ev_ix d_ix (ev_var 0) ev_int (fun _ _ => rfl)) av_nil)) (ev_var 2)) (ev_topV T_MOST_ROWS rfl) (nomark _)))))) (bx_here (sx_raise E_TooGreat rfl rfl (EV.lift ev_str))) bx_no))))
theorem ok_put_off {f : Addr} {fd : FuncData} {dV : Value} (F : FunV K "put_off" "put_off" s_put_off f fd dV) (T : Txt mg) (T_MOST_WIRES : TopV K mg "MOST_WIRES" (.int 6)) (T_MOST_ROWS : TopV K mg "MOST_ROWS" (.int 60)) (C_looks_in : Cal P w K mg base "looks_in" 1 g_looks_in []) (C_rows_put_off : Cal P w K mg base "rows_put_off" 2 g_rows_put_off []) : FnOk P w K mg base CX0 3 f fd ["circuit"] (spD K g_put_off) :=
  fn_b (k := 2) (b := b_put_off) F sc_put_off fun cdv A outer s H E hr => (bv_cons (sv_set 1 sc_put_off.nd (ev_ix d_ix (ev_var 0) ev_int (fun _ _ => rfl))) (bv_cons (sv_set 2 sc_put_off.nd (ev_def0 C_looks_in (hr.mono (by decide)) rfl (av_cons (ev_var 0) av_nil))) (bv_cons (sv_if (WV.tv (wv_or (tv_cmp d_gt (ev_op d_add (ev_var 1) (ev_var 2)) (ev_topV T_MOST_WIRES rfl) (nomark _)) (wv_or1 (tv_cmp d_gt (ev_op d_add (ev_callB c_len rfl T.len (by decide +kernel) (av_cons (ev_ix d_ix (ev_var 0) ev_int (fun _ _ => rfl)) av_nil)) (ev_var 2)) (ev_topV T_MOST_ROWS rfl) (nomark _))))) (bv_one sv_no) bv_nil) (bv_cons (sv_comp 3 sc_put_off.nd (vars := ["mark"]) (caps := [(1, "wires")]) (by change BlkOk (defScope s_put_off).names N_put_off _ _ _; exact ⟨rfl, by decide +kernel, by decide +kernel, by decide +kernel, by decide +kernel⟩) rfl (iv_range1 rfl T.range (av_cons (ev_var 2) av_nil)) tg_one (fun _ _ _ _ => pg_name (i := 0) (show (["mark", "wires"] : List Str).Nodup by decide +kernel) rfl (Or.inl rfl) (.inr rfl)) (fun _ _ _ _ => (ev_tup (av_cons ev_str (av_cons (ev_op d_add (ev_var 1) (ev_var 0)) av_nil))))) (bv_one (sv_ret (ev_tup (av_cons (ev_op d_add (ev_var 1) (ev_var 2)) (av_cons (ev_callTy c_tuple rfl T.tuple (by decide +kernel) (av_cons (ev_op d_add (ev_def0 C_rows_put_off (hr.mono (by decide)) rfl (av_cons (ev_ix d_ix (ev_var 0) ev_int (fun _ _ => rfl)) (av_cons (ev_var 1) av_nil))) (ev_var 3)) av_nil)) av_nil)))))))))
theorem sc__law_cell_at : FnScope N__law_cell_at ["script", "k"] (defScope s__law_cell_at) := ⟨rfl, rfl, rfl, by decide +kernel, rfl, by decide +kernel, by decide +kernel⟩
theorem ok__law_cell_at {f : Addr} {fd : FuncData} {dV : Value} (F : FunV K "_law_cell_at" "_law_cell_at" s__law_cell_at f fd dV) (T : Txt mg) : FnOk P w K mg base CX0 1 f fd ["script", "k"] (spD K g__law_cell_at) :=
  fn_b (k := 0) (b := b__law_cell_at) F sc__law_cell_at fun cdv A outer s H E hr => (bv_cons (sv_if (tv_cmp d_lt (ev_var 1) (ev_callB c_len rfl T.len (by decide +kernel) (av_cons (ev_var 0) av_nil)) (nomark _)) (bv_one (sv_ret (ev_ix d_ix (ev_var 0) (ev_var 1) (fun _ _ => rfl)))) bv_nil) (bv_one (sv_ret ev_int)))
theorem sc__law_row : FnScope N__law_row ["cell", "wires"] (defScope s__law_row) := ⟨rfl, rfl, rfl, by decide +kernel, rfl, by decide +kernel, by decide +kernel⟩
theorem ok__law_row {f : Addr} {fd : FuncData} {dV : Value} (F : FunV K "_law_row" "_law_row" s__law_row f fd dV) (T : Txt mg) : FnOk P w K mg base CX0 1 f fd ["cell", "wires"] (spD K g__law_row) :=
  fn_b (k := 0) (b := b__law_row) F sc__law_row fun cdv A outer s H E hr => (bv_cons (sv_set 2 sc__law_row.nd (ev_op d_mod (ev_var 0) ev_int)) (bv_cons (sv_set 3 sc__law_row.nd (ev_op d_mod (ev_op d_div (ev_var 0) ev_int) (ev_var 1))) (bv_cons (sv_if (WV.tv (wv_and (tv_cmp (d_eq hr.units) (ev_var 1) ev_int (nomark _)) (wv_and1 (tv_cmp d_gt (ev_var 2) ev_int (nomark _))))) (bv_one (sv_set 2 sc__law_row.nd (ev_op d_mod (ev_var 2) ev_int))) bv_nil) (bv_cons (sv_if (tv_cmp (d_eq hr.units) (ev_var 2) ev_int (nomark _)) (bv_one (sv_ret (ev_tup (av_cons ev_str (av_cons (ev_var 3) (av_cons (ev_op d_add ev_int (ev_op d_mod (ev_op d_div (ev_var 0) ev_int) ev_int)) av_nil)))))) bv_nil) (bv_cons (sv_if (WV.tv (wv_or (tv_cmp (d_eq hr.units) (ev_var 2) ev_int (nomark _)) (wv_or1 (tv_cmp (d_eq hr.units) (ev_var 2) ev_int (nomark _))))) (bv_one (sv_ret (ev_tup (av_cons (ev_ix d_ix (ev_lst (av_cons ev_str (av_cons ev_str (av_cons ev_str av_nil)))) (ev_var 2) (fun _ _ => rfl)) (av_cons (ev_var 3) av_nil))))) bv_nil) (bv_cons (sv_set 4 sc__law_row.nd (ev_op d_mod (ev_op d_add (ev_op d_add (ev_var 3) ev_int) (ev_op d_mod (ev_op d_div (ev_var 0) ev_int) (ev_op d_sub (ev_var 1) ev_int))) (ev_var 1))) (bv_one (sv_ret (ev_tup (av_cons (ev_ix d_ix (ev_lst (av_cons ev_str (av_cons ev_str (av_cons ev_str av_nil)))) (ev_op d_sub (ev_var 2) ev_int) (fun _ _ => rfl)) (av_cons (ev_var 4) (av_cons (ev_var 3) av_nil))))))))))))
theorem sc__law_rows : FnScope N__law_rows ["cells", "wires", "most"] (defScope s__law_rows) := ⟨rfl, rfl, rfl, by decide +kernel, rfl, by decide +kernel, by decide +kernel⟩
theorem ok__law_rows {f : Addr} {fd : FuncData} {dV : Value} (F : FunV K "_law_rows" "_law_rows" s__law_rows f fd dV) (T : Txt mg) (C__law_row : Cal P w K mg base "_law_row" 1 g__law_row []) : FnOk P w K mg base CX0 2 f fd ["cells", "wires", "most"] (spD K g__law_rows) :=
  fn_b (k := 1) (b := b__law_rows) F sc__law_rows fun cdv A outer s H E hr => (bv_cons (sv_own 3 sc__law_rows.nd av_nil) (bv_cons (sv_set 4 sc__law_rows.nd ev_int) (bv_cons (sv_for PassesOwn.never rfl (iv_seq (ev_var 0)) (gv_name 5 sc__law_rows.nd) (bv_cons (sv_set 6 sc__law_rows.nd (ev_op d_mod (ev_var 5) ev_int)) (bv_cons (sv_set 7 sc__law_rows.nd (ev_op d_div (ev_var 5) ev_int)) (bv_one (sv_if (WV.tv (wv_and (tv_cmp (d_eq hr.units) (ev_var 6) ev_int (nomark _)) (wv_and1 (tv_cmp d_lt (ev_var 4) (ev_var 2) (nomark _))))) (bv_cons (sv_app 3 (ev_tup (av_cons ev_str (av_cons (ev_op d_mod (ev_var 7) (ev_var 1)) av_nil)))) (bv_one (sv_set 4 sc__law_rows.nd (ev_op d_add (ev_var 4) ev_int)))) (bv_one (sv_if (WV.tv (wv_and (tv_cmp (d_eq hr.units) (ev_var 6) ev_int (nomark _)) (wv_and1 (tv_cmp d_gt (ev_var 4) ev_int (nomark _))))) (bv_cons (sv_set 8 sc__law_rows.nd (ev_ix d_ix (ev_lst (av_cons (ev_tup (av_cons ev_str (av_cons (ev_op d_mod (ev_op d_div (ev_var 7) ev_int) (ev_var 1)) av_nil))) (av_cons (ev_tup (av_cons ev_str (av_cons (ev_op d_mod (ev_op d_div (ev_var 7) ev_int) (ev_var 1)) (av_cons ev_int av_nil)))) av_nil))) (ev_op d_mod (ev_var 7) ev_int) (fun _ _ => rfl))) (bv_one (sv_app 3 (ev_tup (av_cons ev_str (av_cons (ev_op d_mod (ev_op d_div (ev_var 7) ev_int) (ev_var 4)) (av_cons (ev_var 8) av_nil))))))) (bv_one (sv_app 3 (ev_def0 C__law_row (hr.mono (by decide)) rfl (av_cons (ev_var 7) (av_cons (ev_var 1) av_nil)))))))))))) (bv_one (sv_fz 3 (sv_ret (ev_callTy c_tuple rfl T.tuple (by decide +kernel) (av_cons (ev_var 3) av_nil))))))))
theorem sc__law_looks : FnScope N__law_looks ["rows"] (defScope s__law_looks) := ⟨rfl, rfl, rfl, by decide +kernel, rfl, by decide +kernel, by decide +kernel⟩
theorem ok__law_looks {f : Addr} {fd : FuncData} {dV : Value} (F : FunV K "_law_looks" "_law_looks" s__law_looks f fd dV) (T : Txt mg) : FnOk P w K mg base CX0 1 f fd ["rows"] (spD K g__law_looks) :=
  fn_b (k := 0) (b := b__law_looks) F sc__law_looks fun cdv A outer s H E hr => (bv_one (sv_ret (ev_callB c_len rfl T.len (by decide +kernel) (av_cons (ev_compI (vars := ["row"]) (caps := []) (by change BlkOk (defScope s__law_looks).names N__law_looks _ _ _; exact ⟨rfl, by decide +kernel, by decide +kernel, by decide +kernel, by decide +kernel⟩) rfl (iv_seq (ev_var 0)) tg_one (fun _ _ _ _ => pg_name (i := 0) (show (["row"] : List Str).Nodup by decide +kernel) rfl (Or.inl rfl) (.inr rfl)) (fun _ _ _ _ => (tv_cmp (d_eq hr.units) (ev_ix d_ix (ev_var 0) ev_int (fun _ _ => rfl)) ev_str (nomark _))) (fun _ _ _ _ => (ev_var 0))) av_nil))))
theorem sc__law_due : FnScope N__law_due ["wires", "rows"] (defScope s__law_due) := ⟨rfl, rfl, rfl, by decide +kernel, rfl, by decide +kernel, by decide +kernel⟩
theorem ok__law_due {f : Addr} {fd : FuncData} {dV : Value} (F : FunV K "_law_due" "_law_due" s__law_due f fd dV) (T : Txt mg) : FnOk P w K mg base CX0 1 f fd ["wires", "rows"] (spD K g__law_due) :=
  fn_b (k := 0) (b := b__law_due) F sc__law_due fun cdv A outer s H E hr => (bv_cons (sv_own 2 sc__law_due.nd av_nil) (bv_cons (sv_set 3 sc__law_due.nd ev_int) (bv_cons (sv_for PassesOwn.never rfl (iv_seq (ev_var 1)) (gv_name 4 sc__law_due.nd) (bv_one (sv_if (tv_cmp (d_eq hr.units) (ev_ix d_ix (ev_var 4) ev_int (fun _ _ => rfl)) ev_str (nomark _)) (bv_cons (sv_app 2 (ev_tup (av_cons ev_str (av_cons (ev_ix d_ix (ev_var 4) ev_int (fun _ _ => rfl)) (av_cons (ev_op d_add (ev_var 0) (ev_var 3)) av_nil))))) (bv_one (sv_set 3 sc__law_due.nd (ev_op d_add (ev_var 3) ev_int)))) (bv_one (sv_if (WV.tv (wv_and (tv_cmp (d_eq hr.units) (ev_ix d_ix (ev_var 4) ev_int (fun _ _ => rfl)) ev_str (nomark _)) (wv_and1 (tv_cmp (d_eq hr.units) (ev_ix d_ix (ev_ix d_ix (ev_var 4) ev_int (fun _ _ => rfl)) ev_int (fun _ _ => rfl)) ev_str (nomark _))))) (bv_one (sv_app 2 (ev_tup (av_cons ev_str (av_cons (ev_op d_add (ev_var 0) (ev_ix d_ix (ev_var 4) ev_int (fun _ _ => rfl))) (av_cons (ev_ix d_ix (ev_ix d_ix (ev_var 4) ev_int (fun _ _ => rfl)) ev_int (fun _ _ => rfl)) av_nil)))))) (bv_one (sv_if (tv_cmp (d_eq hr.units) (ev_ix d_ix (ev_var 4) ev_int (fun _ _ => rfl)) ev_str (nomark _)) (bv_one (sv_app 2 (ev_tup (av_cons ev_str (av_cons (ev_op d_add (ev_var 0) (ev_ix d_ix (ev_var 4) ev_int (fun _ _ => rfl))) (av_cons (ev_ix d_ix (ev_ix d_ix (ev_var 4) ev_int (fun _ _ => rfl)) ev_int (fun _ _ => rfl)) av_nil)))))) (bv_one (sv_app 2 (ev_var 4)))))))))) (bv_one (sv_fz 2 (sv_ret (ev_tup (av_cons (ev_op d_add (ev_var 0) (ev_var 3)) (av_cons (ev_callTy c_tuple rfl T.tuple (by decide +kernel) (av_cons (ev_op d_add (ev_var 2) (ev_comp (vars := ["m"]) (caps := [(0, "wires")]) (by change BlkOk (defScope s__law_due).names N__law_due _ _ _; exact ⟨rfl, by decide +kernel, by decide +kernel, by decide +kernel, by decide +kernel⟩) rfl (iv_range1 rfl T.range (av_cons (ev_var 3) av_nil)) tg_one (fun _ _ _ _ => pg_name (i := 0) (show (["m", "wires"] : List Str).Nodup by decide +kernel) rfl (Or.inl rfl) (.inr rfl)) (fun _ _ _ _ => (ev_tup (av_cons ev_str (av_cons (ev_op d_add (ev_var 1) (ev_var 0)) av_nil)))))) av_nil)) av_nil)))))))))
theorem sc__law_kinds : FnScope N__law_kinds ["found"] (defScope s__law_kinds) := ⟨rfl, rfl, rfl, by decide +kernel, rfl, by decide +kernel, by decide +kernel⟩
theorem ok__law_kinds {f : Addr} {fd : FuncData} {dV : Value} (F : FunV K "_law_kinds" "_law_kinds" s__law_kinds f fd dV) (T : Txt mg) : FnOk P w K mg base CX0 1 f fd ["found"] (spD K g__law_kinds) :=
  fn_b (k := 0) (b := b__law_kinds) F sc__law_kinds fun cdv A outer s H E hr => (bv_cons (sv_if (WV.tv (wv_or (tv_not (tv_val (ev_isi (T := "tuple") rfl T.isinstance rfl T.tuple (by decide +kernel) (by decide) (by decide) (ev_var 0)))) (wv_or (tv_cmp (d_ne hr.units) (ev_callB c_len rfl T.len (by decide +kernel) (av_cons (ev_var 0) av_nil)) ev_int (nomark _)) (wv_or (tv_not (tv_val (ev_isi (T := "tuple") rfl T.isinstance rfl T.tuple (by decide +kernel) (by decide) (by decide) (ev_ix d_ix (ev_var 0) ev_int (fun _ _ => rfl))))) (wv_or1 (tv_val (ev_isi (T := "bool") rfl T.isinstance rfl T.bool (by decide +kernel) (by decide) (by decide) (ev_ix d_ix (ev_var 0) ev_int (fun _ _ => rfl))))))))) (bv_one (sv_ret ev_bl)) bv_nil) (bv_cons (sv_for PassesOwn.never rfl (iv_seq (ev_ix d_ix (ev_var 0) ev_int (fun _ _ => rfl))) (gv_name 1 sc__law_kinds.nd) (bv_cons (sv_if (tv_not (tv_val (ev_isi (T := "tuple") rfl T.isinstance rfl T.tuple (by decide +kernel) (by decide) (by decide) (ev_var 1)))) (bv_one (sv_ret ev_bl)) bv_nil) (bv_one (sv_for PassesOwn.never rfl (iv_seq (ev_slice (ev_var 1) (ov_some ev_int) ov_none)) (gv_name 2 sc__law_kinds.nd) (bv_one (sv_if (WV.tv (wv_or (tv_not (tv_val (ev_isi (T := "int") rfl T.isinstance rfl T.int (by decide +kernel) (by decide) (by decide) (ev_var 2)))) (wv_or1 (tv_val (ev_isi (T := "bool") rfl T.isinstance rfl T.bool (by decide +kernel) (by decide) (by decide) (ev_var 2)))))) (bv_one (sv_ret ev_bl)) bv_nil)))))) (bv_one (sv_ret ev_bl))))
theorem sc_law : FnScope N_law ["script"] (defScope s_law) := ⟨rfl, rfl, rfl, by decide +kernel, rfl, by decide +kernel, by decide +kernel⟩
theorem ok_law {f : Addr} {fd : FuncData} {dV : Value} (F : FunV K "law" "law" s_law f fd dV) (T : Txt mg) (C__law_cell_at : Cal P w K mg base "_law_cell_at" 1 g__law_cell_at []) (C__law_rows : Cal P w K mg base "_law_rows" 2 g__law_rows []) (C__law_looks : Cal P w K mg base "_law_looks" 1 g__law_looks []) (C_put_off : Cal P w K mg base "put_off" 3 g_put_off []) (C__law_kinds : Cal P w K mg base "_law_kinds" 1 g__law_kinds []) (C__law_due : Cal P w K mg base "_law_due" 1 g__law_due []) (Y_put_off : CalX P w K mg base "put_off" 3 x_put_off []) (H_WaveError : Hnd K "WaveError" hs_WaveError) (I_UnlikeWires : IsX K "UnlikeWires" tt_UnlikeWires) (I_OddTurn : IsX K "OddTurn" tt_OddTurn) (I_HasLooks : IsX K "HasLooks" tt_HasLooks) (I_ValueError : IsT K "ValueError" tt_ValueError) (I_TooGreat : IsX K "TooGreat" tt_TooGreat) : FnOk P w K mg base CX0 4 f fd ["script"] (spD K g_law) :=
  fn_b (k := 3) (b := b_law) F sc_law fun cdv A outer s H E hr => (bv_cons (sv_set 1 sc_law.nd (ev_def0 C__law_cell_at (hr.mono (by decide)) rfl (av_cons (ev_var 0) (av_cons ev_int av_nil)))) (bv_cons (sv_set 2 sc_law.nd (ev_op d_add ev_int (ev_op d_mod (ev_var 1) ev_int))) (bv_cons (sv_set 3 sc_law.nd (ev_def0 C__law_rows (hr.mono (by decide)) rfl (av_cons (ev_slice (ev_var 0) (ov_some ev_int) (ov_some ev_int)) (av_cons (ev_var 2) (av_cons (ev_op d_mod (ev_op d_div (ev_var 1) ev_int) ev_int) av_nil))))) (bv_cons (sv_set 4 sc_law.nd (ev_def0 C__law_looks (hr.mono (by decide)) rfl (av_cons (ev_var 3) av_nil))) (bv_cons (sv_set 5 sc_law.nd ev_non) (bv_cons (sv_set 6 sc_law.nd ev_non) (bv_cons (sv_try 7 H_WaveError rfl sc_law.nd rfl rfl rfl rfl (bv_one (sv_set 5 sc_law.nd (ev_def0 C_put_off (hr.mono (by decide)) rfl (av_cons (ev_tup (av_cons (ev_var 2) (av_cons (ev_var 3) av_nil))) av_nil)))) (fun _ _ => (bx_here (sx_set 5 sc_law.nd (ex_def Y_put_off (hr.mono (by decide)) rfl (AV.lift (av_cons (ev_tup (av_cons (ev_var 2) (av_cons (ev_var 3) av_nil))) av_nil)))))) (fun _ => (bv_one (sv_set 6 sc_law.nd (ev_var 7))))) (bv_cons (sv_if (WV.tv (wv_or (tv_cmp d_gt (ev_op d_add (ev_var 2) (ev_var 4)) ev_int (nomark _)) (wv_or1 (tv_cmp d_gt (ev_op d_add (ev_callB c_len rfl T.len (by decide +kernel) (av_cons (ev_var 3) av_nil)) (ev_var 4)) ev_int (nomark _))))) (bv_cons (sv_set 8 sc_law.nd (ev_or (ev_isx I_HasLooks rfl T.isinstance rfl (ev_var 6)) (ev_or (ev_isx I_OddTurn rfl T.isinstance rfl (ev_var 6)) (ev_one (ev_isx I_UnlikeWires rfl T.isinstance rfl (ev_var 6)))))) (bv_one (sv_ret (ev_and (ev_isx I_TooGreat rfl T.isinstance rfl (ev_var 6)) (ev_and (ev_isxT I_ValueError rfl T.isinstance rfl T.ValueError (ev_var 6)) (ev_one (ev_not (ev_var 8)))))))) bv_nil) (bv_one (sv_ret (ev_and (ev_cmp d_is (ev_var 6) ev_non (nomark _)) (ev_and (ev_def0 C__law_kinds (hr.mono (by decide)) rfl (av_cons (ev_var 5) av_nil)) (ev_one (ev_cmp (d_eq hr.units) (ev_var 5) (ev_def0 C__law_due (hr.mono (by decide)) rfl (av_cons (ev_var 2) (av_cons (ev_var 3) av_nil))) (nomark _)))))))))))))))
end

theorem all_mk {l : PySem.W.OpenLaw} {w : World} {K : PySem.W.Frag} {h : Heap} {mg : Str → Option Value} {fa f0 f1 f2 f3 f4 f5 f6 f7 f8 f9 f10 xc_WaveError xc_UnlikeWires xc_OddTurn xc_HasLooks xc_TooGreat : Addr} {od0 an0 od1 an1 od2 an2 od3 an3 od4 an4 od5 an5 od6 an6 od7 an7 od8 an8 od9 an9 od10 an10 : Option Addr} {sl0 sl1 sl2 sl3 sl4 sl5 sl6 sl7 sl8 sl9 sl10 : Array (Option Value)} {oc0 kV0 dc0 pm0 cd0 ct0 oc1 kV1 dc1 pm1 cd1 ct1 oc2 kV2 dc2 pm2 cd2 ct2 oc3 kV3 dc3 pm3 cd3 ct3 oc4 kV4 dc4 pm4 cd4 ct4 oc5 kV5 dc5 pm5 cd5 ct5 oc6 kV6 dc6 pm6 cd6 ct6 oc7 kV7 dc7 pm7 cd7 ct7 oc8 kV8 dc8 pm8 cd8 ct8 oc9 kV9 dc9 pm9 cd9 ct9 oc10 kV10 dc10 pm10 cd10 ct10 : Value} {tk_MOST_WIRES_0 tk_MOST_ROWS_0 : Tok} (X : K.In h) (G : h.Ns mainGlobals mg) (hfa : mg "law" = some (.ref fa))
    (a0 : PySem.W.nsIn K mainGlobals "looks_in" = some (some (.ref f0))) (l0 : K.lookup f0 = some ⟨oc0, od0, .func (PySem.W.fnOf "looks_in" "looks_in" (defArgs s_looks_in) (defBody s_looks_in) (defScope s_looks_in) .none kV0 dc0 pm0 an0 cd0 ct0), sl0⟩) (c0 : PySem.W.codeIn K cd0 "looks_in" = true) (k0 : PySem.W.keepIn K (.ref f0) = true)
    (a1 : PySem.W.nsIn K mainGlobals "where_put_off" = some (some (.ref f1))) (l1 : K.lookup f1 = some ⟨oc1, od1, .func (PySem.W.fnOf "where_put_off" "where_put_off" (defArgs s_where_put_off) (defBody s_where_put_off) (defScope s_where_put_off) .none kV1 dc1 pm1 an1 cd1 ct1), sl1⟩) (c1 : PySem.W.codeIn K cd1 "where_put_off" = true) (k1 : PySem.W.keepIn K (.ref f1) = true)
    (a2 : PySem.W.nsIn K mainGlobals "rows_put_off" = some (some (.ref f2))) (l2 : K.lookup f2 = some ⟨oc2, od2, .func (PySem.W.fnOf "rows_put_off" "rows_put_off" (defArgs s_rows_put_off) (defBody s_rows_put_off) (defScope s_rows_put_off) .none kV2 dc2 pm2 an2 cd2 ct2), sl2⟩) (c2 : PySem.W.codeIn K cd2 "rows_put_off" = true) (k2 : PySem.W.keepIn K (.ref f2) = true)
    (a3 : PySem.W.nsIn K mainGlobals "put_off" = some (some (.ref f3))) (l3 : K.lookup f3 = some ⟨oc3, od3, .func (PySem.W.fnOf "put_off" "put_off" (defArgs s_put_off) (defBody s_put_off) (defScope s_put_off) .none kV3 dc3 pm3 an3 cd3 ct3), sl3⟩) (c3 : PySem.W.codeIn K cd3 "put_off" = true) (k3 : PySem.W.keepIn K (.ref f3) = true)
    (a4 : PySem.W.nsIn K mainGlobals "_law_cell_at" = some (some (.ref f4))) (l4 : K.lookup f4 = some ⟨oc4, od4, .func (PySem.W.fnOf "_law_cell_at" "_law_cell_at" (defArgs s__law_cell_at) (defBody s__law_cell_at) (defScope s__law_cell_at) .none kV4 dc4 pm4 an4 cd4 ct4), sl4⟩) (c4 : PySem.W.codeIn K cd4 "_law_cell_at" = true) (k4 : PySem.W.keepIn K (.ref f4) = true)
    (a5 : PySem.W.nsIn K mainGlobals "_law_row" = some (some (.ref f5))) (l5 : K.lookup f5 = some ⟨oc5, od5, .func (PySem.W.fnOf "_law_row" "_law_row" (defArgs s__law_row) (defBody s__law_row) (defScope s__law_row) .none kV5 dc5 pm5 an5 cd5 ct5), sl5⟩) (c5 : PySem.W.codeIn K cd5 "_law_row" = true) (k5 : PySem.W.keepIn K (.ref f5) = true)
    (a6 : PySem.W.nsIn K mainGlobals "_law_rows" = some (some (.ref f6))) (l6 : K.lookup f6 = some ⟨oc6, od6, .func (PySem.W.fnOf "_law_rows" "_law_rows" (defArgs s__law_rows) (defBody s__law_rows) (defScope s__law_rows) .none kV6 dc6 pm6 an6 cd6 ct6), sl6⟩) (c6 : PySem.W.codeIn K cd6 "_law_rows" = true) (k6 : PySem.W.keepIn K (.ref f6) = true)
    (a7 : PySem.W.nsIn K mainGlobals "_law_looks" = some (some (.ref f7))) (l7 : K.lookup f7 = some ⟨oc7, od7, .func (PySem.W.fnOf "_law_looks" "_law_looks" (defArgs s__law_looks) (defBody s__law_looks) (defScope s__law_looks) .none kV7 dc7 pm7 an7 cd7 ct7), sl7⟩) (c7 : PySem.W.codeIn K cd7 "_law_looks" = true) (k7 : PySem.W.keepIn K (.ref f7) = true)
    (a8 : PySem.W.nsIn K mainGlobals "_law_due" = some (some (.ref f8))) (l8 : K.lookup f8 = some ⟨oc8, od8, .func (PySem.W.fnOf "_law_due" "_law_due" (defArgs s__law_due) (defBody s__law_due) (defScope s__law_due) .none kV8 dc8 pm8 an8 cd8 ct8), sl8⟩) (c8 : PySem.W.codeIn K cd8 "_law_due" = true) (k8 : PySem.W.keepIn K (.ref f8) = true)
    (a9 : PySem.W.nsIn K mainGlobals "_law_kinds" = some (some (.ref f9))) (l9 : K.lookup f9 = some ⟨oc9, od9, .func (PySem.W.fnOf "_law_kinds" "_law_kinds" (defArgs s__law_kinds) (defBody s__law_kinds) (defScope s__law_kinds) .none kV9 dc9 pm9 an9 cd9 ct9), sl9⟩) (c9 : PySem.W.codeIn K cd9 "_law_kinds" = true) (k9 : PySem.W.keepIn K (.ref f9) = true)
    (a10 : PySem.W.nsIn K mainGlobals "law" = some (some (.ref f10))) (l10 : K.lookup f10 = some ⟨oc10, od10, .func (PySem.W.fnOf "law" "law" (defArgs s_law) (defBody s_law) (defScope s_law) .none kV10 dc10 pm10 an10 cd10 ct10), sl10⟩) (c10 : PySem.W.codeIn K cd10 "law" = true) (k10 : PySem.W.keepIn K (.ref f10) = true)
    (z_len : PySem.W.nsIn K mainGlobals "len" = some none)
    (z_tuple : PySem.W.nsIn K mainGlobals "tuple" = some none)
    (z_range : PySem.W.nsIn K mainGlobals "range" = some none)
    (z_isinstance : PySem.W.nsIn K mainGlobals "isinstance" = some none)
    (z_bool : PySem.W.nsIn K mainGlobals "bool" = some none)
    (z_int : PySem.W.nsIn K mainGlobals "int" = some none)
    (z_ValueError : PySem.W.nsIn K mainGlobals "ValueError" = some none)
    (a_MOST_WIRES : PySem.W.nsIn K mainGlobals "MOST_WIRES" = some (some (.int 6 tk_MOST_WIRES_0)))
    (a_MOST_ROWS : PySem.W.nsIn K mainGlobals "MOST_ROWS" = some (some (.int 60 tk_MOST_ROWS_0)))
    (xn_WaveError : PySem.W.nsIn K mainGlobals "WaveError" = some (some (.ref xc_WaveError)))
    (xn_UnlikeWires : PySem.W.nsIn K mainGlobals "UnlikeWires" = some (some (.ref xc_UnlikeWires)))
    (xn_OddTurn : PySem.W.nsIn K mainGlobals "OddTurn" = some (some (.ref xc_OddTurn)))
    (xn_HasLooks : PySem.W.nsIn K mainGlobals "HasLooks" = some (some (.ref xc_HasLooks)))
    (xn_TooGreat : PySem.W.nsIn K mainGlobals "TooGreat" = some (some (.ref xc_TooGreat)))
    (xe_WaveError : PySem.W.excIn K xc_WaveError [.type "ValueError", .type "Exception", .type "BaseException", .type "object"] "ValueError.__new__" = true)
    (xe_TooGreat : PySem.W.excIn K xc_TooGreat [.type "ValueError", .type "Exception", .type "BaseException", .type "object"] "ValueError.__new__" = true)
    (xga_TooGreat : PySem.W.findIn K (.ref xc_TooGreat) "__getattribute__" = some (some (.builtin "BaseException.__getattribute__")))
    (xgt_TooGreat : PySem.W.findIn K (.ref xc_TooGreat) "__getattr__" = some none)
    (xcl_TooGreat : PySem.W.findIn K (.ref xc_TooGreat) "__class__" = some (some (.builtin "object.__class__")))
    (xmo_TooGreat : PySem.W.mroIn K xc_TooGreat (.type "object") = some true)
    (xbe_TooGreat : PySem.W.mroIn K xc_TooGreat (.type "BaseException") = some true)
    (xs_TooGreat_WaveError : PySem.W.subIn K (.ref xc_TooGreat) (.ref xc_WaveError) = some true)
    (xk_TooGreat_UnlikeWires : PySem.W.kitOne K (.ref xc_TooGreat) (.ref xc_UnlikeWires) = some false)
    (xk_TooGreat_OddTurn : PySem.W.kitOne K (.ref xc_TooGreat) (.ref xc_OddTurn) = some false)
    (xk_TooGreat_HasLooks : PySem.W.kitOne K (.ref xc_TooGreat) (.ref xc_HasLooks) = some false)
    (xk_TooGreat_ValueError : PySem.W.kitOne K (.ref xc_TooGreat) (.type "ValueError") = some true)
    (xk_TooGreat_TooGreat : PySem.W.kitOne K (.ref xc_TooGreat) (.ref xc_TooGreat) = some true)
    : ∃ fd : FuncData, (∀ (s : Shared) (v : Value), BindsTo s fd ⟨[v], []⟩ [("script", v)]) ∧ ∀ base : Heap, K.In base → base.Ns mainGlobals mg → FnOk l.prog w K mg base CX0 4 fa fd ["script"] (spLaw K) := by
  have e := hfa.symm.trans (PySem.W.mg_of X G a10)
  cases e
  have T : Txt mg := ⟨PySem.W.mg_none_of X G z_len, PySem.W.mg_none_of X G z_tuple, PySem.W.mg_none_of X G z_range, PySem.W.mg_none_of X G z_isinstance, PySem.W.mg_none_of X G z_bool, PySem.W.mg_none_of X G z_int, PySem.W.mg_none_of X G z_ValueError⟩
  have T_MOST_WIRES : TopV K mg "MOST_WIRES" (.int 6) := TopV.int (PySem.W.mg_of X G a_MOST_WIRES)
  have T_MOST_ROWS : TopV K mg "MOST_ROWS" (.int 60) := TopV.int (PySem.W.mg_of X G a_MOST_ROWS)
  have F0 := funV_mk (st := s_looks_in) l0 c0 k0
  have F1 := funV_mk (st := s_where_put_off) l1 c1 k1
  have F2 := funV_mk (st := s_rows_put_off) l2 c2 k2
  have F3 := funV_mk (st := s_put_off) l3 c3 k3
  have F4 := funV_mk (st := s__law_cell_at) l4 c4 k4
  have F5 := funV_mk (st := s__law_row) l5 c5 k5
  have F6 := funV_mk (st := s__law_rows) l6 c6 k6
  have F7 := funV_mk (st := s__law_looks) l7 c7 k7
  have F8 := funV_mk (st := s__law_due) l8 c8 k8
  have F9 := funV_mk (st := s__law_kinds) l9 c9 k9
  have F10 := funV_mk (st := s_law) l10 c10 k10
  have F_TooGreat : ExcC K "TooGreat" xc_TooGreat := ⟨xn_TooGreat, xe_TooGreat, xga_TooGreat, xgt_TooGreat, xcl_TooGreat, xmo_TooGreat, xbe_TooGreat⟩
  have E_TooGreat : ExcX K "TooGreat" := ⟨⟨_, F_TooGreat⟩⟩
  have H_WaveError : Hnd K "WaveError" hs_WaveError := ⟨⟨_, xn_WaveError, xe_WaveError, (.cons F_TooGreat xs_TooGreat_WaveError .nil)⟩⟩
  have I_UnlikeWires : IsX K "UnlikeWires" tt_UnlikeWires := (.cons F_TooGreat xn_UnlikeWires xk_TooGreat_UnlikeWires .nil)
  have I_OddTurn : IsX K "OddTurn" tt_OddTurn := (.cons F_TooGreat xn_OddTurn xk_TooGreat_OddTurn .nil)
  have I_HasLooks : IsX K "HasLooks" tt_HasLooks := (.cons F_TooGreat xn_HasLooks xk_TooGreat_HasLooks .nil)
  have I_ValueError : IsT K "ValueError" tt_ValueError := (.cons F_TooGreat xk_TooGreat_ValueError .nil)
  have I_TooGreat : IsX K "TooGreat" tt_TooGreat := (.cons F_TooGreat xn_TooGreat xk_TooGreat_TooGreat .nil)
  refine ⟨PySem.W.fnOf "law" "law" (defArgs s_law) (defBody s_law) (defScope s_law) .none kV10 dc10 pm10 an10 cd10 ct10, fun s v => .of_eq rfl, fun base _ _ => ?_⟩
  have O0 : FnOk l.prog w K mg base CX0 1 _ _ _ (spD K g_looks_in) := ok_looks_in F0 T
  have C_looks_in : Cal l.prog w K mg base "looks_in" 1 g_looks_in [] := Cal.mk0 O0 (PySem.W.mg_of X G a0) k0 (F0.binds (ps := ["circuit"]) fun _ _ _ _ _ _ us hl => match us, hl with | [_], _ => rfl)
  have O1 : FnOk l.prog w K mg base CX0 1 _ _ _ (spD K g_where_put_off) := ok_where_put_off F1 T
  have C_where_put_off : Cal l.prog w K mg base "where_put_off" 1 g_where_put_off [] := Cal.mk0 O1 (PySem.W.mg_of X G a1) k1 (F1.binds (ps := ["row", "wires"]) fun _ _ _ _ _ _ us hl => match us, hl with | [_, _], _ => rfl)
  have O2 : FnOk l.prog w K mg base CX0 2 _ _ _ (spD K g_rows_put_off) := ok_rows_put_off F2 T C_where_put_off
  have C_rows_put_off : Cal l.prog w K mg base "rows_put_off" 2 g_rows_put_off [] := Cal.mk0 O2 (PySem.W.mg_of X G a2) k2 (F2.binds (ps := ["rows", "wires"]) fun _ _ _ _ _ _ us hl => match us, hl with | [_, _], _ => rfl)
  have OX3 : FnOk l.prog w K mg base (CXX l.prog w) 3 _ _ _ (spX K x_put_off) := okx_put_off F3 T T_MOST_WIRES T_MOST_ROWS C_looks_in C_rows_put_off E_TooGreat
  have O3 : FnOk l.prog w K mg base CX0 3 _ _ _ (spD K g_put_off) := ok_put_off F3 T T_MOST_WIRES T_MOST_ROWS C_looks_in C_rows_put_off
  have Y_put_off : CalX l.prog w K mg base "put_off" 3 x_put_off [] := ⟨⟨_, _, _, [], [], OX3, PySem.W.mg_of X G a3, k3, F3.binds (ps := ["circuit"]) (fun _ _ _ _ _ _ us hl => match us, hl with | [_], _ => rfl), .nil, fun _ => .nil⟩⟩
  have C_put_off : Cal l.prog w K mg base "put_off" 3 g_put_off [] := Cal.mk0 O3 (PySem.W.mg_of X G a3) k3 (F3.binds (ps := ["circuit"]) fun _ _ _ _ _ _ us hl => match us, hl with | [_], _ => rfl)
  have O4 : FnOk l.prog w K mg base CX0 1 _ _ _ (spD K g__law_cell_at) := ok__law_cell_at F4 T
  have C__law_cell_at : Cal l.prog w K mg base "_law_cell_at" 1 g__law_cell_at [] := Cal.mk0 O4 (PySem.W.mg_of X G a4) k4 (F4.binds (ps := ["script", "k"]) fun _ _ _ _ _ _ us hl => match us, hl with | [_, _], _ => rfl)
  have O5 : FnOk l.prog w K mg base CX0 1 _ _ _ (spD K g__law_row) := ok__law_row F5 T
  have C__law_row : Cal l.prog w K mg base "_law_row" 1 g__law_row [] := Cal.mk0 O5 (PySem.W.mg_of X G a5) k5 (F5.binds (ps := ["cell", "wires"]) fun _ _ _ _ _ _ us hl => match us, hl with | [_, _], _ => rfl)
  have O6 : FnOk l.prog w K mg base CX0 2 _ _ _ (spD K g__law_rows) := ok__law_rows F6 T C__law_row
  have C__law_rows : Cal l.prog w K mg base "_law_rows" 2 g__law_rows [] := Cal.mk0 O6 (PySem.W.mg_of X G a6) k6 (F6.binds (ps := ["cells", "wires", "most"]) fun _ _ _ _ _ _ us hl => match us, hl with | [_, _, _], _ => rfl)
  have O7 : FnOk l.prog w K mg base CX0 1 _ _ _ (spD K g__law_looks) := ok__law_looks F7 T
  have C__law_looks : Cal l.prog w K mg base "_law_looks" 1 g__law_looks [] := Cal.mk0 O7 (PySem.W.mg_of X G a7) k7 (F7.binds (ps := ["rows"]) fun _ _ _ _ _ _ us hl => match us, hl with | [_], _ => rfl)
  have O8 : FnOk l.prog w K mg base CX0 1 _ _ _ (spD K g__law_due) := ok__law_due F8 T
  have C__law_due : Cal l.prog w K mg base "_law_due" 1 g__law_due [] := Cal.mk0 O8 (PySem.W.mg_of X G a8) k8 (F8.binds (ps := ["wires", "rows"]) fun _ _ _ _ _ _ us hl => match us, hl with | [_, _], _ => rfl)
  have O9 : FnOk l.prog w K mg base CX0 1 _ _ _ (spD K g__law_kinds) := ok__law_kinds F9 T
  have C__law_kinds : Cal l.prog w K mg base "_law_kinds" 1 g__law_kinds [] := Cal.mk0 O9 (PySem.W.mg_of X G a9) k9 (F9.binds (ps := ["found"]) fun _ _ _ _ _ _ us hl => match us, hl with | [_], _ => rfl)
  have O10 : FnOk l.prog w K mg base CX0 4 _ _ _ (spD K g_law) := ok_law F10 T C__law_cell_at C__law_rows C__law_looks C_put_off C__law_kinds C__law_due Y_put_off H_WaveError I_UnlikeWires I_OddTurn I_HasLooks I_ValueError I_TooGreat
  exact law_v O10 fun ns hl => law_true ns hl

end GN
open PySem PySem.W PyProof.Rows
set_option maxRecDepth 100000 in
set_option maxHeartbeats 0 in
theorem PySem.Challenge.cw_wavewires_k68_looks_put_off_holds : PySem.Challenge.rw_wavewires_k68_looks_put_off.Holds := by
  w_on; o_law; k_head; (case hw => w_witness2)
  k_fill
  refine VL.walkV (k := 4) (l := PySem.Challenge.rw_wavewires_k68_looks_put_off) rfl ⟨rfl, by decide, by decide⟩ rfl (fun w h Y => PySem.W.kIn_of Y) ?F
  case F =>
    intro w mg fa h KX G hmg
    refine' GN.all_mk KX G hmg ?a0 ?l0 ?c0 ?k0 ?a1 ?l1 ?c1 ?k1 ?a2 ?l2 ?c2 ?k2 ?a3 ?l3 ?c3 ?k3 ?a4 ?l4 ?c4 ?k4 ?a5 ?l5 ?c5 ?k5 ?a6 ?l6 ?c6 ?k6 ?a7 ?l7 ?c7 ?k7 ?a8 ?l8 ?c8 ?k8 ?a9 ?l9 ?c9 ?k9 ?a10 ?l10 ?c10 ?k10 ?z_len ?z_tuple ?z_range ?z_isinstance ?z_bool ?z_int ?z_ValueError ?a_MOST_WIRES ?a_MOST_ROWS ?xn_WaveError ?xn_UnlikeWires ?xn_OddTurn ?xn_HasLooks ?xn_TooGreat ?xe_WaveError ?xe_TooGreat ?xga_TooGreat ?xgt_TooGreat ?xcl_TooGreat ?xmo_TooGreat ?xbe_TooGreat ?xs_TooGreat_WaveError ?xk_TooGreat_UnlikeWires ?xk_TooGreat_OddTurn ?xk_TooGreat_HasLooks ?xk_TooGreat_ValueError ?xk_TooGreat_TooGreat
    (case a0 => k_is)
    (case l0 => k_is)
    (case c0 => k_is)
    (case k0 => k_is)
    (case a1 => k_is)
    (case l1 => k_is)
    (case c1 => k_is)
    (case k1 => k_is)
    (case a2 => k_is)
    (case l2 => k_is)
    (case c2 => k_is)
    (case k2 => k_is)
    (case a3 => k_is)
    (case l3 => k_is)
    (case c3 => k_is)
    (case k3 => k_is)
    (case a4 => k_is)
    (case l4 => k_is)
    (case c4 => k_is)
    (case k4 => k_is)
    (case a5 => k_is)
    (case l5 => k_is)
    (case c5 => k_is)
    (case k5 => k_is)
    (case a6 => k_is)
    (case l6 => k_is)
    (case c6 => k_is)
    (case k6 => k_is)
    (case a7 => k_is)
    (case l7 => k_is)
    (case c7 => k_is)
    (case k7 => k_is)
    (case a8 => k_is)
    (case l8 => k_is)
    (case c8 => k_is)
    (case k8 => k_is)
    (case a9 => k_is)
    (case l9 => k_is)
    (case c9 => k_is)
    (case k9 => k_is)
    (case a10 => k_is)
    (case l10 => k_is)
    (case c10 => k_is)
    (case k10 => k_is)
    (case z_len => k_is)
    (case z_tuple => k_is)
    (case z_range => k_is)
    (case z_isinstance => k_is)
    (case z_bool => k_is)
    (case z_int => k_is)
    (case z_ValueError => k_is)
    (case a_MOST_WIRES => k_is)
    (case a_MOST_ROWS => k_is)
    (case xn_WaveError => k_is)
    (case xn_UnlikeWires => k_is)
    (case xn_OddTurn => k_is)
    (case xn_HasLooks => k_is)
    (case xn_TooGreat => k_is)
    (case xe_WaveError => k_exc)
    (case xe_TooGreat => k_exc)
    (case xga_TooGreat => k_is)
    (case xgt_TooGreat => k_is)
    (case xcl_TooGreat => k_is)
    (case xmo_TooGreat => k_is)
    (case xbe_TooGreat => k_is)
    (case xs_TooGreat_WaveError => k_is)
    (case xk_TooGreat_UnlikeWires => kit_is)
    (case xk_TooGreat_OddTurn => kit_is)
    (case xk_TooGreat_HasLooks => kit_is)
    (case xk_TooGreat_ValueError => kit_is)
    (case xk_TooGreat_TooGreat => kit_is)
